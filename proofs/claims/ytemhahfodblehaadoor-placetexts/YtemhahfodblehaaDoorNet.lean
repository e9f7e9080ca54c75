/-
  Subnets in plain words: how many Ips one has, its mask, its base, its last one. Nothing of the program.
-/
import Derived.Test.YtemhahfodblehaaDoorBase
import Derived.Laws.BitsAllLaws
namespace Go.Proofs.YtemhahfodblehaaDoor
open Go.RowKit

theorem u32_bd {x : Int} (h : (Lit.int .u32 x).wf = true) : 0 ≤ x ∧ x ≤ 4294967295 := by
  simpa [Lit.wf, IntKind.min, IntKind.max, IntKind.signed, IntKind.bits] using h
/-- A number of 32 bits. -/
def W32 (x : Int) : Prop := 0 ≤ x ∧ x ≤ 4294967295

def bndV (b : Int) : Bool := decide (8 ≤ b ∧ b ≤ 30)
def szV (b : Int) : Int := 2 ^ (32 - b).toNat
def maskV (b : Int) : Int := if bndV b then 4294967296 - szV b else 0
def baseV (ip b : Int) : Int := if bndV b then ip / szV b * szV b else 0
def lastV (ip b : Int) : Int := if bndV b then ip / szV b * szV b + (szV b - 1) else 0
def hasV (ip b x : Int) : Bool := bndV b && decide (x / szV b = ip / szV b)
def hostV (ip b x : Int) : Bool := hasV ip b x && decide (x ≠ baseV ip b) && decide (x ≠ lastV ip b)
def singleV (x : Int) : Bool := decide (1 ≤ x / 16777216) && decide (x / 16777216 ≤ 223) && decide (x / 16777216 ≠ 127)
def rightV (ip b : Int) : Bool := hostV ip b ip && singleV ip
def apartV (i1 b1 i2 b2 : Int) : Bool := rightV i1 b1 && rightV i2 b2 && !hasV i1 b1 (baseV i2 b2) && !hasV i2 b2 (baseV i1 b1)

theorem bnd_iff {b : Int} : bndV b = true ↔ 8 ≤ b ∧ b ≤ 30 := by simp [bndV]
theorem sz_cases {b : Int} (h : bndV b = true) : szV b = 4 ∨ szV b = 8 ∨ szV b = 16 ∨ szV b = 32 ∨ szV b = 64 ∨ szV b = 128 ∨ szV b = 256 ∨ szV b = 512 ∨ szV b = 1024 ∨ szV b = 2048 ∨ szV b = 4096 ∨ szV b = 8192 ∨ szV b = 16384 ∨ szV b = 32768 ∨ szV b = 65536 ∨ szV b = 131072 ∨ szV b = 262144 ∨ szV b = 524288 ∨ szV b = 1048576 ∨ szV b = 2097152 ∨ szV b = 4194304 ∨ szV b = 8388608 ∨ szV b = 16777216 := by
  rw [bnd_iff] at h
  have : b = 8 ∨ b = 9 ∨ b = 10 ∨ b = 11 ∨ b = 12 ∨ b = 13 ∨ b = 14 ∨ b = 15 ∨ b = 16 ∨ b = 17 ∨ b = 18 ∨ b = 19 ∨ b = 20 ∨ b = 21 ∨ b = 22 ∨ b = 23 ∨ b = 24 ∨ b = 25 ∨ b = 26 ∨ b = 27 ∨ b = 28 ∨ b = 29 ∨ b = 30 := by omega
  rcases this with h | h | h | h | h | h | h | h | h | h | h | h | h | h | h | h | h | h | h | h | h | h | h <;> subst h <;> simp [szV]
/-- Facts on the size, each of them linear. -/
theorem sz_fact {b : Int} (h : bndV b = true) : 4 ≤ szV b ∧ szV b ≤ 16777216 := by
  rcases sz_cases h with h | h | h | h | h | h | h | h | h | h | h | h | h | h | h | h | h | h | h | h | h | h | h <;> omega
/-- An Ip parts in two. -/
theorem sz_parts {b x : Int} (h : bndV b = true) (hx : W32 x) : x / szV b * szV b ≤ x ∧ x ≤ x / szV b * szV b + (szV b - 1) ∧ 0 ≤ x / szV b * szV b ∧ x / szV b * szV b + (szV b - 1) ≤ 4294967295 := by
  unfold W32 at hx
  rcases sz_cases h with h | h | h | h | h | h | h | h | h | h | h | h | h | h | h | h | h | h | h | h | h | h | h <;> rw [h] <;> omega
theorem base_bd {ip b : Int} (h : W32 ip) : W32 (baseV ip b) := by
  unfold baseV
  split
  · rename_i hb
    have := sz_parts hb h
    have := sz_fact hb
    unfold W32; omega
  · unfold W32; omega
theorem last_bd {ip b : Int} (h : W32 ip) : W32 (lastV ip b) := by
  unfold lastV
  split
  · rename_i hb
    have := sz_parts hb h
    have := sz_fact hb
    unfold W32; omega
  · unfold W32; omega
theorem mask_bd (b : Int) : W32 (maskV b) := by
  unfold maskV
  split
  · rename_i hb
    have := sz_fact hb
    unfold W32; omega
  · unfold W32; omega

theorem nat_and (x k : Nat) (hx : x < 2 ^ 32) (hk : k ≤ 32) : x &&& (2 ^ 32 - 2 ^ k) = x / 2 ^ k * 2 ^ k := by
  have e1 : 2 ^ 32 - 2 ^ k = (2 ^ (32 - k) - 1) <<< k := by
    rw [Nat.shiftLeft_eq, Nat.sub_mul, ← Nat.pow_add, Nat.sub_add_cancel hk, Nat.one_mul]
  have e2 : x / 2 ^ k * 2 ^ k = (x >>> k) <<< k := by rw [Nat.shiftLeft_eq, Nat.shiftRight_eq_div_pow]
  rw [e1, e2]
  apply Nat.eq_of_testBit_eq
  intro j
  rw [Nat.testBit_and, Nat.testBit_shiftLeft, Nat.testBit_shiftLeft, Nat.testBit_shiftRight, Nat.testBit_two_pow_sub_one]
  by_cases hj : k ≤ j
  · have e : k + (j - k) = j := by omega
    rw [e]
    by_cases h32 : j < 32
    · have : j - k < 32 - k := by omega
      simp [hj, this]
    · have : x.testBit j = false := Nat.testBit_lt_two_pow (Nat.lt_of_lt_of_le hx (Nat.pow_le_pow_right (by omega) (by omega)))
      simp [this]
  · simp [hj]
theorem nat_or (x k : Nat) : x ||| (2 ^ k - 1) = x / 2 ^ k * 2 ^ k + (2 ^ k - 1) := by
  have e2 : x / 2 ^ k * 2 ^ k = (x >>> k) <<< k := by rw [Nat.shiftLeft_eq, Nat.shiftRight_eq_div_pow]
  rw [e2, Nat.shiftLeft_add_eq_or_of_lt (by have := Nat.two_pow_pos k; omega)]
  apply Nat.eq_of_testBit_eq
  intro j
  rw [Nat.testBit_or, Nat.testBit_or, Nat.testBit_shiftLeft, Nat.testBit_shiftRight, Nat.testBit_two_pow_sub_one]
  by_cases hj : k ≤ j
  · have e : k + (j - k) = j := by omega
    rw [e]
    simp [hj]
  · have : j < k := by omega
    simp [this]
theorem sz_nat {b : Int} : szV b = ((2 ^ (32 - b).toNat : Nat) : Int) := by unfold szV; simp
/-- 'ip & mask' -/
theorem and_mask {x b : Int} (hx : W32 x) (hb : bndV b = true) : bits .and .u32 x (4294967296 - szV b) = x / szV b * szV b := by
  have hf := sz_fact hb
  unfold W32 at hx
  rw [u32_and _ _ (by omega) (by omega) (by omega) (by omega)]
  obtain ⟨n, rfl⟩ := Int.eq_ofNat_of_zero_le hx.1
  have hk : (32 - b).toNat ≤ 32 := by rw [bnd_iff] at hb; omega
  have e : (4294967296 - szV b).toNat = 2 ^ 32 - 2 ^ (32 - b).toNat := by
    rw [sz_nat] at hf ⊢
    generalize 2 ^ (32 - b).toNat = p at hf ⊢
    omega
  rw [e, Int.toNat_natCast, nat_and n _ (by omega) hk, sz_nat]
  generalize 2 ^ (32 - b).toNat = p
  simp
/-- 'ip | ^mask' -/
theorem or_mask {x b : Int} (hx : W32 x) (hb : bndV b = true) : bits .or .u32 x (szV b - 1) = x / szV b * szV b + (szV b - 1) := by
  have hf := sz_fact hb
  unfold W32 at hx
  rw [u32_or _ _ (by omega) (by omega) (by omega) (by omega)]
  obtain ⟨n, rfl⟩ := Int.eq_ofNat_of_zero_le hx.1
  have hp := Nat.two_pow_pos (32 - b).toNat
  have e : (szV b - 1).toNat = 2 ^ (32 - b).toNat - 1 := by
    rw [sz_nat]
    omega
  rw [e, Int.toNat_natCast, nat_or, sz_nat]
  generalize 2 ^ (32 - b).toNat = p at hp ⊢
  rw [Int.natCast_add, Int.natCast_mul, Int.natCast_ediv, Int.natCast_sub (by omega)]
  rfl
/-- 'ones << (32 - bits)' -/
theorem shl_mask {b : Int} (hb : bndV b = true) : 4294967295 * szV b % 4294967296 = 4294967296 - szV b := by
  rcases sz_cases hb with h | h | h | h | h | h | h | h | h | h | h | h | h | h | h | h | h | h | h | h | h | h | h <;> rw [h] <;> omega

/-- Has, by the two ends. -/
theorem has_ends {ip b x : Int} (h : bndV b = true) : decide (x / szV b = ip / szV b) = (decide (baseV ip b ≤ x) && decide (x ≤ lastV ip b)) := by

  simp only [baseV, lastV, h, if_true]
  rcases sz_cases h with h | h | h | h | h | h | h | h | h | h | h | h | h | h | h | h | h | h | h | h | h | h | h <;> rw [h, Bool.eq_iff_iff] <;> simp <;> omega
/-- Has, by the mask. -/
theorem has_mask {ip b x : Int} (h : bndV b = true) : decide (x / szV b = ip / szV b) = decide (x / szV b * szV b = ip / szV b * szV b) := by
  rcases sz_cases h with h | h | h | h | h | h | h | h | h | h | h | h | h | h | h | h | h | h | h | h | h | h | h <;> rw [h, Bool.eq_iff_iff] <;> simp <;> omega
end Go.Proofs.YtemhahfodblehaaDoor
