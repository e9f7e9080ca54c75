/-
  What bytes are as a packet, in plain words: why they are none, what the packet is. Nothing of the program.
-/
import Derived.Test.YtbefoapnlehdmaaDoorNums
namespace Go.Proofs.YtbefoapnlehdmaaDoor
open Go.RowKit

/-- How many bytes the head has. -/
def hdL (xs : List Int) : Nat := (xs.getD 0 0 % 16 * 4).toNat
/-- How many bytes the packet is told to have. -/
def told (xs : List Int) : Nat := (num2 (xs.drop 2)).toNat
/-- How it is cut. -/
def flg (xs : List Int) : Int := num2 (xs.drop 6)
/-- Why bytes are no packet, by their count and their first bytes: the reason, the error; noughts where they may be one. -/
def bE (whole : Bool) (xs : List Int) : Int × Int :=
  if xs.length < 20 then (1, 12) else if ¬ xs.getD 0 0 / 16 = 4 then (3, 15) else if hdL xs < 20 then (1, 10) else if xs.length < hdL xs ∨ (whole = true ∧ xs.length < told xs) then (1, 12) else if told xs < hdL xs then (1, 10) else (0, 0)
/-- The same by options and cuts. -/
def rE (hd : Nat) (xs : List Int) : Int × Int := if 20 < hd then (4, 21) else if ¬ flg xs = 0 ∧ ¬ flg xs = 16384 then (5, 20) else (0, 0)
/-- All of it, with the sum. -/
def pE (whole : Bool) (xs : List Int) : Int × Int :=
  if ¬ (bE whole xs).2 = 0 then bE whole xs else if whole = true ∧ ¬ totV (xs.take (hdL xs)) = 65535 then (2, 13) else rE (hdL xs) xs
/-- The packet's head, and its body. -/
def hdOf (xs : List Int) : Hd := ⟨xs.getD 1 0, num2 (xs.drop 4), flg xs == 16384, xs.getD 8 0, xs.getD 9 0, num4 (xs.drop 12), num4 (xs.drop 16)⟩
def bodyOf (xs : List Int) : List Int := (xs.take (told xs)).drop 20

theorem bE_cases (b : Bool) (xs : List Int) : (xs.length < 20 ∧ bE b xs = (1, 12)) ∨ (20 ≤ xs.length ∧ ¬ xs.getD 0 0 / 16 = 4 ∧ bE b xs = (3, 15)) ∨ (20 ≤ xs.length ∧ xs.getD 0 0 / 16 = 4 ∧ hdL xs < 20 ∧ bE b xs = (1, 10)) ∨
    (20 ≤ xs.length ∧ xs.getD 0 0 / 16 = 4 ∧ 20 ≤ hdL xs ∧ (xs.length < hdL xs ∨ (b = true ∧ xs.length < told xs)) ∧ bE b xs = (1, 12)) ∨
    (20 ≤ xs.length ∧ xs.getD 0 0 / 16 = 4 ∧ 20 ≤ hdL xs ∧ (hdL xs ≤ xs.length ∧ (b = true → told xs ≤ xs.length)) ∧ told xs < hdL xs ∧ bE b xs = (1, 10)) ∨
    (20 ≤ xs.length ∧ xs.getD 0 0 / 16 = 4 ∧ 20 ≤ hdL xs ∧ (hdL xs ≤ xs.length ∧ (b = true → told xs ≤ xs.length)) ∧ hdL xs ≤ told xs ∧ bE b xs = (0, 0)) := by
  unfold bE
  by_cases h1 : xs.length < 20
  · simp [h1]
  by_cases h2 : xs.getD 0 0 / 16 = 4
  · by_cases h3 : hdL xs < 20
    · rw [if_neg h1, if_neg (fun h => h h2), if_pos h3]
      exact .inr (.inr (.inl ⟨by omega, h2, h3, rfl⟩))
    · by_cases h4 : xs.length < hdL xs ∨ (b = true ∧ xs.length < told xs)
      · rw [if_neg h1, if_neg (fun h => h h2), if_neg h3, if_pos h4]
        exact .inr (.inr (.inr (.inl ⟨by omega, h2, by omega, h4, rfl⟩)))
      · have h4' : hdL xs ≤ xs.length ∧ (b = true → told xs ≤ xs.length) := ⟨by
          by_cases h : xs.length < hdL xs
          · exact absurd (.inl h) h4
          · omega, fun hb => by
          by_cases h : xs.length < told xs
          · exact absurd (.inr ⟨hb, h⟩) h4
          · omega⟩
        by_cases h5 : told xs < hdL xs
        · rw [if_neg h1, if_neg (fun h => h h2), if_neg h3, if_neg h4, if_pos h5]
          exact .inr (.inr (.inr (.inr (.inl ⟨by omega, h2, by omega, h4', h5, rfl⟩))))
        · rw [if_neg h1, if_neg (fun h => h h2), if_neg h3, if_neg h4, if_neg h5]
          exact .inr (.inr (.inr (.inr (.inr ⟨by omega, h2, by omega, h4', by omega, rfl⟩))))
  · rw [if_neg h1, if_pos h2]
    exact .inr (.inl ⟨by omega, h2, rfl⟩)
theorem getD_take {xs : List Int} {t i : Nat} (h : i < t) : (xs.take t).getD i 0 = xs.getD i 0 := by simp [List.getD, h]
theorem getD_drop (xs : List Int) (f i : Nat) : (xs.drop f).getD i 0 = xs.getD (f + i) 0 := by simp [List.getD]
theorem num2_take {xs : List Int} {t f : Nat} (h : f + 2 ≤ t) : num2 ((xs.take t).drop f) = num2 (xs.drop f) := by
  unfold num2
  rw [getD_drop, getD_drop, getD_drop, getD_drop, getD_take (by omega), getD_take (by omega)]
theorem num4_take {xs : List Int} {t f : Nat} (h : f + 4 ≤ t) : num4 ((xs.take t).drop f) = num4 (xs.drop f) := by
  rw [num4_two, num4_two, List.drop_drop, List.drop_drop, num2_take (by omega), num2_take (by omega)]
theorem flg_take {xs : List Int} {t : Nat} (h : 20 ≤ t) : flg (xs.take t) = flg xs := num2_take (by omega)
theorem rE_take {xs : List Int} {t k : Nat} (h : 20 ≤ t) : rE k (xs.take t) = rE k xs := by unfold rE; rw [flg_take h]
theorem hdOf_take {xs : List Int} {t : Nat} (h : 20 ≤ t) : hdOf (xs.take t) = hdOf xs := by
  unfold hdOf
  rw [flg_take h, num2_take (by omega), num4_take (by omega), num4_take (by omega), getD_take (by omega), getD_take (by omega), getD_take (by omega)]
/-- The bits of a cut. -/
theorem cut_bits (f : Int) (h : 0 ≤ f ∧ f ≤ 65535) : bits .andNot .u16 f 16384 = 0 ↔ (f = 0 ∨ f = 16384) := by
  rw [u16_andNot f 16384 (by omega) (by omega) (by omega) (by omega)]
  obtain ⟨a, rfl⟩ := Int.eq_ofNat_of_zero_le h.1
  have ha : a < 65536 := by omega
  have e0 : (65535 - (16384 : Int).toNat) = 49151 := rfl
  rw [Int.toNat_natCast, e0]
  constructor
  · intro hz
    have hz' : a &&& 49151 = 0 := by omega
    have e : a = (a &&& 49151) ||| (a &&& 2 ^ 14) := by
      rw [← Nat.and_or_distrib_left]
      have : (49151 ||| 2 ^ 14 : Nat) = 2 ^ 16 - 1 := by decide
      rw [this, Nat.and_two_pow_sub_one_eq_mod, Nat.mod_eq_of_lt ha]
    have hb : a &&& 2 ^ 14 = if a.testBit 14 then 2 ^ 14 else 0 := by
      apply Nat.eq_of_testBit_eq
      intro i
      rw [Nat.testBit_and, Nat.testBit_two_pow]
      by_cases hi : 14 = i
      · subst hi
        have q : Nat.testBit 16384 14 = true := by decide
        cases a.testBit 14 <;> simp [q]
      · have : (2 ^ 14 : Nat).testBit i = false := by rw [Nat.testBit_two_pow]; simp [hi]
        cases a.testBit 14 <;> simp [hi, this]
    rw [hz', Nat.zero_or, hb] at e
    cases ht : a.testBit 14
    · rw [ht] at e
      left
      simp at e
      omega
    · rw [ht] at e
      right
      simp at e
      omega
  · rintro (h0 | h0)
    · have : a = 0 := by omega
      subst this
      rfl
    · have : a = 16384 := by omega
      subst this
      rfl
end Go.Proofs.YtbefoapnlehdmaaDoor
