/-
  Numbers that stand in bytes: plain mathematics.
-/
import Derived.Test.YtmjdmddphaabmaaBase
import Derived.Laws.BitsAllLaws
import Derived.Laws.BitsLemmas
namespace Go.Proofs.Ytmjdmddphaabmaa
open Go.RowKit

def num (xs : List Int) : Int := xs.foldl (fun n x => n * 256 + x) 0

theorem num_snoc (xs : List Int) (x : Int) : num (xs ++ [x]) = num xs * 256 + x := by simp [num]

def Bytes (xs : List Int) : Prop := ∀ x ∈ xs, (Lit.int .u8 x).wf = true

theorem snoc_ind {P : List Int → Prop} (h0 : P []) (h1 : ∀ xs x, P xs → P (xs ++ [x])) (xs : List Int) : P xs := by
  have : ∀ ys : List Int, P ys.reverse := by
    intro ys
    induction ys with
    | nil => exact h0
    | cons y ys ih => rw [List.reverse_cons]; exact h1 _ _ ih
  have h := this xs.reverse
  rwa [List.reverse_reverse] at h

theorem num_bd (xs : List Int) : Bytes xs → 0 ≤ num xs ∧ num xs < 256 ^ xs.length := by
  refine snoc_ind (P := fun xs => Bytes xs → 0 ≤ num xs ∧ num xs < 256 ^ xs.length) ?_ ?_ xs
  · intro _
    simp [num]
  · intro xs x ih hb
    have h1 := ih (fun y hy => hb y (by simp [hy]))
    have h2 := u8_bd (hb x (by simp))
    rw [num_snoc, List.length_append, List.length_singleton, Int.pow_succ]
    generalize (256 : Int) ^ xs.length = p at *
    omega

theorem pow_le8 (k : Nat) (h : k ≤ 8) : (256 : Int) ^ k ≤ 18446744073709551616 := by
  have : k = 0 ∨ k = 1 ∨ k = 2 ∨ k = 3 ∨ k = 4 ∨ k = 5 ∨ k = 6 ∨ k = 7 ∨ k = 8 := by omega
  rcases this with h | h | h | h | h | h | h | h | h <;> subst h <;> decide
theorem pow_le7 (k : Nat) (h : k ≤ 7) : (256 : Int) ^ k ≤ 72057594037927936 := by
  have : k = 0 ∨ k = 1 ∨ k = 2 ∨ k = 3 ∨ k = 4 ∨ k = 5 ∨ k = 6 ∨ k = 7 := by omega
  rcases this with h | h | h | h | h | h | h | h <;> subst h <;> decide

theorem take_snoc (xs : List Int) (a k : Nat) (h : a + k < xs.length) : (xs.drop a).take (k + 1) = (xs.drop a).take k ++ [xs.getD (a + k) 0] := by
  rw [List.take_succ_eq_append_getElem (by simp; omega)]
  simp [List.getD, List.getElem?_eq_getElem h]

theorem bytes_sub {xs : List Int} (h : Bytes xs) (a k : Nat) : Bytes ((xs.drop a).take k) :=
  fun x hx => h x (List.mem_of_mem_drop (List.mem_of_mem_take hx))

/-- One more byte. -/
theorem num_step {xs : List Int} (hb : Bytes xs) (a k : Nat) (h : a + k < xs.length) (hk : k ≤ 7) :
    num ((xs.drop a).take (k + 1)) = num ((xs.drop a).take k) * 256 + xs.getD (a + k) 0 ∧ 0 ≤ num ((xs.drop a).take k) ∧ num ((xs.drop a).take k) ≤ 72057594037927935 := by
  have h1 := num_bd _ (bytes_sub hb a k)
  have hl : ((xs.drop a).take k).length = k := by simp; omega
  rw [hl] at h1
  have h2 := pow_le7 k hk
  exact ⟨by rw [take_snoc xs a k h, num_snoc], h1.1, by omega⟩
theorem or_byte (v x : Int) (h0 : 0 ≤ v) (h1 : v ≤ 72057594037927935) (x0 : 0 ≤ x) (x1 : x ≤ 255) : bits .or .u64 (v * 256) x = v * 256 + x := by
  rw [u64_or _ _ (by omega) (by omega) (by omega) (by omega)]
  obtain ⟨a, rfl⟩ := Int.eq_ofNat_of_zero_le h0
  obtain ⟨b, rfl⟩ := Int.eq_ofNat_of_zero_le x0
  have e : ((a : Int) * 256).toNat = a <<< 8 := by rw [Nat.shiftLeft_eq]; omega
  rw [e, Int.toNat_natCast, ← Nat.shiftLeft_add_eq_or_of_lt (by omega), Nat.shiftLeft_eq]
  omega

/-- What At answers: the error, and the number. -/
def atE (n : Nat) (a s : Int) : Int := if ¬ (1 ≤ s ∧ s ≤ 8) ∨ a < 0 then 11 else if (n : Int) - s < a then 12 else 0
def atV (xs : List Int) (a s : Int) : Int := if atE xs.length a s = 0 then num ((xs.drop a.toNat).take s.toNat) else 0
theorem at_cases (xs : List Int) (a s : Int) :
    ((¬ (1 ≤ s ∧ s ≤ 8) ∨ a < 0) ∧ atE xs.length a s = 11 ∧ atV xs a s = 0) ∨
    ((1 ≤ s ∧ s ≤ 8) ∧ 0 ≤ a ∧ (xs.length : Int) - s < a ∧ atE xs.length a s = 12 ∧ atV xs a s = 0) ∨
    (∃ i z : Nat, a = i ∧ s = z ∧ 1 ≤ z ∧ z ≤ 8 ∧ i + z ≤ xs.length ∧ atE xs.length a s = 0 ∧ atV xs a s = num ((xs.drop i).take z)) := by
  by_cases h1 : ¬ (1 ≤ s ∧ s ≤ 8) ∨ a < 0
  · have e : atE xs.length a s = 11 := by simp only [atE, if_pos h1]
    exact .inl ⟨h1, e, by simp only [atV, e]; rfl⟩
  · by_cases h2 : (xs.length : Int) - s < a
    · have e : atE xs.length a s = 12 := by simp only [atE, if_neg h1, if_pos h2]
      exact .inr (.inl ⟨by omega, by omega, h2, e, by simp only [atV, e]; rfl⟩)
    · have e : atE xs.length a s = 0 := by simp only [atE, if_neg h1, if_neg h2]
      obtain ⟨i, rfl⟩ := Int.eq_ofNat_of_zero_le (show 0 ≤ a by omega)
      obtain ⟨z, rfl⟩ := Int.eq_ofNat_of_zero_le (show 0 ≤ s by omega)
      exact .inr (.inr ⟨i, z, rfl, rfl, by omega, by omega, by omega, e, by simp only [atV, e, if_pos, Int.toNat_natCast]⟩)
end Go.Proofs.Ytmjdmddphaabmaa
