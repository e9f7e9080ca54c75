/-
  What WordBack needs of lists and numbers.
-/
import Derived.Test.YtmjdmddphaabmaaAlive
namespace Go.Proofs.Ytmjdmddphaabmaa
open Go.RowKit

theorem lay_nz {xs : List Int} {a s v : Int} (h : ¬ layE xs a s v = 0) : layL xs a s v = [] := by
  by_cases hE : rowE s [v] = 0
  · have eL : layL xs a s v = patL xs a (rowL s [v]) := by simp only [layL, if_pos hE]
    have eE : layE xs a s v = patE xs.length a (rowL s [v]).length := by simp only [layE, if_pos hE]
    rw [eE] at h
    rw [eL, patL, if_neg h]
  · simp only [layL, if_neg hE]
theorem lay_zero {xs : List Int} {a s v : Int} (h : layE xs a s v = 0) :
    ∃ i z : Nat, a = i ∧ s = z ∧ 1 ≤ z ∧ z ≤ 8 ∧ v < 256 ^ z ∧ i + z ≤ xs.length ∧ layL xs a s v = splice xs i (lowB v z) := by
  by_cases hE : rowE s [v] = 0
  · have eL : layL xs a s v = patL xs a (rowL s [v]) := by simp only [layL, if_pos hE]
    have eE : layE xs a s v = patE xs.length a (rowL s [v]).length := by simp only [layE, if_pos hE]
    obtain ⟨h1, h8, hf, hL⟩ := rowE_one hE
    rw [eE] at h
    rw [eL]
    obtain ⟨z, rfl⟩ := Int.eq_ofNat_of_zero_le (show 0 ≤ s by omega)
    rw [Int.toNat_natCast] at hf hL
    rcases pat_cases xs a (rowL z [v]) with ⟨_, e1, _⟩ | ⟨_, _, e1, _⟩ | ⟨i, rfl, hi, _, e2⟩
    · rw [e1] at h; cases h
    · rw [e1] at h; cases h
    · rw [e2]
      rw [hL] at hi ⊢
      rw [lowB_len] at hi
      exact ⟨i, z, rfl, rfl, by omega, by omega, hf, hi, rfl⟩
  · have : layE xs a s v = 11 := by simp only [layE, if_neg hE]
    rw [this] at h; cases h

theorem num_cons (x : Int) (xs : List Int) : num (x :: xs) = x * 256 ^ xs.length + num xs := by
  refine snoc_ind (P := fun xs => num (x :: xs) = x * 256 ^ xs.length + num xs) ?_ ?_ xs
  · simp [num]
  · intro ys y ih
    rw [← List.cons_append, num_snoc, num_snoc, ih, List.length_append, List.length_singleton, Int.pow_succ, Int.add_mul, Int.mul_assoc]
    omega
theorem num_low (v : Int) (hv : 0 ≤ v) (k : Nat) : num (lowB v k) = v % 256 ^ k := by
  induction k with
  | zero => simp [lowB, num, Int.emod_one]
  | succ k ih =>
    rw [lowB, num_cons, lowB_len, ih, Int.pow_succ]
    obtain ⟨n, rfl⟩ := Int.eq_ofNat_of_zero_le hv
    have hp : (256 : Int) ^ k = ((256 ^ k : Nat) : Int) := (Int.natCast_pow 256 k).symm
    rw [hp]
    generalize 256 ^ k = m
    have h := Nat.mod_mul (x := n) (a := m) (b := 256)
    have h' : ((n % (m * 256) : Nat) : Int) = ((n % m + m * (n / m % 256) : Nat) : Int) := by rw [h]
    rw [Int.natCast_emod, Int.natCast_add, Int.natCast_mul m (n / m % 256), Int.natCast_emod n m, Int.natCast_emod (n / m) 256, Int.natCast_ediv, Int.natCast_mul] at h'
    rw [Int.mul_comm]
    have h2 : ((256 : Nat) : Int) = 256 := rfl
    rw [h2] at h'
    omega
theorem num_back (v : Int) (hv : 0 ≤ v) (k : Nat) (h : v < 256 ^ k) : num (lowB v k) = v := by
  rw [num_low v hv]; exact Int.emod_eq_of_lt hv h

section
variable (xs ys : List Int) (i : Nat) (h : i + ys.length ≤ xs.length)
include h
theorem splice_take : (splice xs i ys).take i = xs.take i := by
  have : (xs.take i).length = i := by simp; omega
  unfold splice
  rw [List.take_append_of_le_length (by omega)]
  simp [List.take_take]
theorem splice_part : ((splice xs i ys).drop i).take ys.length = ys := by
  have : (xs.take i).length = i := by simp; omega
  unfold splice
  rw [List.drop_append_of_le_length (by omega), List.drop_eq_nil_of_le (by omega)]
  simp
theorem splice_drop : (splice xs i ys).drop (i + ys.length) = xs.drop (i + ys.length) := by
  have e : (xs.take i).length = i := by simp; omega
  unfold splice
  rw [← List.append_assoc, List.drop_append, List.drop_eq_nil_of_le (by simp; omega)]
  simp [e]
end

theorem Out.far {w : World} {base : Nat} {A : Option Addr} {n c : Nat} {xs : List Int} (h : Out w base A n c xs) {p : Addr} (hp : p.block < base) (u : Value) : Out (w.setCell p u) base A n c xs :=
  ⟨ownsRow_setCell_below h.1 hp u, h.2⟩
theorem Rd.front {k : IntKind} {w : World} {B : Nat} {A : Option Addr} {n c : Nat} {xs : List Int} (h : Rd k w B A n c xs) {t : Nat} (ht : t ≤ n) : Rd k w B A t c (xs.take t) := by
  have hl := h.len
  have hc := h.cap
  refine ⟨by simp; omega, by omega, h.2.2.1, fun x hx => h.2.2.2.1 x (List.mem_of_mem_take hx), fun i hi => ?_⟩
  obtain ⟨b, o, e, hb, hcell⟩ := h.at_ (i := i) (by omega)
  refine ⟨b, o, e, hb, ?_⟩
  rw [hcell]
  simp [List.getD, hi]
end Go.Proofs.Ytmjdmddphaabmaa
