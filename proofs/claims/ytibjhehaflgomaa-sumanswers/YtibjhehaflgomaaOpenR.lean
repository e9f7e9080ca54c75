/-
  From a slice of slices of bytes that came in to what the walks are told of it.
-/
import Derived.Test.YtibjhehaflgomaaPairs
import Derived.Test.YtibjhehaflgomaaOpen
import Derived.Deep.Matrix
namespace Go.Proofs.Ytibjhehaflgomaa
open Go.RowKit

theorem rows_of {w : World} {a : Addr} {len cap : Nat} {A : Nat → Option Addr} {L C : Nat → Nat} {Z : Nat → List Int} (hl : len ≤ cap) (hm : cap ≤ maxLen)
    (h : ∀ r, r < cap → w.cell? (a.add r) = some (.slice (A r) (L r) (C r)) ∧ L r ≤ C r ∧ C r ≤ maxLen ∧ (Z r).length = C r ∧ (∀ n ∈ Z r, (Lit.int .u8 n).wf = true) ∧ (A r = none → C r = 0) ∧
      ∀ a', A r = some a' → 0 ≤ a'.block ∧ ∀ c, c < C r → w.cell? (a'.add c) = some (.int .u8 ((Z r).getD c 0))) :
    Rows2 w (fun _ => False) w.heap.size w.heap.size (some a) len cap ((List.range len).map fun r => (Z r).take (L r)) := by
  refine ⟨by simp, by unfold maxLen at hm; omega, hl, fun i hi => ?_⟩
  obtain ⟨h1, h2, h3, h4, h5, h6, h7⟩ := h i (by omega)
  obtain ⟨b, o, sp⟩ := a
  have h0 := (h 0 (by omega)).1
  have hsp : sp = none := by simpa [Addr.add] using World.cell?_spot h0
  subst hsp
  have ha : (⟨b, o, none⟩ : Addr).add i = ⟨b, o + i, none⟩ := by unfold Addr.add; split <;> simp_all
  rw [ha] at h1
  have hg : ((List.range len).map fun r => (Z r).take (L r)).getD i [] = (Z i).take (L i) := by simp [List.getD, hi]
  rw [hg]
  refine ⟨b, o, A i, L i, C i, rfl, ⟨World.block_lt_of_cell? w _ h1, fun h => h⟩, h1, rd_of ?_⟩
  cases hA : A i with
  | none =>
    have hc := h6 hA
    exact .inl ⟨rfl, by omega, hc, List.eq_nil_of_length_eq_zero (by omega)⟩
  | some x => exact .inr ⟨x, rfl, h2, h3, h4, fun j hj => (h7 x hA).2 j (by omega), h5⟩
end Go.Proofs.Ytibjhehaflgomaa
