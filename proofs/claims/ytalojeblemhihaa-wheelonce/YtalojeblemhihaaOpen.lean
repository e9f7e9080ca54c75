/-
  From a slice that came in to what the walks are told of it.
-/
import Derived.Test.YtalojeblemhihaaBase
namespace Go.Proofs.Ytalojeblemhihaa
open Go.RowKit

theorem rd_of {k : IntKind} {w : World} {A : Option Addr} {n c : Nat} {zs : List Int}
    (h : (A = none ∧ n = 0 ∧ c = 0 ∧ zs = []) ∨ ∃ x, A = some x ∧ n ≤ c ∧ c ≤ maxLen ∧ zs.length = c ∧ (∀ i, i < zs.length → w.cell? (x.add i) = some (.int k (zs.getD i 0))) ∧ ∀ m ∈ zs, (Lit.int k m).wf = true) :
    Rd k w w.heap.size A n c (zs.take n) := by
  rcases h with ⟨rfl, rfl, rfl, rfl⟩ | ⟨x, rfl, h1, h2, h3, h4, h5⟩
  · exact Rd.nil
  · refine ⟨by simp; omega, h1, ⟨h2, fun e => by cases e⟩, fun m hm => h5 m (List.mem_of_mem_take hm), fun i hi => ?_⟩
    obtain ⟨b, o, sp⟩ := x
    have h0 := h4 0 (by omega)
    have hsp : sp = none := by simpa [Addr.add] using World.cell?_spot h0
    subst hsp
    have hc := h4 i (by omega)
    have ha : (⟨b, o, none⟩ : Addr).add i = ⟨b, o + i, none⟩ := by unfold Addr.add; split <;> simp_all
    rw [ha] at hc
    refine ⟨b, o, rfl, World.block_lt_of_cell? w _ hc, ?_⟩
    rw [hc]
    simp [List.getD, hi]
end Go.Proofs.Ytalojeblemhihaa
