/-
  Literal rows of integers, own rows carried on: nothing of the program is said here.
-/
import Derived.Test.YtalojeblemhihaaBase
namespace Go.Proofs.Ytalojeblemhihaa
open Go.RowKit

/-- A literal row of integers, just laid. -/
theorem rd_lit (k : IntKind) (t : TypeId) (w : World) (xs : List Int) (n : Nat) (hn : xs.length = n) (hm : n ≤ 1000) (hw : ∀ x ∈ xs, (Lit.int k x).wf = true) :
    Rd k (w.alloc (.cells (xs.map (Value.int k)).toArray t)) (w.heap.size + 1) (some ⟨w.heap.size, 0, none⟩) n n xs := by
  refine ⟨hn, Nat.le_refl _, ⟨by unfold maxLen; omega, fun h => by cases h⟩, hw, fun i hi => ⟨w.heap.size, 0, rfl, by omega, ?_⟩⟩
  rw [cell_of_row _ _ _ (xs.map (Value.int k)).toArray t (0, 0) (heap_alloc_new w _)]
  simp [List.getD, List.getElem?_eq_getElem (show i < xs.length by omega)]
theorem own_below {w w' : World} {base B : Nat} {e : TypeId} {v : Value} {n : Nat} {xs : List Value} (h : w.ownsRow base e 1 v n xs) (hb : Below B w w') (hB : w.heap.size ≤ B) : w'.ownsRow base e 1 v n xs := by
  refine ⟨h.1, ?_⟩
  rcases h.2 with hv | ⟨g, cap, cur, hv, hbg, hh, r⟩
  · exact .inl hv
  · refine .inr ⟨g, cap, cur, hv, hbg, ?_, r⟩
    have hlt := (Array.getElem?_eq_some_iff.1 hh).1
    rw [hb.block g (by omega)]
    exact hh
theorem Out.rebase {k : IntKind} {e : TypeId} {w : World} {base base' : Nat} {A : Option Addr} {n c : Nat} {xs : List Int} (h : Out k e w base A n c xs) (hb : base' ≤ base) : Out k e w base' A n c xs := by
  refine ⟨⟨h.1.1, ?_⟩, h.2⟩
  rcases h.1.2 with hv | ⟨g, cap, cur, hv, hbg, r⟩
  · exact .inl hv
  · exact .inr ⟨g, cap, cur, hv, by omega, r⟩
theorem Out.far {k : IntKind} {e : TypeId} {w : World} {base b : Nat} {A : Option Addr} {n c : Nat} {xs : List Int} (h : Out k e w (base + 1) A n c xs) (hb : b ≤ base) : A = none ∨ ∃ ad, A = some ad ∧ ad.block ≠ b := by
  rcases h.form with ⟨rfl, _⟩ | ⟨g, cur, rfl, hg, _⟩
  · exact .inl rfl
  · exact .inr ⟨_, rfl, by show g ≠ b; omega⟩
theorem Out.own_ge {k : IntKind} {e : TypeId} {w : World} {base : Nat} {A : Option Addr} {n c : Nat} {xs : List Int} (h : Out k e w base A n c xs) : ∀ g, (Value.slice A n c).ownBlock = some g → base ≤ g := by
  intro g hg
  exact (h.1.lt g hg).1

end Go.Proofs.Ytalojeblemhihaa
