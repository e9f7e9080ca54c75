/-
  A whole struct into its block, as a step of the walk. Nothing of the program.
-/
import Derived.Test.YtalojeblemhihaaBase
import Derived.Laws.Tables
import Derived.Laws.Rows
namespace Go.Proofs.Ytalojeblemhihaa
open Go.RowKit

/-- A store of all cells of a block. -/
theorem wpList_stF {P : Program} {w : World} {ops : Array Oper} {rest : List Oper} {o : Oper} {a : Act} {Q : Exit → Act → World → Prop} (hgd : o.guard = none) (hdd : o.dst = none) (ty : TypeId) (x y : Operand) (ho : o.op = .store ty x y)
    (g : Nat) (cells : Array Value) (hx : a.eval x = .pointer (some ⟨g, 0, none⟩)) (hy : a.eval y = .agg cells)
    (t : TypeId) (old : Array Value) (hg : w.heap[g]? = some (.cells old t (0, 0))) (hi : (P.info? ty).map (·.size) = some cells.size)
    (hold : old.size = cells.size) (h1 : cells.all (·.oneCell') = true)
    (h : ∀ w', w'.heap[g]? = some (.cells cells t (0, 0)) → Below g w w' → (∀ j, j ≠ g → w'.heap[j]? = w.heap[j]?) → w'.heap.size = w.heap.size → wpList P ops Q rest a w') : wpList P ops Q (o :: rest) a w :=
  wpList_plain hgd fun _ hK => wp_store_row ty x y ho g cells hx hy t old hg hi hold h1
    (hK _ _ (by rw [hdd]; exact h _ (setRow_heap w g old cells t _ hg) (below_setRow (Below.refl _ _) (Nat.le_refl _) _) (fun j hj => setRow_other w g j cells hj) (by simp)))
end Go.Proofs.Ytalojeblemhihaa
