/-
  min, and a slice that is cut at both ends, as single operations of the document's parse.
-/
import Derived.Test.YthgdgjpckgfmbaaDoorRParseE
namespace Go.Proofs.YthgdgjpckgfmbaaDoor
open Go.RowKit

theorem min_run (pos : String) (aft) (w : World) (T n M : Nat) (tm : Array Value) (d) (h97 : tm[97]? = some (.int .i64 (T : Int))) (h99 : tm[99]? = some (.int .i64 (n : Int))) (hMc : ((T : Int) < (n : Int) ∧ M = T) ∨ ((n : Int) < (T : Int) ∧ M = n) ∨ (T = n ∧ M = n)) :
    Sem.run Tryd.prog (execOp ({ tmps := tm, defers := d } : Act).eval ⟨some 100, Op.call { callee := .builtin .min, args := #[.tmp 97, .tmp 99], argTypes := #[3, 3] }, 3, pos, aft, none⟩) w = .ok (.value (.int .i64 (M : Int))) w := by
  rcases hMc with ⟨q, rfl⟩ | ⟨q, rfl⟩ | ⟨rfl, rfl⟩
  · have q' : ¬ (n : Int) < (M : Int) := by omega
    go_simp
  · go_simp
  · go_simp
theorem cut_run (pos : String) (aft) (w : World) (b o n c M : Nat) (tm : Array Value) (d) (h95 : tm[95]? = some (.slice (some ⟨b, o, none⟩) n c)) (h96 : tm[96]? = some (.int .i64 20)) (h100 : tm[100]? = some (.int .i64 (M : Int))) (m1 : 20 ≤ M) (m3 : M ≤ c) :
    Sem.run Tryd.prog (execOp ({ tmps := tm, defers := d } : Act).eval ⟨some 101, Op.slice 22 (.tmp 95) (some (.tmp 96)) (some (.tmp 100)) none, 22, pos, aft, none⟩) w = .ok (.value (.slice (cutA (some ⟨b, o, none⟩) c 20) (M - 20) (c - 20))) w := by
  have k1 : (20 : Int) ≤ (M : Int) := by omega
  have k2 : (M : Int) ≤ (c : Int) := by omega
  by_cases hq : c = 20
  · rw [cutA_eq hq]
    subst hq
    obtain rfl : M = 20 := by omega
    go_simp
  · rw [cutA_ne hq]
    go_simp
end Go.Proofs.YthgdgjpckgfmbaaDoor
