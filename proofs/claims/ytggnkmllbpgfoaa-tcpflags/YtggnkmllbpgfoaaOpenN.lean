/-
  From a number that came in to its bounds.
-/
import Derived.Test.YtggnkmllbpgfoaaOpen
import Derived.Test.YtggnkmllbpgfoaaPl
namespace Go.Proofs.Ytggnkmllbpgfoaa
open Go.RowKit

theorem ip_in {x : Int} (h : (Lit.int .u32 x).wf = true) : Ip x := by
  have : 0 ≤ x ∧ x ≤ 4294967295 := by simpa [Lit.wf, IntKind.min, IntKind.max, IntKind.signed, IntKind.bits] using h
  exact ⟨this.1, by omega⟩
end Go.Proofs.Ytggnkmllbpgfoaa
