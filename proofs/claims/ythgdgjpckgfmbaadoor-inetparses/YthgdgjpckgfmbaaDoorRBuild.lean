/-
  A packet of the document's, built.
-/
import Derived.Test.YthgdgjpckgfmbaaDoorRMin
namespace Go.Proofs.YthgdgjpckgfmbaaDoor
open Go.RowKit
set_option linter.unusedVariables false
theorem build33 (pos : String) (aft) (w : World) (x1 id x8 x9 src dst : Int) (fb : Bool) (A : Option Addr) (n c : Nat) (tm : Array Value) (d) (h22 : tm[105]? = some (.int .u8 x1)) (h25 : tm[116]? = some (.int .u16 id)) (h27 : tm[118]? = some (.bool fb)) (h30 : tm[121]? = some (.int .u8 x8)) (h33 : tm[124]? = some (.int .u8 x9)) (h36 : tm[127]? = some (.int .u32 src)) (h39 : tm[130]? = some (.int .u32 dst)) (h44 : tm[131]? = some (.slice A n c)) :
    Sem.run Tryd.prog (execOp ({ tmps := tm, defers := d } : Act).eval ⟨some 132, Op.build 33 #[(0, .tmp 105), (1, .tmp 116), (2, .tmp 118), (3, .tmp 121), (4, .tmp 124), (5, .tmp 127), (6, .tmp 130), (7, .tmp 131)], 33, pos, aft, none⟩) w = .ok (.value (pkV ⟨x1, id, fb, x8, x9, src, dst⟩ A n c)) w := by
  go_simp
end Go.Proofs.YthgdgjpckgfmbaaDoor
