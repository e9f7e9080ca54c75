/-
  The contracts of the document's Parse, as the laws use them.
-/
import Derived.Test.YtmgdfckhnjihpaaDoorUWp
import Derived.Test.YtmgdfckhnjihpaaDoorRParse
namespace Go.Proofs.YtmgdfckhnjihpaaDoor
open Go.RowKit

section
variable {A : Option Addr} {n c : Nat} {xs : List Int} {f t : Int} {W : World} {r e : Int} {h : Hd} {ys : List Int} {m : Nat}
theorem refParse_no (hr : Rd .u8 W W.heap.size A n c xs) (hf : Ip f) (ht : Ip t) (hE : pE f t xs = (r, e)) (he : ¬ e = 0) : Calls Tryd.prog 10 #[.slice A n c, .int .u32 f, .int .u32 t] W (GivesN W r e) := by
  rcases refParse_all A n c xs f t W hr hf ht with ⟨_, q⟩ | ⟨q, _⟩
  · rw [hE] at q
    exact q
  · rw [hE] at q
    exact absurd q he
theorem refParse_yes (hr : Rd .u8 W W.heap.size A n c xs) (hf : Ip f) (ht : Ip t) (hE : (pE f t xs).2 = 0) (hh : hdOf xs = h) (hy : bodyOf xs = ys) : Calls Tryd.prog 10 #[.slice A n c, .int .u32 f, .int .u32 t] W (GivesY W h ys) := by
  rcases refParse_all A n c xs f t W hr hf ht with ⟨q, _⟩ | ⟨_, q⟩
  · exact absurd hE q
  · rw [hh, hy] at q
    exact q
end
end Go.Proofs.YtmgdfckhnjihpaaDoor
