/-
  The law UdpSpoilt: with one byte changed a datagram with a sum isn't parsed as it was; a bare one's ports and body are those that stand there.
-/
import Derived.Test.YtmgdfckhnjihpaaDoorLSpoilt0
import Derived.Test.YtmgdfckhnjihpaaDoorLSpoilt1
import Derived.Test.YtmgdfckhnjihpaaDoorLSpoilt2
namespace Go.Proofs.YtmgdfckhnjihpaaDoor
open Go.RowKit

theorem spoilt_law (h : Hd) (A : Option Addr) (n c : Nat) (xs : List Int) (f t : Int) (at_ : Int) (by_ : Int) (w : World) (hg : Laid w) (hk : h.ok) (hr : Rd .u8 w w.heap.size A n c xs) (hf : Ip f) (ht : Ip t) (hbb : (Lit.int .u8 by_).wf = true) : Calls Tryd.prog 5 #[pkV h A n c, .int .u32 f, .int .u32 t, .int .i64 at_, .int .u8 by_] w fun e w' => e = .returned (.bool true) ∧ Below w.heap.size w w' := by
  by_cases hn : 1472 < n
  · exact spoilt_far h A n c xs f t at_ by_ w hg hk hr hf ht hn (Nat.le_trans hr.cap hr.max)
  · cases hb : h.bare
    · exact spoilt_sum h A n c xs f t at_ by_ w hg hk hr hf ht hbb (by omega) _ rfl hb
    · by_cases h4 : at_ < 4
      · exact spoilt_lo h A n c xs f t at_ by_ w hg hk hr hf ht hbb (by omega) _ rfl hb h4
      · by_cases h8 : 8 ≤ at_
        · exact spoilt_hi h A n c xs f t at_ by_ w hg hk hr hf ht hbb (by omega) _ rfl hb h8
        · exact spoilt_mid h A n c xs f t at_ by_ w hg hk hr hf ht (by omega) _ rfl h4 h8
end Go.Proofs.YtmgdfckhnjihpaaDoor
