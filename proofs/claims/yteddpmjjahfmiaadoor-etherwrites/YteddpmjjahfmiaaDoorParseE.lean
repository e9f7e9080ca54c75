/-
  Contract of Parse, where there is an error by the count of bytes.
-/
import Derived.Test.YteddpmjjahfmiaaDoorIsL
namespace Go.Proofs.YteddpmjjahfmiaaDoor
open Go.RowKit

set_option maxHeartbeats 1000000 in
theorem parse_short (A : Option Addr) (n c : Nat) (w : World) (hn : n < 14) :
    Calls Tryd.prog 9 #[.slice A n c] w fun e w' => e = .returned (.tuple #[frV zero6 zero6 0 none 0 0, errV 12]) ∧ Below w.heap.size w w' := by
  go_enter Tryd.func9, Tryd.ntmps9
  go_wp2_with (go_at_call 23; refine (wrong_any 12 _ (by decide)).mono ?_; rintro e w1 ⟨rfl, rfl⟩)
  refine bodyPost_ret (v := .tuple #[frV zero6 zero6 0 none 0 0, errV 12]) (by simp [results, Tryd.results9, go_sem, zero6]) rfl ⟨rfl, ?_⟩
  exact alloc_below _ _
set_option maxHeartbeats 1000000 in
theorem parse_long (A : Option Addr) (n c : Nat) (w : World) (hn : 1514 < n) :
    Calls Tryd.prog 9 #[.slice A n c] w fun e w' => e = .returned (.tuple #[frV zero6 zero6 0 none 0 0, errV 11]) ∧ Below w.heap.size w w' := by
  go_enter Tryd.func9, Tryd.ntmps9
  go_wp2_with (go_at_call 23; refine (wrong_any 11 _ (by decide)).mono ?_; rintro e w1 ⟨rfl, rfl⟩)
  refine bodyPost_ret (v := .tuple #[frV zero6 zero6 0 none 0 0, errV 11]) (by simp [results, Tryd.results9, go_sem, zero6]) rfl ⟨rfl, ?_⟩
  exact alloc_below _ _
end Go.Proofs.YteddpmjjahfmiaaDoor
