/-
  Contracts of SameBytes (of two slices that read as the same bytes) and Own.
-/
import Derived.Test.YtmjdmddphaabmaaLeaf
import Derived.Test.YtmjdmddphaabmaaNum
import Derived.Outline
namespace Go.Proofs.Ytmjdmddphaabmaa
open Go.RowKit

set_option maxHeartbeats 400000 in
theorem same_any (A A' : Option Addr) (n c n' c' : Nat) (xs : List Int) (B B' : Nat) (w : World) (hr : Rd .u8 w B A n c xs) (hr' : Rd .u8 w B' A' n' c' xs) :
    Calls Try.prog 14 #[.slice A n c, .slice A' n' c'] w fun e w' => e = .returned (.bool true) ∧ Below w.heap.size w w' := by
  obtain rfl : n = n' := by rw [← hr.len, ← hr'.len]
  have hmax := hr.max
  have hcap := hr.cap
  go_enter Try.func14, Try.ntmps14
  go_wp2
  go_loopw [5] (fun i wr => ∃ k d : Nat, k ≤ n ∧ i = .int .i64 k ∧ wr = w.drewN d) (fun i _ => n - (intOf i).toNat)
  case atStart => exact ⟨0, 0, Nat.zero_le _, rfl, rfl⟩
  case round =>
    obtain ⟨k, d, hk, rfl, rfl⟩ := hrel
    by_cases hlt : k < n
    · obtain ⟨b, o, rfl, _, hc⟩ := hr.at_ hlt
      obtain ⟨b', o', rfl, _, hc'⟩ := hr'.at_ hlt
      generalize xs.getD k 0 = x at *
      go_wp2
      go_quiet (fail)
      go_wp2
      go_roundw
      case rel => exact ⟨k + 1, _, by omega, by go_num, rfl⟩
      case measure => simp [intOf]; omega
    · go_wp2
      go_ret
      exact ⟨rfl, below_drewN (Below.refl _ _) _⟩
end Go.Proofs.Ytmjdmddphaabmaa
