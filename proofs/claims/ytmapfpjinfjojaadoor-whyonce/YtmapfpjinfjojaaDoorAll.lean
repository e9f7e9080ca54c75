/-
  Contracts of SameInts, inside and All.
-/
import Derived.Test.YtmapfpjinfjojaaDoorWhy
import Derived.WalkSmall
import Derived.OwnWalk
import Derived.Deep.QuietTactic
import Derived.BigQuiet
namespace Go.Proofs.YtmapfpjinfjojaaDoor
open Go.RowKit

set_option maxHeartbeats 400000 in
theorem sameInts_any (A A' : Option Addr) (n c n' c' : Nat) (xs : List Int) (B B' : Nat) (w : World) (hr : Rd .i64 w B A n c xs) (hr' : Rd .i64 w B' A' n' c' xs) :
    Calls Tryd.prog 10 #[.slice A n c, .slice A' n' c'] w fun e w' => e = .returned (.bool true) ∧ Below w.heap.size w w' := by
  obtain rfl : n = n' := by rw [← hr.len, ← hr'.len]
  have hmax := hr.max
  have hcap := hr.cap
  go_enter Tryd.func10, Tryd.ntmps10
  go_wp2
  go_loopw [5] (fun i wr => ∃ k d : Nat, k ≤ n ∧ i = .int .i64 k ∧ wr = w.drewN d) (fun i _ => n - (intOf i).toNat)
  case atStart => exact ⟨0, 0, Nat.zero_le _, rfl, rfl⟩
  case round =>
    obtain ⟨k, d, hk, rfl, rfl⟩ := hrel
    by_cases hlt : k < n
    · obtain ⟨b, o, rfl, _, hc⟩ := hr.at_ hlt
      obtain ⟨b', o', rfl, _, hc'⟩ := hr'.at_ hlt
      generalize xs.getD k 0 = x at *
      go_wp2
      go_quiet (fail)
      go_wp2
      go_roundw
      case rel => exact ⟨k + 1, _, by omega, by go_num, rfl⟩
      case measure => simp [intOf]; omega
    · go_wp2
      go_ret
      exact ⟨rfl, below_drewN (Below.refl _ _) _⟩

theorem nil74 (xT : TypeId) (w : World) : (Instr.typeAssert .nilIface xT 74 true).run Tryd.prog w = .ok (.tuple #[.nilIface, .bool false]) w := by kernel_rfl
theorem nil76 (xT : TypeId) (w : World) : (Instr.typeAssert .nilIface xT 76 true).run Tryd.prog w = .ok (.tuple #[.nilIface, .bool false]) w := by kernel_rfl
theorem nil53 (xT : TypeId) (w : World) : (Instr.typeAssert .nilIface xT 53 true).run Tryd.prog w = .ok (.tuple #[.agg #[.int .i64 0, .nilIface], .bool false]) w := by kernel_rfl
theorem inside_nil (w : World) : Calls Tryd.prog 26 #[.nilIface] w fun e w' => e = .returned (.slice none 0 0) ∧ w = w' := by
  have f1 := nil74
  have f2 := nil76
  go_enter Tryd.func26, Tryd.ntmps26
  go_wp2
  go_ret
  exact ⟨rfl, rfl⟩
theorem inside_bare (e : Int) (w : World) : Calls Tryd.prog 26 #[.iface 22 (.int .i64 e)] w fun e w' => e = .returned (.slice none 0 0) ∧ w = w' := by
  have f4 := noUnwrap22
  have f5 := noUnwraps22
  go_enter Tryd.func26, Tryd.ntmps26
  go_wp2
  go_ret
  exact ⟨rfl, rfl⟩
theorem inside_fault (r : Int) (t : TypeId) (v : Value) (w : World) : Calls Tryd.prog 26 #[.iface 53 (.agg #[.int .i64 r, .iface t v])] w
    fun e w' => ∃ g, e = .returned (.slice (some ⟨g, 0, none⟩) 1 1) ∧ w'.cell? ⟨g, 0, none⟩ = some (.iface t v) ∧ Below w.heap.size w w' := by
  have f7 := hasUnwrap53
  have f8 := methodUnwrap
  go_enter Tryd.func26, Tryd.ntmps26
  go_wp2_with (go_at_call 61; refine (unwrap_any _ _ _ _).mono ?_; rintro ev w1 ⟨rfl, hb1⟩)
  go_ret
  exact ⟨w1.heap.size, rfl, by simp, hb1.alloc hb1.size _⟩
end Go.Proofs.YtmapfpjinfjojaaDoor
