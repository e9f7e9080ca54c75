/-
  Contracts of the document's Total, Of and Patch, and of zero and Own.
-/
import Derived.Test.YtbefoapnlehdmaaDoorSLeaf
import Derived.BigQuiet
namespace Go.Proofs.YtbefoapnlehdmaaDoor
open Go.RowKit

set_option maxHeartbeats 400000 in
theorem refTotal_any (A : Option Addr) (n c B : Nat) (xs : List Int) (w : World) (hr : Rd .u8 w B A n c xs) (hn : n ≤ 100000000) :
    Calls Tryd.prog 39 #[.slice A n c] w fun e w' => e = .returned (.int .u16 (totV xs)) ∧ w = w' := by
  have hmax := hr.max
  have hcap := hr.cap
  have HL := Lib.hid hr.len
  have hby := byts_of hr.2.2.2.1
  go_enter Tryd.func39, Tryd.ntmps39
  go_wp2
  go_loop [3, 4] (fun v i => ∃ (k : Nat) (s : Int), k ≤ n + 1 ∧ i = .int .i64 k ∧ v = .int .u16 s ∧ W16 s ∧ sumF s (pairsV (xs.drop k)) = totV xs) (fun _ i => n + 1 - (intOf i).toNat)
  case atStart => exact ⟨0, 0, Nat.zero_le _, rfl, rfl, by unfold W16; omega, rfl⟩
  case round =>
    obtain ⟨k, s, hk, rfl, rfl, hs, hsum⟩ := hrel
    by_cases hlt : k < n
    · obtain ⟨b, o, rfl, _, hc⟩ := hr.at_ (i := k) (by omega)
      have hx := u8_bd (hr.wf (i := k) hlt)
      by_cases h1 : k + 1 < n
      · obtain ⟨b', o', e, _, hc1⟩ := hr.at_ (i := k + 1) h1
        obtain ⟨rfl, rfl⟩ : b = b' ∧ o = o' := by simpa using e
        have hy := u8_bd (hr.wf (i := k + 1) h1)
        rw [drop_two xs k (by rw [HL.out]; exact h1), pairsV_two, sumF_cons] at hsum
        generalize xs.getD k 0 = x at *
        generalize xs.getD (k + 1) 0 = y at *
        have hv : W16 (x * 256 + y) := by unfold W16; omega
        have HS := Lib.hid hsum
        clear hsum e
        go_wp2_with (go_at_call 59; refine (refAdd_any _ _ _ hs hv).mono ?_; rintro e w' ⟨rfl, rfl⟩)
        go_round
        case rel => exact ⟨k + 2, addV s (x * 256 + y), by omega, by go_num, rfl, addV_bd hs hv, HS.out⟩
        case measure => simp [intOf]; omega
      · rw [drop_one xs k (by rw [HL.out]; omega), pairsV_one, sumF_cons, sumF_nil] at hsum
        generalize xs.getD k 0 = x at *
        have hv : W16 (x * 256) := by unfold W16; omega
        have HS := Lib.hid hsum
        clear hsum
        go_wp2_with (go_at_call 59; refine (refAdd_any _ _ _ hs hv).mono ?_; rintro e w' ⟨rfl, rfl⟩)
        go_round
        case rel =>
          refine ⟨k + 2, addV s (x * 256), by omega, by go_num, rfl, addV_bd hs hv, ?_⟩
          rw [List.drop_eq_nil_of_le (by rw [HL.out]; omega), pairsV_nil, sumF_nil, ← HS.out]
          simp [numP]
        case measure => simp [intOf]; omega
    · rw [List.drop_eq_nil_of_le (by rw [HL.out]; omega), pairsV_nil, sumF_nil] at hsum
      subst hsum
      go_wp2
      go_ret
      exact ⟨rfl, rfl⟩
theorem refSumOf_any (A : Option Addr) (n c B : Nat) (xs : List Int) (w : World) (hr : Rd .u8 w B A n c xs) (hn : n ≤ 100000000) :
    Calls Tryd.prog 48 #[.slice A n c] w fun e w' => e = .returned (.int .u16 (65535 - totV xs)) ∧ w = w' := by
  have hby := totV_bd (byts_of hr.2.2.2.1)
  unfold W16 at hby
  go_enter Tryd.func48, Tryd.ntmps48
  go_wp2_with (go_at_call 39; refine (refTotal_any _ _ _ _ xs _ hr hn).mono ?_; rintro e w' ⟨rfl, rfl⟩)
  go_ret
  exact ⟨rfl, rfl⟩

theorem i64_wrap {x : Int} (h : -9223372036854775808 ≤ x ∧ x ≤ 9223372036854775807) : IntKind.i64.wrap x = x := by
  simp [IntKind.wrap, IntKind.signed, IntKind.bits]
  omega
theorem u16_wrap {x : Int} (h : W16 x) : IntKind.u16.wrap x = x := by
  unfold W16 at h
  simp [IntKind.wrap, IntKind.signed, IntKind.bits]
  omega

end Go.Proofs.YtbefoapnlehdmaaDoor
