/-
  Contracts of Own, bytes.Clone, SameBytes, isOwner.
-/
import Derived.Test.YtjaiagocbldbgaaProg
import Derived.Test.YtjaiagocbldbgaaPlain
import Derived.Deep.RegionHeld3
import Derived.Deep.QuietTactic
import Derived.OwnWalk
import Derived.BigQuiet
namespace Go.Proofs.Ytjaiagocbldbgaa
open Go.RowKit
set_option linter.unusedVariables false

theorem info5 : (Try.prog.info? 5).map (fun i => (i.zero, i.size, i.bytes)) = some (some (.int .u8 0), 1, 1) := by kernel_rfl
theorem info3 : (Try.prog.info? 3).map (fun i => (i.zero, i.size, i.bytes)) = some (some (.int .i64 0), 1, 8) := by kernel_rfl

set_option maxHeartbeats 400000 in
theorem own_any (A : Option Addr) (n c B : Nat) (xs : List Int) (w : World) (hr : Rd .u8 w B A n c xs) (hB : B ≤ w.heap.size) (hn : n ≤ 100000) :
    Calls Try.prog 22 #[.slice A n c] w fun e w' => ∃ A' n' c', e = .returned (.slice A' n' c') ∧ Out .u8 5 w' w.heap.size A' n' c' xs ∧ Below w.heap.size w w' := by
  have o0 := Out.lit0 .u8 5 w w.heap.size (Nat.le_refl _)
  have r0 : Rd .u8 (w.alloc (.cells #[] 5)) B A n c xs := hr.below (alloc_below w _) hB
  go_enter Try.func22, Try.ntmps22
  go_wp2_with (first
    | (at_builtin; refine wpList_app rfl (.tmp 3) (.tmp 4) 23 rfl w.heap.size Try.underlying23 info5 (by omega) (some ⟨w.heap.size, 0, none⟩) 0 0 [] rfl o0 A n c B xs rfl r0 (by omega) (by simp) ?_))
  intro A' n' c' w' o' hg'
  have b' : Below w.heap.size w w' := (alloc_below w _).grown hg' (by simp) (fun k hk => by simp [Value.ownBlock] at hk; omega)
  go_wp2
  go_ret
  exact ⟨A', n', c', rfl, by simpa using o', b'⟩

set_option maxHeartbeats 400000 in
theorem clone_any (A : Option Addr) (n c B : Nat) (xs : List Int) (w : World) (hr : Rd .u8 w B A n c xs) (hB : B ≤ w.heap.size) (hn : n ≤ 100000) :
    Calls Try.prog 40 #[.slice A n c] w fun e w' => ∃ A' n' c', e = .returned (.slice A' n' c') ∧ Out .u8 5 w' w.heap.size A' n' c' xs ∧ Below w.heap.size w w' := by
  have o0 := Out.lit0 .u8 5 w w.heap.size (Nat.le_refl _)
  have r0 : Rd .u8 (w.alloc (.cells #[] 5)) B A n c xs := hr.below (alloc_below w _) hB
  have heq := fun W a n' c' => Lib.run_eql_slice_nil (P := Try.prog) W 23 5 a n' c' 0 0 Try.underlying23
  cases A with
  | none =>
    obtain rfl : c = 0 := hr.2.2.1.2 rfl
    obtain rfl : n = 0 := by have := hr.cap; omega
    obtain rfl : xs = [] := List.eq_nil_of_length_eq_zero hr.len
    go_enter Try.func40, Try.ntmps40
    go_wp2
    go_ret
    exact ⟨none, 0, 0, rfl, Out.nil, Below.refl _ _⟩
  | some ad =>
    go_enter Try.func40, Try.ntmps40
    go_wp2_with (first
      | (at_builtin; refine wpList_app rfl (.tmp 5) (.tmp 6) 23 rfl w.heap.size Try.underlying23 info5 (by omega) (some ⟨w.heap.size, 0, none⟩) 0 0 [] rfl o0 (some ad) n c B xs rfl r0 (by omega) (by simp) ?_))
    intro A' n' c' w' o' hg'
    have b' : Below w.heap.size w w' := (alloc_below w _).grown hg' (by simp) (fun k hk => by simp [Value.ownBlock] at hk; omega)
    go_wp2
    go_ret
    exact ⟨A', n', c', rfl, by simpa using o', b'⟩

set_option maxHeartbeats 400000 in
theorem same_any (A A' : Option Addr) (n c n' c' : Nat) (xs : List Int) (B B' : Nat) (w : World) (hr : Rd .u8 w B A n c xs) (hr' : Rd .u8 w B' A' n' c' xs) :
    Calls Try.prog 20 #[.slice A n c, .slice A' n' c'] w fun e w' => e = .returned (.bool true) ∧ Below w.heap.size w w' := by
  obtain rfl : n = n' := by rw [← hr.len, ← hr'.len]
  have hmax := hr.max
  have hcap := hr.cap
  go_enter Try.func20, Try.ntmps20
  go_wp2
  go_loopw [5] (fun i wr => ∃ k d : Nat, k ≤ n ∧ i = .int .i64 k ∧ wr = w.drewN d) (fun i _ => n - (intOf i).toNat)
  case atStart => exact ⟨0, 0, Nat.zero_le _, rfl, rfl⟩
  case round =>
    obtain ⟨k, d, hk, rfl, rfl⟩ := hrel
    by_cases hlt : k < n
    · obtain ⟨b, o, rfl, _, hc⟩ := hr.at_ hlt
      obtain ⟨b', o', rfl, _, hc'⟩ := hr'.at_ hlt
      generalize xs.getD k 0 = x at *
      go_wp2
      go_quiet (fail)
      go_wp2
      go_roundw
      case rel => exact ⟨k + 1, _, by omega, by go_num, rfl⟩
      case measure => simp [intOf]; omega
    · go_wp2
      go_ret
      exact ⟨rfl, below_drewN (Below.refl _ _) _⟩

/-- Is it an owner's number? -/
def isOw (o : Int) : Bool := decide (isOwn o)
theorem isOw_yes {o : Int} (h : isOwn o) : isOw o = true := decide_eq_true h
theorem isOw_no {o : Int} (h : ¬ isOwn o) : isOw o = false := decide_eq_false h
theorem isOwner_any (o : Int) (w : World) : Calls Try.prog 48 #[.int .i64 o] w fun e w' => e = .returned (.bool (isOw o)) ∧ w = w' := by
  by_cases h1 : 1 ≤ o
  · by_cases h2 : o ≤ 255
    · have H : Hid (isOw o = true) := Lib.hid (isOw_yes ⟨h1, h2⟩)
      go_enter Try.func48, Try.ntmps48
      go_wp2
      go_ret
      exact ⟨by rw [H.out]; rfl, rfl⟩
    · have H : Hid (isOw o = false) := Lib.hid (isOw_no (fun q => h2 q.2))
      go_enter Try.func48, Try.ntmps48
      go_wp2
      go_ret
      exact ⟨by rw [H.out]; rfl, rfl⟩
  · have H : Hid (isOw o = false) := Lib.hid (isOw_no (fun q => h1 q.1))
    go_enter Try.func48, Try.ntmps48
    go_wp2
    go_ret
    exact ⟨by rw [H.out]; rfl, rfl⟩
end Go.Proofs.Ytjaiagocbldbgaa
