/-
  Contract of bounds: how many bytes the head has, how many the packet is told to have, or why it is none.
-/
import Derived.Test.YtbefoapnlehdmaaDoorPl
namespace Go.Proofs.YtbefoapnlehdmaaDoor
open Go.RowKit

/-- What must be there. -/
def needV (whole : Bool) (h t : Nat) : Nat := if whole = true then max h t else h
theorem need_head (h t : Nat) (w : World) : Calls Tryd.prog 63 #[.int .i64 h, .int .i64 t] w fun e w' => e = .returned (.int .i64 (needV false h t : Nat)) ∧ w' = w := by
  go_enter Tryd.func63, Tryd.ntmps63
  go_wp2
  go_ret
  exact ⟨rfl, rfl⟩
/-- What bounds answers. -/
def GivesB (w : World) (whole : Bool) (xs : List Int) (ev : Ending) (w' : World) : Prop :=
  (∃ m, w' = w.drewN m) ∧ ((¬ (bE whole xs).2 = 0 ∧ ev = .returned (.tuple #[.int .i64 0, .int .i64 0, errV (bE whole xs).1 (bE whole xs).2])) ∨ ((bE whole xs).2 = 0 ∧ ev = .returned (.tuple #[.int .i64 (hdL xs : Nat), .int .i64 (told xs : Nat), .nilIface])))
theorem hdL_int {xs : List Int} (_h : 0 ≤ xs.getD 0 0) : xs.getD 0 0 % 16 * 4 = ((hdL xs : Nat) : Int) := by unfold hdL; omega
theorem told_int {xs : List Int} (h : 0 ≤ num2 (xs.drop 2)) : num2 (xs.drop 2) = ((told xs : Nat) : Int) := by unfold told; omega

set_option maxHeartbeats 4000000 in
theorem bounds_head (A : Option Addr) (n c B : Nat) (xs : List Int) (w : World) (hr : Rd .u8 w B A n c xs) :
    Calls Tryd.prog 62 #[.slice A n c, .func (.func 63) #[] #[]] w (GivesB w false xs) := by
  have hlen := hr.len
  have hmax := hr.max
  have hcap := hr.cap
  rcases bE_cases false xs with ⟨h1, e⟩ | hrest
  · unfold GivesB
    rw [e]
    rw [hlen] at h1
    go_enter Tryd.func62, Tryd.ntmps62
    go_wp2_with (go_at_call 77; refine (wrong_any 12 _ (by decide)).mono ?_; rintro e w1 ⟨rfl, rfl⟩)
    refine bodyPost_ret (v := .tuple #[.int .i64 0, .int .i64 0, errV 1 12]) (by simp [results, Tryd.results62, go_sem]) rfl ⟨⟨0, rfl⟩, .inl ⟨by decide, rfl⟩⟩
  have h20 : 20 ≤ n := by rw [← hlen]; rcases hrest with h | h | h | h | h <;> exact h.1
  obtain ⟨b, o, rfl, hbB, c0⟩ := hr.at_ (i := 0) (by omega)
  have w0 := u8_bd (hr.wf (i := 0) (by omega))
  have hh := hdL_int w0.1
  have hq := hr.cutFrom 2 (by omega)
  have w2 := num2_bd rfl hq (by omega)
  have ht := told_int w2.1
  rw [cutA_ne (by omega)] at hq
  have t1 : ∀ m, Calls Tryd.prog 78 #[.slice (some ⟨b, o + 2, none⟩) (n - 2) (c - 2)] (w.drewN m) fun e w' => e = .returned (.int .u16 (num2 (xs.drop 2))) ∧ ∃ m', w' = (w.drewN m).drewN m' := fun m => by
    have := two_any _ (n - 2) (c - 2) B (xs.drop 2) (w.drewN m) (hq.keep (fun _ _ => rfl)) (by omega)
    simpa [Addr.add] using this
  have i0 : 0 < n := by omega
  rw [Nat.add_zero] at c0
  have hand := u8_and15 _ w0.1 (show xs.getD 0 0 < 256 by omega)
  unfold GivesB
  rw [hlen] at hrest
  have hh' := hh
  rcases hrest with ⟨-, h2, e⟩ | hrest
  · rw [e]
    clear t1 hq hand hh hh' e
    generalize xs.getD 0 0 = x at *
    have h2' : ¬ x / 16 = 4 := h2
    go_enter Tryd.func62, Tryd.ntmps62
    go_wp2_with (go_at_call 36; refine (fault_any 3 15 _ (by decide) (by decide)).mono ?_; rintro e w1 ⟨rfl, rfl⟩)
    refine bodyPost_ret (v := .tuple #[.int .i64 0, .int .i64 0, errV 3 15]) (by simp [results, Tryd.results62, go_sem]) rfl ⟨⟨0, rfl⟩, .inl ⟨by decide, rfl⟩⟩
  have h2 : xs.getD 0 0 / 16 = 4 := by rcases hrest with h | h | h | h <;> exact h.2.1
  rw [ht] at t1
  rw [ht] at w2
  clear ht hq
  generalize xs.getD 0 0 = x at *
  generalize hdL xs = h at *
  generalize told xs = t at *
  have v0 : IntKind.i64.wrap (x % 16) = x % 16 := by rw [IntKind.wrap_i64]; omega
  have v1 : IntKind.i64.wrap (x % 16 * 4) = (h : Int) := by rw [IntKind.wrap_i64]; omega
  have v2 : IntKind.i64.wrap (t : Int) = (t : Int) := by rw [IntKind.wrap_i64]; omega
  have k2 : ¬ c = 2 := by omega
  have j2 : (2 : Int) ≤ (n : Int) := by omega
  have hneed : (needV false h t : Nat) = h := by unfold needV; simp
  rcases hrest with ⟨-, -, h3, e⟩ | ⟨-, -, h3, h4, e⟩ | ⟨-, -, h3, h4, h5, e⟩ | ⟨-, -, h3, h4, h5, e⟩
  · rw [e]
    have Hall := Lib.hid (And.intro h3 True.intro)
    clear e hh hh'
    go_enter Tryd.func62, Tryd.ntmps62
    go_wp2_with fail
    go_quiet (first | (go_at_call 78; with_reducible exact Calls.quiet_of (t1 _)))
    clear t1
    go_wp2_with (first  | (go_at_call 77; refine (wrong_any 10 _ (by decide)).mono ?_; rintro e w1 ⟨rfl, rfl⟩))
    refine bodyPost_ret (v := .tuple #[.int .i64 0, .int .i64 0, errV 1 10]) (by simp [results, Tryd.results62, go_sem]) rfl ⟨⟨_, rfl⟩, .inl ⟨by decide, rfl⟩⟩
  · rw [e]
    have Hall := Lib.hid (And.intro h3 (And.intro h4 True.intro))
    obtain ⟨N, hN⟩ : ∃ N : Nat, needV false h t = N := ⟨_, rfl⟩
    have hNn : n < N := by rw [← hN, hneed]; rcases h4 with h4 | h4 <;> first | omega | exact absurd h4.1 (by decide)
    have nd := fun W => need_head h t W
    rw [hN] at nd
    clear hN hneed h4
    clear e hh hh'
    go_enter Tryd.func62, Tryd.ntmps62
    go_wp2_with fail
    go_quiet (first | (go_at_call 78; with_reducible exact Calls.quiet_of (t1 _)))
    clear t1
    go_wp2_with (first | (go_at_call 63; refine (nd _).mono ?_; rintro e w1 ⟨rfl, rfl⟩) | (go_at_call 77; refine (wrong_any 12 _ (by decide)).mono ?_; rintro e w1 ⟨rfl, rfl⟩))
    refine bodyPost_ret (v := .tuple #[.int .i64 0, .int .i64 0, errV 1 12]) (by simp [results, Tryd.results62, go_sem]) rfl ⟨⟨_, rfl⟩, .inl ⟨by decide, rfl⟩⟩
  · rw [e]
    have Hall := Lib.hid (And.intro h3 (And.intro h4 h5))
    obtain ⟨N, hN⟩ : ∃ N : Nat, needV false h t = N := ⟨_, rfl⟩
    have hNn : N ≤ n := by rw [← hN, hneed]; omega
    have nd := fun W => need_head h t W
    rw [hN] at nd
    clear hN hneed h4
    clear e hh hh'
    go_enter Tryd.func62, Tryd.ntmps62
    go_wp2_with fail
    go_quiet (first | (go_at_call 78; with_reducible exact Calls.quiet_of (t1 _)))
    clear t1
    go_wp2_with (first | (go_at_call 63; refine (nd _).mono ?_; rintro e w1 ⟨rfl, rfl⟩) | (go_at_call 77; refine (wrong_any 10 _ (by decide)).mono ?_; rintro e w1 ⟨rfl, rfl⟩))
    refine bodyPost_ret (v := .tuple #[.int .i64 0, .int .i64 0, errV 1 10]) (by simp [results, Tryd.results62, go_sem]) rfl ⟨⟨_, rfl⟩, .inl ⟨by decide, rfl⟩⟩
  · rw [e]
    have Hall := Lib.hid (And.intro h3 (And.intro h4 h5))
    obtain ⟨N, hN⟩ : ∃ N : Nat, needV false h t = N := ⟨_, rfl⟩
    have hNn : N ≤ n := by rw [← hN, hneed]; omega
    have nd := fun W => need_head h t W
    rw [hN] at nd
    clear hN hneed h4
    clear e hh hh'
    go_enter Tryd.func62, Tryd.ntmps62
    go_wp2_with fail
    go_quiet (first | (go_at_call 78; with_reducible exact Calls.quiet_of (t1 _)))
    clear t1
    go_wp2_with (first | (go_at_call 63; refine (nd _).mono ?_; rintro e w1 ⟨rfl, rfl⟩) )
    refine bodyPost_ret (v := .tuple #[.int .i64 h, .int .i64 t, .nilIface]) (by simp [results, Tryd.results62, go_sem]) rfl ⟨⟨_, rfl⟩, .inr ⟨by first | trivial | rfl, rfl⟩⟩
end Go.Proofs.YtbefoapnlehdmaaDoor
