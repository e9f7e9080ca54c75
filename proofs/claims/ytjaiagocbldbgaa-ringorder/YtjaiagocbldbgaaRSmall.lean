/-
  Contracts of the program's ring: slot, at, Len, Dropped, Size.
-/
import Derived.Test.YtjaiagocbldbgaaRing
import Derived.Test.YtjaiagocbldbgaaLeafs
import Derived.Deep.QuietTactic
import Derived.BigQuiet
namespace Go.Proofs.Ytjaiagocbldbgaa
open Go.RowKit
set_option linter.unusedVariables false

set_option maxHeartbeats 1000000 in
theorem slot_any (q p s f c n z i : Nat) (o : Int) (d : Nat) (w : World) (h : RgCells w q p s f c n z o d) (hf : f < z) (hz : z ≤ 256) (hi : i ≤ z) :
    Calls Try.prog 44 #[ptr q, .int .i64 (i : Int)] w fun e w' => e = .returned (.int .i64 (slotN f i z : Nat)) ∧ ∃ m, w' = w.drewN m := by
  obtain ⟨c0, c1, c2, c3, c4, c5, fr, lt1, lt2⟩ := h
  have hrem := Lib.hid (slotN_rem hf hi)
  have hz0 : ¬ (z : Int) = 0 := by omega
  go_enter Try.func44, Try.ntmps44
  go_wp2
  go_quiet (fail)
  go_wp2
  go_ret
  exact ⟨by rw [← hrem.out]; rfl, _, rfl⟩

set_option maxHeartbeats 1000000 in
theorem at_any (q p s f c n z i : Nat) (o : Int) (d : Nat) (ys : List Int) (w : World) (h : RgCells w q p s f c n z o d) (ho : Out .i64 3 w 0 (some ⟨s, 0, none⟩) z c ys) (hf : f < z) (hz : z ≤ 256) (hi : i ≤ z) :
    Calls Try.prog 42 #[ptr q, .int .i64 (i : Int)] w fun e w' => e = .returned (.int .i64 (ys.getD (slotN f i z) 0)) ∧ ∃ m, w' = w.drewN m := by
  have t0 := fun k => slot_any q p s f c n z i o d (w.drewN k) ⟨h.c0, h.c1, h.c2, h.c3, h.c4, h.c5, h.fr, h.lt⟩ hf hz hi
  have hk := slotN_lt hf hi
  obtain ⟨b, off, e, _, hc⟩ := ho.rd.at_ hk
  obtain ⟨rfl, rfl⟩ : s = b ∧ 0 = off := by injection e with e; injection e with e1 e2; exact ⟨e1, e2⟩
  rw [Nat.zero_add] at hc
  obtain ⟨c0, c1, c2, c3, c4, c5, fr, lt1, lt2⟩ := h
  generalize ys.getD (slotN f i z) 0 = x at *
  generalize slotN f i z = k at *
  clear ho
  go_enter Try.func42, Try.ntmps42
  go_wp2
  go_quiet (first | (go_at_call 44; with_reducible exact Calls.quiet_of (t0 _)))
  go_wp2
  go_ret
  exact ⟨rfl, _, rfl⟩

theorem len_any (q p s f c n z : Nat) (o : Int) (d : Nat) (w : World) (h : RgCells w q p s f c n z o d) :
    Calls Try.prog 23 #[ptr q] w fun e w' => e = .returned (.int .i64 (n : Int)) ∧ w = w' := by
  obtain ⟨c0, c1, c2, c3, c4, c5, fr, lt1, lt2⟩ := h
  go_enter Try.func23, Try.ntmps23
  go_wp2
  go_ret
  exact ⟨rfl, rfl⟩
theorem dropped_any (q p s f c n z : Nat) (o : Int) (d : Nat) (w : World) (h : RgCells w q p s f c n z o d) :
    Calls Try.prog 24 #[ptr q] w fun e w' => e = .returned (.int .i64 (d : Int)) ∧ w = w' := by
  obtain ⟨c0, c1, c2, c3, c4, c5, fr, lt1, lt2⟩ := h
  go_enter Try.func24, Try.ntmps24
  go_wp2
  go_ret
  exact ⟨rfl, rfl⟩
theorem size_any (q p s f c n z : Nat) (o : Int) (d : Nat) (w : World) (h : RgCells w q p s f c n z o d) :
    Calls Try.prog 32 #[ptr q] w fun e w' => e = .returned (.int .i64 (z : Int)) ∧ w = w' := by
  obtain ⟨c0, c1, c2, c3, c4, c5, fr, lt1, lt2⟩ := h
  go_enter Try.func32, Try.ntmps32
  go_wp2
  go_ret
  exact ⟨rfl, rfl⟩
end Go.Proofs.Ytjaiagocbldbgaa
