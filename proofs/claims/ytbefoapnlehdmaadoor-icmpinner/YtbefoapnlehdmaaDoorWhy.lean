/-
  Contracts of Wrap, Fault, Errno and Reason.
-/
import Derived.Test.YtbefoapnlehdmaaDoorAs2
namespace Go.Proofs.YtbefoapnlehdmaaDoor
open Go.RowKit

theorem Laid.below {w w' : World} (h : Laid w) (hb : Below w.heap.size w w') : Laid w' := by
  unfold Laid at *
  rw [hb.cell (cell_lt h)]
  exact h
theorem alloc_below (W : World) (o : Obj) : Below W.heap.size W (W.alloc o) := (Below.refl _ W).alloc (Nat.le_refl _) o

theorem fault_yes (r e : Int) (w : World) (h : isR r = true) (he : ¬ e = 0) : Calls Tryd.prog 36 #[.int .i64 r, .int .i64 e] w fun ev w' => ev = .returned (chainV e [r]) ∧ w = w' := by
  rw [chainV_cons, chainV_nil]
  have he' : (e == 0) = false := by simpa using he
  clear he
  go_enter Tryd.func36, Tryd.ntmps36
  go_wp2_with (go_at_call 57; refine (isReason_any _ _).mono ?_; rintro e w' ⟨rfl, rfl⟩)
  go_ret
  exact ⟨rfl, rfl⟩
theorem fault_no (r e : Int) (w : World) (h : isR r = false ∨ e = 0) : Calls Tryd.prog 36 #[.int .i64 r, .int .i64 e] w fun ev w' => ev = .returned .nilIface ∧ w = w' := by
  by_cases he : e = 0
  · subst he
    clear h
    go_enter Tryd.func36, Tryd.ntmps36
    go_wp2
    go_ret
    exact ⟨rfl, rfl⟩
  · have h' : isR r = false := h.resolve_right he
    have he' : (e == 0) = false := by simpa using he
    clear he h
    go_enter Tryd.func36, Tryd.ntmps36
    go_wp2_with (go_at_call 57; refine (isReason_any _ _).mono ?_; rintro e w' ⟨rfl, rfl⟩)
    go_ret
    exact ⟨rfl, rfl⟩
theorem errno_nil (w : World) : Calls Tryd.prog 40 #[.nilIface] w fun e w' => e = .returned (.int .i64 0) ∧ Below w.heap.size w w' := by
  go_enter Tryd.func40, Tryd.ntmps40
  go_wp2
  go_ret
  exact ⟨rfl, Below.refl _ _⟩
set_option maxHeartbeats 1000000 in
theorem errno_chain (e : Int) (rs : List Int) (w : World) (hg : Laid w) : Calls Tryd.prog 40 #[chainV e rs] w fun ev w' => ev = .returned (.int .i64 e) ∧ Below w.heap.size w w' := by
  have c1 := As22_any e rs ⟨w.heap.size, 0, none⟩ (.int .i64 0) (w.alloc (.cells #[.int .i64 0] 34)) (hg.below (alloc_below w _)) (by simp) (by simp)
  have C1 := Lib.hid c1; clear c1
  obtain ⟨tt, v, hv⟩ := chainV_form e rs
  rw [hv]
  rw [hv] at C1
  clear hv hg
  go_enter Tryd.func40, Tryd.ntmps40
  go_wp2_with fail
  refine C1.out.mono ?_
  rintro ev w1 ⟨rfl, w2, hb, rfl⟩
  have hc : (w2.setCell ⟨w.heap.size, 0, none⟩ (.int .i64 e)).cell? ⟨w.heap.size, 0, none⟩ = some (.int .i64 e) :=
    World.cell?_setCell_same _ _ _ (u := .int .i64 0) (by rw [hb.cell (by simp)]; simp)
  have hbb : Below w.heap.size w (w2.setCell ⟨w.heap.size, 0, none⟩ (.int .i64 e)) := ((alloc_below w _).trans (hb.mono (by simp))).setCell (Nat.le_refl _) _
  clear hb C1
  generalize w2.setCell ⟨w.heap.size, 0, none⟩ (.int .i64 e) = w3 at *
  go_wp2
  go_ret
  exact ⟨rfl, hbb⟩
theorem reason_nil (w : World) : Calls Tryd.prog 33 #[.nilIface] w fun e w' => e = .returned (.int .i64 0) ∧ Below w.heap.size w w' := by
  go_enter Tryd.func33, Tryd.ntmps33
  go_wp2_with fail
  refine (As_nil _ _).mono ?_
  rintro ev w1 ⟨rfl, rfl⟩
  go_wp2_with fail
  refine (errno_nil _).mono ?_
  rintro ev w1 ⟨rfl, hb⟩
  go_wp2_with fail
  refine (of_any _ _).mono ?_
  rintro ev w2 ⟨rfl, rfl⟩
  go_wp2
  go_ret
  exact ⟨rfl, (alloc_below w _).trans (hb.mono (by simp))⟩
theorem reason_bare (e : Int) (w : World) (hg : Laid w) : Calls Tryd.prog 33 #[.iface 34 (.int .i64 e)] w fun ev w' => ev = .returned (.int .i64 (ofV e)) ∧ Below w.heap.size w w' := by
  go_enter Tryd.func33, Tryd.ntmps33
  go_wp2_with fail
  refine (As53_miss _ _ _ (hg.below (alloc_below w _))).mono ?_
  rintro ev w1 ⟨rfl, hb⟩
  have hg1 := (hg.below (alloc_below w _)).below hb
  replace hb := (alloc_below w _).trans (hb.mono (by simp))
  go_wp2_with fail
  refine (errno_chain e [] _ hg1).mono ?_
  rintro ev w2 ⟨rfl, hb2⟩
  replace hb := hb.trans (hb2.mono hb.size)
  clear hg1 hg hb2
  go_wp2_with fail
  refine (of_any _ _).mono ?_
  rintro ev w3 ⟨rfl, rfl⟩
  go_wp2
  go_ret
  exact ⟨rfl, hb⟩
theorem reason_fault (e r : Int) (rs : List Int) (w : World) (hg : Laid w) : Calls Tryd.prog 33 #[chainV e (r :: rs)] w fun ev w' => ev = .returned (.int .i64 r) ∧ Below w.heap.size w w' := by
  rw [chainV_cons]
  obtain ⟨tt, v, hv⟩ := chainV_form e rs
  rw [hv]
  clear hv
  go_enter Tryd.func33, Tryd.ntmps33
  go_wp2_with fail
  refine (As53_hit r tt v w.heap.size (.int .i64 0) .nilIface _ (hg.below (alloc_below w _)) (by simp) (by simp) (by simp) (by simp)).mono ?_
  rintro ev w1 ⟨rfl, hc, hb⟩
  replace hb := ((Below.refl w.heap.size w).alloc (Nat.le_refl _) _).trans hb
  clear hg
  go_wp2
  go_ret
  exact ⟨rfl, hb⟩
end Go.Proofs.YtbefoapnlehdmaaDoor
