/-
  Contract of the law's Is: an error against the document's fault.
-/
import Derived.Test.YtggnkmllbpgfoaaDoorSmall
import Derived.Test.YtggnkmllbpgfoaaDoorRefF
namespace Go.Proofs.YtggnkmllbpgfoaaDoor
open Go.RowKit

theorem is_nil (A : Option Addr) (n c : Nat) (w : World) : Calls Tryd.prog 9 #[.nilIface, .agg #[.slice A n c, .int .i64 0]] w fun e w' => e = .returned (.bool true) ∧ Below w.heap.size w w' := by
  go_enter Tryd.func9, Tryd.ntmps9
  go_wp2
  go_ret
  exact ⟨rfl, alloc_below _ _⟩
theorem errno_err (r e : Int) (w : World) (hg : Laid w) : Calls Tryd.prog 26 #[errV r e] w fun ev w' => ev = .returned (.int .i64 e) ∧ Below w.heap.size w w' := errno_chain e [r] w hg
theorem reason_err (r e : Int) (w : World) (hg : Laid w) : Calls Tryd.prog 27 #[errV r e] w fun ev w' => ev = .returned (.int .i64 r) ∧ Below w.heap.size w w' := reason_fault e r [] w hg
theorem whyIs_err (r e o : Int) (w : World) : Calls Tryd.prog 19 #[errV r e, .int .i64 o] w fun ev w' => ev = .returned (.bool (e == o)) ∧ Below w.heap.size w w' := whyIs_chain e o [r] w
theorem refReason_one (A : Option Addr) (n c : Nat) (r e : Int) (w : World) (hr : Rd .i64 w w.heap.size A n c [r]) : Calls Tryd.prog 28 #[.agg #[.slice A n c, .int .i64 e]] w fun ev w' => ev = .returned (.int .i64 r) ∧ Below w.heap.size w w' := refReason_any A n c [r] e w hr
/-- What Is's walk knows. -/
structure KIs (w : World) (A : Option Addr) (n c : Nat) (r e : Int) (W : World) : Prop where
  c0 : W.cell? ⟨w.heap.size, 0, none⟩ = some (.slice A n c)
  c1 : W.cell? ⟨w.heap.size, 1, none⟩ = some (.int .i64 e)
  rd : Rd .i64 W W.heap.size A n c [r]
  kn : Kn w W
  lt : w.heap.size < W.heap.size
section
variable {w W V : World} {A : Option Addr} {n c : Nat} {r e : Int}
theorem KIs.step (h : KIs w A n c r e W) (hb : Below W.heap.size W V) : KIs w A n c r e V := ⟨(hb.cell h.lt).trans h.c0, (hb.cell h.lt).trans h.c1, (h.rd.below hb (Nat.le_refl _)).more hb.size, h.kn.step hb, Nat.lt_of_lt_of_le h.lt hb.size⟩
theorem KIs.drew (h : KIs w A n c r e W) : KIs w A n c r e W.drew := h.step ⟨rfl, rfl, rfl, Nat.le_refl _, fun _ _ => rfl⟩
theorem KIs.parts (h : KIs w A n c r e W) : W.cell? ⟨w.heap.size, 0, none⟩ = some (.slice A n c) ∧ W.cell? ⟨w.heap.size, 1, none⟩ = some (.int .i64 e) ∧ KIs w A n c r e W := ⟨h.c0, h.c1, h⟩
end
set_option maxHeartbeats 1000000 in
theorem is_err (A : Option Addr) (n c : Nat) (r e : Int) (w : World) (hg : Laid w) (hr : Rd .i64 w w.heap.size A n c [r]) (he : ¬ e = 0) :
    Calls Tryd.prog 9 #[errV r e, .agg #[.slice A n c, .int .i64 e]] w fun ev w' => ev = .returned (.bool true) ∧ Below w.heap.size w w' := by
  have K0 : KIs w A n c r e (w.alloc (.cells #[.slice A n c, .int .i64 e] 37)) :=
    ⟨by simp [go_sem], by simp [go_sem], (hr.below (alloc_below _ _) (Nat.le_refl _)).more (by simp), (Kn.start hg).alloc _, by simp⟩
  have he' : (e != 0) = true := by simpa using he
  clear hg hr he
  go_enter Tryd.func9, Tryd.ntmps9
  go_wp2_with fail
  revert K0
  generalize w.alloc (.cells #[.slice A n c, .int .i64 e] 37) = W0
  intro K0
  go_region_held3 (fun w' => w'.cell? ⟨w.heap.size, 0, none⟩ = some (.slice A n c) ∧ w'.cell? ⟨w.heap.size, 1, none⟩ = some (.int .i64 e) ∧ KIs w A n c r e w')
    (first
      | assumption
      | (exact KIs.parts (KIs.drew K0))
      | (go_split_ands; exact KIs.parts (KIs.step (by assumption) hb1)))
    (first
      | (go_at_call 26; go_split_ands; with_reducible refine (errno_err r e _ (KIs.kn (by assumption)).laid).mono ?_; rintro ev w3 ⟨rfl, hb1⟩)
      | (go_at_call 27; go_split_ands; with_reducible refine (reason_err r e _ (KIs.kn (by assumption)).laid).mono ?_; rintro ev w3 ⟨rfl, hb1⟩)
      | (go_at_call 28; go_split_ands; with_reducible refine (refReason_one _ _ _ _ _ _ (KIs.rd (by assumption))).mono ?_; rintro ev w3 ⟨rfl, hb1⟩))
  all_goals
    go_split_ands
    go_wp2
    go_ret
    exact ⟨rfl, (show KIs w A n c r e _ by assumption).kn.below⟩
end Go.Proofs.YtggnkmllbpgfoaaDoor
