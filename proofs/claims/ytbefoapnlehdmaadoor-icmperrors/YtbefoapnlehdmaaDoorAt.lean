/-
  The contracts once more, at an error that is known to be a row of faults by a hidden equation.
-/
import Derived.Test.YtbefoapnlehdmaaDoorIs
import Derived.Test.YtbefoapnlehdmaaDoorWhy
import Derived.Test.YtbefoapnlehdmaaDoorLits
namespace Go.Proofs.YtbefoapnlehdmaaDoor
open Go.RowKit

/-- The error '.iface tt v' is the error e of api's, wrapped by the reasons rs. -/
def IsC (e : Int) (rs : List Int) (tt : TypeId) (v : Value) : Prop := chainV e rs = .iface tt v
theorem isC_any (e : Int) (rs : List Int) : ∃ tt v, IsC e rs tt v := chainV_form e rs
theorem isC_bare (e : Int) : IsC e [] 34 (.int .i64 e) := rfl
/-- The outermost reason. -/
def reasonV (e : Int) : List Int → Int
  | [] => ofV e
  | r :: _ => r

section
variable {e : Int} {rs : List Int} {tt : TypeId} {v : Value}
theorem errno_at (h : IsC e rs tt v) (w : World) (hg : Laid w) : Calls Tryd.prog 40 #[.iface tt v] w fun ev w' => ev = .returned (.int .i64 e) ∧ Below w.heap.size w w' := by
  rw [← show chainV e rs = .iface tt v from h]; exact errno_chain e rs w hg
theorem reason_at (h : IsC e rs tt v) (w : World) (hg : Laid w) : Calls Tryd.prog 33 #[.iface tt v] w fun ev w' => ev = .returned (.int .i64 (reasonV e rs)) ∧ Below w.heap.size w w' := by
  rw [← show chainV e rs = .iface tt v from h]
  cases rs with
  | nil => exact reason_bare e w hg
  | cons r rs => exact reason_fault e r rs w hg
theorem whyIs_at (o : Int) (h : IsC e rs tt v) (w : World) : Calls Tryd.prog 32 #[.iface tt v, .int .i64 o] w fun ev w' => ev = .returned (.bool (e == o)) ∧ Below w.heap.size w w' := by
  rw [← show chainV e rs = .iface tt v from h]; exact whyIs_chain e o rs w
theorem fault_at {r : Int} (h : IsC e [r] tt v) (hr : isR r = true) (he : ¬ e = 0) (w : World) : Calls Tryd.prog 36 #[.int .i64 r, .int .i64 e] w fun ev w' => ev = .returned (.iface tt v) ∧ w = w' := by
  rw [← show chainV e [r] = .iface tt v from h]; exact fault_yes r e w hr he
end

theorem bytes_isEmpty (s : ByteArray) : s.toList.isEmpty = (s.size == 0) := by
  rw [ByteArray.toList_eq]
  obtain ⟨⟨l⟩⟩ := s
  cases l with
  | nil => rfl
  | cons a l => simp [ByteArray.size]
/-- A word is empty just where there is no such reason, in the walk's own spelling. -/
theorem word_isEmpty (n : Int) : (wordV n).toList.isEmpty = !isR n := by
  rw [← wordV_size n]
  exact bytes_isEmpty _
/-- What the walk of a law knows of the world as it goes on. -/
structure Kn (w W : World) : Prop where
  laid : Laid W
  below : Below w.heap.size w W
theorem Kn.step {w W W' : World} (h : Kn w W) (hb : Below W.heap.size W W') : Kn w W' :=
  ⟨h.laid.below hb, h.below.trans (hb.mono h.below.size)⟩
theorem Kn.alloc {w W : World} (h : Kn w W) (o : Obj) : Kn w (W.alloc o) := h.step (alloc_below W o)
theorem Kn.start {w : World} (h : Laid w) : Kn w w := ⟨h, Below.refl _ _⟩

end Go.Proofs.YtbefoapnlehdmaaDoor
