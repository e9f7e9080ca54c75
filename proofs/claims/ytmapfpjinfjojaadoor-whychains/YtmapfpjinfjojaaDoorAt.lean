/-
  The contracts once more, at an error that is known to be a row of faults by a hidden equation; alive.
-/
import Derived.Test.YtmapfpjinfjojaaDoorIs
import Derived.Test.YtmapfpjinfjojaaDoorAll2
import Derived.Test.YtmapfpjinfjojaaDoorNumber
namespace Go.Proofs.YtmapfpjinfjojaaDoor
open Go.RowKit

/-- The error '.iface tt v' is the error e of api's, wrapped by the reasons rs. -/
def IsC (e : Int) (rs : List Int) (tt : TypeId) (v : Value) : Prop := chainV e rs = .iface tt v
theorem isC_any (e : Int) (rs : List Int) : ∃ tt v, IsC e rs tt v := chainV_form e rs
theorem isC_bare (e : Int) : IsC e [] 22 (.int .i64 e) := rfl
/-- The reasons of a row of faults are reasons. -/
def AllR (rs : List Int) : Prop := (∀ r ∈ rs, isR r = true) ∧ rs.length ≤ 1000
theorem AllR.wf {rs : List Int} (h : AllR rs) : ∀ r ∈ rs, (Lit.int .i64 r).wf = true := fun r hr => by
  obtain ⟨h1, h2⟩ := isR_yes (h.1 r hr)
  simp [Lit.wf, IntKind.min, IntKind.max, IntKind.signed, IntKind.bits]; omega
/-- The outermost reason. -/
def reasonV (e : Int) : List Int → Int
  | [] => ofV e
  | r :: _ => r

section
variable {e : Int} {rs : List Int} {tt : TypeId} {v : Value}
theorem errno_at (h : IsC e rs tt v) (w : World) (hg : Laid w) : Calls Tryd.prog 9 #[.iface tt v] w fun ev w' => ev = .returned (.int .i64 e) ∧ Below w.heap.size w w' := by
  rw [← show chainV e rs = .iface tt v from h]; exact errno_chain e rs w hg
theorem reason_at (h : IsC e rs tt v) (w : World) (hg : Laid w) : Calls Tryd.prog 13 #[.iface tt v] w fun ev w' => ev = .returned (.int .i64 (reasonV e rs)) ∧ Below w.heap.size w w' := by
  rw [← show chainV e rs = .iface tt v from h]
  cases rs with
  | nil => exact reason_bare e w hg
  | cons r rs => exact reason_fault e r rs w hg
theorem whyIs_at (o : Int) (h : IsC e rs tt v) (w : World) : Calls Tryd.prog 12 #[.iface tt v, .int .i64 o] w fun ev w' => ev = .returned (.bool (e == o)) ∧ Below w.heap.size w w' := by
  rw [← show chainV e rs = .iface tt v from h]; exact whyIs_chain e o rs w
/-- What All answers: an own row. -/
def GivesInts (w : World) (xs : List Int) (ev : Ending) (w' : World) : Prop := ∃ A n c, ev = .returned (.slice A n c) ∧ Out .i64 3 w' w.heap.size A n c xs ∧ Below w.heap.size w w'
theorem all_at (h : IsC e rs tt v) (hw : AllR rs) (w : World) : Calls Tryd.prog 11 #[.iface tt v] w (GivesInts w rs) := by
  rw [← show chainV e rs = .iface tt v from h]; exact all_chain e rs w hw.wf hw.2
theorem wrap_at (r : Int) (h : IsC e rs tt v) (tt' : TypeId) (v' : Value) (h' : IsC e (wrapL rs r) tt' v') (w : World) : Calls Tryd.prog 21 #[.iface tt v, .int .i64 r] w fun ev w' => ev = .returned (.iface tt' v') ∧ w = w' := by
  rw [← show chainV e rs = .iface tt v from h, ← show chainV e (wrapL rs r) = .iface tt' v' from h']; exact wrap_chain e r rs w
theorem fault_at {r : Int} (h : IsC e [r] tt v) (hr : isR r = true) (he : ¬ e = 0) (w : World) : Calls Tryd.prog 22 #[.int .i64 r, .int .i64 e] w fun ev w' => ev = .returned (.iface tt v) ∧ w = w' := by
  rw [← show chainV e [r] = .iface tt v from h]; exact fault_yes r e w hr he
end

theorem bytes_isEmpty (s : ByteArray) : s.toList.isEmpty = (s.size == 0) := by
  rw [ByteArray.toList_eq]
  obtain ⟨⟨l⟩⟩ := s
  cases l with
  | nil => rfl
  | cons a l => simp [ByteArray.size]
/-- A word is empty just where there is no such reason, in the walk's own spelling. -/
theorem word_isEmpty (n : Int) : (wordV n).toList.isEmpty = !isR n := by
  rw [← wordV_size n]
  exact bytes_isEmpty _
theorem n_route (w : World) : Calls Tryd.prog 15 #[.string ⟨#[114, 111, 117, 116, 101]⟩] w fun e w' => e = .returned (.tuple #[.int .i64 7, .bool true]) ∧ Below w.heap.size w w' := by
  have := number_any ⟨#[114, 111, 117, 116, 101]⟩ w
  rwa [show numV ⟨#[114, 111, 117, 116, 101]⟩ = 7 by decide +kernel, show numOk ⟨#[114, 111, 117, 116, 101]⟩ = true by decide +kernel] at this
theorem n_what (w : World) : Calls Tryd.prog 15 #[.string ⟨#[119, 104, 97, 116]⟩] w fun e w' => e = .returned (.tuple #[.int .i64 0, .bool false]) ∧ Below w.heap.size w w' := by
  have := number_any ⟨#[119, 104, 97, 116]⟩ w
  rwa [show numV ⟨#[119, 104, 97, 116]⟩ = 0 by decide +kernel, show numOk ⟨#[119, 104, 97, 116]⟩ = false by decide +kernel] at this
theorem w_old (w : World) : Calls Tryd.prog 19 #[.int .i64 19] w fun e w' => e = .returned (.string ⟨#[111, 108, 100]⟩) ∧ Below w.heap.size w w' := by
  have := word_any 19 w
  rwa [show wordV 19 = ⟨#[111, 108, 100]⟩ by rfl] at this
theorem r_frag (w : World) (hg : Laid w) : Calls Tryd.prog 13 #[.iface 22 (.int .i64 20)] w fun ev w' => ev = .returned (.int .i64 5) ∧ Below w.heap.size w w' := reason_bare 20 w hg

/-- What the walk of a law knows of the world as it goes on. -/
structure Kn (w W : World) : Prop where
  laid : Laid W
  below : Below w.heap.size w W
theorem Kn.step {w W W' : World} (h : Kn w W) (hb : Below W.heap.size W W') : Kn w W' :=
  ⟨h.laid.below hb, h.below.trans (hb.mono h.below.size)⟩
theorem Kn.alloc {w W : World} (h : Kn w W) (o : Obj) : Kn w (W.alloc o) := h.step (alloc_below W o)
theorem Kn.start {w : World} (h : Laid w) : Kn w w := ⟨h, Below.refl _ _⟩

/-- SameInts of an own row and a literal. -/
theorem cS {W : World} {base : Nat} {A : Option Addr} {n c : Nat} (xs : List Int) (m : Nat) (hm : xs.length = m) (hm1 : m ≤ 1000) (h : Out .i64 3 W base A n c xs) :
    Calls Tryd.prog 10 #[.slice A n c, .slice (some ⟨W.heap.size, 0, none⟩) m m] (W.alloc (.cells (xs.map (Value.int .i64)).toArray 3)) fun e w' => e = .returned (.bool true) ∧ Below (W.alloc (.cells (xs.map (Value.int .i64)).toArray 3)).heap.size (W.alloc (.cells (xs.map (Value.int .i64)).toArray 3)) w' :=
  sameInts_any _ _ _ _ _ _ xs _ _ _ (h.below (alloc_below W _) (Nat.le_refl _)).rd (rd_lit .i64 3 W xs m hm hm1 h.2)

set_option maxRecDepth 100000 in
set_option maxHeartbeats 2000000 in
theorem alive_any (w : World) (hg : Laid w) : Calls Tryd.prog 7 #[] w fun e w' => e = .returned (.bool true) ∧ Below w.heap.size w w' := by
  obtain ⟨ta, va, ha⟩ := isC_any 13 [2]
  obtain ⟨tb, vb, hb⟩ := isC_any 13 [7, 2]
  have hb' : IsC 13 (wrapL [2] 7) tb vb := hb
  have hR : AllR [7, 2] := ⟨by decide, by decide⟩
  have k := Kn.start hg
  clear hg
  go_enter Tryd.func7, Tryd.ntmps7
  go_wp2_with fail
  with_reducible refine (fault_at ha (by decide) (by decide) _).mono ?_
  rintro ev w1 ⟨rfl, rfl⟩
  go_wp2_with fail
  with_reducible refine (wrap_at 7 ha tb vb hb' _).mono ?_
  rintro ev w1 ⟨rfl, rfl⟩
  go_wp2_with fail
  with_reducible refine (fault_no 2 0 _ (.inr rfl)).mono ?_
  rintro ev w1 ⟨rfl, rfl⟩
  go_wp2_with fail
  with_reducible refine (fault_no 99 13 _ (.inl (by decide))).mono ?_
  rintro ev w1 ⟨rfl, rfl⟩
  go_wp2_with fail
  with_reducible refine (n_route _).mono ?_
  rintro ev w1 ⟨rfl, hb1⟩
  replace k := k.step hb1
  clear hb1
  go_wp2_with fail
  with_reducible refine (n_what _).mono ?_
  rintro ev w2 ⟨rfl, hb1⟩
  replace k := k.step hb1
  clear hb1
  go_wp2_with fail
  with_reducible refine (errno_at hb _ k.laid).mono ?_
  rintro ev w3 ⟨rfl, hb1⟩
  replace k := k.step hb1
  clear hb1
  go_wp2_with fail
  with_reducible refine (errno_nil _).mono ?_
  rintro ev w4 ⟨rfl, hb1⟩
  replace k := k.step hb1
  clear hb1
  go_wp2_with fail
  with_reducible refine (reason_at hb _ k.laid).mono ?_
  rintro ev w5 ⟨rfl, hb1⟩
  replace k := k.step hb1
  clear hb1
  go_wp2_with fail
  with_reducible refine (all_at hb hR _).mono ?_
  rintro ev w6 ⟨A, n, c, rfl, o1, hb1⟩
  replace k := k.step hb1
  clear hb1
  go_wp2_with fail
  refine (cS [7, 2] 2 rfl (by omega) o1).mono ?_
  rintro ev w7 ⟨rfl, hb1⟩
  replace k := (k.alloc _).step hb1
  clear hb1 o1
  go_wp2_with fail
  with_reducible refine (whyIs_at _ hb _).mono ?_
  rintro ev w8 ⟨rfl, hb1⟩
  replace k := k.step hb1
  clear hb1
  go_wp2_with fail
  with_reducible refine (whyIs_at _ hb _).mono ?_
  rintro ev w9 ⟨rfl, hb1⟩
  replace k := k.step hb1
  clear hb1
  go_wp2_with fail
  with_reducible refine (r_frag _ k.laid).mono ?_
  rintro ev w10 ⟨rfl, hb1⟩
  replace k := k.step hb1
  clear hb1
  go_wp2_with fail
  with_reducible refine (w_old _).mono ?_
  rintro ev w11 ⟨rfl, hb1⟩
  replace k := k.step hb1
  clear hb1
  go_wp2_with fail
  go_ret
  exact ⟨rfl, k.below⟩
end Go.Proofs.YtmapfpjinfjojaaDoor
