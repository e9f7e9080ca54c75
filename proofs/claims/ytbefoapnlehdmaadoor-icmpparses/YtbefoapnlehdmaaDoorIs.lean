/-
  errors.Is at a target of type api.Errno, for every row of faults; Is.
-/
import Derived.Test.YtbefoapnlehdmaaDoorAs2
namespace Go.Proofs.YtbefoapnlehdmaaDoor
open Go.RowKit Go.Extern.Stop Go.Stop Go.Extern

theorem comp22 : (Tryd.prog.info? 34).map (·.comparable) = some true := by kernel_rfl
theorem eql22 (a b : Int) (w : World) : (binOp .eql 29 (.iface 34 (.int .i64 a)) (.iface 34 (.int .i64 b))).run Tryd.prog w = .ok (.bool (a == b)) w := by
  obtain ⟨i, hi, hcmp⟩ := Option.map_eq_some_iff.1 comp22
  have h1 : ∀ d : Nat, (Op.equalIn (d + 1) 34 (.int .i64 a) (.int .i64 b)).run Tryd.prog w = .ok (a == b) w := fun d => by simp [Op.equalIn, run_underlying Tryd.underlying34]
  have h : ∀ d : Nat, (Op.equalIn (d + 2) 29 (.iface 34 (.int .i64 a)) (.iface 34 (.int .i64 b))).run Tryd.prog w = .ok (a == b) w := fun d => by
    simp [Op.equalIn, run_underlying Tryd.underlying29, run_underlying Tryd.underlying34, typeInfo, hi, hcmp]
  simp only [binOp]
  simp [Op.equal, Op.maxDepth, h 9998]
theorem eql5322 (v : Value) (b : Int) (w : World) : (binOp .eql 29 (.iface 100 v) (.iface 34 (.int .i64 b))).run Tryd.prog w = .ok (.bool false) w :=
  run_eql_iface_types (P := Tryd.prog) 100 34 v _ Tryd.underlying29 (by decide) w
/-- The model's entry for (rtype).Comparable, by a name. -/
def cmpSem : Array Value → Sem Value := ReflectliteType.method fun t => do Rtype.noPackHeld "Comparable" t; pure (.bool (← typeInfo t).comparable)
theorem comparable22 (w : World) : (cmpSem #[.agg #[.pointer (some ⟨1, 34, none⟩)]]).run Tryd.prog w = .ok (.bool true) w := by kernel_rfl

set_option maxHeartbeats 4000000 in
theorem is_any (e o : Int) (rs : List Int) (w : World) :
    Calls Tryd.prog 71 #[chainV e rs, .iface 34 (.int .i64 o), .bool true] w fun ev w' => ev = .returned (.bool (e == o)) ∧ Below w.heap.size w w' := by
  have f0 := eql22
  have f1 := eql5322
  have f2 := noIs22
  have f3 := noIs53
  have f4 := noUnwrap22
  have f5 := noUnwraps22
  have f7 := hasUnwrap53
  have f8 := methodUnwrap
  go_enter Tryd.func71, Tryd.ntmps71
  go_wp2
  go_loopw [0] (fun x wr => ∃ rs', x = chainV e rs' ∧ Below w.heap.size w wr) (fun x _ => depthOf e x)
  case atStart => exact ⟨rs, rfl, Below.refl _ _⟩
  case round =>
    obtain ⟨rs', rfl, hb⟩ := hrel
    have hsz := hb.size
    have Hb := Lib.hid hb; clear hb
    cases rs' with
    | nil =>
      rw [chainV_nil]
      by_cases he : (e == o) = true
      · go_wp2
        go_ret
        exact ⟨ret_bool he.symm, Hb.out⟩
      · have he : (e == o) = false := by simpa using he
        go_wp2
        go_ret
        exact ⟨ret_bool he.symm, Hb.out⟩
    | cons r rs' =>
      rw [chainV_cons]
      have Hd := Lib.hid (depthOf_chain e rs')
      have Hd' := Lib.hid (depthOf_chain e (r :: rs'))
      obtain ⟨tt, v, hv⟩ := chainV_form e rs'
      rw [hv]
      have Hv := Lib.hid hv; clear hv
      go_wp2_with (go_at_call 102; refine (unwrap_any _ _ _ _).mono ?_; rintro ev w1 ⟨rfl, hb1⟩)
      go_roundw
      case rel => exact ⟨rs', Hv.out.symm, Hb.out.trans (hb1.mono (by omega))⟩
      case measure => rw [← Hv.out, ← chainV_cons, Hd.out, Hd'.out]; simp

set_option maxHeartbeats 4000000 in
theorem Is_chain (e o : Int) (rs : List Int) (w : World) :
    Calls Tryd.prog 54 #[chainV e rs, .iface 34 (.int .i64 o)] w fun ev w' => ev = .returned (.bool (e == o)) ∧ Below w.heap.size w w' := by
  have h38 := @run_callFunc_extern Tryd.prog 70 _ ReflectliteType.typeOf Tryd.func70 (by kernel_rfl) (by kernel_rfl) (by kernel_rfl) (by kernel_rfl)
  have h67 := @run_callFunc_extern Tryd.prog 108 _ cmpSem Tryd.func108 (by kernel_rfl) (by kernel_rfl) (by kernel_rfl) (by kernel_rfl)
  have f1 := typeOf22
  have f2 := methodComparable
  have f3 := comparable22
  have C1 := fun W => Lib.hid (is_any e o rs W)
  obtain ⟨tt, v, hv⟩ := chainV_form e rs
  rw [hv]
  rw [hv] at C1
  clear hv
  go_enter Tryd.func54, Tryd.ntmps54
  go_wp2_with (go_at_call 71; refine (C1 _).out.mono ?_; rintro ev w1 ⟨rfl, hb⟩)
  go_ret
  exact ⟨rfl, hb⟩
theorem Is_nil (o : Int) (w : World) : Calls Tryd.prog 54 #[.nilIface, .iface 34 (.int .i64 o)] w fun ev w' => ev = .returned (.bool false) ∧ Below w.heap.size w w' := by
  have hn := run_eql_iface_nil_left (P := Tryd.prog) w 34 (.int .i64 o) Tryd.underlying29
  go_enter Tryd.func54, Tryd.ntmps54
  go_wp2
  go_ret
  exact ⟨rfl, Below.refl _ _⟩
/-- why.Is. -/
theorem whyIs_chain (e o : Int) (rs : List Int) (w : World) :
    Calls Tryd.prog 32 #[chainV e rs, .int .i64 o] w fun ev w' => ev = .returned (.bool (e == o)) ∧ Below w.heap.size w w' := by
  have C1 := fun W => Lib.hid (Is_chain e o rs W)
  obtain ⟨tt, v, hv⟩ := chainV_form e rs
  rw [hv]
  rw [hv] at C1
  clear hv
  go_enter Tryd.func32, Tryd.ntmps32
  go_wp2_with (go_at_call 54; refine (C1 _).out.mono ?_; rintro ev w1 ⟨rfl, hb⟩)
  go_ret
  exact ⟨rfl, hb⟩
theorem whyIs_nil (o : Int) (w : World) :
    Calls Tryd.prog 32 #[.nilIface, .int .i64 o] w fun ev w' => ev = .returned (.bool false) ∧ Below w.heap.size w w' := by
  go_enter Tryd.func32, Tryd.ntmps32
  go_wp2_with (go_at_call 54; refine (Is_nil _ _).mono ?_; rintro ev w1 ⟨rfl, hb⟩)
  go_ret
  exact ⟨rfl, hb⟩
end Go.Proofs.YtbefoapnlehdmaaDoor
