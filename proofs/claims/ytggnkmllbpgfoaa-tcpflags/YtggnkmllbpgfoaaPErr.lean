/-
  Errors: chains of faults, errors.Is at a target of type api.Errno, why.Is, Fault.
-/
import Derived.LaidEql
import Derived.Outline
import Derived.RowKitTokens
import Derived.Stop.Asserts
import Derived.Test.YtggnkmllbpgfoaaBase
import Derived.Test.YtggnkmllbpgfoaaProg
namespace Go.Proofs.Ytggnkmllbpgfoaa
open Go.Extern Go.Extern.Stop Go.RowKit Go.Stop
set_option linter.unusedVariables false

theorem ret_int {k : IntKind} {a b : Int} (h : a = b) : Ending.returned (.int k a) = .returned (.int k b) := by rw [h]
theorem ret_bool {a b : Bool} (h : a = b) : Ending.returned (.bool a) = .returned (.bool b) := by rw [h]
/-- Is there such a reason? -/
def isR (n : Int) : Bool := decide (1 ≤ n) && decide (n ≤ 19)
theorem isR_yes {n : Int} (h : isR n = true) : 1 ≤ n ∧ n ≤ 19 := by simpa [isR] using h
theorem isR_no {n : Int} (h : isR n = false) : n < 1 ∨ 19 < n := by
  by_cases h1 : 1 ≤ n
  · right; by_cases h2 : n ≤ 19
    · simp [isR, h1, h2] at h
    · omega
  · left; omega

theorem isReason_any (n : Int) (w : World) : Calls Try.prog 23 #[.int .i64 n] w fun e w' => e = .returned (.bool (isR n)) ∧ w = w' := by
  go_enter Try.func23, Try.ntmps23
  go_wp2
  all_goals
    go_ret
    refine ⟨ret_bool ?_, rfl⟩
    unfold isR
    simp_all
    try omega

/-- An error of api's, wrapped by reasons, the outermost first. -/
def chainV (e : Int) : List Int → Value
  | [] => .iface 40 (.int .i64 e)
  | r :: rs => .iface 54 (.agg #[.int .i64 r, chainV e rs])
theorem chainV_nil (e : Int) : chainV e [] = .iface 40 (.int .i64 e) := rfl
theorem chainV_cons (e r : Int) (rs : List Int) : chainV e (r :: rs) = .iface 54 (.agg #[.int .i64 r, chainV e rs]) := rfl
theorem chainV_form (e : Int) (rs : List Int) : ∃ t v, chainV e rs = .iface t v := by
  cases rs with
  | nil => exact ⟨_, _, rfl⟩
  | cons r rs => exact ⟨_, _, rfl⟩

theorem methodComparable (h : Value) (w : World) : (Go.method 210 67 (.agg #[h]) "Comparable").run Try.prog w = .ok (52, .agg #[h]) w := by kernel_rfl
theorem methodUnwrap (v : Value) (w : World) : (Go.method 210 54 v "Unwrap").run Try.prog w = .ok (48, v) w := by kernel_rfl
theorem typeOf22 (v : Value) (w : World) : (ReflectliteType.typeOf #[.iface 40 v]).run Try.prog w = .ok (.iface 67 (.agg #[.pointer (some ⟨0, 40, none⟩)])) w := by kernel_rfl
theorem noIs22 (v : Value) (xT : TypeId) (w : World) : (Instr.typeAssert (.iface 40 v) xT 69 true).run Try.prog w = .ok (.tuple #[.nilIface, .bool false]) w := run_typeAssert_lacksB Try.underlying69 (by kernel_rfl) (by kernel_rfl) v xT w
theorem noIs53 (v : Value) (xT : TypeId) (w : World) : (Instr.typeAssert (.iface 54 v) xT 69 true).run Try.prog w = .ok (.tuple #[.nilIface, .bool false]) w := run_typeAssert_lacksB Try.underlying69 (by kernel_rfl) (by kernel_rfl) v xT w
theorem noUnwrap22 (v : Value) (xT : TypeId) (w : World) : (Instr.typeAssert (.iface 40 v) xT 72 true).run Try.prog w = .ok (.tuple #[.nilIface, .bool false]) w := run_typeAssert_lacksB Try.underlying72 (by kernel_rfl) (by kernel_rfl) v xT w
theorem noUnwraps22 (v : Value) (xT : TypeId) (w : World) : (Instr.typeAssert (.iface 40 v) xT 74 true).run Try.prog w = .ok (.tuple #[.nilIface, .bool false]) w := run_typeAssert_lacksB Try.underlying74 (by kernel_rfl) (by kernel_rfl) v xT w
theorem hasUnwrap53 (v : Value) (xT : TypeId) (w : World) : (Instr.typeAssert (.iface 54 v) xT 72 true).run Try.prog w = .ok (.tuple #[.iface 54 v, .bool true]) w := run_typeAssert_hasB Try.underlying72 (by kernel_rfl) v xT w

/-- (fault).Unwrap. -/
theorem unwrap_any (r : Int) (t : TypeId) (v : Value) (w : World) : Calls Try.prog 48 #[.agg #[.int .i64 r, .iface t v]] w fun e w' => e = .returned (.iface t v) ∧ Below w.heap.size w w' := by
  go_enter Try.func48, Try.ntmps48
  go_wp2
  go_ret
  exact ⟨rfl, (Below.refl _ w).alloc (Nat.le_refl _) _⟩
theorem chainV_inj (e : Int) : ∀ {rs rs' : List Int}, chainV e rs = chainV e rs' → rs = rs'
  | [], [], _ => rfl
  | [], _ :: _, h => by simp [chainV] at h
  | _ :: _, [], h => by simp [chainV] at h
  | r :: rs, r' :: rs', h => by
    simp [chainV] at h
    rw [h.1, chainV_inj e h.2]
open Classical in
/-- How many reasons are left. -/
noncomputable def depthOf (e : Int) (x : Value) : Nat := if h : ∃ rs, x = chainV e rs then (Classical.choose h).length else 0
theorem depthOf_chain (e : Int) (rs : List Int) : depthOf e (chainV e rs) = rs.length := by
  have h : ∃ rs', chainV e rs = chainV e rs' := ⟨rs, rfl⟩
  unfold depthOf
  rw [dif_pos h, ← chainV_inj e (Classical.choose_spec h)]

theorem alloc_below (W : World) (o : Obj) : Below W.heap.size W (W.alloc o) := (Below.refl _ W).alloc (Nat.le_refl _) o

theorem fault_yes (r e : Int) (w : World) (h : isR r = true) (he : ¬ e = 0) : Calls Try.prog 14 #[.int .i64 r, .int .i64 e] w fun ev w' => ev = .returned (chainV e [r]) ∧ w = w' := by
  rw [chainV_cons, chainV_nil]
  have he' : (e == 0) = false := by simpa using he
  clear he
  go_enter Try.func14, Try.ntmps14
  go_wp2_with (go_at_call 23; refine (isReason_any _ _).mono ?_; rintro e w' ⟨rfl, rfl⟩)
  go_ret
  exact ⟨rfl, rfl⟩
theorem comp22 : (Try.prog.info? 40).map (·.comparable) = some true := by kernel_rfl
theorem eql22 (a b : Int) (w : World) : (binOp .eql 29 (.iface 40 (.int .i64 a)) (.iface 40 (.int .i64 b))).run Try.prog w = .ok (.bool (a == b)) w := by
  obtain ⟨i, hi, hcmp⟩ := Option.map_eq_some_iff.1 comp22
  have h1 : ∀ d : Nat, (Op.equalIn (d + 1) 40 (.int .i64 a) (.int .i64 b)).run Try.prog w = .ok (a == b) w := fun d => by simp [Op.equalIn, run_underlying Try.underlying40]
  have h : ∀ d : Nat, (Op.equalIn (d + 2) 29 (.iface 40 (.int .i64 a)) (.iface 40 (.int .i64 b))).run Try.prog w = .ok (a == b) w := fun d => by
    simp [Op.equalIn, run_underlying Try.underlying29, run_underlying Try.underlying40, typeInfo, hi, hcmp]
  simp only [binOp]
  simp [Op.equal, Op.maxDepth, h 9998]
theorem eql5322 (v : Value) (b : Int) (w : World) : (binOp .eql 29 (.iface 54 v) (.iface 40 (.int .i64 b))).run Try.prog w = .ok (.bool false) w :=
  run_eql_iface_types (P := Try.prog) 54 40 v _ Try.underlying29 (by decide) w
/-- The model's entry for (rtype).Comparable, by a name. -/
def cmpSem : Array Value → Sem Value := ReflectliteType.method fun t => do Rtype.noPackHeld "Comparable" t; pure (.bool (← typeInfo t).comparable)
theorem comparable22 (w : World) : (cmpSem #[.agg #[.pointer (some ⟨0, 40, none⟩)]]).run Try.prog w = .ok (.bool true) w := by kernel_rfl

set_option maxHeartbeats 4000000 in
theorem is_any (e o : Int) (rs : List Int) (w : World) :
    Calls Try.prog 26 #[chainV e rs, .iface 40 (.int .i64 o), .bool true] w fun ev w' => ev = .returned (.bool (e == o)) ∧ Below w.heap.size w w' := by
  have f0 := eql22
  have f1 := eql5322
  have f2 := noIs22
  have f3 := noIs53
  have f4 := noUnwrap22
  have f5 := noUnwraps22
  have f7 := hasUnwrap53
  have f8 := methodUnwrap
  go_enter Try.func26, Try.ntmps26
  go_wp2
  go_loopw [0] (fun x wr => ∃ rs', x = chainV e rs' ∧ Below w.heap.size w wr) (fun x _ => depthOf e x)
  case atStart => exact ⟨rs, rfl, Below.refl _ _⟩
  case round =>
    obtain ⟨rs', rfl, hb⟩ := hrel
    have hsz := hb.size
    have Hb := Lib.hid hb; clear hb
    cases rs' with
    | nil =>
      rw [chainV_nil]
      by_cases he : (e == o) = true
      · go_wp2
        go_ret
        exact ⟨ret_bool he.symm, Hb.out⟩
      · have he : (e == o) = false := by simpa using he
        go_wp2
        go_ret
        exact ⟨ret_bool he.symm, Hb.out⟩
    | cons r rs' =>
      rw [chainV_cons]
      have Hd := Lib.hid (depthOf_chain e rs')
      have Hd' := Lib.hid (depthOf_chain e (r :: rs'))
      obtain ⟨tt, v, hv⟩ := chainV_form e rs'
      rw [hv]
      have Hv := Lib.hid hv; clear hv
      go_wp2_with (go_at_call 48; refine (unwrap_any _ _ _ _).mono ?_; rintro ev w1 ⟨rfl, hb1⟩)
      go_roundw
      case rel => exact ⟨rs', Hv.out.symm, Hb.out.trans (hb1.mono (by omega))⟩
      case measure => rw [← Hv.out, ← chainV_cons, Hd.out, Hd'.out]; simp

set_option maxHeartbeats 4000000 in
theorem Is_chain (e o : Int) (rs : List Int) (w : World) :
    Calls Try.prog 22 #[chainV e rs, .iface 40 (.int .i64 o)] w fun ev w' => ev = .returned (.bool (e == o)) ∧ Below w.heap.size w w' := by
  have h38 := @run_callFunc_extern Try.prog 25 _ ReflectliteType.typeOf Try.func25 (by kernel_rfl) (by kernel_rfl) (by kernel_rfl) (by kernel_rfl)
  have h67 := @run_callFunc_extern Try.prog 52 _ cmpSem Try.func52 (by kernel_rfl) (by kernel_rfl) (by kernel_rfl) (by kernel_rfl)
  have f1 := typeOf22
  have f2 := methodComparable
  have f3 := comparable22
  have C1 := fun W => Lib.hid (is_any e o rs W)
  obtain ⟨tt, v, hv⟩ := chainV_form e rs
  rw [hv]
  rw [hv] at C1
  clear hv
  go_enter Try.func22, Try.ntmps22
  go_wp2_with (go_at_call 26; refine (C1 _).out.mono ?_; rintro ev w1 ⟨rfl, hb⟩)
  go_ret
  exact ⟨rfl, hb⟩
/-- why.Is. -/
theorem whyIs_chain (e o : Int) (rs : List Int) (w : World) :
    Calls Try.prog 12 #[chainV e rs, .int .i64 o] w fun ev w' => ev = .returned (.bool (e == o)) ∧ Below w.heap.size w w' := by
  have C1 := fun W => Lib.hid (Is_chain e o rs W)
  obtain ⟨tt, v, hv⟩ := chainV_form e rs
  rw [hv]
  rw [hv] at C1
  clear hv
  go_enter Try.func12, Try.ntmps12
  go_wp2_with (go_at_call 22; refine (C1 _).out.mono ?_; rintro ev w1 ⟨rfl, hb⟩)
  go_ret
  exact ⟨rfl, hb⟩
end Go.Proofs.Ytggnkmllbpgfoaa
