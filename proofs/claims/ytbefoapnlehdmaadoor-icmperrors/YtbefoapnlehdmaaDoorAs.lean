/-
  errors.as at the target *api.Errno, for every row of faults.
-/
import Derived.Test.YtbefoapnlehdmaaDoorSet
namespace Go.Proofs.YtbefoapnlehdmaaDoor
open Go.RowKit Go.Extern.Stop Go.Stop Go.Extern

theorem chainV_inj (e : Int) : ∀ {rs rs' : List Int}, chainV e rs = chainV e rs' → rs = rs'
  | [], [], _ => rfl
  | [], _ :: _, h => by simp [chainV] at h
  | _ :: _, [], h => by simp [chainV] at h
  | r :: rs, r' :: rs', h => by
    simp [chainV] at h
    rw [h.1, chainV_inj e h.2]
open Classical in
/-- How many reasons are left. -/
noncomputable def depthOf (e : Int) (x : Value) : Nat := if h : ∃ rs, x = chainV e rs then (Classical.choose h).length else 0
theorem depthOf_chain (e : Int) (rs : List Int) : depthOf e (chainV e rs) = rs.length := by
  have h : ∃ rs', chainV e rs = chainV e rs' := ⟨rs, rfl⟩
  unfold depthOf
  rw [dif_pos h, ← chainV_inj e (Classical.choose_spec h)]

/-- What a call that sets one cell leaves. -/
def Sets (w : World) (t : Addr) (v : Value) (w' : World) : Prop := ∃ w1, Below w.heap.size w w1 ∧ w' = w1.setCell t v
theorem cell_lt {w : World} {a : Addr} {v : Value} (h : w.cell? a = some v) : a.block < w.heap.size := World.block_lt_of_cell? w _ h

set_option maxHeartbeats 4000000 in
theorem as22_any (e : Int) (rs : List Int) (t a : Addr) (old : Value) (w : World) (ha : w.cell? a = some (.pointer (some t))) (ht : w.cell? t = some old) (hf : w.frozen? t = false) :
    Calls Tryd.prog 75 #[chainV e rs, .iface 106 (.pointer (some t)), .agg #[.pointer (some ⟨1, 106, none⟩), .pointer (some a), .int .u64 150], .iface 134 (.agg #[.pointer (some ⟨1, 34, none⟩)])] w
      fun ev w' => ev = .returned (.bool true) ∧ Sets w t (.int .i64 e) w' := by
  have hla := cell_lt ha
  have hlt := cell_lt ht
  have h32 := @run_callFunc_extern Tryd.prog 72 _ (fun args => ReflectliteValue.unpack (args.getD 0 (.tuple #[]))) Tryd.func72 (by kernel_rfl) (by kernel_rfl) (by kernel_rfl) (by kernel_rfl)
  have h38 := @run_callFunc_extern Tryd.prog 70 _ ReflectliteType.typeOf Tryd.func70 (by kernel_rfl) (by kernel_rfl) (by kernel_rfl) (by kernel_rfl)
  have h66 := @run_callFunc_extern Tryd.prog 107 _ (ReflectliteType.relation "AssignableTo" ReflectliteType.assignableTo) Tryd.func107 (by kernel_rfl) (by kernel_rfl) (by kernel_rfl) (by kernel_rfl)
  have h40 := @run_callFunc_extern Tryd.prog 81 _ (ReflectliteValue.method (ReflectliteValue.valueError "reflectlite.Value.Elem" 0) ReflectliteValue.elem) Tryd.func81 (by kernel_rfl) (by kernel_rfl) (by kernel_rfl) (by kernel_rfl)
  have h41 := @run_callFunc_extern Tryd.prog 82 _ ReflectliteValue.set Tryd.func82 (by kernel_rfl) (by kernel_rfl) (by kernel_rfl) (by kernel_rfl)
  have f1 := typeOf22
  have f2 := typeOf53
  have f3 := methodAssignableTo
  have f4 := assign2222
  have f5 := assign5322
  have f6 := noAs53
  have f7 := hasUnwrap53
  have f8 := methodUnwrap
  have f9 := valueOf22
  go_enter Tryd.func75, Tryd.ntmps75
  go_wp2
  go_loopw [0] (fun x wr => ∃ rs', x = chainV e rs' ∧ Below (w.heap.size + 1) (w.alloc (.cells #[.pointer (some ⟨1, 106, none⟩), .pointer (some a), .int .u64 150] 123)) wr) (fun x _ => depthOf e x)
  case atStart => exact ⟨rs, rfl, Below.refl _ _⟩
  case round =>
    obtain ⟨rs', rfl, hb⟩ := hrel
    have c0 : wr.cell? ⟨w.heap.size, 0, none⟩ = some (.pointer (some ⟨1, 106, none⟩)) := by rw [hb.cell (by simp)]; simp
    have c1 : wr.cell? ⟨w.heap.size, 1, none⟩ = some (.pointer (some a)) := by rw [hb.cell (by simp)]; simp
    have c2 : wr.cell? ⟨w.heap.size, 2, none⟩ = some (.int .u64 150) := by rw [hb.cell (by simp)]; simp
    have ca : wr.cell? a = some (.pointer (some t)) := by rw [hb.cell (by omega), World.cell?_alloc_lt _ _ _ hla]; exact ha
    have ct : wr.cell? t = some old := by rw [hb.cell (by omega), World.cell?_alloc_lt _ _ _ hlt]; exact ht
    have cf : wr.frozen? t = false := by rw [hb.frozen (by omega), World.frozen?_alloc_old _ _ _ (by omega)]; exact hf
    have hsz := hb.size
    simp at hsz
    have Hb := Lib.hid hb; clear hb
    cases rs' with
    | nil =>
      rw [chainV_nil]
      have el := elemV50 a t wr ca
      have st := set22 t ⟨wr.heap.size, 0, none⟩ e old (wr.alloc (.cells #[.int .i64 e] 34)) (by simp) (by rw [World.cell?_alloc_lt _ _ _ (by omega)]; exact ct) (by rw [World.frozen?_alloc_old _ _ _ (by omega)]; exact cf)
      go_wp2
      go_ret
      refine ⟨rfl, _, ?_, rfl⟩
      exact (((Below.refl _ w).alloc (Nat.le_refl _) _).trans (Hb.out.mono (by omega))).alloc (by omega) _
    | cons r rs' =>
      rw [chainV_cons]
      have Hd := Lib.hid (depthOf_chain e rs')
      have Hd' := Lib.hid (depthOf_chain e (r :: rs'))
      obtain ⟨tt, v, hv⟩ := chainV_form e rs'
      rw [hv]
      have Hv := Lib.hid hv; clear hv
      go_wp2_with (go_at_call 102; refine (unwrap_any _ _ _ _).mono ?_; rintro ev w1 ⟨rfl, hb1⟩)
      go_roundw
      case rel => exact ⟨rs', Hv.out.symm, Hb.out.trans (hb1.mono (by omega))⟩
      case measure => rw [← Hv.out, ← chainV_cons, Hd.out, Hd'.out]; simp
end Go.Proofs.YtbefoapnlehdmaaDoor
