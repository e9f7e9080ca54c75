/-
  errors.as at the target *fault; errors.As at both targets.
-/
import Derived.Test.YtbefoapnlehdmaaDoorAs
import Derived.Test.YtbefoapnlehdmaaDoorSet2
namespace Go.Proofs.YtbefoapnlehdmaaDoor
open Go.RowKit Go.Extern.Stop Go.Stop Go.Extern

set_option maxHeartbeats 4000000 in
theorem as53_miss (e : Int) (t a : Addr) (w : World) :
    Calls Tryd.prog 75 #[.iface 34 (.int .i64 e), .iface 102 (.pointer (some t)), .agg #[.pointer (some ⟨1, 102, none⟩), .pointer (some a), .int .u64 150], .iface 134 (.agg #[.pointer (some ⟨1, 100, none⟩)])] w
      fun ev w' => ev = .returned (.bool false) ∧ Below w.heap.size w w' := by
  have h38 := @run_callFunc_extern Tryd.prog 70 _ ReflectliteType.typeOf Tryd.func70 (by kernel_rfl) (by kernel_rfl) (by kernel_rfl) (by kernel_rfl)
  have h66 := @run_callFunc_extern Tryd.prog 107 _ (ReflectliteType.relation "AssignableTo" ReflectliteType.assignableTo) Tryd.func107 (by kernel_rfl) (by kernel_rfl) (by kernel_rfl) (by kernel_rfl)
  have f1 := typeOf22
  have f3 := methodAssignableTo
  have f4 := assign2253
  have f6 := noAs22
  have f7 := noUnwrap22
  have f8 := noUnwraps22
  go_enter Tryd.func75, Tryd.ntmps75
  go_wp2
  refine wp_loop_rounds 1 ?_
  rw [rounds_succ]
  go_wp2
  go_ret
  exact ⟨rfl, (Below.refl _ w).alloc (Nat.le_refl _) _⟩

/-- What setting a fault leaves. -/
def Sets2 (w : World) (tb : Nat) (x : Value) (w' : World) : Prop := w'.cell? ⟨tb, 0, none⟩ = some x ∧ Below tb w w'
set_option maxHeartbeats 4000000 in
theorem as53_hit (r : Int) (tt : TypeId) (v : Value) (tb : Nat) (a : Addr) (o1 o2 : Value) (w : World) (ha : w.cell? a = some (.pointer (some ⟨tb, 0, none⟩)))
    (ht1 : w.cell? ⟨tb, 0, none⟩ = some o1) (ht2 : w.cell? ⟨tb, 1, none⟩ = some o2) (hf1 : w.frozen? ⟨tb, 0, none⟩ = false) (hf2 : w.frozen? ⟨tb, 1, none⟩ = false) :
    Calls Tryd.prog 75 #[.iface 100 (.agg #[.int .i64 r, .iface tt v]), .iface 102 (.pointer (some ⟨tb, 0, none⟩)), .agg #[.pointer (some ⟨1, 102, none⟩), .pointer (some a), .int .u64 150], .iface 134 (.agg #[.pointer (some ⟨1, 100, none⟩)])] w
      fun ev w' => ev = .returned (.bool true) ∧ Sets2 w tb (.int .i64 r) w' := by
  have hla := cell_lt ha
  have hlt : tb < w.heap.size := cell_lt ht1
  have h32 := @run_callFunc_extern Tryd.prog 72 _ (fun args => ReflectliteValue.unpack (args.getD 0 (.tuple #[]))) Tryd.func72 (by kernel_rfl) (by kernel_rfl) (by kernel_rfl) (by kernel_rfl)
  have h38 := @run_callFunc_extern Tryd.prog 70 _ ReflectliteType.typeOf Tryd.func70 (by kernel_rfl) (by kernel_rfl) (by kernel_rfl) (by kernel_rfl)
  have h66 := @run_callFunc_extern Tryd.prog 107 _ (ReflectliteType.relation "AssignableTo" ReflectliteType.assignableTo) Tryd.func107 (by kernel_rfl) (by kernel_rfl) (by kernel_rfl) (by kernel_rfl)
  have h40 := @run_callFunc_extern Tryd.prog 81 _ (ReflectliteValue.method (ReflectliteValue.valueError "reflectlite.Value.Elem" 0) ReflectliteValue.elem) Tryd.func81 (by kernel_rfl) (by kernel_rfl) (by kernel_rfl) (by kernel_rfl)
  have h41 := @run_callFunc_extern Tryd.prog 82 _ ReflectliteValue.set Tryd.func82 (by kernel_rfl) (by kernel_rfl) (by kernel_rfl) (by kernel_rfl)
  have f2 := typeOf53
  have f3 := methodAssignableTo
  have f4 := assign5353
  have f9 := valueOf53
  have el := elemV57 a ⟨tb, 0, none⟩ (w.alloc (.cells #[.pointer (some ⟨1, 102, none⟩), .pointer (some a), .int .u64 150] 123)) (by rw [World.cell?_alloc_lt _ _ _ hla]; exact ha)
  have st := set53 tb (w.heap.size + 1) r tt v o1 o2 ((w.alloc (.cells #[.pointer (some ⟨1, 102, none⟩), .pointer (some a), .int .u64 150] 123)).alloc (.cells #[.int .i64 r, .iface tt v] 100))
    (by rw [World.cell?_alloc_at _ _ _ _ (by simp)]; rfl) (by rw [World.cell?_alloc_at _ _ _ _ (by simp)]; rfl)
    (by rw [World.cell?_alloc_lt _ _ _ (by simp; omega), World.cell?_alloc_lt _ _ _ hlt]; exact ht1) (by rw [World.cell?_alloc_lt _ _ _ (by simp; omega), World.cell?_alloc_lt _ _ _ hlt]; exact ht2)
    (by rw [World.frozen?_alloc_old _ _ _ (by simp; omega), World.frozen?_alloc_old _ _ _ (by simp; omega)]; exact hf1) (by rw [World.frozen?_alloc_old _ _ _ (by simp; omega), World.frozen?_alloc_old _ _ _ (by simp; omega)]; exact hf2)
  go_enter Tryd.func75, Tryd.ntmps75
  go_wp2
  refine wp_loop_rounds 1 ?_
  rw [rounds_succ]
  go_wp2
  go_ret
  refine ⟨rfl, ?_, ((((Below.refl tb w).setCell (Nat.le_refl _) _).setCell (Nat.le_refl _) _).alloc (by simp; omega) _).alloc (by simp; omega) _⟩
  rw [World.cell?_alloc_lt _ _ _ (by simp; omega), World.cell?_alloc_lt _ _ _ (by simp; omega), World.cell?_setCell_other _ _ _ _ (by simp), World.cell?_setCell_same _ _ _ ht1]

theorem As_nil (t : Value) (w : World) : Calls Tryd.prog 55 #[.nilIface, t] w fun e w' => e = .returned (.bool false) ∧ w = w' := by
  go_enter Tryd.func55, Tryd.ntmps55
  go_wp2
  go_ret
  exact ⟨rfl, rfl⟩
/-- The package variable errors.errorType, as the program's text lays it. -/
def Laid (w : World) : Prop := w.cell? ⟨0, 0, none⟩ = some (.iface 134 (.agg #[.pointer (some ⟨1, 29, none⟩)]))

set_option maxHeartbeats 4000000 in
theorem As22_any (e : Int) (rs : List Int) (t : Addr) (old : Value) (w : World) (hg : Laid w) (ht : w.cell? t = some old) (hf : w.frozen? t = false) :
    Calls Tryd.prog 55 #[chainV e rs, .iface 106 (.pointer (some t))] w fun ev w' => ev = .returned (.bool true) ∧ Sets w t (.int .i64 e) w' := by
  have hlt := cell_lt ht
  have hl0 : 0 < w.heap.size := cell_lt hg
  have h32 := @run_callFunc_extern Tryd.prog 72 _ (fun args => ReflectliteValue.unpack (args.getD 0 (.tuple #[]))) Tryd.func72 (by kernel_rfl) (by kernel_rfl) (by kernel_rfl) (by kernel_rfl)
  have h33 := @run_callFunc_extern Tryd.prog 73 _ (ReflectliteValue.methodAny (ReflectliteValue.valueError "reflectlite.Value.Type" 0) (fun t _ _ _ => ReflectliteType.toType t)) Tryd.func73 (by kernel_rfl) (by kernel_rfl) (by kernel_rfl) (by kernel_rfl)
  have h34 := @run_callFunc_extern Tryd.prog 74 _ (ReflectliteValue.method (ReflectliteValue.valueError "reflectlite.Value.IsNil" 0) ReflectliteValue.isNil) Tryd.func74 (by kernel_rfl) (by kernel_rfl) (by kernel_rfl) (by kernel_rfl)
  have h56 := @run_callFunc_extern Tryd.prog 97 _ (ReflectliteType.abiMethod fun t => do pure (.int .u8 (← Rtype.kind t))) Tryd.func97 (by kernel_rfl) (by kernel_rfl) (by kernel_rfl) (by kernel_rfl)
  have h68 := @run_callFunc_extern Tryd.prog 109 _ (ReflectliteType.method ReflectliteType.elem) Tryd.func109 (by kernel_rfl) (by kernel_rfl) (by kernel_rfl) (by kernel_rfl)
  have h69 := @run_callFunc_extern Tryd.prog 110 _ (ReflectliteType.relation "Implements" ReflectliteType.implements_) Tryd.func110 (by kernel_rfl) (by kernel_rfl) (by kernel_rfl) (by kernel_rfl)
  have f1 := valueOf50
  have f2 := type50
  have f3 := methodKind
  have f4 := methodElem
  have f5 := methodImplements
  have f6 := kind50
  have f7 := kind22
  have f8 := elem50
  have f9 := implements22
  have n8 := isNil50 ⟨w.heap.size, 0, none⟩ t ((w.alloc (.cells #[.pointer (some t)] 106)).alloc (.cells #[.pointer (some ⟨1, 106, none⟩), .pointer (some ⟨w.heap.size, 0, none⟩), .int .u64 150] 123)) (by simp)
  have hg2 : ((w.alloc (.cells #[.pointer (some t)] 106)).alloc (.cells #[.pointer (some ⟨1, 106, none⟩), .pointer (some ⟨w.heap.size, 0, none⟩), .int .u64 150] 123)).cell? ⟨0, 0, none⟩ = some (.iface 134 (.agg #[.pointer (some ⟨1, 29, none⟩)])) := by
    rw [World.cell?_alloc_lt _ _ ⟨0, 0, none⟩ (by simp), World.cell?_alloc_lt _ _ ⟨0, 0, none⟩ hl0]; exact hg
  have c1 := as22_any e rs t ⟨w.heap.size, 0, none⟩ old ((w.alloc (.cells #[.pointer (some t)] 106)).alloc (.cells #[.pointer (some ⟨1, 106, none⟩), .pointer (some ⟨w.heap.size, 0, none⟩), .int .u64 150] 123))
    (by rw [World.cell?_alloc_lt _ _ _ (by simp)]; simp) (by rw [World.cell?_alloc_lt _ _ _ (by simp; omega), World.cell?_alloc_lt _ _ _ hlt]; exact ht) (by rw [World.frozen?_alloc_old _ _ _ (by simp; omega), World.frozen?_alloc_old _ _ _ (by omega)]; exact hf)
  have C1 := Lib.hid c1; clear c1
  clear hg ht hf
  obtain ⟨tt, v, hv⟩ := chainV_form e rs
  rw [hv]
  rw [hv] at C1
  clear hv
  go_enter Tryd.func55, Tryd.ntmps55
  go_wp2_with (go_at_call 75; refine C1.out.mono ?_; rintro ev w1 ⟨rfl, w2, hb, rfl⟩)
  go_ret
  exact ⟨rfl, w2, (((Below.refl _ w).alloc (Nat.le_refl _) _).alloc (by simp) _).trans (hb.mono (by simp; omega)), rfl⟩
set_option maxHeartbeats 4000000 in
theorem As53_hit (r : Int) (tt : TypeId) (v : Value) (tb : Nat) (o1 o2 : Value) (w : World) (hg : Laid w) (ht : w.cell? ⟨tb, 0, none⟩ = some o1) (ht2 : w.cell? ⟨tb, 1, none⟩ = some o2) (hf : w.frozen? ⟨tb, 0, none⟩ = false) (hf2 : w.frozen? ⟨tb, 1, none⟩ = false) :
    Calls Tryd.prog 55 #[.iface 100 (.agg #[.int .i64 r, .iface tt v]), .iface 102 (.pointer (some ⟨tb, 0, none⟩))] w fun ev w' => ev = .returned (.bool true) ∧ Sets2 w tb (.int .i64 r) w' := by
  have hlt : tb < w.heap.size := cell_lt ht
  have hl0 : 0 < w.heap.size := cell_lt hg
  have h32 := @run_callFunc_extern Tryd.prog 72 _ (fun args => ReflectliteValue.unpack (args.getD 0 (.tuple #[]))) Tryd.func72 (by kernel_rfl) (by kernel_rfl) (by kernel_rfl) (by kernel_rfl)
  have h33 := @run_callFunc_extern Tryd.prog 73 _ (ReflectliteValue.methodAny (ReflectliteValue.valueError "reflectlite.Value.Type" 0) (fun t _ _ _ => ReflectliteType.toType t)) Tryd.func73 (by kernel_rfl) (by kernel_rfl) (by kernel_rfl) (by kernel_rfl)
  have h34 := @run_callFunc_extern Tryd.prog 74 _ (ReflectliteValue.method (ReflectliteValue.valueError "reflectlite.Value.IsNil" 0) ReflectliteValue.isNil) Tryd.func74 (by kernel_rfl) (by kernel_rfl) (by kernel_rfl) (by kernel_rfl)
  have h56 := @run_callFunc_extern Tryd.prog 97 _ (ReflectliteType.abiMethod fun t => do pure (.int .u8 (← Rtype.kind t))) Tryd.func97 (by kernel_rfl) (by kernel_rfl) (by kernel_rfl) (by kernel_rfl)
  have h68 := @run_callFunc_extern Tryd.prog 109 _ (ReflectliteType.method ReflectliteType.elem) Tryd.func109 (by kernel_rfl) (by kernel_rfl) (by kernel_rfl) (by kernel_rfl)
  have h69 := @run_callFunc_extern Tryd.prog 110 _ (ReflectliteType.relation "Implements" ReflectliteType.implements_) Tryd.func110 (by kernel_rfl) (by kernel_rfl) (by kernel_rfl) (by kernel_rfl)
  have f1 := valueOf57
  have f2 := type57
  have f3 := methodKind
  have f4 := methodElem
  have f5 := methodImplements
  have f6 := kind57
  have f7 := kind53
  have f8 := elem57
  have f9 := implements53
  have n8 := isNil57 ⟨w.heap.size, 0, none⟩ ⟨tb, 0, none⟩ ((w.alloc (.cells #[.pointer (some ⟨tb, 0, none⟩)] 102)).alloc (.cells #[.pointer (some ⟨1, 102, none⟩), .pointer (some ⟨w.heap.size, 0, none⟩), .int .u64 150] 123)) (by simp)
  have hg2 : ((w.alloc (.cells #[.pointer (some ⟨tb, 0, none⟩)] 102)).alloc (.cells #[.pointer (some ⟨1, 102, none⟩), .pointer (some ⟨w.heap.size, 0, none⟩), .int .u64 150] 123)).cell? ⟨0, 0, none⟩ = some (.iface 134 (.agg #[.pointer (some ⟨1, 29, none⟩)])) := by
    rw [World.cell?_alloc_lt _ _ ⟨0, 0, none⟩ (by simp), World.cell?_alloc_lt _ _ ⟨0, 0, none⟩ hl0]; exact hg
  have c1 := as53_hit r tt v tb ⟨w.heap.size, 0, none⟩ o1 o2 ((w.alloc (.cells #[.pointer (some ⟨tb, 0, none⟩)] 102)).alloc (.cells #[.pointer (some ⟨1, 102, none⟩), .pointer (some ⟨w.heap.size, 0, none⟩), .int .u64 150] 123))
    (by rw [World.cell?_alloc_lt _ _ _ (by simp)]; simp) (by rw [World.cell?_alloc_lt _ _ _ (by simp; omega), World.cell?_alloc_lt _ _ _ hlt]; exact ht) (by rw [World.cell?_alloc_lt _ _ _ (by simp; omega), World.cell?_alloc_lt _ _ _ hlt]; exact ht2) (by rw [World.frozen?_alloc_old _ _ _ (by simp; omega), World.frozen?_alloc_old _ _ _ (by simp; omega)]; exact hf) (by rw [World.frozen?_alloc_old _ _ _ (by simp; omega), World.frozen?_alloc_old _ _ _ (by simp; omega)]; exact hf2)
  have C1 := Lib.hid c1; clear c1
  clear hg ht hf ht2 hf2
  go_enter Tryd.func55, Tryd.ntmps55
  go_wp2_with (go_at_call 75; refine C1.out.mono ?_; rintro ev w1 ⟨rfl, hc, hb⟩)
  go_ret
  exact ⟨rfl, hc, (((Below.refl tb w).alloc (by omega) _).alloc (by simp; omega) _).trans hb⟩
set_option maxHeartbeats 4000000 in
theorem As53_miss (e : Int) (tb : Nat) (w : World) (hg : Laid w) :
    Calls Tryd.prog 55 #[.iface 34 (.int .i64 e), .iface 102 (.pointer (some ⟨tb, 0, none⟩))] w fun ev w' => ev = .returned (.bool false) ∧ Below w.heap.size w w' := by
  have hl0 : 0 < w.heap.size := cell_lt hg
  have h32 := @run_callFunc_extern Tryd.prog 72 _ (fun args => ReflectliteValue.unpack (args.getD 0 (.tuple #[]))) Tryd.func72 (by kernel_rfl) (by kernel_rfl) (by kernel_rfl) (by kernel_rfl)
  have h33 := @run_callFunc_extern Tryd.prog 73 _ (ReflectliteValue.methodAny (ReflectliteValue.valueError "reflectlite.Value.Type" 0) (fun t _ _ _ => ReflectliteType.toType t)) Tryd.func73 (by kernel_rfl) (by kernel_rfl) (by kernel_rfl) (by kernel_rfl)
  have h34 := @run_callFunc_extern Tryd.prog 74 _ (ReflectliteValue.method (ReflectliteValue.valueError "reflectlite.Value.IsNil" 0) ReflectliteValue.isNil) Tryd.func74 (by kernel_rfl) (by kernel_rfl) (by kernel_rfl) (by kernel_rfl)
  have h56 := @run_callFunc_extern Tryd.prog 97 _ (ReflectliteType.abiMethod fun t => do pure (.int .u8 (← Rtype.kind t))) Tryd.func97 (by kernel_rfl) (by kernel_rfl) (by kernel_rfl) (by kernel_rfl)
  have h68 := @run_callFunc_extern Tryd.prog 109 _ (ReflectliteType.method ReflectliteType.elem) Tryd.func109 (by kernel_rfl) (by kernel_rfl) (by kernel_rfl) (by kernel_rfl)
  have h69 := @run_callFunc_extern Tryd.prog 110 _ (ReflectliteType.relation "Implements" ReflectliteType.implements_) Tryd.func110 (by kernel_rfl) (by kernel_rfl) (by kernel_rfl) (by kernel_rfl)
  have f1 := valueOf57
  have f2 := type57
  have f3 := methodKind
  have f4 := methodElem
  have f5 := methodImplements
  have f6 := kind57
  have f7 := kind53
  have f8 := elem57
  have f9 := implements53
  have n8 := isNil57 ⟨w.heap.size, 0, none⟩ ⟨tb, 0, none⟩ ((w.alloc (.cells #[.pointer (some ⟨tb, 0, none⟩)] 102)).alloc (.cells #[.pointer (some ⟨1, 102, none⟩), .pointer (some ⟨w.heap.size, 0, none⟩), .int .u64 150] 123)) (by simp)
  have hg2 : ((w.alloc (.cells #[.pointer (some ⟨tb, 0, none⟩)] 102)).alloc (.cells #[.pointer (some ⟨1, 102, none⟩), .pointer (some ⟨w.heap.size, 0, none⟩), .int .u64 150] 123)).cell? ⟨0, 0, none⟩ = some (.iface 134 (.agg #[.pointer (some ⟨1, 29, none⟩)])) := by
    rw [World.cell?_alloc_lt _ _ ⟨0, 0, none⟩ (by simp), World.cell?_alloc_lt _ _ ⟨0, 0, none⟩ hl0]; exact hg
  have c1 := as53_miss e ⟨tb, 0, none⟩ ⟨w.heap.size, 0, none⟩ ((w.alloc (.cells #[.pointer (some ⟨tb, 0, none⟩)] 102)).alloc (.cells #[.pointer (some ⟨1, 102, none⟩), .pointer (some ⟨w.heap.size, 0, none⟩), .int .u64 150] 123))
  have C1 := Lib.hid c1; clear c1
  clear hg
  go_enter Tryd.func55, Tryd.ntmps55
  go_wp2_with (go_at_call 75; refine C1.out.mono ?_; rintro ev w1 ⟨rfl, hb⟩)
  go_ret
  exact ⟨rfl, (((Below.refl _ w).alloc (Nat.le_refl _) _).alloc (by simp) _).trans (hb.mono (by simp; omega))⟩
end Go.Proofs.YtbefoapnlehdmaaDoor
