/-
  Macs and packets as plain numbers, and as values; both compared with themselves.
-/
import Derived.Test.YtgjfhgipgcdddaaDoorProg
import Derived.Test.YtgjfhgipgcdddaaDoorMem
import Derived.Test.YtgjfhgipgcdddaaDoorLits
import Derived.Laws.BytesArg
import Derived.Laws.StructEq
import Derived.Outline
namespace Go.Proofs.YtgjfhgipgcdddaaDoor
open Go.RowKit

/-- Six bytes. -/
structure Mac6 where
  a : Int
  b : Int
  c : Int
  d : Int
  e : Int
  f : Int
/-- All six are bytes. -/
def Mac6.ok (t : Mac6) : Prop := (0 ≤ t.a ∧ t.a ≤ 255) ∧ (0 ≤ t.b ∧ t.b ≤ 255) ∧ (0 ≤ t.c ∧ t.c ≤ 255) ∧ (0 ≤ t.d ∧ t.d ≤ 255) ∧ (0 ≤ t.e ∧ t.e ≤ 255) ∧ (0 ≤ t.f ∧ t.f ≤ 255)
def Mac6.l (t : Mac6) : List Int := [t.a, t.b, t.c, t.d, t.e, t.f]
@[reducible] def Mac6.v (t : Mac6) : Value := .agg #[.int .u8 t.a, .int .u8 t.b, .int .u8 t.c, .int .u8 t.d, .int .u8 t.e, .int .u8 t.f]
/-- A packet. -/
@[reducible] def pkV (op : Int) (m : Mac6) (ip : Int) (t : Mac6) (ti : Int) : Value :=
  .agg #[.int .i64 op, .int .u8 m.a, .int .u8 m.b, .int .u8 m.c, .int .u8 m.d, .int .u8 m.e, .int .u8 m.f, .int .u32 ip, .int .u8 t.a, .int .u8 t.b, .int .u8 t.c, .int .u8 t.d, .int .u8 t.e, .int .u8 t.f, .int .u32 ti]
/-- A packet's block. -/
@[reducible] def pkC (op : Int) (m : Mac6) (ip : Int) (t : Mac6) (ti : Int) : Array Value :=
  #[.int .i64 op, .int .u8 m.a, .int .u8 m.b, .int .u8 m.c, .int .u8 m.d, .int .u8 m.e, .int .u8 m.f, .int .u32 ip, .int .u8 t.a, .int .u8 t.b, .int .u8 t.c, .int .u8 t.d, .int .u8 t.e, .int .u8 t.f, .int .u32 ti]
theorem pkC_one (op : Int) (m : Mac6) (ip : Int) (t : Mac6) (ti : Int) : (pkC op m ip t ti).all (·.oneCell') = true := by simp [Value.oneCell']
theorem Out.other {k : IntKind} {e : TypeId} {w w' : World} {base : Nat} {A : Option Addr} {n c : Nat} {xs : List Int} (h : Out k e w base A n c xs) (ho : ∀ j, base ≤ j → w'.heap[j]? = w.heap[j]?) : Out k e w' base A n c xs := by
  refine ⟨⟨h.1.1, ?_⟩, h.2⟩
  rcases h.1.2 with hv | ⟨g, cap, cur, hv, hbg, hh, r⟩
  · exact .inl hv
  · exact .inr ⟨g, cap, cur, hv, hbg, (ho g hbg).trans hh, r⟩

theorem eqlAt (T : TypeId) (hT : Tryd.prog.underlying T = some (.array 6 5)) (n : Nat) (a b c d e f : Int) (w : World) :
    (Op.equalIn (n + 2) T (.agg #[.int .u8 a, .int .u8 b, .int .u8 c, .int .u8 d, .int .u8 e, .int .u8 f]) (.agg #[.int .u8 a, .int .u8 b, .int .u8 c, .int .u8 d, .int .u8 e, .int .u8 f])).run Tryd.prog w = .ok true w := by
  have u5 := Tryd.underlying5
  have a5 := Tryd.isAgg5
  have z5 := Tryd.sizeOf5
  rw [show n + 2 = (n + 1) + 1 from rfl, Op.equalIn]
  simp only [Sem.run_bind, run_underlying hT, Result.andThen_ok]
  simp only [Std.Legacy.Range.forIn_eq_forIn_range', Std.Legacy.Range.size, Nat.sub_zero, Nat.add_sub_cancel, Nat.div_one, List.range'_succ, List.range'_zero, List.forIn_cons, List.forIn_nil]
  go_simp
theorem eq26 (a b c d e f : Int) (w : World) :
    (Op.equalIn 10000 26 (.agg #[.int .u8 a, .int .u8 b, .int .u8 c, .int .u8 d, .int .u8 e, .int .u8 f]) (.agg #[.int .u8 a, .int .u8 b, .int .u8 c, .int .u8 d, .int .u8 e, .int .u8 f])).run Tryd.prog w = .ok true w := eqlAt 26 Tryd.underlying26 9998 a b c d e f w
theorem eq26' (a b c d e f : Int) (w : World) :
    (Op.equalIn 9999 26 (.agg #[.int .u8 a, .int .u8 b, .int .u8 c, .int .u8 d, .int .u8 e, .int .u8 f]) (.agg #[.int .u8 a, .int .u8 b, .int .u8 c, .int .u8 d, .int .u8 e, .int .u8 f])).run Tryd.prog w = .ok true w := eqlAt 26 Tryd.underlying26 9997 a b c d e f w
theorem eq25' (a b c d e f : Int) (w : World) :
    (Op.equalIn 9999 25 (.agg #[.int .u8 a, .int .u8 b, .int .u8 c, .int .u8 d, .int .u8 e, .int .u8 f]) (.agg #[.int .u8 a, .int .u8 b, .int .u8 c, .int .u8 d, .int .u8 e, .int .u8 f])).run Tryd.prog w = .ok true w := eqlAt 25 Tryd.underlying25 9997 a b c d e f w
set_option maxHeartbeats 1000000 in
theorem eq29 (op : Int) (m : Mac6) (ip : Int) (t : Mac6) (ti : Int) (w : World) : (Op.equalIn 10000 29 (pkV op m ip t ti) (pkV op m ip t ti)).run Tryd.prog w = .ok true w := by
  have q := eq26'
  rw [show (10000 : Nat) = 9999 + 1 from rfl, run_equalIn_struct w 9999 29 _ _ (by rw [Program.fieldsOf, Tryd.underlying29]) Tryd.stoodInHeld29]
  go_simp
set_option maxHeartbeats 1000000 in
theorem eq35 (op : Int) (m : Mac6) (ip : Int) (t : Mac6) (ti : Int) (w : World) : (Op.equalIn 10000 35 (pkV op m ip t ti) (pkV op m ip t ti)).run Tryd.prog w = .ok true w := by
  have q := eq25'
  rw [show (10000 : Nat) = 9999 + 1 from rfl, run_equalIn_struct w 9999 35 _ _ (by rw [Program.fieldsOf, Tryd.underlying35]) Tryd.stoodInHeld35]
  go_simp

theorem blk_cell {w : World} {g i : Nat} {cs : Array Value} {t : TypeId} {v : Value} (h : w.heap[g]? = some (.cells cs t (0, 0))) (hi : cs[i]? = some v) : w.cell? ⟨g, i, none⟩ = some v := by
  rw [cell_of_row w g i cs t (0, 0) h]
  exact hi
theorem blk_frozen {w : World} {g i : Nat} {cs : Array Value} {t : TypeId} (h : w.heap[g]? = some (.cells cs t (0, 0))) : w.frozen? ⟨g, i, none⟩ = false := by
  simp [World.frozen?, h]
theorem blk_lt {w : World} {g : Nat} {o : Obj} (h : w.heap[g]? = some o) : g < w.heap.size := (Array.getElem?_eq_some_iff.1 h).1
/-- The cells of a packet's block. -/
def PkAt (w : World) (g : Nat) (T : TypeId) (op : Int) (m : Mac6) (ip : Int) (t : Mac6) (ti : Int) : Prop := w.heap[g]? = some (.cells (pkC op m ip t ti) T (0, 0))
section
variable {w w' : World} {g B : Nat} {T : TypeId} {op : Int} {m : Mac6} {ip : Int} {t : Mac6} {ti : Int}
theorem PkAt.lt (h : PkAt w g T op m ip t ti) : g < w.heap.size := blk_lt h
theorem PkAt.below (h : PkAt w g T op m ip t ti) (hb : Below B w w') (hg : g < B) : PkAt w' g T op m ip t ti := (hb.block g hg).trans h
theorem PkAt.step (h : PkAt w g T op m ip t ti) (hb : Below w.heap.size w w') : PkAt w' g T op m ip t ti := h.below hb h.lt
theorem PkAt.drew (h : PkAt w g T op m ip t ti) : PkAt w.drew g T op m ip t ti := h
theorem PkAt.new (w : World) (T : TypeId) (op : Int) (m : Mac6) (ip : Int) (t : Mac6) (ti : Int) : PkAt (w.alloc (.cells (pkC op m ip t ti) T)) w.heap.size T op m ip t ti := heap_alloc_new w _
theorem PkAt.cells (h : PkAt w g T op m ip t ti) : w.cell? ⟨g, 0, none⟩ = some (.int .i64 op) ∧ w.cell? ⟨g, 1, none⟩ = some (.int .u8 m.a) ∧ w.cell? ⟨g, 2, none⟩ = some (.int .u8 m.b) ∧ w.cell? ⟨g, 3, none⟩ = some (.int .u8 m.c) ∧ w.cell? ⟨g, 4, none⟩ = some (.int .u8 m.d) ∧ w.cell? ⟨g, 5, none⟩ = some (.int .u8 m.e) ∧ w.cell? ⟨g, 6, none⟩ = some (.int .u8 m.f) ∧ w.cell? ⟨g, 7, none⟩ = some (.int .u32 ip) ∧ w.cell? ⟨g, 8, none⟩ = some (.int .u8 t.a) ∧ w.cell? ⟨g, 9, none⟩ = some (.int .u8 t.b) ∧ w.cell? ⟨g, 10, none⟩ = some (.int .u8 t.c) ∧ w.cell? ⟨g, 11, none⟩ = some (.int .u8 t.d) ∧ w.cell? ⟨g, 12, none⟩ = some (.int .u8 t.e) ∧ w.cell? ⟨g, 13, none⟩ = some (.int .u8 t.f) ∧ w.cell? ⟨g, 14, none⟩ = some (.int .u32 ti) :=
  ⟨blk_cell h rfl, blk_cell h rfl, blk_cell h rfl, blk_cell h rfl, blk_cell h rfl, blk_cell h rfl, blk_cell h rfl, blk_cell h rfl, blk_cell h rfl, blk_cell h rfl, blk_cell h rfl, blk_cell h rfl, blk_cell h rfl, blk_cell h rfl, blk_cell h rfl⟩
theorem PkAt.frozen (h : PkAt w g T op m ip t ti) (i : Nat) : w.frozen? ⟨g, i, none⟩ = false := blk_frozen h
end
/-- The cells of a Mac's block. -/
def McAt (w : World) (g : Nat) (T : TypeId) (m : Mac6) : Prop := w.heap[g]? = some (.cells #[.int .u8 m.a, .int .u8 m.b, .int .u8 m.c, .int .u8 m.d, .int .u8 m.e, .int .u8 m.f] T (0, 0))
section
variable {w w' : World} {g B : Nat} {T : TypeId} {m : Mac6}
theorem McAt.lt (h : McAt w g T m) : g < w.heap.size := blk_lt h
theorem McAt.below (h : McAt w g T m) (hb : Below B w w') (hg : g < B) : McAt w' g T m := (hb.block g hg).trans h
theorem McAt.step (h : McAt w g T m) (hb : Below w.heap.size w w') : McAt w' g T m := h.below hb h.lt
theorem McAt.drew (h : McAt w g T m) : McAt w.drew g T m := h
theorem McAt.new (w : World) (T : TypeId) (m : Mac6) : McAt (w.alloc (.cells #[.int .u8 m.a, .int .u8 m.b, .int .u8 m.c, .int .u8 m.d, .int .u8 m.e, .int .u8 m.f] T)) w.heap.size T m := heap_alloc_new w _
theorem McAt.cells (h : McAt w g T m) : w.cell? ⟨g, 0, none⟩ = some (.int .u8 m.a) ∧ w.cell? ⟨g, 1, none⟩ = some (.int .u8 m.b) ∧ w.cell? ⟨g, 2, none⟩ = some (.int .u8 m.c) ∧ w.cell? ⟨g, 3, none⟩ = some (.int .u8 m.d) ∧ w.cell? ⟨g, 4, none⟩ = some (.int .u8 m.e) ∧ w.cell? ⟨g, 5, none⟩ = some (.int .u8 m.f) :=
  ⟨blk_cell h rfl, blk_cell h rfl, blk_cell h rfl, blk_cell h rfl, blk_cell h rfl, blk_cell h rfl⟩
end
end Go.Proofs.YtgjfhgipgcdddaaDoor
