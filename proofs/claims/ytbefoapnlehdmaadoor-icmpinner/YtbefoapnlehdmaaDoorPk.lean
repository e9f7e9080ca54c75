/-
  Packets as plain numbers, and as values; heads compared.
-/
import Derived.Test.YtbefoapnlehdmaaDoorProg
import Derived.Test.YtbefoapnlehdmaaDoorMem
import Derived.Test.YtbefoapnlehdmaaDoorLits
import Derived.Laws.BytesArg
import Derived.Laws.StructEq
import Derived.Outline
namespace Go.Proofs.YtbefoapnlehdmaaDoor
open Go.RowKit

/-- What a packet has besides its body. -/
structure Hd where
  tos : Int
  id : Int
  keep : Bool
  ttl : Int
  proto : Int
  src : Int
  dst : Int
/-- All are numbers of their kinds. -/
structure Hd.ok (h : Hd) : Prop where
  tos : 0 ≤ h.tos ∧ h.tos ≤ 255
  id : 0 ≤ h.id ∧ h.id ≤ 65535
  ttl : 0 ≤ h.ttl ∧ h.ttl ≤ 255
  proto : 0 ≤ h.proto ∧ h.proto ≤ 255
  src : 0 ≤ h.src ∧ h.src < 4294967296
  dst : 0 ≤ h.dst ∧ h.dst < 4294967296
@[reducible] def zeroH : Hd := ⟨0, 0, false, 0, 0, 0, 0⟩
/-- A packet. -/
@[reducible] def pkV (h : Hd) (A : Option Addr) (n c : Nat) : Value := .agg #[.int .u8 h.tos, .int .u16 h.id, .bool h.keep, .int .u8 h.ttl, .int .u8 h.proto, .int .u32 h.src, .int .u32 h.dst, .slice A n c]
/-- A packet's block. -/
@[reducible] def pkC (h : Hd) (A : Option Addr) (n c : Nat) : Array Value := #[.int .u8 h.tos, .int .u16 h.id, .bool h.keep, .int .u8 h.ttl, .int .u8 h.proto, .int .u32 h.src, .int .u32 h.dst, .slice A n c]
theorem pkC_one (h : Hd) (A : Option Addr) (n c : Nat) : (pkC h A n c).all (·.oneCell') = true := by simp [Value.oneCell']
theorem Out.other {k : IntKind} {e : TypeId} {w w' : World} {base : Nat} {A : Option Addr} {n c : Nat} {xs : List Int} (h : Out k e w base A n c xs) (ho : ∀ j, base ≤ j → w'.heap[j]? = w.heap[j]?) : Out k e w' base A n c xs := by
  refine ⟨⟨h.1.1, ?_⟩, h.2⟩
  rcases h.1.2 with hv | ⟨g, cap, cur, hv, hbg, hh, r⟩
  · exact .inl hv
  · exact .inr ⟨g, cap, cur, hv, hbg, (ho g hbg).trans hh, r⟩
/-- Are two heads the same? -/
def hdB (h k : Hd) : Bool := (h.tos == k.tos) && (h.id == k.id) && (h.keep == k.keep) && (h.ttl == k.ttl) && (h.proto == k.proto) && (h.src == k.src) && (h.dst == k.dst)
theorem hdB_self (h : Hd) : hdB h h = true := by simp [hdB]
theorem blk_cell {w : World} {g i : Nat} {cs : Array Value} {t : TypeId} {v : Value} (h : w.heap[g]? = some (.cells cs t (0, 0))) (hi : cs[i]? = some v) : w.cell? ⟨g, i, none⟩ = some v := by
  rw [cell_of_row w g i cs t (0, 0) h]
  exact hi
theorem blk_frozen {w : World} {g i : Nat} {cs : Array Value} {t : TypeId} (h : w.heap[g]? = some (.cells cs t (0, 0))) : w.frozen? ⟨g, i, none⟩ = false := by
  simp [World.frozen?, h]
theorem blk_lt {w : World} {g : Nat} {o : Obj} (h : w.heap[g]? = some o) : g < w.heap.size := (Array.getElem?_eq_some_iff.1 h).1
/-- The cells of a packet's block. -/
def PkAt (w : World) (g : Nat) (T : TypeId) (h : Hd) (A : Option Addr) (n c : Nat) : Prop := w.heap[g]? = some (.cells (pkC h A n c) T (0, 0))
section
variable {w w' : World} {g B : Nat} {T : TypeId} {h : Hd} {A : Option Addr} {n c : Nat}
theorem PkAt.lt (q : PkAt w g T h A n c) : g < w.heap.size := blk_lt q
theorem PkAt.below (q : PkAt w g T h A n c) (hb : Below B w w') (hg : g < B) : PkAt w' g T h A n c := (hb.block g hg).trans q
theorem PkAt.step (q : PkAt w g T h A n c) (hb : Below w.heap.size w w') : PkAt w' g T h A n c := q.below hb q.lt
theorem PkAt.drew (q : PkAt w g T h A n c) : PkAt w.drew g T h A n c := q
theorem PkAt.new (w : World) (T : TypeId) (h : Hd) (A : Option Addr) (n c : Nat) : PkAt (w.alloc (.cells (pkC h A n c) T)) w.heap.size T h A n c := heap_alloc_new w _
theorem PkAt.cells (q : PkAt w g T h A n c) : w.cell? ⟨g, 0, none⟩ = some (.int .u8 h.tos) ∧ w.cell? ⟨g, 1, none⟩ = some (.int .u16 h.id) ∧ w.cell? ⟨g, 2, none⟩ = some (.bool h.keep) ∧ w.cell? ⟨g, 3, none⟩ = some (.int .u8 h.ttl) ∧ w.cell? ⟨g, 4, none⟩ = some (.int .u8 h.proto) ∧ w.cell? ⟨g, 5, none⟩ = some (.int .u32 h.src) ∧ w.cell? ⟨g, 6, none⟩ = some (.int .u32 h.dst) ∧ w.cell? ⟨g, 7, none⟩ = some (.slice A n c) :=
  ⟨blk_cell q rfl, blk_cell q rfl, blk_cell q rfl, blk_cell q rfl, blk_cell q rfl, blk_cell q rfl, blk_cell q rfl, blk_cell q rfl⟩
theorem PkAt.frozen (q : PkAt w g T h A n c) (i : Nat) : w.frozen? ⟨g, i, none⟩ = false := blk_frozen q
end
end Go.Proofs.YtbefoapnlehdmaaDoor
