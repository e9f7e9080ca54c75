/-
  Segments as plain numbers, and as values.
-/
import Derived.Test.YtggnkmllbpgfoaaProg
import Derived.Test.YtggnkmllbpgfoaaMem
import Derived.Test.YtggnkmllbpgfoaaLits
import Derived.Laws.BytesArg
import Derived.Outline
namespace Go.Proofs.Ytggnkmllbpgfoaa
open Go.RowKit

/-- What a segment has besides its body. -/
structure Hd where
  src : Int
  dst : Int
  flags : Int
/-- All are numbers of their kinds. -/
structure Hd.ok (h : Hd) : Prop where
  src : 0 ≤ h.src ∧ h.src ≤ 65535
  dst : 0 ≤ h.dst ∧ h.dst ≤ 65535
  flags : 0 ≤ h.flags ∧ h.flags ≤ 255
@[reducible] def zeroH : Hd := ⟨0, 0, 0⟩
theorem hd_eq {h k : Hd} (h1 : h.src = k.src) (h2 : h.dst = k.dst) (h3 : h.flags = k.flags) : h = k := by
  cases h
  cases k
  simp_all
/-- A segment. -/
@[reducible] def pkV (h : Hd) (A : Option Addr) (n c : Nat) : Value := .agg #[.int .u16 h.src, .int .u16 h.dst, .int .u8 h.flags, .slice A n c]
/-- A segment's block. -/
@[reducible] def pkC (h : Hd) (A : Option Addr) (n c : Nat) : Array Value := #[.int .u16 h.src, .int .u16 h.dst, .int .u8 h.flags, .slice A n c]
theorem pkC_one (h : Hd) (A : Option Addr) (n c : Nat) : (pkC h A n c).all (·.oneCell') = true := by simp [Value.oneCell']
theorem Out.other {k : IntKind} {e : TypeId} {w w' : World} {base : Nat} {A : Option Addr} {n c : Nat} {xs : List Int} (h : Out k e w base A n c xs) (ho : ∀ j, base ≤ j → w'.heap[j]? = w.heap[j]?) : Out k e w' base A n c xs := by
  refine ⟨⟨h.1.1, ?_⟩, h.2⟩
  rcases h.1.2 with hv | ⟨g, cap, cur, hv, hbg, hh, r⟩
  · exact .inl hv
  · exact .inr ⟨g, cap, cur, hv, hbg, (ho g hbg).trans hh, r⟩
/-- Are two heads the same? -/
def hdB (h k : Hd) : Bool := (h.src == k.src) && (h.dst == k.dst) && (h.flags == k.flags)
theorem hdB_self (h : Hd) : hdB h h = true := by simp [hdB]
theorem blk_cell {w : World} {g i : Nat} {cs : Array Value} {t : TypeId} {v : Value} (h : w.heap[g]? = some (.cells cs t (0, 0))) (hi : cs[i]? = some v) : w.cell? ⟨g, i, none⟩ = some v := by
  rw [cell_of_row w g i cs t (0, 0) h]
  exact hi
theorem blk_frozen {w : World} {g i : Nat} {cs : Array Value} {t : TypeId} (h : w.heap[g]? = some (.cells cs t (0, 0))) : w.frozen? ⟨g, i, none⟩ = false := by
  simp [World.frozen?, h]
theorem blk_lt {w : World} {g : Nat} {o : Obj} (h : w.heap[g]? = some o) : g < w.heap.size := (Array.getElem?_eq_some_iff.1 h).1
/-- The cells of a packet's block. -/
def PkAt (w : World) (g : Nat) (T : TypeId) (h : Hd) (A : Option Addr) (n c : Nat) : Prop := w.heap[g]? = some (.cells (pkC h A n c) T (0, 0))
section
variable {w w' : World} {g B : Nat} {T : TypeId} {h : Hd} {A : Option Addr} {n c : Nat}
theorem PkAt.lt (q : PkAt w g T h A n c) : g < w.heap.size := blk_lt q
theorem PkAt.below (q : PkAt w g T h A n c) (hb : Below B w w') (hg : g < B) : PkAt w' g T h A n c := (hb.block g hg).trans q
theorem PkAt.step (q : PkAt w g T h A n c) (hb : Below w.heap.size w w') : PkAt w' g T h A n c := q.below hb q.lt
theorem PkAt.drew (q : PkAt w g T h A n c) : PkAt w.drew g T h A n c := q
theorem PkAt.new (w : World) (T : TypeId) (h : Hd) (A : Option Addr) (n c : Nat) : PkAt (w.alloc (.cells (pkC h A n c) T)) w.heap.size T h A n c := heap_alloc_new w _
theorem PkAt.cells (q : PkAt w g T h A n c) : w.cell? ⟨g, 0, none⟩ = some (.int .u16 h.src) ∧ w.cell? ⟨g, 1, none⟩ = some (.int .u16 h.dst) ∧ w.cell? ⟨g, 2, none⟩ = some (.int .u8 h.flags) ∧ w.cell? ⟨g, 3, none⟩ = some (.slice A n c) :=
  ⟨blk_cell q rfl, blk_cell q rfl, blk_cell q rfl, blk_cell q rfl⟩
theorem PkAt.frozen (q : PkAt w g T h A n c) (i : Nat) : w.frozen? ⟨g, i, none⟩ = false := blk_frozen q
end
end Go.Proofs.Ytggnkmllbpgfoaa
