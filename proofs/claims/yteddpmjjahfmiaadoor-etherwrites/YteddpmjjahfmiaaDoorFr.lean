/-
  Macs and frames as plain numbers, and as values; Macs compared.
-/
import Derived.Test.YteddpmjjahfmiaaDoorProg
import Derived.Test.YteddpmjjahfmiaaDoorMem
import Derived.Test.YteddpmjjahfmiaaDoorLits
import Derived.Laws.BytesArg
import Derived.Outline
namespace Go.Proofs.YteddpmjjahfmiaaDoor
open Go.RowKit

/-- Six bytes. -/
structure Mac6 where
  a : Int
  b : Int
  c : Int
  d : Int
  e : Int
  f : Int
/-- All six are bytes. -/
def Mac6.ok (t : Mac6) : Prop := (0 ≤ t.a ∧ t.a ≤ 255) ∧ (0 ≤ t.b ∧ t.b ≤ 255) ∧ (0 ≤ t.c ∧ t.c ≤ 255) ∧ (0 ≤ t.d ∧ t.d ≤ 255) ∧ (0 ≤ t.e ∧ t.e ≤ 255) ∧ (0 ≤ t.f ∧ t.f ≤ 255)
def Mac6.l (t : Mac6) : List Int := [t.a, t.b, t.c, t.d, t.e, t.f]
@[reducible] def Mac6.v (t : Mac6) : Value := .agg #[.int .u8 t.a, .int .u8 t.b, .int .u8 t.c, .int .u8 t.d, .int .u8 t.e, .int .u8 t.f]
/-- A frame. -/
@[reducible] def frV (t f : Mac6) (k : Int) (A : Option Addr) (n c : Nat) : Value :=
  .agg #[.int .u8 t.a, .int .u8 t.b, .int .u8 t.c, .int .u8 t.d, .int .u8 t.e, .int .u8 t.f, .int .u8 f.a, .int .u8 f.b, .int .u8 f.c, .int .u8 f.d, .int .u8 f.e, .int .u8 f.f, .int .u16 k, .slice A n c]
/-- A frame's block. -/
@[reducible] def frC (t f : Mac6) (k : Int) (A : Option Addr) (n c : Nat) : Array Value :=
  #[.int .u8 t.a, .int .u8 t.b, .int .u8 t.c, .int .u8 t.d, .int .u8 t.e, .int .u8 t.f, .int .u8 f.a, .int .u8 f.b, .int .u8 f.c, .int .u8 f.d, .int .u8 f.e, .int .u8 f.f, .int .u16 k, .slice A n c]
theorem frC_one (t f : Mac6) (k : Int) (A : Option Addr) (n c : Nat) : (frC t f k A n c).all (·.oneCell') = true := by simp [Value.oneCell']
theorem Out.other {k : IntKind} {e : TypeId} {w w' : World} {base : Nat} {A : Option Addr} {n c : Nat} {xs : List Int} (h : Out k e w base A n c xs) (ho : ∀ j, base ≤ j → w'.heap[j]? = w.heap[j]?) : Out k e w' base A n c xs := by
  refine ⟨⟨h.1.1, ?_⟩, h.2⟩
  rcases h.1.2 with hv | ⟨g, cap, cur, hv, hbg, hh, r⟩
  · exact .inl hv
  · exact .inr ⟨g, cap, cur, hv, hbg, (ho g hbg).trans hh, r⟩
/-- Six bytes compared with six others. -/
def mB (a b c d e f a' b' c' d' e' f' : Int) : Bool := (a == a') && ((b == b') && ((c == c') && ((d == d') && ((e == e') && (f == f')))))
def mEq (t m : Mac6) : Bool := mB t.a t.b t.c t.d t.e t.f m.a m.b m.c m.d m.e m.f
theorem mEq_iff {t m : Mac6} : mEq t m = true ↔ t = m := by
  cases t; cases m
  simp [mEq, mB]
theorem mEq_self (t : Mac6) : mEq t t = true := mEq_iff.2 rfl

theorem eqlAt (T : TypeId) (hT : Tryd.prog.underlying T = some (.array 6 5)) (a b c d e f a' b' c' d' e' f' : Int) (w : World) :
    (Op.equalIn 10000 T (.agg #[.int .u8 a, .int .u8 b, .int .u8 c, .int .u8 d, .int .u8 e, .int .u8 f]) (.agg #[.int .u8 a', .int .u8 b', .int .u8 c', .int .u8 d', .int .u8 e', .int .u8 f'])).run Tryd.prog w = .ok (mB a b c d e f a' b' c' d' e' f') w := by
  have u5 := Tryd.underlying5
  have a5 := Tryd.isAgg5
  have z5 := Tryd.sizeOf5
  rw [show (10000 : Nat) = 9999 + 1 from rfl, Op.equalIn]
  simp only [Sem.run_bind, run_underlying hT, Result.andThen_ok]
  simp only [Std.Legacy.Range.forIn_eq_forIn_range', Std.Legacy.Range.size, Nat.sub_zero, Nat.add_sub_cancel, Nat.div_one, List.range'_succ, List.range'_zero, List.forIn_cons, List.forIn_nil]
  unfold mB
  by_cases h0 : a = a'
  · by_cases h1 : b = b'
    · by_cases h2 : c = c'
      · by_cases h3 : d = d'
        · by_cases h4 : e = e'
          · by_cases h5 : f = f'
            · subst h0 h1 h2 h3 h4 h5
              go_simp
            · go_simp
          · go_simp
        · go_simp
      · go_simp
    · go_simp
  · go_simp
theorem eql24 (a b c d e f a' b' c' d' e' f' : Int) (w : World) :
    (Op.equalIn 10000 24 (.agg #[.int .u8 a, .int .u8 b, .int .u8 c, .int .u8 d, .int .u8 e, .int .u8 f]) (.agg #[.int .u8 a', .int .u8 b', .int .u8 c', .int .u8 d', .int .u8 e', .int .u8 f'])).run Tryd.prog w = .ok (mB a b c d e f a' b' c' d' e' f') w := eqlAt 24 Tryd.underlying24 a b c d e f a' b' c' d' e' f' w
theorem eql23 (a b c d e f a' b' c' d' e' f' : Int) (w : World) :
    (Op.equalIn 10000 23 (.agg #[.int .u8 a, .int .u8 b, .int .u8 c, .int .u8 d, .int .u8 e, .int .u8 f]) (.agg #[.int .u8 a', .int .u8 b', .int .u8 c', .int .u8 d', .int .u8 e', .int .u8 f'])).run Tryd.prog w = .ok (mB a b c d e f a' b' c' d' e' f') w := eqlAt 23 Tryd.underlying23 a b c d e f a' b' c' d' e' f' w

theorem blk_cell {w : World} {g i : Nat} {cs : Array Value} {t : TypeId} {v : Value} (h : w.heap[g]? = some (.cells cs t (0, 0))) (hi : cs[i]? = some v) : w.cell? ⟨g, i, none⟩ = some v := by
  rw [cell_of_row w g i cs t (0, 0) h]
  exact hi
theorem blk_frozen {w : World} {g i : Nat} {cs : Array Value} {t : TypeId} (h : w.heap[g]? = some (.cells cs t (0, 0))) : w.frozen? ⟨g, i, none⟩ = false := by
  simp [World.frozen?, h]
theorem blk_lt {w : World} {g : Nat} {o : Obj} (h : w.heap[g]? = some o) : g < w.heap.size := (Array.getElem?_eq_some_iff.1 h).1
/-- The cells of a frame's block. -/
def FrAt (w : World) (g : Nat) (T : TypeId) (t f : Mac6) (k : Int) (A : Option Addr) (n c : Nat) : Prop := w.heap[g]? = some (.cells (frC t f k A n c) T (0, 0))
section
variable {w w' : World} {g B : Nat} {T : TypeId} {t f : Mac6} {k : Int} {A : Option Addr} {n c : Nat}
theorem FrAt.lt (h : FrAt w g T t f k A n c) : g < w.heap.size := blk_lt h
theorem FrAt.below (h : FrAt w g T t f k A n c) (hb : Below B w w') (hg : g < B) : FrAt w' g T t f k A n c := (hb.block g hg).trans h
theorem FrAt.step (h : FrAt w g T t f k A n c) (hb : Below w.heap.size w w') : FrAt w' g T t f k A n c := h.below hb h.lt
theorem FrAt.drew (h : FrAt w g T t f k A n c) : FrAt w.drew g T t f k A n c := h
theorem FrAt.new (w : World) (T : TypeId) (t f : Mac6) (k : Int) (A : Option Addr) (n c : Nat) : FrAt (w.alloc (.cells (frC t f k A n c) T)) w.heap.size T t f k A n c := heap_alloc_new w _
theorem FrAt.cells (h : FrAt w g T t f k A n c) : w.cell? ⟨g, 0, none⟩ = some (.int .u8 t.a) ∧ w.cell? ⟨g, 1, none⟩ = some (.int .u8 t.b) ∧ w.cell? ⟨g, 2, none⟩ = some (.int .u8 t.c) ∧ w.cell? ⟨g, 3, none⟩ = some (.int .u8 t.d) ∧ w.cell? ⟨g, 4, none⟩ = some (.int .u8 t.e) ∧ w.cell? ⟨g, 5, none⟩ = some (.int .u8 t.f) ∧ w.cell? ⟨g, 6, none⟩ = some (.int .u8 f.a) ∧ w.cell? ⟨g, 7, none⟩ = some (.int .u8 f.b) ∧ w.cell? ⟨g, 8, none⟩ = some (.int .u8 f.c) ∧ w.cell? ⟨g, 9, none⟩ = some (.int .u8 f.d) ∧ w.cell? ⟨g, 10, none⟩ = some (.int .u8 f.e) ∧ w.cell? ⟨g, 11, none⟩ = some (.int .u8 f.f) ∧ w.cell? ⟨g, 12, none⟩ = some (.int .u16 k) ∧ w.cell? ⟨g, 13, none⟩ = some (.slice A n c) :=
  ⟨blk_cell h rfl, blk_cell h rfl, blk_cell h rfl, blk_cell h rfl, blk_cell h rfl, blk_cell h rfl, blk_cell h rfl, blk_cell h rfl, blk_cell h rfl, blk_cell h rfl, blk_cell h rfl, blk_cell h rfl, blk_cell h rfl, blk_cell h rfl⟩
theorem FrAt.frozen (h : FrAt w g T t f k A n c) : w.frozen? ⟨g, 0, none⟩ = false ∧ w.frozen? ⟨g, 1, none⟩ = false ∧ w.frozen? ⟨g, 2, none⟩ = false ∧ w.frozen? ⟨g, 3, none⟩ = false ∧ w.frozen? ⟨g, 4, none⟩ = false ∧ w.frozen? ⟨g, 5, none⟩ = false ∧ w.frozen? ⟨g, 6, none⟩ = false ∧ w.frozen? ⟨g, 7, none⟩ = false ∧ w.frozen? ⟨g, 8, none⟩ = false ∧ w.frozen? ⟨g, 9, none⟩ = false ∧ w.frozen? ⟨g, 10, none⟩ = false ∧ w.frozen? ⟨g, 11, none⟩ = false ∧ w.frozen? ⟨g, 12, none⟩ = false ∧ w.frozen? ⟨g, 13, none⟩ = false :=
  ⟨blk_frozen h, blk_frozen h, blk_frozen h, blk_frozen h, blk_frozen h, blk_frozen h, blk_frozen h, blk_frozen h, blk_frozen h, blk_frozen h, blk_frozen h, blk_frozen h, blk_frozen h, blk_frozen h⟩
end
/-- The cells of a Mac's block. -/
def McAt (w : World) (g : Nat) (T : TypeId) (m : Mac6) : Prop := w.heap[g]? = some (.cells #[.int .u8 m.a, .int .u8 m.b, .int .u8 m.c, .int .u8 m.d, .int .u8 m.e, .int .u8 m.f] T (0, 0))
section
variable {w w' : World} {g B : Nat} {T : TypeId} {m : Mac6}
theorem McAt.lt (h : McAt w g T m) : g < w.heap.size := blk_lt h
theorem McAt.below (h : McAt w g T m) (hb : Below B w w') (hg : g < B) : McAt w' g T m := (hb.block g hg).trans h
theorem McAt.step (h : McAt w g T m) (hb : Below w.heap.size w w') : McAt w' g T m := h.below hb h.lt
theorem McAt.drew (h : McAt w g T m) : McAt w.drew g T m := h
theorem McAt.new (w : World) (T : TypeId) (m : Mac6) : McAt (w.alloc (.cells #[.int .u8 m.a, .int .u8 m.b, .int .u8 m.c, .int .u8 m.d, .int .u8 m.e, .int .u8 m.f] T)) w.heap.size T m := heap_alloc_new w _
theorem McAt.cells (h : McAt w g T m) : w.cell? ⟨g, 0, none⟩ = some (.int .u8 m.a) ∧ w.cell? ⟨g, 1, none⟩ = some (.int .u8 m.b) ∧ w.cell? ⟨g, 2, none⟩ = some (.int .u8 m.c) ∧ w.cell? ⟨g, 3, none⟩ = some (.int .u8 m.d) ∧ w.cell? ⟨g, 4, none⟩ = some (.int .u8 m.e) ∧ w.cell? ⟨g, 5, none⟩ = some (.int .u8 m.f) :=
  ⟨blk_cell h rfl, blk_cell h rfl, blk_cell h rfl, blk_cell h rfl, blk_cell h rfl, blk_cell h rfl⟩
end
end Go.Proofs.YteddpmjjahfmiaaDoor
