/-
  Rows of bytes that the call made, known whole: make, copy, a store, as steps of the walk. Nothing of the program.
-/
import Derived.Test.YtalojeblemhihaaBase
import Derived.Deep.OwnRows
namespace Go.Proofs.Ytalojeblemhihaa
open Go.RowKit

/-- Block g is just the bytes xs, none frozen. -/
def Row (w : World) (g : Nat) (xs : List Int) : Prop := w.heap[g]? = some (.cells (xs.map (Value.int .u8)).toArray 5 (0, 0))

theorem Row.lt {w : World} {g : Nat} {xs : List Int} (h : Row w g xs) : g < w.heap.size := (Array.getElem?_eq_some_iff.1 h).1

theorem Row.out {w : World} {g base : Nat} {xs : List Int} {n : Nat} (h : Row w g xs) (hb : base ≤ g) (hn : xs.length = n) (hm : n ≤ maxLen) (hw : ∀ x ∈ xs, (Lit.int .u8 x).wf = true) :
    Out .u8 5 w base (some ⟨g, 0, none⟩) n n xs := by
  refine ⟨⟨by simpa using hn, .inr ⟨g, n, (xs.map (Value.int .u8)).toArray, rfl, hb, h, Nat.le_refl _, hm, by simpa using hn, ?_⟩⟩, hw⟩
  simp only [Nat.mul_one]
  rw [List.take_of_length_le (by simp; omega)]

/-- A piece of a whole row. -/
theorem Row.rd {w : World} {g : Nat} {xs : List Int} (h : Row w g xs) (f n c : Nat) (hf : f + n ≤ xs.length) (hc : n ≤ c) (hm : c ≤ maxLen) (hw : ∀ x ∈ xs, (Lit.int .u8 x).wf = true) :
    Rd .u8 w w.heap.size (some ⟨g, f, none⟩) n c ((xs.drop f).take n) := by
  refine ⟨by simp; omega, hc, ⟨hm, fun e => by cases e⟩, fun x hx => hw x (List.mem_of_mem_drop (List.mem_of_mem_take hx)), fun i hi => ⟨g, f, rfl, h.lt, ?_⟩⟩
  rw [cell_of_row w g (f + i) _ 5 (0, 0) h]
  have : ((xs.drop f).take n).getD i 0 = xs.getD (f + i) 0 := by simp [List.getD, hi]
  rw [this]
  simp [List.getD, List.getElem?_eq_getElem (show f + i < xs.length by omega)]

theorem Row.cell {w : World} {g : Nat} {xs : List Int} (h : Row w g xs) {i : Nat} (hi : i < xs.length) : w.cell? ⟨g, i, none⟩ = some (.int .u8 (xs.getD i 0)) := by
  rw [cell_of_row w g i _ 5 (0, 0) h]
  simp [List.getD, List.getElem?_eq_getElem hi]
theorem Row.frozen {w : World} {g : Nat} {xs : List Int} (h : Row w g xs) (i : Nat) : w.frozen? ⟨g, i, none⟩ = false := by
  unfold Row at h
  simp [World.frozen?, h]
theorem Row.set {w : World} {g : Nat} {xs : List Int} (h : Row w g xs) (i : Nat) (x : Int) : Row (w.setCell ⟨g, i, none⟩ (.int .u8 x)) g (xs.set i x) := by
  unfold Row at h ⊢
  simp [World.setCell, Array.getElem?_modify, h, List.map_set]
theorem Row.below {w w' : World} {g B : Nat} {xs : List Int} (h : Row w g xs) (hb : Below B w w') (hg : g < B) : Row w' g xs := (hb.block g hg).trans h
theorem Row.drew {w : World} {g : Nat} {xs : List Int} (h : Row w g xs) : Row w.drew g xs := h

theorem made_zeros (n : Nat) : madeCells #[Value.int .u8 0] n = ((List.replicate n (0 : Int)).map (Value.int .u8)).toArray := by
  apply Array.ext
  · simp [madeCells]
  · intro i h1 h2
    simp [madeCells, Nat.mod_one]

/-- 'make([]byte, n)'. -/
theorem wpList_mk (dd : Option Tmp) {P : Program} {w : World} {ops : Array Oper} {rest : List Oper} {o : Oper} {a : Act} {Q : Exit → Act → World → Prop}
    (hg : o.guard = none) (hdd : o.dst = dd) (l c : Operand) (t : TypeId) (hop : o.op = Op.makeSlice t l c) (ht : P.underlying t = some (.slice 5))
    (hinfo : (P.info? 5).map (fun i => (i.zero, i.size, i.bytes)) = some (some (.int .u8 0), 1, 1))
    (n : Nat) (L C : Int) (hl : a.eval l = .int .i64 L) (hc : a.eval c = .int .i64 C) (hL : L = (n : Int)) (hC : C = (n : Int)) (hn : n ≤ 100000000)
    (h : ∀ w', Row w' w.heap.size (List.replicate n 0) → w'.heap.size = w.heap.size + 1 → Below w.heap.size w w' → wpList P ops Q rest (a.put dd (.slice (some ⟨w.heap.size, 0, none⟩) n n)) w') :
    wpList P ops Q (o :: rest) a w := by
  subst hL
  subst hC
  subst hdd
  have hrun := run_make_row' (P := P) t 5 (.int .u8 0) 1 ht hinfo rfl .i64 .i64 n (by omega) (by omega) w
  refine wpList_plain hg fun K hK' => ?_
  unfold Oper.wp
  simp [execOp, hop, hl, hc, hrun, Result.andThen]
  refine hK' _ _ (h _ ?_ (by simp) ((Below.refl _ w).alloc (Nat.le_refl _) _))
  rw [made_zeros]
  exact heap_alloc_new w _

end Go.Proofs.Ytalojeblemhihaa
