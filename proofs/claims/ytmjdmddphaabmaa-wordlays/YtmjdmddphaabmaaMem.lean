/-
  Rows of bytes that the call made, known whole: make, copy, a store, as steps of the walk. Nothing of the program.
-/
import Derived.Test.YtmjdmddphaabmaaBase
import Derived.Deep.OwnRows
namespace Go.Proofs.Ytmjdmddphaabmaa
open Go.RowKit

/-- Block g is just the bytes xs, none frozen. -/
def Row (w : World) (g : Nat) (xs : List Int) : Prop := w.heap[g]? = some (.cells (xs.map (Value.int .u8)).toArray 5 (0, 0))

theorem Row.lt {w : World} {g : Nat} {xs : List Int} (h : Row w g xs) : g < w.heap.size := (Array.getElem?_eq_some_iff.1 h).1

theorem Row.out {w : World} {g base : Nat} {xs : List Int} {n : Nat} (h : Row w g xs) (hb : base ≤ g) (hn : xs.length = n) (hm : n ≤ maxLen) (hw : ∀ x ∈ xs, (Lit.int .u8 x).wf = true) :
    Out w base (some ⟨g, 0, none⟩) n n xs := by
  refine ⟨⟨by simpa using hn, .inr ⟨g, n, (xs.map (Value.int .u8)).toArray, rfl, hb, h, Nat.le_refl _, hm, by simpa using hn, ?_⟩⟩, hw⟩
  simp only [Nat.mul_one]
  rw [List.take_of_length_le (by simp; omega)]

/-- A piece of a whole row. -/
theorem Row.rd {w : World} {g : Nat} {xs : List Int} (h : Row w g xs) (f n c : Nat) (hf : f + n ≤ xs.length) (hc : n ≤ c) (hm : c ≤ maxLen) (hw : ∀ x ∈ xs, (Lit.int .u8 x).wf = true) :
    Rd .u8 w w.heap.size (some ⟨g, f, none⟩) n c ((xs.drop f).take n) := by
  refine ⟨by simp; omega, hc, ⟨hm, fun e => by cases e⟩, fun x hx => hw x (List.mem_of_mem_drop (List.mem_of_mem_take hx)), fun i hi => ⟨g, f, rfl, h.lt, ?_⟩⟩
  rw [cell_of_row w g (f + i) _ 5 (0, 0) h]
  have : ((xs.drop f).take n).getD i 0 = xs.getD (f + i) 0 := by simp [List.getD, hi]
  rw [this]
  simp [List.getD, List.getElem?_eq_getElem (show f + i < xs.length by omega)]

theorem Row.cell {w : World} {g : Nat} {xs : List Int} (h : Row w g xs) {i : Nat} (hi : i < xs.length) : w.cell? ⟨g, i, none⟩ = some (.int .u8 (xs.getD i 0)) := by
  rw [cell_of_row w g i _ 5 (0, 0) h]
  simp [List.getD, List.getElem?_eq_getElem hi]
theorem Row.frozen {w : World} {g : Nat} {xs : List Int} (h : Row w g xs) (i : Nat) : w.frozen? ⟨g, i, none⟩ = false := by
  unfold Row at h
  simp [World.frozen?, h]
theorem Row.set {w : World} {g : Nat} {xs : List Int} (h : Row w g xs) (i : Nat) (x : Int) : Row (w.setCell ⟨g, i, none⟩ (.int .u8 x)) g (xs.set i x) := by
  unfold Row at h ⊢
  simp [World.setCell, Array.getElem?_modify, h, List.map_set]
theorem Row.below {w w' : World} {g B : Nat} {xs : List Int} (h : Row w g xs) (hb : Below B w w') (hg : g < B) : Row w' g xs := (hb.block g hg).trans h
theorem Row.drew {w : World} {g : Nat} {xs : List Int} (h : Row w g xs) : Row w.drew g xs := h

theorem made_zeros (n : Nat) : madeCells #[Value.int .u8 0] n = ((List.replicate n (0 : Int)).map (Value.int .u8)).toArray := by
  apply Array.ext
  · simp [madeCells]
  · intro i h1 h2
    simp [madeCells, Nat.mod_one]

/-- 'make([]byte, n)'. -/
theorem wpList_mk {P : Program} {w : World} {ops : Array Oper} {rest : List Oper} {o : Oper} {a : Act} {Q : Exit → Act → World → Prop}
    (hg : o.guard = none) (l c : Operand) (t : TypeId) (hop : o.op = Op.makeSlice t l c) (ht : P.underlying t = some (.slice 5))
    (hinfo : (P.info? 5).map (fun i => (i.zero, i.size, i.bytes)) = some (some (.int .u8 0), 1, 1))
    (n : Nat) (L C : Int) (hl : a.eval l = .int .i64 L) (hc : a.eval c = .int .i64 C) (hL : L = (n : Int)) (hC : C = (n : Int)) (hn : n ≤ 100000000)
    (h : ∀ w', Row w' w.heap.size (List.replicate n 0) → w'.heap.size = w.heap.size + 1 → Below w.heap.size w w' → wpList P ops Q rest (a.put o.dst (.slice (some ⟨w.heap.size, 0, none⟩) n n)) w') :
    wpList P ops Q (o :: rest) a w := by
  subst hL
  subst hC
  have hrun := run_make_row' (P := P) t 5 (.int .u8 0) 1 ht hinfo rfl .i64 .i64 n (by omega) (by omega) w
  refine wpList_plain hg fun K hK' => ?_
  unfold Oper.wp
  simp [execOp, hop, hl, hc, hrun, Result.andThen]
  refine hK' _ _ (h _ ?_ (by simp) ((Below.refl _ w).alloc (Nat.le_refl _) _))
  rw [made_zeros]
  exact heap_alloc_new w _

/-- 'copy(a piece of a whole row, any bytes)', where all of the source has room. -/
theorem wpList_cp {P : Program} {w : World} {ops : Array Oper} {rest : List Oper} {o : Oper} {a : Act} {Q : Exit → Act → World → Prop} (hgd : o.guard = none) (d s : Operand) (dT sT : TypeId)
    (ho : o.op = .call { callee := .builtin .copy, args := #[d, s], argTypes := #[dT, sT] }) (hu : P.underlying dT = some (.slice 5))
    (hinfo : (P.info? 5).map (fun i => (i.zero, i.size, i.bytes)) = some (some (.int .u8 0), 1, 1))
    (g off : Nat) (xs : List Int) (hrow : Row w g xs) (dp : Option Addr) (dLen dCap : Nat) (hd : a.eval d = .slice dp dLen dCap)
    (A : Option Addr) (m c B : Nat) (ys : List Int) (hs : a.eval s = .slice A m c) (hr : Rd .u8 w B A m c ys) (hfit : off + m ≤ xs.length) (hdl : m ≤ dLen) (hdp : 0 < m → dp = some ⟨g, off, none⟩)
    (h : ∀ w', Row w' g (splice xs off ys) → Below g w w' → wpList P ops Q rest (a.put o.dst (.int .i64 (m : Int))) w') :
    wpList P ops Q (o :: rest) a w := by
  obtain ⟨i, hi, hz, hsize, hby⟩ := info_u8 hinfo
  have hl := hr.len
  refine wpList_copy_splice hgd d s dT sT ho 5 hu (by rw [hi]; simp [hsize]) dp A dLen dCap m c hd hs g off (xs.map (Value.int .u8)) 5 hrow (ys.map (Value.int .u8)) (by simp [hl, Nat.min_eq_left hdl]) ?_ (by simp; omega) (ints_one ys) g w (Below.refl _ _) (Nat.le_refl _) ?_
  · intro hp
    have hm : 0 < m := by simpa [hl] using hp
    refine ⟨hdp hm, ?_⟩
    obtain ⟨b, o', e, _, _⟩ := hr.at_ hm
    subst e
    exact ⟨_, rfl, cells_of_rd hr⟩
  · intro w' hid hb
    have e : splice (xs.map (Value.int .u8)) off (ys.map (Value.int .u8)) = (splice xs off ys).map (Value.int .u8) := by simp [splice, List.map_take, List.map_drop]
    have h1 := hid.out
    rw [e] at h1
    have := h w' h1 hb
    simpa [goInt, hl] using this
end Go.Proofs.Ytmjdmddphaabmaa
