/-
  A ring as a plain list of buffers' numbers; the program's ring in memory. Nothing is walked here.
-/
import Derived.Test.YtjaiagocbldbgaaReads
import Derived.Test.YtjaiagocbldbgaaTurns
import Derived.Laws.OwnMore
namespace Go.Proofs.Ytjaiagocbldbgaa
open Go.RowKit
set_option linter.unusedVariables false

/-- The slot i behind slot f, of z slots that are gone round. -/
def slotN (f i z : Nat) : Nat := if f + i < z then f + i else f + i - z
theorem slotN_lt {f i z : Nat} (hf : f < z) (hi : i ≤ z) : slotN f i z < z := by unfold slotN; split <;> omega
theorem slotN_rem {f i z : Nat} (hf : f < z) (hi : i ≤ z) : ((f : Int) + (i : Int)) % (z : Int) = (slotN f i z : Nat) := by
  have e : ((f : Int) + (i : Int)) = ((f + i : Nat) : Int) := by omega
  rw [e, ← Int.natCast_emod]
  congr 1
  unfold slotN
  by_cases h : f + i < z
  · rw [if_pos h]; exact Nat.mod_eq_of_lt h
  · rw [if_neg h, Nat.mod_eq_sub_mod (by omega)]; exact Nat.mod_eq_of_lt (by omega)
/-- The numbers R lie in the row ys from slot f on. -/
def Lies (ys : List Int) (f z : Nat) (R : List Nat) : Prop := ∀ i, i < R.length → ys.getD (slotN f i z) 0 = (R.getD i 0 : Nat)
theorem Lies.nil (ys : List Int) (f z : Nat) : Lies ys f z [] := fun i hi => by simp at hi
theorem Lies.put {ys : List Int} {f z : Nat} {R : List Nat} (h : Lies ys f z R) (hf : f < z) (hl : ys.length = z) (hr : R.length < z) (x : Nat) :
    Lies (ys.set (slotN f R.length z) (x : Int)) f z (R ++ [x]) := by
  intro i hi
  have hi' : i < R.length + 1 := by simpa using hi
  by_cases e : i = R.length
  · subst e
    have h1 := slotN_lt hf (Nat.le_of_lt hr)
    simp [List.getD, hl, h1]
  · have hlt : i < R.length := by omega
    have hne : slotN f R.length z ≠ slotN f i z := by unfold slotN; split <;> split <;> omega
    have := h i hlt
    simp only [List.getD, List.getElem?_set_ne hne, List.getElem?_append_left hlt] at this ⊢
    exact this
theorem Lies.tail {ys : List Int} {f z x : Nat} {R : List Nat} (h : Lies ys f z (x :: R)) (hf : f < z) (hr : (x :: R).length ≤ z) : Lies ys (slotN f 1 z) z R := by
  intro i hi
  have := h (i + 1) (by simp; omega)
  have hr' : R.length + 1 ≤ z := by simpa using hr
  have e : slotN (slotN f 1 z) i z = slotN f (i + 1) z := by unfold slotN; split <;> split <;> split <;> omega
  rw [e, this]
  simp [List.getD]

/-- Put and Move: the error, the ring and the pool behind it. -/
def ptE (L : Slots) (R : List Nat) (z : Nat) (o : Int) (n : Nat) : Int := if R.length < z then tkE L o n else 18
def ptL (L : Slots) (R : List Nat) (z : Nat) (o : Int) (b : List Int) : Slots := if R.length < z then tkL L o b else L
def ptR (L : Slots) (R : List Nat) (z : Nat) (o : Int) (n : Nat) : List Nat := if ptE L R z o n = 0 then R ++ [free1 L] else R
def mvE (L : Slots) (R : List Nat) (z : Nat) (o b f : Int) : Int := if R.length < z then hdE L b f o else 18
def mvL (L : Slots) (R : List Nat) (z : Nat) (o b f : Int) : Slots := if R.length < z then hdL L b f o else L
def mvR (L : Slots) (R : List Nat) (z : Nat) (o b f : Int) : List Nat := if mvE L R z o b f = 0 then R ++ [b.toNat] else R
/-- How many are dropped behind an error. -/
def drp (E : Int) (d : Nat) : Nat := if E = 0 then d else d + 1
theorem drp_ok (d : Nat) : drp 0 d = d := rfl
theorem drp_no {E : Int} (h : ¬ E = 0) (d : Nat) : drp E d = d + 1 := by unfold drp; rw [if_neg h]
theorem drp_le (E : Int) (d : Nat) : drp E d ≤ d + 1 := by unfold drp; split <;> omega

/-- The block q is a ring of z slots (in block s, the first one's number f), of the owner o, over the pool p: it has R, and dropped d. -/
structure RgRow (w : World) (q p s f c : Nat) (ys : List Int) (z : Nat) (o : Int) (R : List Nat) (d : Nat) : Prop where
  blk : w.heap[q]? = some (.cells #[ptr p, .slice (some ⟨s, 0, none⟩) z c, .int .i64 (f : Int), .int .i64 (R.length : Int), .int .i64 o, .int .i64 (d : Int)] 72 (0, 0))
  out : Out .i64 3 w 0 (some ⟨s, 0, none⟩) z c ys
  flt : f < z
  lies : Lies ys f z R
  size : 1 ≤ z ∧ z ≤ 256
  own : isOwn o
  le : R.length ≤ z
  lt : q < w.heap.size ∧ s < w.heap.size
def RgAt (w : World) (q p s : Nat) (z : Nat) (o : Int) (R : List Nat) (d : Nat) : Prop := ∃ (f c : Nat) (ys : List Int), RgRow w q p s f c ys z o R d

/-- What a walk is told of a ring. -/
structure RgCells (w : World) (q p s f c n z : Nat) (o : Int) (d : Nat) : Prop where
  c0 : w.cell? ⟨q, 0, none⟩ = some (ptr p)
  c1 : w.cell? ⟨q, 1, none⟩ = some (.slice (some ⟨s, 0, none⟩) z c)
  c2 : w.cell? ⟨q, 2, none⟩ = some (.int .i64 (f : Int))
  c3 : w.cell? ⟨q, 3, none⟩ = some (.int .i64 (n : Int))
  c4 : w.cell? ⟨q, 4, none⟩ = some (.int .i64 o)
  c5 : w.cell? ⟨q, 5, none⟩ = some (.int .i64 (d : Int))
  fr : ∀ i, w.frozen? ⟨q, i, none⟩ = false
  lt : q < w.heap.size ∧ s < w.heap.size
theorem RgCells.of {w : World} {q p s f c n z : Nat} {o : Int} {d : Nat} (h : w.heap[q]? = some (.cells #[ptr p, .slice (some ⟨s, 0, none⟩) z c, .int .i64 (f : Int), .int .i64 (n : Int), .int .i64 o, .int .i64 (d : Int)] 72 (0, 0))) (hs : s < w.heap.size) :
    RgCells w q p s f c n z o d := by
  have e := fun i => cell_of_row w q i _ 72 (0, 0) h
  refine ⟨?_, ?_, ?_, ?_, ?_, ?_, fun i => by simp [World.frozen?, h], (Array.getElem?_eq_some_iff.1 h).1, hs⟩ <;> rw [e] <;> rfl
theorem RgCells.kept {S : Nat → Prop} {w w' : World} {q p s f c n z : Nat} {o : Int} {d : Nat} (h : RgCells w q p s f c n z o d) (hk : Kept S w w') (hq : ¬ S q) : RgCells w' q p s f c n z o d := by
  have e := hk.block q h.lt.1 hq
  have e1 := fun i => World.cell?_of_block (a := ⟨q, i, none⟩) e
  have e2 := fun i => World.frozen?_of_block (a := ⟨q, i, none⟩) e
  exact ⟨(e1 0).trans h.c0, (e1 1).trans h.c1, (e1 2).trans h.c2, (e1 3).trans h.c3, (e1 4).trans h.c4, (e1 5).trans h.c5, fun i => (e2 i).trans (h.fr i), Nat.lt_of_lt_of_le h.lt.1 hk.size, Nat.lt_of_lt_of_le h.lt.2 hk.size⟩
theorem RgCells.below {w w' : World} {q p s f c n z : Nat} {o : Int} {d : Nat} (h : RgCells w q p s f c n z o d) (hb : Below w.heap.size w w') : RgCells w' q p s f c n z o d :=
  h.kept (S := fun _ => False) (Kept.of_below hb) (fun h => h)
section
variable {S : Nat → Prop} {w w' : World} {q p s f c z : Nat} {ys : List Int} {o : Int} {R : List Nat} {d : Nat}
theorem RgRow.cells (h : RgRow w q p s f c ys z o R d) : RgCells w q p s f c R.length z o d := RgCells.of h.blk h.lt.2
theorem RgRow.kept (h : RgRow w q p s f c ys z o R d) (hk : Kept S w w') (hq : ¬ S q) (hs : ¬ S s) : RgRow w' q p s f c ys z o R d :=
  ⟨(hk.block q h.lt.1 hq).trans h.blk, h.out.kept hk (fun ad e => by cases e; exact hs), h.flt, h.lies, h.size, h.own, h.le, Nat.lt_of_lt_of_le h.lt.1 hk.size, Nat.lt_of_lt_of_le h.lt.2 hk.size⟩
theorem RgRow.below (h : RgRow w q p s f c ys z o R d) (hb : Below w.heap.size w w') : RgRow w' q p s f c ys z o R d :=
  h.kept (S := fun _ => False) (Kept.of_below hb) (fun h => h) (fun h => h)
theorem RgAt.kept (h : RgAt w q p s z o R d) (hk : Kept S w w') (hq : ¬ S q) (hs : ¬ S s) : RgAt w' q p s z o R d := by
  obtain ⟨f, c, ys, h⟩ := h
  exact ⟨f, c, ys, h.kept hk hq hs⟩
theorem RgAt.below (h : RgAt w q p s z o R d) (hb : Below w.heap.size w w') : RgAt w' q p s z o R d := by
  obtain ⟨f, c, ys, h⟩ := h
  exact ⟨f, c, ys, h.below hb⟩
theorem RgAt.lt (h : RgAt w q p s z o R d) : q < w.heap.size ∧ s < w.heap.size := by obtain ⟨f, c, ys, h⟩ := h; exact h.lt
theorem RgAt.le (h : RgAt w q p s z o R d) : R.length ≤ z := by obtain ⟨f, c, ys, h⟩ := h; exact h.le
theorem RgAt.size (h : RgAt w q p s z o R d) : 1 ≤ z ∧ z ≤ 256 := by obtain ⟨f, c, ys, h⟩ := h; exact h.size
theorem RgAt.own (h : RgAt w q p s z o R d) : isOwn o := by obtain ⟨f, c, ys, h⟩ := h; exact h.own
/-- Blocks of unlike types are unlike. -/
theorem blk_ne {w : World} {a b : Nat} {ca cb : Array Value} {ta tb : TypeId} {fa fb : Nat × Nat} (ha : w.heap[a]? = some (.cells ca ta fa)) (hb : w.heap[b]? = some (.cells cb tb fb)) (ht : ¬ ta = tb) : a ≠ b := by
  rintro rfl
  rw [ha] at hb
  injection hb with hb
  injection hb with _ hb
  exact ht hb
theorem RgRow.sblk (h : RgRow w q p s f c ys z o R d) : ∃ cur, w.heap[s]? = some (.cells cur 3 (0, 0)) := (h.out.block _ rfl).2
theorem RgRow.ne (h : RgRow w q p s f c ys z o R d) : q ≠ s := by
  obtain ⟨cur, hc⟩ := h.sblk
  exact blk_ne h.blk hc (by decide)
theorem RgAt.blks (h : RgAt w q p s z o R d) : (∃ cur, w.heap[q]? = some (.cells cur 72 (0, 0))) ∧ ∃ cur, w.heap[s]? = some (.cells cur 3 (0, 0)) := by
  obtain ⟨f, c, ys, h⟩ := h
  exact ⟨⟨_, h.blk⟩, h.sblk⟩
/-- One more is dropped. -/
theorem RgRow.drop (h : RgRow w q p s f c ys z o R d) : RgRow (w.setCell ⟨q, 5, none⟩ (.int .i64 ((d : Int) + 1))) q p s f c ys z o R (d + 1) ∧ Kept (· = q) w (w.setCell ⟨q, 5, none⟩ (.int .i64 ((d : Int) + 1))) := by
  have hk : Kept (· = q) w (w.setCell ⟨q, 5, none⟩ (.int .i64 ((d : Int) + 1))) := Kept.setCell (S := (· = q)) w _ _ rfl
  refine ⟨⟨?_, h.out.kept hk (fun ad e => by cases e; exact Ne.symm h.ne), h.flt, h.lies, h.size, h.own, h.le, Nat.lt_of_lt_of_le h.lt.1 hk.size, Nat.lt_of_lt_of_le h.lt.2 hk.size⟩, hk⟩
  rw [setCell_eq_setRow w q 5 _ 72 (0, 0) _ h.blk]
  exact setRow_heap w q _ _ 72 (0, 0) h.blk
/-- A number is laid behind the last one. -/
theorem RgRow.put (h : RgRow w q p s f c ys z o R d) (hR : R.length < z) (x : Nat) (hx : x ≤ 100000) :
    RgRow ((w.setCell ⟨s, slotN f R.length z, none⟩ (.int .i64 (x : Int))).setCell ⟨q, 3, none⟩ (.int .i64 ((R.length : Int) + 1))) q p s f c (ys.set (slotN f R.length z) (x : Int)) z o (R ++ [x]) d ∧
    Kept (fun k => k = q ∨ k = s) w ((w.setCell ⟨s, slotN f R.length z, none⟩ (.int .i64 (x : Int))).setCell ⟨q, 3, none⟩ (.int .i64 ((R.length : Int) + 1))) := by
  have hk1 : Kept (· = s) w (w.setCell ⟨s, slotN f R.length z, none⟩ (.int .i64 (x : Int))) := Kept.setCell (S := (· = s)) w _ _ rfl
  have o2 : Out .i64 3 (w.setCell ⟨s, slotN f R.length z, none⟩ (.int .i64 (x : Int))) 0 (some ⟨s, 0, none⟩) z c (ys.set (slotN f R.length z) (x : Int)) := by
    obtain ⟨h1, h2⟩ := h.out.1.stored (slotN f R.length z) (.int .i64 (x : Int))
    refine ⟨by rw [List.map_set]; exact h1, fun y hy => ?_⟩
    rcases List.mem_or_eq_of_mem_set hy with hy | rfl
    · exact h.out.2 y hy
    · exact i64_small (by omega)
  have b2 := (hk1.block q h.lt.1 h.ne).trans h.blk
  have hk2 : Kept (· = q) (w.setCell ⟨s, slotN f R.length z, none⟩ (.int .i64 (x : Int))) ((w.setCell ⟨s, slotN f R.length z, none⟩ (.int .i64 (x : Int))).setCell ⟨q, 3, none⟩ (.int .i64 ((R.length : Int) + 1))) := Kept.setCell (S := (· = q)) _ _ _ rfl
  have hk := (hk1.mono (T := fun k => k = q ∨ k = s) (fun k _ e => .inr e)).trans (hk2.mono (fun k _ e => .inl e))
  refine ⟨⟨?_, o2.kept hk2 (fun ad e => by cases e; exact Ne.symm h.ne), h.flt, h.lies.put h.flt h.out.len hR x, h.size, h.own, by simp; omega, Nat.lt_of_lt_of_le h.lt.1 hk.size, Nat.lt_of_lt_of_le h.lt.2 hk.size⟩, hk⟩
  rw [setCell_eq_setRow _ q 3 _ 72 (0, 0) _ b2]
  have := setRow_heap _ q _ ((#[ptr p, .slice (some ⟨s, 0, none⟩) z c, .int .i64 (f : Int), .int .i64 (R.length : Int), .int .i64 o, .int .i64 (d : Int)] : Array Value).setIfInBounds 3 (.int .i64 ((R.length : Int) + 1))) 72 (0, 0) b2
  rw [this]
  simp
/-- The first number is taken out. -/
theorem RgRow.take {x : Nat} {T : List Nat} (h : RgRow w q p s f c ys z o (x :: T) d) :
    RgRow ((w.setCell ⟨q, 2, none⟩ (.int .i64 (slotN f 1 z : Nat))).setCell ⟨q, 3, none⟩ (.int .i64 (T.length : Int))) q p s (slotN f 1 z) c ys z o T d ∧
    Kept (· = q) w ((w.setCell ⟨q, 2, none⟩ (.int .i64 (slotN f 1 z : Nat))).setCell ⟨q, 3, none⟩ (.int .i64 (T.length : Int))) := by
  have hk1 : Kept (· = q) w (w.setCell ⟨q, 2, none⟩ (.int .i64 (slotN f 1 z : Nat))) := Kept.setCell (S := (· = q)) w _ _ rfl
  have b2 : (w.setCell ⟨q, 2, none⟩ (.int .i64 (slotN f 1 z : Nat))).heap[q]? = some (.cells #[ptr p, .slice (some ⟨s, 0, none⟩) z c, .int .i64 (slotN f 1 z : Nat), .int .i64 ((x :: T).length : Int), .int .i64 o, .int .i64 (d : Int)] 72 (0, 0)) := by
    rw [setCell_eq_setRow w q 2 _ 72 (0, 0) _ h.blk]
    exact setRow_heap w q _ _ 72 (0, 0) h.blk
  have hk2 : Kept (· = q) (w.setCell ⟨q, 2, none⟩ (.int .i64 (slotN f 1 z : Nat))) ((w.setCell ⟨q, 2, none⟩ (.int .i64 (slotN f 1 z : Nat))).setCell ⟨q, 3, none⟩ (.int .i64 (T.length : Int))) := Kept.setCell (S := (· = q)) _ _ _ rfl
  have hk := hk1.trans hk2
  have hz := h.size
  have hle := h.le
  refine ⟨⟨?_, h.out.kept hk (fun ad e => by cases e; exact Ne.symm h.ne), slotN_lt h.flt hz.1, h.lies.tail h.flt hle, hz, h.own, by simp at hle; omega, Nat.lt_of_lt_of_le h.lt.1 hk.size, Nat.lt_of_lt_of_le h.lt.2 hk.size⟩, hk⟩
  rw [setCell_eq_setRow _ q 3 _ 72 (0, 0) _ b2]
  exact setRow_heap _ q _ _ 72 (0, 0) b2
end
/-- A pool's blocks are none of a ring's. -/
theorem PlAt.off {tp ts : TypeId} {w : World} {p g cp : Nat} {L : Slots} {F : Nat → Prop} (h : PlAt tp ts w p g cp L F) (hL : 0 < L.length) :
    (∃ cur fr, w.heap[p]? = some (.cells cur tp fr)) ∧ (∃ cur fr, w.heap[g]? = some (.cells cur ts fr)) := by
  obtain ⟨G, h1, _⟩ := h.ptr
  obtain ⟨cur, h2, _⟩ := h.rows hL
  exact ⟨⟨_, _, h1⟩, ⟨_, _, h2⟩⟩
end Go.Proofs.Ytjaiagocbldbgaa
