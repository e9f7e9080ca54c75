/-
  The document's ring in memory. Nothing is walked here.
-/
import Derived.Test.YtjaiagocbldbgaaRing
import Derived.Test.YtjaiagocbldbgaaRLay
import Derived.Test.YtjaiagocbldbgaaRefs2
namespace Go.Proofs.Ytjaiagocbldbgaa
open Go.RowKit
set_option linter.unusedVariables false

def ints (R : List Nat) : List Int := R.map (fun k : Nat => (k : Int))
theorem ints_get (R : List Nat) (i : Nat) : (ints R).getD i 0 = (R.getD i 0 : Nat) := by
  by_cases h : i < R.length
  · simp [ints, List.getD, h]
  · simp [ints, List.getD, List.getElem?_eq_none (Nat.le_of_not_lt h)]
theorem ints_len (R : List Nat) : (ints R).length = R.length := by simp [ints]
/-- A row of integers from block b on. -/
def IntB (w : World) (b k : Nat) : Prop := b ≤ k ∧ ∃ cur, w.heap[k]? = some (.cells cur 3 (0, 0))
/-- The block q is the document's ring. -/
structure RrRow (w : World) (q p b : Nat) (A : Option Addr) (n c z : Nat) (o : Int) (R : List Nat) (d : Nat) : Prop where
  blk : w.heap[q]? = some (.cells #[ptr p, .int .i64 (z : Int), .int .i64 o, .slice A n c, .int .i64 (d : Int)] 74 (0, 0))
  out : Out .i64 3 w b A n c (ints R)
  size : 1 ≤ z ∧ z ≤ 256
  own : isOwn o
  le : R.length ≤ z
  lt : q < w.heap.size ∧ b ≤ w.heap.size
def RrAt (w : World) (q p b z : Nat) (o : Int) (R : List Nat) (d : Nat) : Prop := ∃ A n c, RrRow w q p b A n c z o R d
/-- What a walk is told of it. -/
structure RrCells (w : World) (q p : Nat) (A : Option Addr) (n c z : Nat) (o : Int) (d : Nat) : Prop where
  c0 : w.cell? ⟨q, 0, none⟩ = some (ptr p)
  c1 : w.cell? ⟨q, 1, none⟩ = some (.int .i64 (z : Int))
  c2 : w.cell? ⟨q, 2, none⟩ = some (.int .i64 o)
  c3 : w.cell? ⟨q, 3, none⟩ = some (.slice A n c)
  c4 : w.cell? ⟨q, 4, none⟩ = some (.int .i64 (d : Int))
  fr : ∀ i, w.frozen? ⟨q, i, none⟩ = false
  lt : q < w.heap.size
theorem RrCells.kept {S : Nat → Prop} {w w' : World} {q p n c z d : Nat} {A : Option Addr} {o : Int} (h : RrCells w q p A n c z o d) (hk : Kept S w w') (hq : ¬ S q) : RrCells w' q p A n c z o d := by
  have e := hk.block q h.lt hq
  have e1 := fun i => World.cell?_of_block (a := ⟨q, i, none⟩) e
  have e2 := fun i => World.frozen?_of_block (a := ⟨q, i, none⟩) e
  exact ⟨(e1 0).trans h.c0, (e1 1).trans h.c1, (e1 2).trans h.c2, (e1 3).trans h.c3, (e1 4).trans h.c4, fun i => (e2 i).trans (h.fr i), Nat.lt_of_lt_of_le h.lt hk.size⟩
theorem RrCells.below {w w' : World} {q p n c z d : Nat} {A : Option Addr} {o : Int} (h : RrCells w q p A n c z o d) (hb : Below w.heap.size w w') : RrCells w' q p A n c z o d :=
  h.kept (S := fun _ => False) (Kept.of_below hb) (fun h => h)
section
variable {S : Nat → Prop} {w w' : World} {q p b n c z d : Nat} {A : Option Addr} {o : Int} {R : List Nat}
theorem RrRow.len (h : RrRow w q p b A n c z o R d) : R.length = n := by rw [← ints_len]; exact h.out.len
theorem RrRow.cells (h : RrRow w q p b A n c z o R d) : RrCells w q p A n c z o d := by
  have e := fun i => cell_of_row w q i _ 74 (0, 0) h.blk
  refine ⟨?_, ?_, ?_, ?_, ?_, fun i => by simp [World.frozen?, h.blk], h.lt.1⟩ <;> rw [e] <;> rfl
theorem RrRow.kept (h : RrRow w q p b A n c z o R d) (hk : Kept S w w') (hq : ¬ S q) (hs : ∀ k, S k → ¬ IntB w b k) : RrRow w' q p b A n c z o R d :=
  ⟨(hk.block q h.lt.1 hq).trans h.blk, h.out.kept hk (fun ad e h2 => hs _ h2 (h.out.block ad e)), h.size, h.own, h.le, Nat.lt_of_lt_of_le h.lt.1 hk.size, Nat.le_trans h.lt.2 hk.size⟩
theorem RrRow.below (h : RrRow w q p b A n c z o R d) (hb : Below w.heap.size w w') : RrRow w' q p b A n c z o R d :=
  h.kept (S := fun _ => False) (Kept.of_below hb) (fun h => h) (fun _ h => h.elim)
theorem RrAt.kept (h : RrAt w q p b z o R d) (hk : Kept S w w') (hq : ¬ S q) (hs : ∀ k, S k → ¬ IntB w b k) : RrAt w' q p b z o R d := by
  obtain ⟨A, n, c, h⟩ := h
  exact ⟨A, n, c, h.kept hk hq hs⟩
theorem RrAt.below (h : RrAt w q p b z o R d) (hb : Below w.heap.size w w') : RrAt w' q p b z o R d := by
  obtain ⟨A, n, c, h⟩ := h
  exact ⟨A, n, c, h.below hb⟩
theorem RrAt.size (h : RrAt w q p b z o R d) : 1 ≤ z ∧ z ≤ 256 := by obtain ⟨A, n, c, h⟩ := h; exact h.size
theorem RrAt.blkq (h : RrAt w q p b z o R d) : ∃ cur, w.heap[q]? = some (.cells cur 74 (0, 0)) := by obtain ⟨A, n, c, h⟩ := h; exact ⟨_, h.blk⟩
theorem RrAt.lt (h : RrAt w q p b z o R d) : q < w.heap.size ∧ b ≤ w.heap.size := by obtain ⟨A, n, c, h⟩ := h; exact h.lt
/-- One more is dropped. -/
theorem RrRow.drop (h : RrRow w q p b A n c z o R d) : RrRow (w.setCell ⟨q, 4, none⟩ (.int .i64 ((d : Int) + 1))) q p b A n c z o R (d + 1) ∧ Kept (· = q) w (w.setCell ⟨q, 4, none⟩ (.int .i64 ((d : Int) + 1))) := by
  have hk : Kept (· = q) w (w.setCell ⟨q, 4, none⟩ (.int .i64 ((d : Int) + 1))) := Kept.setCell (S := (· = q)) w _ _ rfl
  refine ⟨⟨?_, h.out.kept hk (fun ad e e' => ?_), h.size, h.own, h.le, Nat.lt_of_lt_of_le h.lt.1 hk.size, Nat.le_trans h.lt.2 hk.size⟩, hk⟩
  · rw [setCell_eq_setRow w q 4 _ 74 (0, 0) _ h.blk]
    exact setRow_heap w q _ _ 74 (0, 0) h.blk
  · obtain ⟨_, cur, hc⟩ := h.out.block ad e
    exact blk_ne hc h.blk (by decide) e'
/-- Another row is its own now: it is laid in a world that has grown by it. -/
theorem RrRow.row (h : RrRow w q p b A n c z o R d) {A' : Option Addr} {n' c' : Nat} {R' : List Nat} (hk : Kept (IntB w b) w w') (ho : Out .i64 3 w' b A' n' c' (ints R')) (hR : R'.length ≤ z) :
    RrRow (w'.setCell ⟨q, 3, none⟩ (.slice A' n' c')) q p b A' n' c' z o R' d ∧ Kept (fun k => k = q ∨ IntB w b k) w (w'.setCell ⟨q, 3, none⟩ (.slice A' n' c')) := by
  have hnq : ¬ IntB w b q := fun ⟨_, cur, hc⟩ => blk_ne hc h.blk (by decide) rfl
  have b2 := (hk.block q h.lt.1 hnq).trans h.blk
  have hk2 : Kept (· = q) w' (w'.setCell ⟨q, 3, none⟩ (.slice A' n' c')) := Kept.setCell (S := (· = q)) w' _ _ rfl
  have hK := (hk.mono (T := fun k => k = q ∨ IntB w b k) (fun k _ e => .inr e)).trans (hk2.mono (fun k _ e => .inl e))
  refine ⟨⟨?_, ho.kept hk2 (fun ad e e' => ?_), h.size, h.own, hR, Nat.lt_of_lt_of_le h.lt.1 hK.size, Nat.le_trans h.lt.2 hK.size⟩, hK⟩
  · rw [setCell_eq_setRow w' q 3 _ 74 (0, 0) _ b2]
    exact setRow_heap w' q _ _ 74 (0, 0) b2
  · obtain ⟨_, cur, hc⟩ := ho.block ad e
    exact blk_ne hc b2 (by decide) e'
end
theorem Kept.intB {w w' : World} {b : Nat} {A : Option Addr} {n c : Nat} {xs : List Int} (h : Out .i64 3 w b A n c xs) (hg : w.grownBy w' (Value.slice A n c).ownBlock) : Kept (IntB w b) w w' :=
  Kept.grown hg (fun k hk => by
    cases A with
    | none => simp [Value.ownBlock] at hk
    | some ad =>
      simp [Value.ownBlock] at hk
      subst hk
      exact h.block ad rfl)
theorem Kept.intB2 {w w1 w' : World} {b : Nat} {A : Option Addr} {n c : Nat} {xs : List Int} (h : Out .i64 3 w b A n c xs) (ba : Below w.heap.size w w1) (hg : w1.grownBy w' (Value.slice A n c).ownBlock) : Kept (IntB w b) w w' :=
  (Kept.of_below (S := IntB w b) ba).trans (Kept.grown hg (fun k hk => by
    cases A with
    | none => simp [Value.ownBlock] at hk
    | some ad =>
      simp [Value.ownBlock] at hk
      subst hk
      exact h.block ad rfl))
/-- A pool stays, where rows of integers and a ring's block alone are turned. -/
theorem PlAt.rref {tp ts : TypeId} {w w' : World} {p g cp : Nat} {L : Slots} {F : Nat → Prop} {q b : Nat} {cq : Array Value} (h : PlAt tp ts w p g cp L F) (hL : 0 < L.length) (htp : ¬ tp = 74 ∧ ¬ tp = 3) (hts : ¬ ts = 74 ∧ ¬ ts = 3)
    (hq : w.heap[q]? = some (.cells cq 74 (0, 0))) (hk : Kept (fun k => k = q ∨ IntB w b k) w w') : PlAt tp ts w' p g cp L F := by
  obtain ⟨G, h1, _⟩ := h.ptr
  obtain ⟨cur, h2, _⟩ := h.rows hL
  refine h.kept hk ?_ ?_ ?_
  · rintro (e | ⟨_, c, e⟩)
    · exact blk_ne h1 hq htp.1 e
    · exact blk_ne h1 e htp.2 rfl
  · rintro (e | ⟨_, c, e⟩)
    · exact blk_ne h2 hq hts.1 e
    · exact blk_ne h2 e hts.2 rfl
  · rintro k (rfl | ⟨_, c, e⟩)
    · exact .inr (fun c hc => blk_ne hc hq (by decide) rfl)
    · exact .inr (fun c' hc => blk_ne hc e (by decide) rfl)
/-- What the document's Put and Move give. -/
def GivesRL (w : World) (q p b g cp z : Nat) (o : Int) (L' : Slots) (R' : List Nat) (d' : Nat) (F : Nat → Prop) (E : Int) : Ending → World → Prop := fun e w' =>
  e = .returned (.int .i64 E) ∧ Rp w' p g cp L' F ∧ RrAt w' q p b z o R' d' ∧ Kept (fun k => k = g ∨ k = q ∨ IntB w b k) w w'
section
variable {w w1 w2 : World} {q p b n c z g cp : Nat} {A : Option Addr} {o : Int} {R : List Nat} {d : Nat} {L L' : Slots} {F : Nat → Prop} {E : Int}
theorem RrRow.qg (h : RrRow w q p b A n c z o R d) (hp : Rp w p g cp L F) (hL : 0 < L.length) : q ≠ g ∧ ¬ IntB w b g := by
  obtain ⟨cur, h2, _⟩ := hp.rows hL
  exact ⟨blk_ne h.blk h2 (by decide), fun ⟨_, c, e⟩ => blk_ne h2 e (by decide) rfl⟩
theorem IntB.back {S : Nat → Prop} {k : Nat} (hk : Kept S w w1) (h : IntB w1 b k) (hlt : k < w.heap.size) (hS : ¬ S k) : IntB w b k := by
  obtain ⟨h1, cur, h2⟩ := h
  exact ⟨h1, cur, (hk.block k hlt hS).symm.trans h2⟩
theorem GivesRL.no (h : RrRow w q p b A n c z o R d) (hp : Rp w p g cp L F) (hL : 0 < L.length) (hl : L'.length = L.length) (hp1 : Rp w1 p g cp L' F) (hk : Kept (· = g) w w1) (E : Int) :
    GivesRL w q p b g cp z o L' R (d + 1) F E (.returned (.int .i64 E)) (w1.setCell ⟨q, 4, none⟩ (.int .i64 ((d : Int) + 1))) := by
  obtain ⟨hq, hg⟩ := h.qg hp hL
  have h1 := h.kept hk hq (fun k e => by rw [e]; exact hg)
  obtain ⟨h2, k2⟩ := h1.drop
  exact ⟨rfl, hp1.rref (b := b) (by omega) (by decide) (by decide) h1.blk (k2.mono (fun k _ e => .inl e)), ⟨_, _, _, h2⟩, (hk.mono (fun k _ e => .inl e)).trans (k2.mono (fun k _ e => .inr (.inl e)))⟩
theorem GivesRL.yes (h : RrRow w q p b A n c z o R d) (hp : Rp w p g cp L F) (hL : 0 < L.length) (hl : L'.length = L.length) (hp1 : Rp w1 p g cp L' F) (hk : Kept (· = g) w w1) {A' : Option Addr} {n' c' : Nat} {R' : List Nat} (hk2 : Kept (IntB w1 b) w1 w2) (ho : Out .i64 3 w2 b A' n' c' (ints R')) (hR : R'.length ≤ z) :
    GivesRL w q p b g cp z o L' R' d F 0 (.returned (.int .i64 0)) (w2.setCell ⟨q, 3, none⟩ (.slice A' n' c')) := by
  obtain ⟨hq, hg⟩ := h.qg hp hL
  have h1 := h.kept hk hq (fun k e => by rw [e]; exact hg)
  obtain ⟨h3, k3⟩ := h1.row hk2 ho hR
  refine ⟨rfl, hp1.rref (by omega) (by decide) (by decide) h1.blk k3, ⟨_, _, _, h3⟩, ?_⟩
  refine ⟨k3.os.trans hk.os, k3.tape.trans hk.tape, k3.output.trans hk.output, Nat.le_trans hk.size k3.size, fun k hlt hS => ?_⟩
  have hkg : ¬ k = g := fun e => hS (.inl e)
  refine (k3.block k (Nat.lt_of_lt_of_le hlt hk.size) ?_).trans (hk.block k hlt hkg)
  rintro (e | e)
  · exact hS (.inr (.inl e))
  · exact hS (.inr (.inr (e.back hk hlt hkg)))
end
end Go.Proofs.Ytjaiagocbldbgaa
