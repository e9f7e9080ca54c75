/-
  A range over a function whose iterator writes memory of its own: the contract of such an iterator, and the law for the loop that goes over it to its end. Nothing of the program is said here.
-/
import Derived.RangeFuncNested
import Derived.RangeFuncLeaves
import Derived.RangeFuncCalls
import Derived.Test.YtbefoapnlehdmaaDoorBase
namespace Go.Proofs.YtbefoapnlehdmaaDoor
open Go.RowKit

/-- All blocks of W but those that X names lie in W' as they lay. -/
structure Away (X : Nat → Prop) (W W' : World) : Prop where
  os : W'.os = W.os
  tape : W'.tape = W.tape
  output : W'.output = W.output
  size : W.heap.size ≤ W'.heap.size
  block : ∀ k, k < W.heap.size → ¬ X k → W'.heap[k]? = W.heap[k]?

section
variable {X Y : Nat → Prop} {A B C : World}
theorem Away.refl (X : Nat → Prop) (W : World) : Away X W W := ⟨rfl, rfl, rfl, Nat.le_refl _, fun _ _ _ => rfl⟩
theorem Away.trans (h : Away X A B) (k : Away X B C) : Away X A C :=
  ⟨k.os.trans h.os, k.tape.trans h.tape, k.output.trans h.output, Nat.le_trans h.size k.size, fun i hi hx => (k.block i (Nat.lt_of_lt_of_le hi h.size) hx).trans (h.block i hi hx)⟩
theorem Away.mono (h : Away X A B) (hXY : ∀ k, X k → Y k) : Away Y A B := ⟨h.os, h.tape, h.output, h.size, fun k hk hy => h.block k hk (fun hx => hy (hXY k hx))⟩
theorem Away.of_below {B0 : Nat} (h : Below B0 A B) (hX : ∀ k, B0 ≤ k → k < A.heap.size → X k) : Away X A B :=
  ⟨h.os, h.tape, h.output, h.size, fun k hk hx => h.block k (by by_cases hc : k < B0; exact hc; exact absurd (hX k (by omega) hk) hx)⟩
theorem Away.below {B0 : Nat} (h : Away X A B) (hB : B0 ≤ A.heap.size) (hX : ∀ k, k < B0 → ¬ X k) : Below B0 A B :=
  ⟨h.os, h.tape, h.output, h.size, fun k hk => h.block k (by omega) (hX k hk)⟩
theorem Away.cell (h : Away X A B) {p : Addr} (hp : p.block < A.heap.size) (hx : ¬ X p.block) : B.cell? p = A.cell? p := World.cell?_of_block (w := A) (h.block p.block hp hx)
theorem Away.put {l : Nat} (W : World) (o : Obj) : Away (fun k => k = l) W (W.putObj l o) :=
  ⟨rfl, rfl, rfl, by simp, fun k _ hk => World.putObj_heap_other hk⟩
theorem Away.set (W : World) (g o : Nat) (v : Value) : Away (fun k => k = g) W (W.setCell ⟨g, o, none⟩ v) :=
  ⟨rfl, rfl, rfl, by simp [World.setCell], fun k _ hk => Below.heap_setCell W _ v k hk⟩
theorem Away.grown {row : Option Nat} (h : A.grownBy B row) (hX : ∀ r, row = some r → X r) : Away X A B :=
  ⟨h.os, h.tape, h.output, h.size, fun k hk hx => h.block k hk (fun e => hx (hX k e.symm))⟩
end

/-- The iterator's value '.func (.func g) #[] lb', made in w: called at the yield of whatever loop l, it hands xs over, one by one. J is whatever the loop's side keeps of blocks that lie when the call begins; a round leaves all blocks as they lay but the loop's record and those that X names. -/
def Seqs {α : Type} (P : Program) (g : Nat) (lb : Array Value) (encs : α → Array Value) (X : Nat → Prop) (xs : List α) (w : World) : Prop :=
  ∀ (l : Nat) (J : List α → World → Prop) (W : World), Below w.heap.size w W → w.heap.size ≤ l → l < W.heap.size → (∀ s A B, J s A → Below W.heap.size A B → J s B) →
    (∀ pre x V, pre ++ [x] <+: xs → J pre V → YieldAt Fence.wide 0 P l (encs x) V fun e V' => e = .returned (.bool true) ∧ J (pre ++ [x]) V' ∧ Away (fun k => k = l ∨ X k) V V') →
    J [] W →
    CallsIn Fence.wide 0 P g (#[.func (.yield l) #[] #[]] ++ lb) W fun e W' => (∃ v, e = .returned v) ∧ J xs W'

/-- The loop over it, where no round leaves early. -/
theorem wpIn_seqs {α : Type} {P : Program} {g : Operand} {ps : Array Tmp} {assign body : Code} {Q : Exit → Act → World → Prop} {a : Act} {w : World}
    {gf : Nat} {lb : Array Value} (hg : a.eval g = .func (.func gf) #[] lb) (eg : ∀ args w, (callFunc gf args).run P w = .ok (.enter gf args) w)
    {encs : α → Array Value} {X : Nat → Prop} {xs : List α} (hseq : Seqs P gf lb encs X xs w) (hX : ∀ k, X k → k < w.heap.size) (hps : ∀ x, (encs x).size = ps.size)
    (I : List α → World → Prop) (hI : ∀ s A B, I s A → Below w.heap.size A B → I s B) (h0 : I [] w)
    (hround : ∀ (l : Nat) (pre : List α) (x : α) (W : World), w.heap.size ≤ l → l < W.heap.size → pre ++ [x] <+: xs → I pre W →
      assign.wpIn (Fence.wide.inRound l) 0 P (Exit.then (fun a₁ W₁ => Away (fun _ => False) W W₁ ∧
        ∀ o, body.wpIn (Fence.wide.inRound l) 0 P (fun e _ W₂ => e = .normal ∧ Away X (W₁.putObj l o) W₂ ∧ I (pre ++ [x]) W₂) a₁ (W₁.putObj l o)) (fun _ _ _ => False))
        { tmps := (ps.zip (encs x)).foldl (fun t (p, v) => t.setIfInBounds p v) a.tmps, defers := [] } W)
    (hdone : ∀ (D : Nat) (W : World), w.heap.size ≤ D → I xs W → W.heap[D]? = some (.deferred (some [])) → Q .normal { a with defers := { target := .collected D, args := #[] } :: a.defers } W) :
    (Code.rangeFunc g ps assign body).wpIn Fence.wide 0 P Q a w := by
  refine wpIn_rangeFunc fun fn hfn => ?_
  have he := run_enterLoop_outer (P := P) (w := w) fn a.tmps ps assign body
  -- the loop's record, by its parts alone
  obtain ⟨V, r, hrun, hV, r1, r2, r3, r4, r5, r6, r7⟩ : ∃ (V : World) (r : Loop), (Instr.enterLoop fn a.tmps ps assign body none).run P w = .ok (w.heap.size + 1, [{ target := .collected w.heap.size, args := #[] }]) V ∧
      V = (w.alloc (.deferred (some []))).alloc (.loop r) ∧ r.fn = fn ∧ r.tmps = a.tmps ∧ r.params = ps ∧ r.assign = assign ∧ r.body = body ∧ r.state = .ready ∧ r.pending = none :=
    ⟨_, _, he, rfl, rfl, rfl, rfl, rfl, rfl, rfl, rfl⟩
  clear he
  generalize hl : w.heap.size + 1 = l at hrun
  have hsz : V.heap.size = l + 1 := by rw [hV]; simp; omega
  have hL : V.heap[l]? = some (.loop r) := by
    have := World.alloc_heap_new (w.alloc (.deferred (some []))) (.loop r)
    rw [World.size_alloc, hl, ← hV] at this
    exact this
  have hD : V.heap[w.heap.size]? = some (.deferred (some [])) := by
    rw [hV]
    exact (Below.heap_alloc _ _ _ (by simp)).trans (World.alloc_heap_new w _)
  have hb : Below w.heap.size w V := by
    rw [hV]
    exact (Below.alloc (Below.refl _ w) (Nat.le_refl _) _).alloc (by simp) _
  have put_below : ∀ (W : World) (o : Obj), Below w.heap.size W (W.putObj l o) := fun W o => ⟨rfl, rfl, rfl, by simp, fun k hk => World.putObj_heap_other (by omega)⟩
  have ready_again : ∀ q : Loop, q = { r with state := .busy } → { q with state := .ready, pending := none } = r := by
    rintro q rfl
    cases r
    simp_all
  -- the iterator, at what the loop's side keeps, the record and the block for deferred calls beside it
  have hcall := hseq l (fun pre W => I pre W ∧ W.heap[l]? = some (.loop r) ∧ W.heap[w.heap.size]? = some (.deferred (some []))) V hb (by omega) (by omega)
    (fun s A B h hAB => ⟨hI _ _ _ h.1 (hAB.mono (by omega)), (hAB.block l (by omega)).trans h.2.1, (hAB.block _ (by omega)).trans h.2.2⟩)
    (fun pre x W hpre h => by
      obtain ⟨hi, hw, hd⟩ := h
      have hlt := (Array.getElem?_eq_some_iff.1 hw).1
      have hy := run_yield (P := P) (args := encs x) hw (by rw [r3]; exact hps x)
      rw [r1, r2, r3, r4, r5] at hy
      refine ⟨fn, _, assign, body, hy, roundIn_of_wpIn hfn (wpIn_mono (hround l pre x W (by omega) hlt hpre hi) ?_)⟩
      rintro e a₁ W₁ hp
      cases e with
      | normal =>
        obtain ⟨haw, hbody⟩ := hp
        have hw1 := (haw.block l hlt (fun h => h)).trans hw
        have hlt1 := (Array.getElem?_eq_some_iff.1 hw1).1
        refine ⟨_, run_beginRound hw1 r6, wpIn_mono (hbody _) ?_⟩
        rintro e a₂ W₂ ⟨rfl, haw2, hi2⟩
        have hnl : ¬ X l := fun h => by have := hX l h; omega
        have hnd : ¬ X w.heap.size := fun h => by have := hX _ h; omega
        have hw2 := (haw2.block l (by rw [World.putObj_size]; exact hlt1) hnl).trans (World.putObj_heap_same hlt1)
        have hd2 := (haw2.block w.heap.size (by rw [World.putObj_size]; omega) hnd).trans ((World.putObj_heap_other (by omega)).trans ((haw.block _ (by omega) (fun h => h)).trans hd))
        have hend := run_endRound (P := P) none hw2
        have hag := ready_again _ rfl
        refine ⟨_, _, hend, rfl, ⟨hI _ _ _ hi2 (put_below _ _), ?_, (World.putObj_heap_other (by omega)).trans hd2⟩, ?_⟩
        · rw [World.putObj_heap_same (Array.getElem?_eq_some_iff.1 hw2).1]
          exact congrArg (fun q => some (Obj.loop q)) hag
        · exact ((haw.mono (fun _ h => h.elim)).trans ((Away.put _ _).mono (fun _ h => .inl h))).trans ((haw2.mono (fun _ h => .inr h)).trans ((Away.put _ _).mono (fun _ h => .inl h)))
      | _ => exact hp.elim)
    ⟨hI _ _ _ h0 hb, hL, hD⟩
  refine ⟨l, _, V, { target := .fn (.func gf) lb, args := #[.func (.yield l) #[] #[]] }, V, gf, _, V, hrun, ?_, fun _ _ => trivial, ?_, (fun h => by cases h), hcall.mono ?_⟩
  · simp only [resolve, hg]
    simp [go_sem]
  · simp [invoke, go_sem, eg]
  · rintro e W ⟨⟨v, rfl⟩, hi, hw, hd⟩
    have hend := run_endLoop (P := P) hw (by rw [r6]; simp)
    rw [r7] at hend
    exact ⟨_, _, hend, hdone _ _ (Nat.le_refl _) (hI _ _ _ hi (put_below _ _)) ((World.putObj_heap_other (by omega)).trans hd)⟩
end Go.Proofs.YtbefoapnlehdmaaDoor
