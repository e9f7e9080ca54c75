/-
  A range over a function whose iterator writes memory of its own, and whose loop may leave early (a return, a break, a jump out): the contract, and the law. Nothing of the program is said here.
-/
import Derived.Test.YtemhahfodblehaaDoorLaw
namespace Go.Proofs.YtemhahfodblehaaDoor
open Go.RowKit

/-- As Seqs; a round may also say 'no more': then the iterator ends, what Jx says of the pairs that have come holds. -/
def Seqs2 {α : Type} (P : Program) (g : Nat) (lb : Array Value) (encs : α → Array Value) (X : Nat → Prop) (xs : List α) (w : World) : Prop :=
  ∀ (l : Nat) (J Jx : List α → World → Prop) (W : World), Below w.heap.size w W → w.heap.size ≤ l → l < W.heap.size → (∀ s A B, J s A → Below W.heap.size A B → J s B) → (∀ s A B, Jx s A → Below W.heap.size A B → Jx s B) →
    (∀ pre x V, pre ++ [x] <+: xs → J pre V → YieldAt Fence.wide 0 P l (encs x) V fun e V' => Away (fun k => k = l ∨ X k) V V' ∧ ((e = .returned (.bool true) ∧ J (pre ++ [x]) V') ∨ (e = .returned (.bool false) ∧ Jx (pre ++ [x]) V'))) →
    J [] W →
    CallsIn Fence.wide 0 P g (#[.func (.yield l) #[] #[]] ++ lb) W fun e W' => (∃ v, e = .returned v) ∧ (J xs W' ∨ ∃ pre, pre <+: xs ∧ Jx pre W')

/-- How the body of a round may be left. -/
def leftBy {α : Type} (I : List α → World → Prop) (Ix : Code → List α → World → Prop) (ys : List α) : Exit → World → Prop
  | .normal, W => I ys W
  | .ret, W => Ix .ret ys W
  | .exit id, W => Ix (.exit id) ys W
  | .goto t, W => Ix (.goto t) ys W
  | _, _ => False

/-- The loop over it. -/
theorem wpIn_seqs2 {α : Type} {P : Program} {g : Operand} {ps : Array Tmp} {assign body : Code} {Q : Exit → Act → World → Prop} {a : Act} {w : World}
    {gf : Nat} {lb : Array Value} (hg : a.eval g = .func (.func gf) #[] lb) (eg : ∀ args w, (callFunc gf args).run P w = .ok (.enter gf args) w)
    {encs : α → Array Value} {X : Nat → Prop} {xs : List α} (hseq : Seqs2 P gf lb encs X xs w) (hX : ∀ k, X k → k < w.heap.size) (hps : ∀ x, (encs x).size = ps.size)
    (I : List α → World → Prop) (Ix : Code → List α → World → Prop) (hI : ∀ s A B, I s A → Below w.heap.size A B → I s B) (hIx : ∀ c s A B, Ix c s A → Below w.heap.size A B → Ix c s B) (h0 : I [] w)
    (hround : ∀ (l : Nat) (pre : List α) (x : α) (W : World), w.heap.size ≤ l → l < W.heap.size → pre ++ [x] <+: xs → I pre W →
      assign.wpIn (Fence.wide.inRound l) 0 P (Exit.then (fun a₁ W₁ => Away (fun _ => False) W W₁ ∧
        ∀ o, body.wpIn (Fence.wide.inRound l) 0 P (fun e _ W₂ => Away X (W₁.putObj l o) W₂ ∧ leftBy I Ix (pre ++ [x]) e W₂) a₁ (W₁.putObj l o)) (fun _ _ _ => False))
        { tmps := (ps.zip (encs x)).foldl (fun t (p, v) => t.setIfInBounds p v) a.tmps, defers := [] } W)
    (hdone : ∀ (D : Nat) (W : World), w.heap.size ≤ D → I xs W → W.heap[D]? = some (.deferred (some [])) → Q .normal { a with defers := { target := .collected D, args := #[] } :: a.defers } W)
    (hstop : ∀ (D : Nat) (c : Code) (pre : List α) (W : World), w.heap.size ≤ D → pre <+: xs → Ix c pre W → W.heap[D]? = some (.deferred (some [])) → c.wpIn Fence.wide 0 P Q { a with defers := { target := .collected D, args := #[] } :: a.defers } W) :
    (Code.rangeFunc g ps assign body).wpIn Fence.wide 0 P Q a w := by
  refine wpIn_rangeFunc fun fn hfn => ?_
  have he := run_enterLoop_outer (P := P) (w := w) fn a.tmps ps assign body
  obtain ⟨V, r, hrun, hV, r1, r2, r3, r4, r5, r6, r7⟩ : ∃ (V : World) (r : Loop), (Instr.enterLoop fn a.tmps ps assign body none).run P w = .ok (w.heap.size + 1, [{ target := .collected w.heap.size, args := #[] }]) V ∧
      V = (w.alloc (.deferred (some []))).alloc (.loop r) ∧ r.fn = fn ∧ r.tmps = a.tmps ∧ r.params = ps ∧ r.assign = assign ∧ r.body = body ∧ r.state = .ready ∧ r.pending = none :=
    ⟨_, _, he, rfl, rfl, rfl, rfl, rfl, rfl, rfl, rfl⟩
  clear he
  generalize hl : w.heap.size + 1 = l at hrun
  have hsz : V.heap.size = l + 1 := by rw [hV]; simp; omega
  have hL : V.heap[l]? = some (.loop r) := by
    have := World.alloc_heap_new (w.alloc (.deferred (some []))) (.loop r)
    rw [World.size_alloc, hl, ← hV] at this
    exact this
  have hD : V.heap[w.heap.size]? = some (.deferred (some [])) := by
    rw [hV]
    exact (Below.heap_alloc _ _ _ (by simp)).trans (World.alloc_heap_new w _)
  have hb : Below w.heap.size w V := by
    rw [hV]
    exact (Below.alloc (Below.refl _ w) (Nat.le_refl _) _).alloc (by simp) _
  have put_below : ∀ (W : World) (o : Obj), Below w.heap.size W (W.putObj l o) := fun W o => ⟨rfl, rfl, rfl, by simp, fun k hk => World.putObj_heap_other (by omega)⟩
  have ready_again : ∀ q : Loop, q = { r with state := .busy } → { q with state := .ready, pending := none } = r := by
    rintro q rfl
    cases r
    simp_all
  have hcall := hseq l (fun pre W => I pre W ∧ W.heap[l]? = some (.loop r) ∧ W.heap[w.heap.size]? = some (.deferred (some [])))
    (fun pre W => ∃ (c : Code) (q : Loop), Ix c pre W ∧ W.heap[l]? = some (.loop q) ∧ q.state = .done ∧ q.pending = some c ∧ W.heap[w.heap.size]? = some (.deferred (some []))) V hb (by omega) (by omega)
    (fun s A B h hAB => ⟨hI _ _ _ h.1 (hAB.mono (by omega)), (hAB.block l (by omega)).trans h.2.1, (hAB.block _ (by omega)).trans h.2.2⟩)
    (fun s A B h hAB => by
      obtain ⟨c, q, h1, h2, h3, h4, h5⟩ := h
      exact ⟨c, q, hIx _ _ _ _ h1 (hAB.mono (by omega)), (hAB.block l (by omega)).trans h2, h3, h4, (hAB.block _ (by omega)).trans h5⟩)
    (fun pre x W hpre h => by
      obtain ⟨hi, hw, hd⟩ := h
      have hlt := (Array.getElem?_eq_some_iff.1 hw).1
      have hy := run_yield (P := P) (args := encs x) hw (by rw [r3]; exact hps x)
      rw [r1, r2, r3, r4, r5] at hy
      refine ⟨fn, _, assign, body, hy, roundIn_of_wpIn hfn (wpIn_mono (hround l pre x W (by omega) hlt hpre hi) ?_)⟩
      rintro e a₁ W₁ hp
      cases e with
      | normal =>
        obtain ⟨haw, hbody⟩ := hp
        have hw1 := (haw.block l hlt (fun h => h)).trans hw
        have hlt1 := (Array.getElem?_eq_some_iff.1 hw1).1
        refine ⟨_, run_beginRound hw1 r6, wpIn_mono (hbody _) ?_⟩
        rintro e a₂ W₂ ⟨haw2, hi2⟩
        have hnl : ¬ X l := fun h => by have := hX l h; omega
        have hnd : ¬ X w.heap.size := fun h => by have := hX _ h; omega
        have hw2 := (haw2.block l (by rw [World.putObj_size]; exact hlt1) hnl).trans (World.putObj_heap_same hlt1)
        have hlt2 := (Array.getElem?_eq_some_iff.1 hw2).1
        have hd2 := (haw2.block w.heap.size (by rw [World.putObj_size]; omega) hnd).trans ((World.putObj_heap_other (by omega)).trans ((haw.block _ (by omega) (fun h => h)).trans hd))
        have haway : ∀ o, Away (fun k => k = l ∨ X k) W (W₂.putObj l o) := fun o =>
          ((haw.mono (fun _ h => h.elim)).trans ((Away.put _ _).mono (fun _ h => .inl h))).trans ((haw2.mono (fun _ h => .inr h)).trans ((Away.put _ _).mono (fun _ h => .inl h)))
        -- a round that leaves by c
        have leave : ∀ c, Ix c (pre ++ [x]) W₂ → ∃ v W₃, (Instr.endRound l (some c)).run P W₂ = .ok v W₃ ∧ (Away (fun k => k = l ∨ X k) W W₃ ∧ ((Ending.returned v = .returned (.bool true) ∧ (I (pre ++ [x]) W₃ ∧ W₃.heap[l]? = some (.loop r) ∧ W₃.heap[w.heap.size]? = some (.deferred (some [])))) ∨
            (Ending.returned v = .returned (.bool false) ∧ ∃ (c : Code) (q : Loop), Ix c (pre ++ [x]) W₃ ∧ W₃.heap[l]? = some (.loop q) ∧ q.state = .done ∧ q.pending = some c ∧ W₃.heap[w.heap.size]? = some (.deferred (some []))))) := fun c hc =>
          ⟨_, _, run_endRound (P := P) (some c) hw2, haway _, .inr ⟨rfl, c, _, hIx _ _ _ _ hc (put_below _ _), World.putObj_heap_same hlt2, rfl, rfl, (World.putObj_heap_other (by omega)).trans hd2⟩⟩
        cases e with
        | normal =>
          have hend := run_endRound (P := P) none hw2
          have hag := ready_again _ rfl
          refine ⟨_, _, hend, haway _, .inl ⟨rfl, hI _ _ _ hi2 (put_below _ _), ?_, (World.putObj_heap_other (by omega)).trans hd2⟩⟩
          rw [World.putObj_heap_same hlt2]
          exact congrArg (fun q => some (Obj.loop q)) hag
        | ret => exact leave _ hi2
        | exit id => exact leave _ hi2
        | goto t => exact leave _ hi2
        | panic ch => exact hi2.elim
        | outgrown => exact hi2.elim
      | _ => exact hp.elim)
    ⟨hI _ _ _ h0 hb, hL, hD⟩
  refine ⟨l, _, V, { target := .fn (.func gf) lb, args := #[.func (.yield l) #[] #[]] }, V, gf, _, V, hrun, ?_, fun _ _ => trivial, ?_, (fun h => by cases h), hcall.mono ?_⟩
  · simp only [resolve, hg]
    simp [go_sem]
  · simp [invoke, go_sem, eg]
  · rintro e W ⟨⟨v, rfl⟩, ⟨hi, hw, hd⟩ | ⟨pre, hpre, c, q, hi, hw, q1, q2, hd⟩⟩
    · have hend := run_endLoop (P := P) hw (by rw [r6]; simp)
      rw [r7] at hend
      exact ⟨_, _, hend, hdone _ _ (Nat.le_refl _) (hI _ _ _ hi (put_below _ _)) ((World.putObj_heap_other (by omega)).trans hd)⟩
    · have hend := run_endLoop (P := P) hw (by rw [q1]; simp)
      rw [q2] at hend
      exact ⟨_, _, hend, hstop _ c pre _ (Nat.le_refl _) hpre (hIx _ _ _ _ hi (put_below _ _)) ((World.putObj_heap_other (by omega)).trans hd)⟩
end Go.Proofs.YtemhahfodblehaaDoor
