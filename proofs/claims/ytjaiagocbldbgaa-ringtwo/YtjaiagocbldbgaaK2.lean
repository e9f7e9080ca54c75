/-
  Two rings on one pool, and what they keep.
-/
import Derived.Test.YtjaiagocbldbgaaRLaw
import Derived.Test.YtjaiagocbldbgaaCount
namespace Go.Proofs.Ytjaiagocbldbgaa
open Go.RowKit
set_option linter.unusedVariables false

/-- A ring that is told something, and another one on the same pool. -/
structure K2 (w : World) (p g m q s z : Nat) (o : Int) (L : Slots) (R : List Nat) (d : Nat) (q' s' z' : Nat) (o' : Int) (R' : List Nat) (d' : Nat) (W : World) : Prop where
  k : KA w p g m q s z o L R d W
  r : RgAt W q' p s' z' o' R' d'
  ne : q' ≠ q ∧ s' ≠ s
  lo : w.heap.size ≤ q' ∧ w.heap.size ≤ s'
section
variable {w W V : World} {p g m q s z q' s' z' : Nat} {o o' : Int} {L M : Slots} {R Q R' : List Nat} {d e d' : Nat}
theorem K2.step (k : K2 w p g m q s z o L R d q' s' z' o' R' d' W) (hb : Below W.heap.size W V) : K2 w p g m q s z o L R d q' s' z' o' R' d' V := ⟨k.k.step hb, k.r.below hb, k.ne, k.lo⟩
theorem K2.swap (k : K2 w p g m q s z o L R d q' s' z' o' R' d' W) : K2 w p g m q' s' z' o' L R' d' q s z o R d W :=
  ⟨⟨k.k.pp, k.r, k.k.b, ⟨k.k.lo.1, k.k.lo.2.1, k.lo.1, k.lo.2⟩, k.k.hL⟩, k.k.rg, ⟨Ne.symm k.ne.1, Ne.symm k.ne.2⟩, ⟨k.k.lo.2.2.1, k.k.lo.2.2.2⟩⟩
theorem K2.turn (k : K2 w p g m q s z o L R d q' s' z' o' R' d' W) (a : KA w p g m q s z o M Q e V) (hk : Kept (fun k => k = g ∨ k = q ∨ k = s) W V) : K2 w p g m q s z o M Q e q' s' z' o' R' d' V := by
  obtain ⟨cur, h2, _⟩ := k.k.pp.rows k.k.hL
  obtain ⟨⟨cq, hq⟩, ⟨cs, hs⟩⟩ := k.k.rg.blks
  obtain ⟨⟨cq', hq'⟩, ⟨cs', hs'⟩⟩ := k.r.blks
  refine ⟨a, k.r.kept hk ?_ ?_, k.ne, k.lo⟩
  · rintro (e | e | e)
    · exact blk_ne hq' h2 (by decide) e
    · exact k.ne.1 e
    · exact blk_ne hq' hs (by decide) e
  · rintro (e | e | e)
    · exact blk_ne hs' h2 (by decide) e
    · exact blk_ne hs' hq (by decide) e
    · exact k.ne.2 e
end
/-- What two rings on one pool keep: each has its own buffers, owner 3 has none, and none is lost. -/
structure I2 (m : Nat) (L : Slots) (R : List Nat) (o : Int) (R' : List Nat) (o' : Int) : Prop where
  oo : isOwn o ∧ isOwn o' ∧ o ≠ o' ∧ o ≠ 3 ∧ o' ≠ 3
  i : Inv L R o
  i' : Inv L R' o'
  c3 : (held L 3).length = 0
  tot : (held L 0).length + R.length + R'.length = m
section
variable {m z n : Nat} {L : Slots} {R R' : List Nat} {o o' : Int}
theorem I2.swap (h : I2 m L R o R' o') : I2 m L R' o' R o := ⟨⟨h.oo.2.1, h.oo.1, Ne.symm h.oo.2.2.1, h.oo.2.2.2.2, h.oo.2.2.2.1⟩, h.i', h.i, h.c3, by have := h.tot; omega⟩
theorem I2.new (m : Nat) (o o' : Int) (ho : isOwn o ∧ isOwn o' ∧ o ≠ o' ∧ o ≠ 3 ∧ o' ≠ 3) : I2 m (List.replicate m (0, [])) [] o [] o' := by
  refine ⟨ho, Inv.new m o ho.1, Inv.new m o' ho.2.1, ?_, ?_⟩
  · rw [held_count, List.countP_replicate]; simp
  · rw [held_count, List.countP_replicate]; simp
/-- The free buffer i becomes the ring's last one. -/
theorem I2.push (h : I2 m L R o R' o') {i : Nat} (hi : i < L.length) (h0 : ow L i = 0) (b : List Int) : I2 m (L.set i (o, b)) (R ++ [i]) o R' o' := by
  have a0 : ¬ (0 : Int) = o := by have := h.oo.1.1; omega
  have a0' : ¬ (0 : Int) = o' := by have := h.oo.2.1.1; omega
  have hs3 := held_set L 3 hi (o, b)
  have hs0 := held_set L 0 hi (o, b)
  rw [h0] at hs3 hs0
  rw [if_neg (by decide), if_neg h.oo.2.2.2.1] at hs3
  rw [if_pos rfl, if_neg (Ne.symm a0)] at hs0
  refine ⟨h.oo, h.i.push hi (by rw [h0]; exact a0) b, h.i'.away hi (by rw [h0]; exact a0') h.oo.2.2.1, by have := h.c3; omega, ?_⟩
  have := h.tot
  simp only [List.length_append, List.length_cons, List.length_nil]
  omega
theorem I2.put (h : I2 m L R o R' o') (z : Nat) (xs : List Int) : I2 m (ptL L R z o xs) (ptR L R z o xs.length) o R' o' := by
  by_cases hE : ptE L R z o xs.length = 0
  · rw [ptL_yes hE, ptR_yes hE]
    have hl := (tkE_of (ptE_of hE).2).2.2
    exact h.push hl (free1_ow L hl) xs
  · rw [ptL_no hE, ptR_no hE]
    exact h
theorem I2.pop {x : Nat} {T : List Nat} (h : I2 m L (x :: T) o R' o') : frL L (x : Int) o = L.set x (0, []) ∧ I2 m (L.set x (0, [])) T o R' o' := by
  obtain ⟨e, i⟩ := h.i.pop h.oo.1
  obtain ⟨h1, h2⟩ := h.i.own x (.head _)
  have a0 : ¬ o = 0 := by have := h.oo.1.1; omega
  have a0' : ¬ (0 : Int) = o' := by have := h.oo.2.1.1; omega
  have hs3 := held_set L 3 h1 (0, [])
  have hs0 := held_set L 0 h1 (0, [])
  rw [h2] at hs3 hs0
  rw [if_neg h.oo.2.2.2.1, if_neg (show ¬ (0 : Int) = 3 by decide)] at hs3
  rw [if_neg a0, if_pos (show (0 : Int) = 0 from rfl)] at hs0
  refine ⟨e, h.oo, i, h.i'.away h1 (by rw [h2]; exact h.oo.2.2.1) a0', by have := h.c3; omega, ?_⟩
  have := h.tot
  simp only [List.length_cons] at this
  omega
/-- Owner 3 takes the free buffer i, moves it into the ring, or frees it. -/
theorem I2.hand (h : I2 m L R o R' o') {i : Nat} (hi : i < L.length) (h0 : ow L i = 0) (b : List Int) (z : Nat) :
    (R.length < z → mvE (L.set i (3, b)) R z o (i : Int) 3 = 0 ∧ I2 m (mvL (L.set i (3, b)) R z o (i : Int) 3) (mvR (L.set i (3, b)) R z o (i : Int) 3) o R' o') ∧
    (¬ R.length < z → mvE (L.set i (3, b)) R z o (i : Int) 3 = 18 ∧ mvL (L.set i (3, b)) R z o (i : Int) 3 = L.set i (3, b) ∧ mvR (L.set i (3, b)) R z o (i : Int) 3 = R ∧ chE (L.set i (3, b)) (i : Int) 3 = 0 ∧ I2 m (frL (L.set i (3, b)) (i : Int) 3) R o R' o') := by
  have hi' : i < (L.set i (3, b)).length := by simpa using hi
  have h3 : ow (L.set i (3, b)) i = 3 := by rw [ow_set hi, if_pos rfl]
  have hc : chE (L.set i (3, b)) (i : Int) 3 = 0 := chE_ok (by decide) hi' h3
  constructor
  · intro hf
    have h1 : hdE (L.set i (3, b)) (i : Int) 3 o = 0 := by rw [hdE_to h.oo.1]; exact hc
    have h2 : mvE (L.set i (3, b)) R z o (i : Int) 3 = 0 := by unfold mvE; rw [if_pos hf, h1]
    refine ⟨h2, ?_⟩
    have e1 : mvL (L.set i (3, b)) R z o (i : Int) 3 = L.set i (o, byt (L.set i (3, b)) i) := by unfold mvL; rw [if_pos hf, hdL_yes h1, List.set_set]
    have e2 : mvR (L.set i (3, b)) R z o (i : Int) 3 = R ++ [i] := by unfold mvR; rw [if_pos h2]; simp
    rw [e1, e2]
    exact h.push hi h0 _
  · intro hf
    have h2 : mvE (L.set i (3, b)) R z o (i : Int) 3 = 18 := by unfold mvE; rw [if_neg hf]
    refine ⟨h2, by unfold mvL; rw [if_neg hf], by unfold mvR; rw [h2]; rfl, hc, ?_⟩
    rw [frL_yes hc, List.set_set]
    have a0 : ¬ (0 : Int) = o := by have := h.oo.1.1; omega
    have a0' : ¬ (0 : Int) = o' := by have := h.oo.2.1.1; omega
    have hs3 := held_set L 3 hi (0, [])
    have hs0 := held_set L 0 hi (0, [])
    rw [h0] at hs3 hs0
    have hs3' : (held (List.set L i (0, [])) 3).length = (held L 3).length := by simpa using hs3
    have hs0' : (held (List.set L i (0, [])) 0).length = (held L 0).length := by simpa using hs0
    exact ⟨h.oo, h.i.away hi (by rw [h0]; exact a0) a0, h.i'.away hi (by rw [h0]; exact a0') a0', by have := h.c3; omega, by have := h.tot; omega⟩
end
end Go.Proofs.Ytjaiagocbldbgaa
