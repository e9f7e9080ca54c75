/-
  alive answers true.
-/
import Derived.Test.YtjaiagocbldbgaaRLaw
import Derived.Test.YtjaiagocbldbgaaNews
import Derived.Test.YtjaiagocbldbgaaClones
import Derived.Test.YtjaiagocbldbgaaRowsB
import Derived.Test.YtjaiagocbldbgaaLits
namespace Go.Proofs.Ytjaiagocbldbgaa
open Go.RowKit
set_option linter.unusedVariables false

def La : Slots := [(0, []), (0, [])]
def Lb : Slots := [(5, [9]), (0, [])]
def Lc : Slots := [(7, [3]), (0, [])]
def Ld : Slots := [(5, [3]), (0, [])]
/-- What alive's walk knows of both rings. -/
structure KQ (w : World) (p g q s : Nat) (L : Slots) (R : List Nat) (d p2 g2 q2 s2 : Nat) (W : World) : Prop where
  k : KA w p g 2 q s 1 5 L R d W
  c : Pp W p2 g2 2 Lb Tr
  r : RgAt W q2 p2 s2 1 5 [0] 1
  ne : ∀ j, (j = g ∨ j = q ∨ j = s) → j ≠ p2 ∧ j ≠ g2 ∧ j ≠ q2 ∧ j ≠ s2
section
variable {w W V : World} {p g q s p2 g2 q2 s2 d d' : Nat} {L L' : Slots} {R R' : List Nat}
theorem KQ.step (h : KQ w p g q s L R d p2 g2 q2 s2 W) (hb : Below W.heap.size W V) : KQ w p g q s L R d p2 g2 q2 s2 V := ⟨h.k.step hb, h.c.below hb, h.r.below hb, h.ne⟩
theorem KQ.turn (h : KQ w p g q s L R d p2 g2 q2 s2 W) (k : KA w p g 2 q s 1 5 L' R' d' V) (hk : Kept (fun k => k = g ∨ k = q ∨ k = s) W V) : KQ w p g q s L' R' d' p2 g2 q2 s2 V :=
  ⟨k, h.c.kept hk (fun e => (h.ne _ e).1 rfl) (fun e => (h.ne _ e).2.1 rfl) (fun b e => .inr (h.k.no5 b e)), h.r.kept hk (fun e => (h.ne _ e).2.2.1 rfl) (fun e => (h.ne _ e).2.2.2 rfl), h.ne⟩
theorem qMove {b fr E : Int} (h : KQ w p g q s L R d p2 g2 q2 s2 W) (hd : d ≤ 100000) (e1 : mvE L R 1 5 b fr = E) (e2 : mvL L R 1 5 b fr = L') (e3 : mvR L R 1 5 b fr = R') (e4 : drp E d = d') :
    Calls Try.prog 30 #[ptr q, .int .i64 b, .int .i64 fr] W fun e w' => e = .returned (.int .i64 E) ∧ KQ w p g q s L' R' d' p2 g2 q2 s2 w' ∧ ∀ base A n c xs, Out .u8 5 W base A n c xs → Out .u8 5 w' base A n c xs := by
  subst e1 e2 e3 e4
  refine (kMove h.k hd b fr).mono ?_
  rintro e w' ⟨rfl, h1, h2⟩
  exact ⟨rfl, h.turn h1 h2, fun _ _ _ _ _ q => h.k.out5 h2 q⟩
theorem qTake1 {x : Nat} {T : List Nat} {xs : List Int} (h : KQ w p g q s L (x :: T) d p2 g2 q2 s2 W) (hx : x < L.length) (e1 : byt L x = xs) (e2 : frL L (x : Int) 5 = L') :
    Calls Try.prog 19 #[ptr q] W fun e w' => ∃ A n c, e = .returned (.tuple #[.slice A n c, .bool true]) ∧ Out .u8 5 w' W.heap.size A n c xs ∧ KQ w p g q s L' T d p2 g2 q2 s2 w' := by
  subst e1 e2
  refine (kTake1 h.k hx).mono ?_
  rintro e w' ⟨A, n, c, rfl, h1, h2, h3⟩
  exact ⟨A, n, c, rfl, h1, h.turn h2 h3⟩
theorem qPTake {o' N E : Int} {A : Option Addr} {n c B : Nat} {xs : List Int} (h : KQ w p g q s L R d p2 g2 q2 s2 W) (hr : Rd .u8 W B A n c xs) (hB : B ≤ W.heap.size) (e1 : tkN L o' n = N) (e2 : tkE L o' n = E) (e3 : tkL L o' xs = L') :
    Calls Try.prog 29 #[ptr p, .int .i64 o', .slice A n c] W fun e w' => e = .returned (.tuple #[.int .i64 N, .int .i64 E]) ∧ KQ w p g q s L' R d p2 g2 q2 s2 w' ∧ ∀ base A n c ys, Out .u8 5 W base A n c ys → Out .u8 5 w' base A n c ys := by
  subst e1 e2 e3
  refine (kPTake h.k o' hr hB).mono ?_
  rintro e w' ⟨rfl, h1, h2⟩
  exact ⟨rfl, h.turn h1 (h2.mono (fun _ _ e => .inl e)), fun _ _ _ _ _ q => h.k.out5 (h2.mono (fun _ _ e => .inl e)) q⟩
theorem qLeft {n : Int} (h : KQ w p g q s L R d p2 g2 q2 s2 W) : Calls Try.prog 25 #[ptr p2] W fun e w' => e = .returned (.int .i64 1) ∧ KQ w p g q s L R d p2 g2 q2 s2 w' := by
  refine (left_any p2 g2 2 Lb Tr W h.c).mono ?_
  rintro e w' ⟨rfl, hb⟩
  exact ⟨rfl, h.step hb⟩
theorem qLenC (h : KQ w p g q s L R d p2 g2 q2 s2 W) : Calls Try.prog 23 #[ptr q2] W fun e w' => e = .returned (.int .i64 1) ∧ W = w' := by
  obtain ⟨f, c, ys, hr⟩ := h.r
  exact len_any q2 p2 s2 f c 1 1 5 1 W hr.cells
theorem qDropC (h : KQ w p g q s L R d p2 g2 q2 s2 W) : Calls Try.prog 24 #[ptr q2] W fun e w' => e = .returned (.int .i64 1) ∧ W = w' := by
  obtain ⟨f, c, ys, hr⟩ := h.r
  exact dropped_any q2 p2 s2 f c 1 1 5 1 W hr.cells
theorem qAllC (h : KQ w p g q s L R d p2 g2 q2 s2 W) : Calls Try.prog 27 #[ptr q2] W fun e w' => ∃ A c, e = .returned (.slice A 1 c) ∧ KQ w p g q s L R d p2 g2 q2 s2 w' := by
  refine (all_any q2 p2 s2 1 5 [0] 1 g2 2 Lb Tr W h.r h.c (by decide)).mono ?_
  rintro e w' ⟨A, c, rfl, _, hb⟩
  exact ⟨A, c, rfl, h.step hb⟩
end
theorem aPut {w W : World} {p g q s d d' : Nat} {L L' : Slots} {R R' : List Nat} {E : Int} {A : Option Addr} {n c B : Nat} {xs : List Int} (k : KA w p g 2 q s 1 5 L R d W) (hd : d ≤ 100000) (hr : Rd .u8 W B A n c xs) (hB : B ≤ W.heap.size)
    (e1 : ptE L R 1 5 n = E) (e2 : ptL L R 1 5 xs = L') (e3 : ptR L R 1 5 n = R') (e4 : drp E d = d') :
    Calls Try.prog 21 #[ptr q, .slice A n c] W fun e w' => e = .returned (.int .i64 E) ∧ KA w p g 2 q s 1 5 L' R' d' w' := by
  subst e1 e2 e3 e4
  refine (kPut k hd hr hB).mono ?_
  rintro e w' ⟨rfl, h1, _⟩
  exact ⟨rfl, h1⟩
set_option maxRecDepth 100000 in
set_option maxHeartbeats 4000000 in
theorem alive_any (w : World) : Calls Try.prog 7 #[] w fun e w' => e = .returned (.bool true) ∧ Below w.heap.size w w' := by
  go_enter Try.func7, Try.ntmps7
  go_wp2_with fail
  refine (new_yes 2 w (by omega) (by omega)).mono ?_
  rintro ev w1 ⟨p, g, rfl, hp, hlo, hb⟩
  go_wp2_with fail
  refine (newR_yes p 1 5 w1 (by omega) (by omega) (by decide)).mono ?_
  rintro ev w2 ⟨q, s, rfl, hr, hlo2, hb2⟩
  have k : KA w p g 2 q s 1 5 La [] 0 w2 := ⟨hp.below hb2, hr, hb.trans (hb2.mono hb.size), by have := hb.size; omega, by decide⟩
  clear hp hr hlo hlo2 hb hb2
  go_wp2_with fail
  refine (newR_no p 0 5 w2 (by omega)).mono ?_
  rintro ev w3 ⟨rfl, rfl⟩
  have r9 : Rd .u8 (w2.alloc (.cells #[.int .u8 9] 5)) (w2.heap.size + 1) (some ⟨w2.heap.size, 0, none⟩) 1 1 [9] := rd_lit .u8 5 w2 [9] 1 rfl (by omega) (by decide)
  have k1 := k.step (alloc_below w2 (.cells #[.int .u8 9] 5))
  go_wp2_with fail
  refine (aPut (L' := Lb) (R' := [0]) (d' := 0) (E := 0) k1 (by omega) r9 (by simp) (by decide) (by decide) (by decide) (by decide)).mono ?_
  rintro ev w4 ⟨rfl, k4⟩
  clear k k1 r9
  have r8 : Rd .u8 (w4.alloc (.cells #[.int .u8 8] 5)) (w4.heap.size + 1) (some ⟨w4.heap.size, 0, none⟩) 1 1 [8] := rd_lit .u8 5 w4 [8] 1 rfl (by omega) (by decide)
  have k5 := k4.step (alloc_below w4 (.cells #[.int .u8 8] 5))
  go_wp2_with fail
  refine (aPut (L' := Lb) (R' := [0]) (d' := 1) (E := 18) k5 (by omega) r8 (by simp) (by decide) (by decide) (by decide) (by decide)).mono ?_
  rintro ev w6 ⟨rfl, k6⟩
  clear k4 k5 r8
  go_wp2_with fail
  refine (kLeft k6).mono ?_
  rintro ev w7 ⟨rfl, k7, -⟩
  rw [show ((left Lb : Nat) : Int) = 1 from rfl]
  clear k6
  go_wp2_with fail
  refine (clonePool_any p g 2 Lb Tr w7 k7.pp k7.hL).mono ?_
  rintro ev w8 ⟨p2, g2, rfl, hp2, hlo2, hb2⟩
  have k8 := k7.step hb2
  go_wp2_with fail
  refine (cloneR_any q p p2 s 1 5 [0] 1 w8 k8.rg).mono ?_
  rintro ev w9 ⟨q2, s2, rfl, hr2, hlo3, hb3⟩
  have h9 : KQ w p g q s Lb [0] 1 p2 g2 q2 s2 w9 := ⟨k8.step hb3, hp2.any.below hb3, hr2, by
    have a1 := k7.pp.lt
    have a2 := k7.rg.lt
    have a3 := hb2.size
    have a4 := hb3.size
    rintro j (rfl | rfl | rfl) <;> omega⟩
  clear k7 k8 hp2 hr2 hlo2 hlo3 hb2 hb3
  go_wp2_with fail
  refine (qTake1 (L' := La) (xs := [9]) h9 (by decide) (by decide) (by decide)).mono ?_
  rintro ev w10 ⟨A, n, c, rfl, rt, h10⟩
  clear h9
  go_wp2_with fail
  refine (kTake0 h10.k).mono ?_
  rintro ev w11 ⟨rfl, rfl⟩
  have ba := alloc_below w10 (.cells #[.int .u8 3] 5)
  have r3 : Rd .u8 (w10.alloc (.cells #[.int .u8 3] 5)) (w10.heap.size + 1) (some ⟨w10.heap.size, 0, none⟩) 1 1 [3] := rd_lit .u8 5 w10 [3] 1 rfl (by omega) (by decide)
  have h11 := h10.step ba
  have o11 := rt.below ba (Nat.le_refl _)
  go_wp2_with fail
  refine (qPTake (o' := 7) (L' := Lc) (N := 0) (E := 0) h11 r3 (by simp) (by decide) (by decide) (by decide)).mono ?_
  rintro ev w12 ⟨rfl, h12, c12⟩
  have o12 := c12 _ _ _ _ _ o11
  clear h10 h11 r3 ba rt o11 c12
  go_wp2_with fail
  refine (qMove (E := 19) (L' := Lc) (R' := []) (d' := 2) h12 (by omega) (by decide) (by decide) (by decide) (by decide)).mono ?_
  rintro ev w13 ⟨rfl, h13, c13⟩
  have o13 := c13 _ _ _ _ _ o12
  clear h12 o12 c13
  go_wp2_with fail
  refine (qMove (E := 0) (L' := Ld) (R' := [0]) (d' := 2) h13 (by omega) (by decide) (by decide) (by decide) (by decide)).mono ?_
  rintro ev w14 ⟨rfl, h14, c14⟩
  have o14 := c14 _ _ _ _ _ o13
  have ba := alloc_below w14 (.cells #[.int .u8 9] 5)
  have r15 := (o14.below ba (Nat.le_refl _)).rd
  have r9 : Rd .u8 (w14.alloc (.cells #[.int .u8 9] 5)) (w14.heap.size + 1) (some ⟨w14.heap.size, 0, none⟩) 1 1 [9] := rd_lit .u8 5 w14 [9] 1 rfl (by omega) (by decide)
  have q := h14.step ba
  obtain rfl : 1 = n := o14.len
  clear h13 h14 o13 o14 c14 ba
  go_wp2_with (first
    | (go_at_call 20; refine (same_any _ _ _ _ _ _ _ _ _ _ r15 r9).mono ?_; rintro ev w15 ⟨rfl, hb⟩; replace q := q.step hb; clear hb r15 r9)
    | (go_at_call 23; with_reducible refine (kLen q.k).mono ?_; rintro ev w16 ⟨rfl, rfl⟩)
    | (go_at_call 24; with_reducible refine (kDropped q.k).mono ?_; rintro ev w17 ⟨rfl, rfl⟩)
    | (go_at_call 32; with_reducible refine (kSize q.k).mono ?_; rintro ev w18 ⟨rfl, rfl⟩)
    | (go_at_call 33; with_reducible refine (kOwner q.k 0).mono ?_; rintro ev w19 ⟨rfl, rfl⟩; rw [show owV Ld 0 = 5 from rfl])
    | (go_at_call 23; with_reducible refine (qLenC q).mono ?_; rintro ev w20 ⟨rfl, rfl⟩)
    | (go_at_call 24; with_reducible refine (qDropC q).mono ?_; rintro ev w21 ⟨rfl, rfl⟩)
    | (go_at_call 27; with_reducible refine (qAllC q).mono ?_; rintro ev w22 ⟨A2, c2, rfl, q2⟩; clear q; have q := q2; clear q2)
    | (go_at_call 25; with_reducible refine (qLeft (n := 0) q).mono ?_; rintro ev w23 ⟨rfl, q2⟩; clear q; have q := q2; clear q2))
  go_ret
  exact ⟨rfl, q.k.b⟩
end Go.Proofs.Ytjaiagocbldbgaa
