/-
  alive answers true; great.
-/
import Derived.Test.YtddhdfbhjgaffaaDo1
namespace Go.Proofs.Ytddhdfbhjgaffaa
open Go.RowKit
set_option linter.unusedVariables false

def La : Slots := [(0, []), (0, [])]
def Lb : Slots := [(1, [9]), (0, [])]
def Lc : Slots := [(1, [9]), (2, [])]
def Ld : Slots := [(3, [9]), (2, [])]
def Le : Slots := [(3, [9]), (0, [])]
abbrev Tr : Nat → Prop := fun _ => True
/-- What alive's walk knows of its pool. -/
structure KP (w : World) (p g : Nat) (L : Slots) (W : World) : Prop where
  pp : Pp W p g 2 L Tr
  b : Below w.heap.size w W
  lo : w.heap.size ≤ p ∧ w.heap.size ≤ g
theorem KP.step {w W V : World} {p g : Nat} {L : Slots} (k : KP w p g L W) (hb : Below W.heap.size W V) : KP w p g L V := ⟨k.pp.below hb, k.b.trans (hb.mono k.b.size), k.lo⟩
theorem KP.turn {w W V : World} {p g : Nat} {L L' : Slots} (k : KP w p g L W) (hp : Pp V p g 2 L' Tr) (hk : Kept (· = g) W V) : KP w p g L' V :=
  ⟨hp, k.b.trans (hk.below k.b.size (fun j e => by have := k.lo.2; omega)), k.lo⟩
section
variable {w W : World} {p g : Nat}
theorem aTake {L L' : Slots} {o N E : Int} {A : Option Addr} {n c : Nat} {xs : List Int} (hL : 0 < L.length) (e1 : tkN L o n = N) (e2 : tkE L o n = E) (e3 : tkL L o xs = L') (k : KP w p g L W) (hr : Rd .u8 W W.heap.size A n c xs) :
    Calls Try.prog 19 #[ptr p, .int .i64 o, .slice A n c] W fun e w' => e = .returned (.tuple #[.int .i64 N, .int .i64 E]) ∧ KP w p g L' w' := by
  subst e1 e2 e3
  refine (take_any p g 2 L Tr o A n c _ xs W k.pp hr hL (Nat.le_refl _) (fun _ _ => trivial)).mono ?_
  rintro e w' ⟨rfl, h1, h2⟩
  exact ⟨rfl, k.turn h1 h2⟩
theorem aHand {L L' : Slots} {b f t E : Int} (e1 : hdE L b f t = E) (e2 : hdL L b f t = L') (k : KP w p g L W) :
    Calls Try.prog 22 #[ptr p, .int .i64 b, .int .i64 f, .int .i64 t] W fun e w' => e = .returned (.int .i64 E) ∧ KP w p g L' w' := by
  subst e1 e2
  refine (hand_any p g 2 L Tr b f t W k.pp).mono ?_
  rintro e w' ⟨rfl, h1, h2⟩
  exact ⟨rfl, k.turn h1 h2⟩
theorem aFree {L L' : Slots} {b o E : Int} (e1 : chE L b o = E) (e2 : frL L b o = L') (k : KP w p g L W) :
    Calls Try.prog 25 #[ptr p, .int .i64 b, .int .i64 o] W fun e w' => e = .returned (.int .i64 E) ∧ KP w p g L' w' := by
  subst e1 e2
  refine (free_any p g 2 L Tr b o W k.pp).mono ?_
  rintro e w' ⟨rfl, h1, h2⟩
  exact ⟨rfl, k.turn h1 h2⟩
end
/-- And of its clone. -/
structure KQ (w : World) (p g : Nat) (L : Slots) (p2 g2 : Nat) (W : World) : Prop where
  k : KP w p g L W
  c : Pp W p2 g2 2 Ld Tr
  ne : g ≠ p2 ∧ g ≠ g2
theorem KQ.step {w W V : World} {p g p2 g2 : Nat} {L : Slots} (q : KQ w p g L p2 g2 W) (hb : Below W.heap.size W V) : KQ w p g L p2 g2 V := ⟨q.k.step hb, q.c.below hb, q.ne⟩
theorem qFree {w W : World} {p g p2 g2 : Nat} {L L' : Slots} {b o E : Int} (hL : 0 < L.length) (e1 : chE L b o = E) (e2 : frL L b o = L') (q : KQ w p g L p2 g2 W) :
    Calls Try.prog 25 #[ptr p, .int .i64 b, .int .i64 o] W fun e w' => e = .returned (.int .i64 E) ∧ KQ w p g L' p2 g2 w' := by
  subst e1 e2
  refine (free_any p g 2 L Tr b o W q.k.pp).mono ?_
  rintro e w' ⟨rfl, h1, h2⟩
  obtain ⟨cur, a2, _⟩ := q.k.pp.rows hL
  exact ⟨rfl, q.k.turn h1 h2, q.c.kept h2 (fun e => q.ne.1 e.symm) (fun e => q.ne.2 e.symm) (fun k e => .inr (by rw [e]; exact not5 a2 (by decide))), q.ne⟩
theorem aBytes0 {w W : World} {p g p2 g2 : Nat} (q : KQ w p g Le p2 g2 W) : Calls Try.prog 23 #[ptr p, .int .i64 0] W fun e w' => ∃ A m c, e = .returned (.tuple #[.slice A m c, .bool true]) ∧ Rd .u8 w' w'.heap.size A m c [9] ∧ KQ w p g Le p2 g2 w' := by
  refine (bytes_any p g 2 Le Tr 0 W q.k.pp).mono ?_
  rintro e w' ⟨A, m, c, xs, rfl, o, hb, hx⟩
  obtain rfl := hx 0 rfl (by decide)
  exact ⟨A, m, c, rfl, o.rd, q.step hb⟩
theorem aBytes1 {w W : World} {p g p2 g2 : Nat} (q : KQ w p g Le p2 g2 W) : Calls Try.prog 23 #[ptr p, .int .i64 1] W fun e w' => ∃ A m c, e = .returned (.tuple #[.slice A m c, .bool false]) ∧ KQ w p g Le p2 g2 w' ∧ Below W.heap.size W w' := by
  refine (bytes_any p g 2 Le Tr 1 W q.k.pp).mono ?_
  rintro e w' ⟨A, m, c, xs, rfl, o, hb, hx⟩
  exact ⟨A, m, c, rfl, q.step hb, hb⟩
theorem aOwner {w W : World} {p g p2 g2 : Nat} {b : Int} (o : Int) (e1 : owV Le b = o) (q : KQ w p g Le p2 g2 W) : Calls Try.prog 21 #[ptr p, .int .i64 b] W fun e w' => e = .returned (.int .i64 o) ∧ KQ w p g Le p2 g2 w' := by
  subst e1
  refine (owner_any p g 2 Le Tr b W q.k.pp).mono ?_
  rintro e w' ⟨rfl, rfl⟩
  exact ⟨rfl, q⟩
theorem aLeft {w W : World} {p g p2 g2 : Nat} (q : KQ w p g Le p2 g2 W) : Calls Try.prog 18 #[ptr p] W fun e w' => e = .returned (.int .i64 1) ∧ KQ w p g Le p2 g2 w' := by
  refine (left_any p g 2 Le Tr W q.k.pp).mono ?_
  rintro e w' ⟨rfl, hb⟩
  exact ⟨rfl, q.step hb⟩
theorem aLeftC {w W : World} {p g p2 g2 : Nat} (q : KQ w p g Le p2 g2 W) : Calls Try.prog 18 #[ptr p2] W fun e w' => e = .returned (.int .i64 0) ∧ KQ w p g Le p2 g2 w' := by
  refine (left_any p2 g2 2 Ld Tr W q.c).mono ?_
  rintro e w' ⟨rfl, hb⟩
  exact ⟨rfl, q.step hb⟩
theorem aMany {w W : World} {p g p2 g2 : Nat} (q : KQ w p g Le p2 g2 W) : Calls Try.prog 26 #[ptr p] W fun e w' => e = .returned (.int .i64 2) ∧ KQ w p g Le p2 g2 w' := by
  refine (many_any p g 2 Le Tr W q.k.pp).mono ?_
  rintro e w' ⟨rfl, rfl⟩
  exact ⟨rfl, q⟩
theorem aHeld {w W : World} {p g p2 g2 : Nat} (q : KQ w p g Le p2 g2 W) : Calls Try.prog 16 #[ptr p, .int .i64 3] W fun e w' => ∃ A m c, e = .returned (.slice A m c) ∧ Rd .i64 w' w'.heap.size A m c [0] ∧ KQ w p g Le p2 g2 w' := by
  refine (held_any p g 2 Le Tr 3 W q.k.pp).mono ?_
  rintro e w' ⟨A, m, c, rfl, o, hb⟩
  exact ⟨A, m, c, rfl, o.rd, q.step hb⟩
theorem aClone {w W : World} {p g : Nat} (k : KP w p g Ld W) : Calls Try.prog 13 #[ptr p] W fun e w' => ∃ p2 g2, e = .returned (ptr p2) ∧ KQ w p g Ld p2 g2 w' := by
  refine (clonePool_any p g 2 Ld Tr W k.pp (by decide)).mono ?_
  rintro e w' ⟨p2, g2, rfl, h1, h2, hb⟩
  have := k.pp.lt
  exact ⟨p2, g2, rfl, k.step hb, h1.any, by omega⟩
set_option maxRecDepth 100000 in
set_option maxHeartbeats 4000000 in
theorem alive_any (w : World) : Calls Try.prog 7 #[] w fun e w' => e = .returned (.bool true) ∧ Below w.heap.size w w' := by
  go_enter Try.func7, Try.ntmps7
  go_wp2_with fail
  refine (new_yes 2 w (by omega) (by omega)).mono ?_
  rintro ev w1 ⟨p, g, rfl, hp, hlo, hb⟩
  have k : KP w p g La w1 := ⟨hp, hb, hlo⟩
  clear hp hlo hb
  go_wp2_with fail
  refine (new_no 0 w1 (by omega)).mono ?_
  rintro ev w2 ⟨rfl, rfl⟩
  have r9 := rd_lit .u8 5 w1 [9] 1 rfl (by omega) (by decide)
  have ba := alloc_below w1 (.cells #[.int .u8 9] 5)
  have k1 := k.step ba
  go_wp2_with fail
  refine (aTake (L' := Lb) (N := 0) (E := 0) (xs := [9]) (by decide) (by decide) (by decide) (by decide) k1 (by simpa using r9)).mono ?_
  rintro ev w3 ⟨rfl, k3⟩
  clear k k1 r9 ba
  go_wp2_with fail
  refine (aTake (L' := Lc) (N := 1) (E := 0) (xs := []) (by decide) (by decide) (by decide) (by decide) k3 Rd.nil).mono ?_
  rintro ev w4 ⟨rfl, k4⟩
  clear k3
  go_wp2_with fail
  refine (aTake (L' := Lc) (N := -1) (E := 18) (xs := []) (by decide) (by decide) (by decide) (by decide) k4 Rd.nil).mono ?_
  rintro ev w5 ⟨rfl, k5⟩
  clear k4
  go_wp2_with fail
  refine (aHand (L' := Ld) (E := 0) (by decide) (by decide) k5).mono ?_
  rintro ev w6 ⟨rfl, k6⟩
  clear k5
  go_wp2_with fail
  refine (aHand (L' := Ld) (E := 19) (by decide) (by decide) k6).mono ?_
  rintro ev w7 ⟨rfl, k7⟩
  clear k6
  go_wp2_with fail
  refine (aClone k7).mono ?_
  rintro ev w8 ⟨p2, g2, rfl, q8⟩
  clear k7
  go_wp2_with fail
  refine (qFree (L' := Le) (E := 0) (by decide) (by decide) (by decide) q8).mono ?_
  rintro ev w9 ⟨rfl, q9⟩
  clear q8
  go_wp2_with fail
  refine (qFree (L' := Le) (E := 17) (by decide) (by decide) (by decide) q9).mono ?_
  rintro ev w10 ⟨rfl, q10⟩
  clear q9
  go_wp2_with fail
  refine (qFree (L' := Le) (E := 11) (by decide) (by decide) (by decide) q10).mono ?_
  rintro ev w11 ⟨rfl, q11⟩
  clear q10
  go_wp2_with fail
  refine (aBytes0 q11).mono ?_
  rintro ev w12 ⟨A, m, c, rfl, r12, q12⟩
  clear q11
  go_wp2_with fail
  refine (aBytes1 q12).mono ?_
  rintro ev w13 ⟨A', m', c', rfl, q13, hb13⟩
  have r13 := (r12.below hb13 (Nat.le_refl _)).below (alloc_below w13 (.cells #[.int .u8 9] 5)) hb13.size
  have r9 : Rd .u8 (w13.alloc (.cells #[.int .u8 9] 5)) (w13.heap.size + 1) (some ⟨w13.heap.size, 0, none⟩) 1 1 [9] := rd_lit .u8 5 w13 [9] 1 rfl (by omega) (by decide)
  have q := q13.step (alloc_below w13 (.cells #[.int .u8 9] 5))
  clear q12 q13 r12 hb13
  go_wp2_with (first
    | (go_at_call 24; refine (same_any _ _ _ _ _ _ _ _ _ _ r13 r9).mono ?_; rintro ev w14 ⟨rfl, hb⟩; replace q := q.step hb; clear hb r13 r9)
    | (go_at_call 21; with_reducible refine (aOwner (b := 0) 3 (by decide) q).mono ?_; rintro ev w15 ⟨rfl, q2⟩; clear q; have q := q2; clear q2)
    | (go_at_call 21; with_reducible refine (aOwner (b := 1) 0 (by decide) q).mono ?_; rintro ev w16 ⟨rfl, q2⟩; clear q; have q := q2; clear q2)
    | (go_at_call 21; with_reducible refine (aOwner (b := 2) (-1) (by decide) q).mono ?_; rintro ev w17 ⟨rfl, q2⟩; clear q; have q := q2; clear q2)
    | (go_at_call 18; with_reducible refine (aLeft q).mono ?_; rintro ev w18 ⟨rfl, q2⟩; clear q; have q := q2; clear q2)
    | (go_at_call 26; refine (aMany q).mono ?_; rintro ev w19 ⟨rfl, q2⟩; clear q; have q := q2; clear q2)
    | (go_at_call 16; refine (aHeld q).mono ?_; rintro ev w20 ⟨A2, m2, c2, rfl, ri, q20⟩; have bi := alloc_below w20 (.cells #[.int .i64 0] 3); have r0 : Rd .i64 (w20.alloc (.cells #[.int .i64 0] 3)) (w20.heap.size + 1) (some ⟨w20.heap.size, 0, none⟩) 1 1 [0] := rd_lit .i64 3 w20 [0] 1 rfl (by omega) (by decide); have ri2 := ri.below bi (Nat.le_refl _); clear q ri; have q := q20.step bi; clear q20 bi)
    | (go_at_call 15; refine (sameInts_any _ _ _ _ _ _ _ _ _ _ ri2 r0).mono ?_; rintro ev w21 ⟨rfl, hb⟩; replace q := q.step hb; clear hb ri2 r0)
    | (go_at_call 18; with_reducible refine (aLeftC q).mono ?_; rintro ev w22 ⟨rfl, q2⟩; clear q; have q := q2; clear q2))
  go_ret
  exact ⟨rfl, q.k.b⟩
end Go.Proofs.Ytddhdfbhjgaffaa
