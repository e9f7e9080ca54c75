/-
  The contract of the program's ring's Take.
-/
import Derived.Test.YtjaiagocbldbgaaRLay
namespace Go.Proofs.Ytjaiagocbldbgaa
open Go.RowKit
set_option linter.unusedVariables false

/-- What Take gives, where there is a first one. -/
def GivesK (w : World) (q p s g cp z : Nat) (o : Int) (x : Nat) (T : List Nat) (d : Nat) (L : Slots) (F : Nat → Prop) : Ending → World → Prop := fun e w' =>
  ∃ A m c, e = .returned (.tuple #[.slice A m c, .bool true]) ∧ Out .u8 5 w' w.heap.size A m c (byt L x) ∧ Pp w' p g cp (frL L (x : Int) o) F ∧ RgAt w' q p s z o T d ∧ Kept (fun k => k = g ∨ k = q ∨ k = s) w w'
theorem take0_any (q p s z : Nat) (o : Int) (d : Nat) (w : World) (h : RgAt w q p s z o [] d) :
    Calls Try.prog 19 #[ptr q] w fun e w' => e = .returned (.tuple #[.slice none 0 0, .bool false]) ∧ w = w' := by
  obtain ⟨f, c, ys, h⟩ := h
  obtain ⟨c0, c1, c2, c3, c4, c5, ff, lt1, lt2⟩ := h.cells
  replace c3 : w.cell? ⟨q, 3, none⟩ = some (.int .i64 0) := c3
  clear h
  go_enter Try.func19, Try.ntmps19
  go_wp2
  go_ret2
  exact ⟨rfl, rfl⟩
theorem GivesK.of {w w1 : World} {q p s f c z g cp : Nat} {ys : List Int} {o : Int} {x : Nat} {T : List Nat} {d : Nat} {L : Slots} {F : Nat → Prop} {A : Option Addr} {m cc : Nat} (h : RgRow w q p s f c ys z o (x :: T) d) (hp : Pp w p g cp L F) (hL : 0 < L.length)
    (hp1 : Pp w1 p g cp (frL L (x : Int) o) F) (hk : Kept (· = g) w w1) (ho : Out .u8 5 w1 w.heap.size A m cc (byt L x)) :
    GivesK w q p s g cp z o x T d L F (.returned (.tuple #[.slice A m cc, .bool true])) ((w1.setCell ⟨q, 2, none⟩ (.int .i64 (slotN f 1 z : Nat))).setCell ⟨q, 3, none⟩ (.int .i64 (T.length : Int))) := by
  obtain ⟨hq, hs⟩ := h.qs hp hL
  have h1 := h.kept hk hq hs
  obtain ⟨h2, k2⟩ := h1.take
  obtain ⟨cs, hcs⟩ := h1.sblk
  have k3 : Kept (fun k => k = q ∨ k = s) w1 ((w1.setCell ⟨q, 2, none⟩ (.int .i64 (slotN f 1 z : Nat))).setCell ⟨q, 3, none⟩ (.int .i64 (T.length : Int))) := k2.mono (fun k _ e => .inl e)
  exact ⟨A, m, cc, rfl, ho.kept k2 (fun ad e e' => by have := (ho.block ad e).1; have := h.lt.1; omega), hp1.ring (by rw [frL_len]; exact hL) (by decide) (by decide) h1.blk hcs k3, ⟨_, _, _, h2⟩, (hk.mono (fun k _ e => .inl e)).trans (k2.mono (fun k _ e => .inr (.inl e)))⟩
set_option maxRecDepth 100000 in
set_option maxHeartbeats 2000000 in
theorem take1_any (q p s z : Nat) (o : Int) (x : Nat) (T : List Nat) (d g cp : Nat) (L : Slots) (F : Nat → Prop) (w : World) (h : RgAt w q p s z o (x :: T) d) (hp : Pp w p g cp L F) (hx : x < L.length) :
    Calls Try.prog 19 #[ptr q] w (GivesK w q p s g cp z o x T d L F) := by
  obtain ⟨f, c, ys, h⟩ := h
  have hL : 0 < L.length := by omega
  have hsz := h.size
  have hfl := h.flt
  have hl0 : ys.getD (slotN f 0 z) 0 = (x : Int) := by have := h.lies 0 (by simp); simpa using this
  have C1 := Lib.hid (fun W k => at_any q p s f c (x :: T).length z 0 o d ys W k)
  have G := Lib.hid (fun w1 A m cc a b c => GivesK.of (w1 := w1) (A := A) (m := m) (cc := cc) h hp hL a b c)
  obtain ⟨hqg, hsg⟩ := h.qs hp hL
  have hc := h.cells
  have ho := h.out
  obtain ⟨n, hn⟩ : ∃ n, T.length = n := ⟨_, rfl⟩
  have e1 : (x :: T).length = n + 1 := by simp [hn]
  rw [hn] at G
  rw [e1] at hc C1
  rw [hl0] at C1
  have HL := Lib.hid hx
  obtain ⟨c0, c1, c2, c3, c4, c5, ff, lt1, lt2⟩ := hc
  have hn0 : ¬ ((n + 1 : Nat) : Int) = 0 := by omega
  have hcc := Lib.hid h.cells
  rw [e1] at hcc
  have hle : n + 1 ≤ 256 := by have := h.le; omega
  obtain ⟨b0, hb0⟩ : ∃ b0, byt L x = b0 := ⟨_, rfl⟩
  have B := Lib.hid (fun W q => bytes_any p g cp L F (x : Int) W q)
  have Fr := Lib.hid (fun W q => free_any p g cp L F (x : Int) o W q)
  have hpp := Lib.hid hp
  clear h hp hx hL e1 hl0 hn
  go_enter Try.func19, Try.ntmps19
  go_wp2_with fail
  refine (C1.out w hcc.out ho hfl hsz.2 (by omega)).mono ?_
  rintro ev w1 ⟨rfl, m1, rfl⟩
  have b1 := dN w m1
  have hc1 := hcc.out.below b1
  have hp1 := hpp.out.below b1
  clear c0 c1 c2 c3 c4 c5 ff C1
  generalize w.drewN m1 = W1 at *
  have c0 := hc1.c0; have ff := hc1.fr
  go_wp2_with fail
  refine (B.out W1 hp1).mono ?_
  rintro ev w2 ⟨A, m, cc, xs, rfl, o2, b2, hxs⟩
  obtain rfl := hxs x rfl HL.out
  have bs1 := b1.size
  replace o2 := o2.lower bs1
  have hc2 := hc1.below b2
  have hp2 := hp1.below b2
  have b12 := b1.trans (b2.mono bs1)
  clear c0 ff hc1 hp1 b2 B b1 bs1
  go_wp2
  refine wp_region_held_drew (S := fun w' => RgCells w' q p s f c (n + 1) z o d) (by kernel_rfl) (hc2.below (below_drew _)) (fun hHeld => ?_)
  replace hp2 := hp2.below (below_drew w2)
  replace o2 := o2.below (below_drew w2) (Nat.le_refl _)
  replace b12 := b12.trans ((below_drew w2).mono b12.size)
  clear hc2
  change wpAnyH _ _ _ _ _ _ _ _ (World.drew _)
  generalize World.drew w2 = W3 at *
  refine wpAnyH_at (i := 0) (some 23) (v := ?v0z1) rfl rfl (by kernel_rfl) (by kernel_rfl) (by kernel_rfl) (fun _ _ _ h => h) (Or.inl ⟨by rfl, ?y0z1⟩) (by assumption) ?r0z1
  case y0z1 =>
    intro w9 hSw
    obtain ⟨c0, c1, c2, c3, c4, c5, ff, lt1, lt2⟩ := hSw
    go_simp
    all_goals with_reducible rfl
  simp only [Act.put, List.setIfInBounds_toArray, List.set_cons_zero, List.set_cons_succ]
  refine wpAnyH_at (i := 1) (some 24) (v := ?v1z2) rfl rfl (by kernel_rfl) (by kernel_rfl) (by kernel_rfl) (fun _ _ _ h => h) (Or.inl ⟨by rfl, ?y1z2⟩) (by assumption) ?r1z2
  case y1z2 =>
    intro w9 hSw
    obtain ⟨c0, c1, c2, c3, c4, c5, ff, lt1, lt2⟩ := hSw
    go_simp
    all_goals with_reducible rfl
  simp only [Act.put, List.setIfInBounds_toArray, List.set_cons_zero, List.set_cons_succ]
  refine wpAnyH_at (i := 2) (some 25) (v := ?v2z3) rfl rfl (by kernel_rfl) (by kernel_rfl) (by kernel_rfl) (fun _ _ _ h => h) (Or.inl ⟨by rfl, ?y2z3⟩) (by assumption) ?r2z3
  case y2z3 =>
    intro w9 hSw
    obtain ⟨c0, c1, c2, c3, c4, c5, ff, lt1, lt2⟩ := hSw
    go_simp
    all_goals with_reducible rfl
  simp only [Act.put, List.setIfInBounds_toArray, List.set_cons_zero, List.set_cons_succ]
  refine wpAnyH_at (i := 3) (some 26) (v := ?v3z4) rfl rfl (by kernel_rfl) (by kernel_rfl) (by kernel_rfl) (fun _ _ _ h => h) (Or.inl ⟨by rfl, ?y3z4⟩) (by assumption) ?r3z4
  case y3z4 =>
    intro w9 hSw
    obtain ⟨c0, c1, c2, c3, c4, c5, ff, lt1, lt2⟩ := hSw
    go_simp
    all_goals with_reducible rfl
  simp only [Act.put, List.setIfInBounds_toArray, List.set_cons_zero, List.set_cons_succ]
  refine wpAnyH_at (i := 4) (some 27) (v := ?v4z5) rfl rfl (by kernel_rfl) (by kernel_rfl) (by kernel_rfl) (fun _ _ _ h => h) (Or.inl ⟨by rfl, ?y4z5⟩) (by assumption) ?r4z5
  case y4z5 =>
    intro w9 hSw
    obtain ⟨c0, c1, c2, c3, c4, c5, ff, lt1, lt2⟩ := hSw
    go_simp
    all_goals with_reducible rfl
  simp only [Act.put, List.setIfInBounds_toArray, List.set_cons_zero, List.set_cons_succ]
  refine wpAnyH_at (i := 5) (some 28) (v := ?v5z6) rfl rfl (by kernel_rfl) (by kernel_rfl) (by kernel_rfl) (fun _ _ _ h => h) (Or.inl ⟨by rfl, ?y5z6⟩) (by assumption) ?r5z6
  case y5z6 =>
    intro w9 hSw
    obtain ⟨c0, c1, c2, c3, c4, c5, ff, lt1, lt2⟩ := hSw
    go_simp
    all_goals with_reducible rfl
  simp only [Act.put, List.setIfInBounds_toArray, List.set_cons_zero, List.set_cons_succ]
  refine wpAnyH_at (i := 6) (some 29) (v := ?v6z7) rfl rfl (by kernel_rfl) (by kernel_rfl) (by kernel_rfl) (fun _ _ _ h => h) (Or.inl ⟨by rfl, ?y6z7⟩) (by assumption) ?r6z7
  case y6z7 =>
    intro w9 hSw
    obtain ⟨c0, c1, c2, c3, c4, c5, ff, lt1, lt2⟩ := hSw
    go_simp
    all_goals with_reducible rfl
  simp only [Act.put, List.setIfInBounds_toArray, List.set_cons_zero, List.set_cons_succ]
  refine wpAnyH_at (i := 7) (some 30) (v := ?v7z8) rfl rfl (by kernel_rfl) (by kernel_rfl) (by kernel_rfl) (fun _ _ _ h => h) (Or.inl ⟨by rfl, ?y7z8⟩) (by assumption) ?r7z8
  case y7z8 =>
    intro w9 hSw
    obtain ⟨c0, c1, c2, c3, c4, c5, ff, lt1, lt2⟩ := hSw
    go_simp
    all_goals with_reducible rfl
  simp only [Act.put, List.setIfInBounds_toArray, List.set_cons_zero, List.set_cons_succ]
  refine wpAnyH_at (i := 8) (some 31) (v := ?v8z9) rfl rfl (by kernel_rfl) (by kernel_rfl) (by kernel_rfl) (fun _ _ _ h => h) (Or.inl ⟨by rfl, ?y8z9⟩) (by assumption) ?r8z9
  case y8z9 =>
    intro w9 hSw
    obtain ⟨c0, c1, c2, c3, c4, c5, ff, lt1, lt2⟩ := hSw
    go_simp
    all_goals with_reducible rfl
  simp only [Act.put, List.setIfInBounds_toArray, List.set_cons_zero, List.set_cons_succ]
  refine wpAnyH_one (i := 9) (by kernel_rfl) rfl ?_
  go_wp2_with fail
  refine (Fr.out W3 hp2).mono ?_
  rintro ev w4 ⟨rfl, hp4, k4⟩
  have hc4 := hHeld.kept k4 hqg
  replace o2 := o2.kept k4 (fun ad e h => by have := (o2.block ad e).1; have := hpp.out.lt.2; have h2 : ad.block = g := h; omega)
  have ho4 := (ho.below b12 (Nat.le_refl _)).kept k4 (fun ad e => by cases e; exact hsg)
  have K4 : Kept (· = g) w w4 := Kept.ahead b12 k4
  clear hHeld hp2 Fr k4 b12
  go_wp2
  have hHeld := hc4
  refine ⟨hHeld, ?_⟩
  try simp only [Act.put, List.setIfInBounds_toArray, List.set_cons_zero, List.set_cons_succ]
  refine wpAnyH_done (by kernel_rfl) ?_ _
  clear hHeld
  go_wp2_with fail
  refine (slot_any q p s f c (n + 1) z 1 o d w4 hc4 hfl hsz.2 hsz.1).mono ?_
  rintro ev w5 ⟨rfl, m5, rfl⟩
  have b5 := dN w4 m5
  have hc5 := hc4.below b5
  have hp5 := hp4.below b5
  have o5 := o2.below b5 (Nat.le_refl _)
  have K5 := K4.then b5
  clear hc4 hp4 o2 K4 b5 ho4
  generalize w4.drewN m5 = W5 at *
  have GG := Lib.hid (G.out W5 A m cc hp5 K5 o5)
  clear hp5 K5 o5 G
  have kS : Kept (fun _ => False) W5 W5 := Kept.refl _ _
  generalize slotN f 1 z = f1 at *
  generalize byt L x = xs at *
  obtain ⟨c0, c1, c2, c3, c4, c5, ff, lt3, lt4⟩ := hc5
  have c3' : (W5.setCell ⟨q, 2, none⟩ (.int .i64 (f1 : Nat))).cell? ⟨q, 3, none⟩ = some (.int .i64 ((n + 1 : Nat) : Int)) := by
    exact (World.cell?_setCell_other W5 ⟨q, 2, none⟩ ⟨q, 3, none⟩ _ (by simp)).trans c3
  have ff' : (W5.setCell ⟨q, 2, none⟩ (.int .i64 (f1 : Nat))).frozen? ⟨q, 3, none⟩ = false := by
    rw [World.frozen?_setCell]; exact ff 3
  go_wp2
  go_ret2
  exact GG.out
end Go.Proofs.Ytjaiagocbldbgaa
