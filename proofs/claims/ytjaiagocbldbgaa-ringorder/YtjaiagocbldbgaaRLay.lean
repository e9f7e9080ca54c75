/-
  Contracts of the program's ring: lay, Put, Move.
-/
import Derived.Test.YtjaiagocbldbgaaRClo
namespace Go.Proofs.Ytjaiagocbldbgaa
open Go.RowKit
set_option linter.unusedVariables false

theorem Out.at3 {w : World} {base n c x : Nat} {ys : List Int} (h : Out .i64 3 w base (some ⟨x, 0, none⟩) n c ys) {i : Nat} (hi : i < n) : w.cell? ⟨x, i, none⟩ = some (.int .i64 (ys.getD i 0)) ∧ w.frozen? ⟨x, i, none⟩ = false := by
  obtain ⟨b, o', e, _, hc⟩ := h.rd.at_ hi
  obtain ⟨_, cur, hh⟩ := h.block _ rfl
  injection e with e
  injection e with e1 e2
  subst e1 e2
  rw [Nat.zero_add] at hc
  exact ⟨hc, by simp [World.frozen?, hh]⟩
/-- A pool stays, where a ring's blocks alone are turned. -/
theorem PlAt.ring {tp ts : TypeId} {w w' : World} {p g cp : Nat} {L : Slots} {F : Nat → Prop} {q s : Nat} {cq cs : Array Value} (h : PlAt tp ts w p g cp L F) (hL : 0 < L.length) (htp : ¬ tp = 72 ∧ ¬ tp = 3) (hts : ¬ ts = 72 ∧ ¬ ts = 3)
    (hq : w.heap[q]? = some (.cells cq 72 (0, 0))) (hs : w.heap[s]? = some (.cells cs 3 (0, 0))) (hk : Kept (fun k => k = q ∨ k = s) w w') : PlAt tp ts w' p g cp L F := by
  obtain ⟨G, h1, _⟩ := h.ptr
  obtain ⟨cur, h2, _⟩ := h.rows hL
  refine h.kept hk ?_ ?_ ?_
  · rintro (e | e)
    · exact blk_ne h1 hq htp.1 e
    · exact blk_ne h1 hs htp.2 e
  · rintro (e | e)
    · exact blk_ne h2 hq hts.1 e
    · exact blk_ne h2 hs hts.2 e
  · rintro b (rfl | rfl)
    · exact .inr (fun c hc => blk_ne hc hq (by decide) rfl)
    · exact .inr (fun c hc => blk_ne hc hs (by decide) rfl)
/-- What Put and Move give. -/
def GivesL (w : World) (q p s g cp z : Nat) (o : Int) (L' : Slots) (R' : List Nat) (d' : Nat) (F : Nat → Prop) (E : Int) : Ending → World → Prop := fun e w' =>
  e = .returned (.int .i64 E) ∧ Pp w' p g cp L' F ∧ RgAt w' q p s z o R' d' ∧ Kept (fun k => k = g ∨ k = q ∨ k = s) w w'
section
variable {w w1 : World} {q p s f c z g cp : Nat} {ys : List Int} {o : Int} {R : List Nat} {d : Nat} {L L' : Slots} {F : Nat → Prop} {E : Int}
theorem RgRow.qs (h : RgRow w q p s f c ys z o R d) (hp : Pp w p g cp L F) (hL : 0 < L.length) : q ≠ g ∧ s ≠ g := by
  obtain ⟨cur, h2, _⟩ := hp.rows hL
  obtain ⟨cs, hs⟩ := h.sblk
  exact ⟨blk_ne h.blk h2 (by decide), blk_ne hs h2 (by decide)⟩
theorem GivesL.no (h : RgRow w q p s f c ys z o R d) (hp : Pp w p g cp L F) (hL : 0 < L.length) (hl : L'.length = L.length) (hp1 : Pp w1 p g cp L' F) (hk : Kept (· = g) w w1) (E : Int) :
    GivesL w q p s g cp z o L' R (d + 1) F E (.returned (.int .i64 E)) (w1.setCell ⟨q, 5, none⟩ (.int .i64 ((d : Int) + 1))) := by
  obtain ⟨hq, hs⟩ := h.qs hp hL
  have h1 := h.kept hk hq hs
  obtain ⟨h2, k2⟩ := h1.drop
  obtain ⟨cs, hcs⟩ := h1.sblk
  have k3 : Kept (fun k => k = q ∨ k = s) w1 (w1.setCell ⟨q, 5, none⟩ (.int .i64 ((d : Int) + 1))) := k2.mono (fun k _ e => .inl e)
  exact ⟨rfl, hp1.ring (by omega) (by decide) (by decide) h1.blk hcs k3, ⟨_, _, _, h2⟩, (hk.mono (fun k _ e => .inl e)).trans (k2.mono (fun k _ e => .inr (.inl e)))⟩
theorem GivesL.yes (h : RgRow w q p s f c ys z o R d) (hp : Pp w p g cp L F) (hL : 0 < L.length) (hl : L'.length = L.length) (hp1 : Pp w1 p g cp L' F) (hk : Kept (· = g) w w1) (hR : R.length < z) (x : Nat) (hx : x ≤ 100000) :
    GivesL w q p s g cp z o L' (R ++ [x]) d F 0 (.returned (.int .i64 0)) ((w1.setCell ⟨s, slotN f R.length z, none⟩ (.int .i64 (x : Int))).setCell ⟨q, 3, none⟩ (.int .i64 ((R.length : Int) + 1))) := by
  obtain ⟨hq, hs⟩ := h.qs hp hL
  have h1 := h.kept hk hq hs
  obtain ⟨h2, k2⟩ := h1.put hR x hx
  obtain ⟨cs, hcs⟩ := h1.sblk
  exact ⟨rfl, hp1.ring (by omega) (by decide) (by decide) h1.blk hcs k2, ⟨_, _, _, h2⟩, (hk.mono (fun k _ e => .inl e)).trans (k2.mono (fun k _ e => .inr e))⟩
end
theorem dN (w : World) (m : Nat) : Below w.heap.size w (w.drewN m) := below_drewN (Below.refl _ _) m
theorem Kept.drewN {S : Nat → Prop} {w w' : World} (h : Kept S w w') (m : Nat) : Kept S w (w'.drewN m) := h.then (below_drewN (Below.refl _ _) m)
theorem hdE_ok {L : Slots} {b f t : Int} (h : hdE L b f t = 0) : isOwn t ∧ chE L b f = 0 := by
  by_cases ho : isOwn t
  · rw [hdE_to ho] at h; exact ⟨ho, h⟩
  · rw [hdE_own ho] at h; omega
theorem hdE_lt {L : Slots} {b f t : Int} (h : hdE L b f t = 0) : b.toNat < L.length := by
  obtain ⟨k, rfl, hk, _⟩ := chE_zero (hdE_ok h).2
  simpa using hk
theorem hdE_nn {L : Slots} {b f t : Int} (h : hdE L b f t = 0) : 0 ≤ b := by
  obtain ⟨k, rfl, hk, _⟩ := chE_zero (hdE_ok h).2
  omega
set_option maxRecDepth 100000 in
set_option maxHeartbeats 2000000 in
theorem layPut_full (q p s f c z : Nat) (ys : List Int) (o : Int) (R : List Nat) (d : Nat) (bq bb : Nat) (A : Option Addr) (m cA B : Nat) (xs : List Int) (g cp : Nat) (L : Slots) (F : Nat → Prop) (w : World) (h : RgRow w q p s f c ys z o R d) (hd : d ≤ 100000) (k : ∀ n, RgCells w q p s f c n z o d → KS q p s f c n z o d [(bq, ptr q), (bb, .slice A m cA)] w) (hnb : bq ≠ g ∧ bb ≠ g) (hr : Rd .u8 w B A m cA xs) (hB : B ≤ w.heap.size) (hF : ∀ b, w.heap.size ≤ b → F b) (hp : Pp w p g cp L F) (hL : 0 < L.length) (hf : ¬ R.length < z) : Calls Try.prog 45 #[ptr q, .func (.func 46) #[] #[ptr bq, ptr bb]] w (GivesL w q p s g cp z o (ptL L R z o xs) (ptR L R z o m) (drp (ptE L R z o m) d) F (ptE L R z o m)) := by
  have hE : ptE L R z o m = 18 := by unfold ptE; rw [if_neg hf]
  have hLx : ptL L R z o xs = L := by unfold ptL; rw [if_neg hf]
  have hRx : ptR L R z o m = R := by unfold ptR; rw [hE]; rfl
  have G : Hid (∀ mm, GivesL w q p s g cp z o (ptL L R z o xs) (ptR L R z o m) (drp (ptE L R z o m) d) F (ptE L R z o m) (.returned (.int .i64 18)) ((w.drewN mm).setCell ⟨q, 5, none⟩ (.int .i64 ((d : Int) + 1)))) := Lib.hid (by
    rw [hE, hLx, hRx]
    intro mm
    exact GivesL.no h hp hL rfl (hp.below (dN w mm)) ((Kept.refl _ _).drewN mm) 18)
  obtain ⟨c0, c1, c2, c3, c4, c5, ff, lt1, lt2⟩ := h.cells
  have hn : R.length = z := by have := h.le; omega
  have hz := h.size
  rw [hn] at c3
  clear h k hp hE hLx hRx hf hn
  go_enter Try.func45, Try.ntmps45
  go_wp2
  go_quiet (fail)
  go_wp2
  go_ret
  exact G.out _
set_option maxRecDepth 100000 in
set_option maxHeartbeats 2000000 in
theorem layPut_no (q p s f c z : Nat) (ys : List Int) (o : Int) (R : List Nat) (d : Nat) (bq bb : Nat) (A : Option Addr) (m cA B : Nat) (xs : List Int) (g cp : Nat) (L : Slots) (F : Nat → Prop) (w : World) (h : RgRow w q p s f c ys z o R d) (hd : d ≤ 100000) (k : ∀ n, RgCells w q p s f c n z o d → KS q p s f c n z o d [(bq, ptr q), (bb, .slice A m cA)] w) (hnb : bq ≠ g ∧ bb ≠ g) (hr : Rd .u8 w B A m cA xs) (hB : B ≤ w.heap.size) (hF : ∀ b, w.heap.size ≤ b → F b) (hp : Pp w p g cp L F) (hL : 0 < L.length) (hf : R.length < z) (hE : ¬ ptE L R z o m = 0) : Calls Try.prog 45 #[ptr q, .func (.func 46) #[] #[ptr bq, ptr bb]] w (GivesL w q p s g cp z o (ptL L R z o xs) (ptR L R z o m) (drp (ptE L R z o m) d) F (ptE L R z o m)) := by
  have hRx : ptR L R z o m = R := by unfold ptR; rw [if_neg hE]
  have hE' : ptE L R z o m = tkE L o m := by unfold ptE; rw [if_pos hf]
  have hLx : ptL L R z o xs = tkL L o xs := by unfold ptL; rw [if_pos hf]
  rw [hE'] at hE
  have G : Hid (∀ w1, Pp w1 p g cp (tkL L o xs) F → Kept (· = g) w w1 → GivesL w q p s g cp z o (ptL L R z o xs) (ptR L R z o m) (drp (ptE L R z o m) d) F (ptE L R z o m) (.returned (.int .i64 (tkE L o m))) (w1.setCell ⟨q, 5, none⟩ (.int .i64 ((d : Int) + 1)))) := Lib.hid (by
    rw [hE', hLx, hRx, drp_no hE]
    intro w1 hp1 hk1
    exact GivesL.no h hp hL (tkL_len _ _ _) hp1 hk1 _)
  have hcz := h.cells
  have hqs := h.qs hp hL
  have T : Hid (∀ m0, Calls Try.prog 46 #[ptr bq, ptr bb] (w.drewN m0) fun e w' => e = .returned (.tuple #[.int .i64 (tkN L o m), .int .i64 (tkE L o m)]) ∧ Pp w' p g cp (tkL L o xs) F ∧ Kept (· = g) (w.drewN m0) w') := Lib.hid (fun m0 => put1_any q p s f c R.length z o d bq bb A m cA B xs g cp L F (w.drewN m0) ((k _ hcz).below (dN w m0)) hnb (hp.below (dN w m0)) (hr.below (dN w m0) hB) hL (Nat.le_trans hB (dN w m0).size) (fun j hj => hF j (Nat.le_trans (dN w m0).size hj)))
  obtain ⟨c0, c1, c2, c3, c4, c5, ff, lt1, lt2⟩ := h.cells
  have hz := h.size
  have hfi : (R.length : Int) < (z : Int) := by omega
  have hE2 : (tkE L o m == 0) = false := by simpa using hE
  generalize tkE L o m = E at *
  clear h k hp hE' hLx hRx
  go_enter Try.func45, Try.ntmps45
  go_wp2
  go_quiet (fail)
  go_wp2_with fail
  refine (T.out _).mono ?_
  rintro ev w2 ⟨rfl, hp2, hk2⟩
  have hc2 := (hcz.below (below_drewN (Below.refl _ _) _)).kept hk2 hqs.1
  have hk3 : Kept (· = g) w w2 := Kept.ahead (below_drewN (Below.refl _ _) _) hk2
  have c5' := hc2.c5
  have ff' := hc2.fr 5
  clear hc2 hk2 c0 c1 c2 c3 c4 c5 ff T hcz
  go_wp2
  go_ret
  exact G.out _ hp2 hk3
set_option maxRecDepth 100000 in
set_option maxHeartbeats 2000000 in
theorem layPut_yes (q p s f c z : Nat) (ys : List Int) (o : Int) (R : List Nat) (d : Nat) (bq bb : Nat) (A : Option Addr) (m cA B : Nat) (xs : List Int) (g cp : Nat) (L : Slots) (F : Nat → Prop) (w : World) (h : RgRow w q p s f c ys z o R d) (hd : d ≤ 100000) (k : ∀ n, RgCells w q p s f c n z o d → KS q p s f c n z o d [(bq, ptr q), (bb, .slice A m cA)] w) (hnb : bq ≠ g ∧ bb ≠ g) (hr : Rd .u8 w B A m cA xs) (hB : B ≤ w.heap.size) (hF : ∀ b, w.heap.size ≤ b → F b) (hp : Pp w p g cp L F) (hL : 0 < L.length) (hf : R.length < z) (hE : ptE L R z o m = 0) : Calls Try.prog 45 #[ptr q, .func (.func 46) #[] #[ptr bq, ptr bb]] w (GivesL w q p s g cp z o (ptL L R z o xs) (ptR L R z o m) (drp (ptE L R z o m) d) F (ptE L R z o m)) := by
  have hE' : ptE L R z o m = tkE L o m := by unfold ptE; rw [if_pos hf]
  have hLx : ptL L R z o xs = tkL L o xs := by unfold ptL; rw [if_pos hf]
  have hRx : ptR L R z o m = R ++ [free1 L] := by unfold ptR; rw [if_pos hE]
  have hE0 := hE
  rw [hE'] at hE
  obtain ⟨x, hx, hxl⟩ : ∃ x : Nat, free1 L = x ∧ x < L.length := ⟨_, rfl, (tkE_of hE).2.2⟩
  have hxv : tkN L o m = (x : Int) := by rw [tkN_yes hE, hx]
  have hbw : Hid ((x : Int) = (x : Int)) := Lib.hid rfl
  have hxm : x ≤ 100000 := by have := hp.len; omega
  obtain ⟨n, hn⟩ : ∃ n, R.length = n := ⟨_, rfl⟩
  have G : Hid (∀ w1 w5, Pp w1 p g cp (tkL L o xs) F → Kept (· = g) w w1 → w5 = (w1.setCell ⟨s, slotN f n z, none⟩ (.int .i64 ((x : Int)))).setCell ⟨q, 3, none⟩ (.int .i64 ((n : Int) + 1)) → GivesL w q p s g cp z o (ptL L R z o xs) (ptR L R z o m) (drp (ptE L R z o m) d) F (ptE L R z o m) (.returned (.int .i64 0)) w5) := Lib.hid (by
    rw [hE0, hLx, hRx, drp_ok, hx, ← hn]
    rintro w1 w5 hp1 hk1 rfl
    have Y := GivesL.yes h hp hL (tkL_len _ _ _) hp1 hk1 hf x hxm
    skip
    exact Y)
  have hcz := h.cells
  have hqs := h.qs hp hL
  have hne := h.ne
  have T : Hid (∀ m0, Calls Try.prog 46 #[ptr bq, ptr bb] (w.drewN m0) fun e w' => e = .returned (.tuple #[.int .i64 (tkN L o m), .int .i64 (tkE L o m)]) ∧ Pp w' p g cp (tkL L o xs) F ∧ Kept (· = g) (w.drewN m0) w') := Lib.hid (fun m0 => put1_any q p s f c R.length z o d bq bb A m cA B xs g cp L F (w.drewN m0) ((k _ hcz).below (dN w m0)) hnb (hp.below (dN w m0)) (hr.below (dN w m0) hB) hL (Nat.le_trans hB (dN w m0).size) (fun j hj => hF j (Nat.le_trans (dN w m0).size hj)))
  rw [hxv, hE] at T
  have ho := h.out
  have hfl := h.flt
  obtain ⟨c0, c1, c2, c3, c4, c5, ff, lt1, lt2⟩ := h.cells
  have hz := h.size
  rw [hn] at c3 hcz hf
  have hfi : (n : Int) < (z : Int) := by omega
  have hgs : s ≠ g := hqs.2
  clear h k hp hE' hLx hRx hE0 hE hn hx hxv
  go_enter Try.func45, Try.ntmps45
  go_wp2
  go_quiet (fail)
  go_wp2_with fail
  refine (T.out _).mono ?_
  rintro ev w2 ⟨rfl, hp2, hk2⟩
  have hc2 := (hcz.below (below_drewN (Below.refl _ _) _)).kept hk2 hqs.1
  have ho2 := (ho.below (below_drewN (Below.refl _ _) _) (Nat.le_refl _)).kept hk2 (fun ad e => by cases e; exact hgs)
  have hk3 : Kept (· = g) w w2 := Kept.ahead (below_drewN (Below.refl _ _) _) hk2
  clear hk2 c0 c1 c2 c3 c4 c5 ff T hcz ho
  go_wp2
  refine wp_region_held_drew (S := fun w' => RgCells w' q p s f c n z o d) (by kernel_rfl) (hc2.below (below_drew _)) (fun hHeld => ?_)
  replace hp2 := hp2.below (below_drew w2)
  replace hk3 := hk3.then (below_drew w2)
  replace ho2 := ho2.below (below_drew w2) (Nat.le_refl _)
  clear hc2
  change wpAnyH _ _ _ _ _ _ _ _ (World.drew _)
  generalize World.drew w2 = W0 at *
  refine wpAnyH_at (i := 0) (some 32) (v := ?v0z1) rfl rfl (by kernel_rfl) (by kernel_rfl) (by kernel_rfl) (fun _ _ _ h => h) (Or.inl ⟨by rfl, ?y0z1⟩) (by assumption) ?r0z1
  case y0z1 =>
    intro w9 hSw
    obtain ⟨c0, c1, c2, c3, c4, c5, ff, lt1, lt2⟩ := hSw
    go_simp
    all_goals with_reducible rfl
  simp only [Act.put, List.setIfInBounds_toArray, List.set_cons_zero, List.set_cons_succ]
  refine wpAnyH_at (i := 1) (some 33) (v := ?v1z2) rfl rfl (by kernel_rfl) (by kernel_rfl) (by kernel_rfl) (fun _ _ _ h => h) (Or.inl ⟨by rfl, ?y1z2⟩) (by assumption) ?r1z2
  case y1z2 =>
    intro w9 hSw
    obtain ⟨c0, c1, c2, c3, c4, c5, ff, lt1, lt2⟩ := hSw
    go_simp
    all_goals with_reducible rfl
  simp only [Act.put, List.setIfInBounds_toArray, List.set_cons_zero, List.set_cons_succ]
  refine wpAnyH_at (i := 2) (some 34) (v := ?v2z3) rfl rfl (by kernel_rfl) (by kernel_rfl) (by kernel_rfl) (fun _ _ _ h => h) (Or.inl ⟨by rfl, ?y2z3⟩) (by assumption) ?r2z3
  case y2z3 =>
    intro w9 hSw
    obtain ⟨c0, c1, c2, c3, c4, c5, ff, lt1, lt2⟩ := hSw
    go_simp
    all_goals with_reducible rfl
  simp only [Act.put, List.setIfInBounds_toArray, List.set_cons_zero, List.set_cons_succ]
  refine wpAnyH_at (i := 3) (some 35) (v := ?v3z4) rfl rfl (by kernel_rfl) (by kernel_rfl) (by kernel_rfl) (fun _ _ _ h => h) (Or.inl ⟨by rfl, ?y3z4⟩) (by assumption) ?r3z4
  case y3z4 =>
    intro w9 hSw
    obtain ⟨c0, c1, c2, c3, c4, c5, ff, lt1, lt2⟩ := hSw
    go_simp
    all_goals with_reducible rfl
  simp only [Act.put, List.setIfInBounds_toArray, List.set_cons_zero, List.set_cons_succ]
  refine wpAnyH_at (i := 4) (some 36) (v := ?v4z5) rfl rfl (by kernel_rfl) (by kernel_rfl) (by kernel_rfl) (fun _ _ _ h => h) (Or.inl ⟨by rfl, ?y4z5⟩) (by assumption) ?r4z5
  case y4z5 =>
    intro w9 hSw
    obtain ⟨c0, c1, c2, c3, c4, c5, ff, lt1, lt2⟩ := hSw
    go_simp
    all_goals with_reducible rfl
  simp only [Act.put, List.setIfInBounds_toArray, List.set_cons_zero, List.set_cons_succ]
  refine wpAnyH_at (i := 5) (some 37) (v := ?v5z6) rfl rfl (by kernel_rfl) (by kernel_rfl) (by kernel_rfl) (fun _ _ _ h => h) (Or.inl ⟨by rfl, ?y5z6⟩) (by assumption) ?r5z6
  case y5z6 =>
    intro w9 hSw
    obtain ⟨c0, c1, c2, c3, c4, c5, ff, lt1, lt2⟩ := hSw
    go_simp
    all_goals with_reducible rfl
  simp only [Act.put, List.setIfInBounds_toArray, List.set_cons_zero, List.set_cons_succ]
  refine wpAnyH_at (i := 6) (some 38) (v := ?v6z7) rfl rfl (by kernel_rfl) (by kernel_rfl) (by kernel_rfl) (fun _ _ _ h => h) (Or.inl ⟨by rfl, ?y6z7⟩) (by assumption) ?r6z7
  case y6z7 =>
    intro w9 hSw
    obtain ⟨c0, c1, c2, c3, c4, c5, ff, lt1, lt2⟩ := hSw
    go_simp
    all_goals with_reducible rfl
  simp only [Act.put, List.setIfInBounds_toArray, List.set_cons_zero, List.set_cons_succ]
  refine wpAnyH_at (i := 7) (some 39) (v := ?v7z8) rfl rfl (by kernel_rfl) (by kernel_rfl) (by kernel_rfl) (fun _ _ _ h => h) (Or.inl ⟨by rfl, ?y7z8⟩) (by assumption) ?r7z8
  case y7z8 =>
    intro w9 hSw
    obtain ⟨c0, c1, c2, c3, c4, c5, ff, lt1, lt2⟩ := hSw
    go_simp
    all_goals with_reducible rfl
  simp only [Act.put, List.setIfInBounds_toArray, List.set_cons_zero, List.set_cons_succ]
  refine wpAnyH_at (i := 8) (some 40) (v := ?v8z9) rfl rfl (by kernel_rfl) (by kernel_rfl) (by kernel_rfl) (fun _ _ _ h => h) (Or.inl ⟨by rfl, ?y8z9⟩) (by assumption) ?r8z9
  case y8z9 =>
    intro w9 hSw
    obtain ⟨c0, c1, c2, c3, c4, c5, ff, lt1, lt2⟩ := hSw
    go_simp
    all_goals with_reducible rfl
  simp only [Act.put, List.setIfInBounds_toArray, List.set_cons_zero, List.set_cons_succ]
  refine wpAnyH_at (i := 10) (some 42) (v := ?v10z10) rfl rfl (by kernel_rfl) (by kernel_rfl) (by kernel_rfl) (fun _ _ _ h => h) (Or.inl ⟨by rfl, ?y10z10⟩) (by assumption) ?r10z10
  case y10z10 =>
    intro w9 hSw
    clear hSw
    go_simp
    all_goals with_reducible rfl
  simp only [Act.put, List.setIfInBounds_toArray, List.set_cons_zero, List.set_cons_succ]
  refine wpAnyH_one (i := 9) (by kernel_rfl) rfl ?_
  go_wp2_with fail
  refine (slot_any q p s f c n z n o d W0 hHeld hfl hz.2 (by omega)).mono ?_
  rintro ev w4 ⟨rfl, m4, rfl⟩
  have b4 : Below W0.heap.size W0 (W0.drewN m4) := below_drewN (Below.refl _ _) _
  replace hp2 := hp2.below b4
  replace hk3 := hk3.then b4
  replace ho2 := ho2.below b4 (Nat.le_refl _)
  have hS4 := hHeld.below b4
  clear hHeld b4
  generalize World.drewN W0 m4 = W4 at *
  go_wp2
  have hHeld := hS4
  refine ⟨hHeld, ?_⟩
  try simp only [Act.put, List.setIfInBounds_toArray, List.set_cons_zero, List.set_cons_succ]
  have hk := slotN_lt hfl (Nat.le_of_lt hf)
  have hst := ho2.at3 hk
  have hkS : Kept (· = s) W4 (W4.setCell ⟨s, slotN f n z, none⟩ (.int .i64 ((x : Int)))) := Kept.setCell (S := (· = s)) W4 _ _ rfl
  have hS5 := hS4.kept hkS hne
  have G5 := Lib.hid (fun w5 e => G.out W4 w5 hp2 hk3 e)
  clear G hp2 hk3 ho2 hkS hS4
  generalize slotN f n z = kk at *
  obtain ⟨hst1, hst2⟩ := hst
  refine wpAnyH_at (i := 11) (some 43) (v := ?v11z11) rfl rfl (by kernel_rfl) (by kernel_rfl) (by kernel_rfl) (fun _ _ _ h => h) (Or.inl ⟨by rfl, ?y11z11⟩) (by assumption) ?r11z11
  case y11z11 =>
    intro w9 hSw
    clear hSw
    go_simp
    all_goals with_reducible rfl
  simp only [Act.put, List.setIfInBounds_toArray, List.set_cons_zero, List.set_cons_succ]
  refine wpAnyH_one (i := 12) (by kernel_rfl) rfl ?_
  go_wp2
  have hHeld := hS5
  refine ⟨hHeld, ?_⟩
  refine wpAnyH_done (by kernel_rfl) ?_ _
  obtain ⟨c0, c1, c2, c3, c4, c5, ff, lt1, lt2⟩ := hHeld
  clear hS5
  generalize World.setCell W4 ⟨s, kk, none⟩ (.int .i64 ((x : Int))) = W5 at *
  go_wp2
  go_ret
  exact G5.out _ rfl
set_option maxRecDepth 100000 in
set_option maxHeartbeats 2000000 in
theorem layMove_full (q p s f c z : Nat) (ys : List Int) (o : Int) (R : List Nat) (d : Nat) (b0 bq b2 : Nat) (b fr : Int) (g cp : Nat) (L : Slots) (F : Nat → Prop) (w : World) (h : RgRow w q p s f c ys z o R d) (hd : d ≤ 100000) (k : ∀ n, RgCells w q p s f c n z o d → KS q p s f c n z o d [(b0, .int .i64 b), (bq, ptr q), (b2, .int .i64 fr)] w) (hnb : b0 ≠ g ∧ bq ≠ g ∧ b2 ≠ g) (hp : Pp w p g cp L F) (hL : 0 < L.length) (hf : ¬ R.length < z) : Calls Try.prog 45 #[ptr q, .func (.func 51) #[] #[ptr b0, ptr bq, ptr b2]] w (GivesL w q p s g cp z o (mvL L R z o b fr) (mvR L R z o b fr) (drp (mvE L R z o b fr) d) F (mvE L R z o b fr)) := by
  have hE : mvE L R z o b fr = 18 := by unfold mvE; rw [if_neg hf]
  have hLx : mvL L R z o b fr = L := by unfold mvL; rw [if_neg hf]
  have hRx : mvR L R z o b fr = R := by unfold mvR; rw [hE]; rfl
  have G : Hid (∀ mm, GivesL w q p s g cp z o (mvL L R z o b fr) (mvR L R z o b fr) (drp (mvE L R z o b fr) d) F (mvE L R z o b fr) (.returned (.int .i64 18)) ((w.drewN mm).setCell ⟨q, 5, none⟩ (.int .i64 ((d : Int) + 1)))) := Lib.hid (by
    rw [hE, hLx, hRx]
    intro mm
    exact GivesL.no h hp hL rfl (hp.below (dN w mm)) ((Kept.refl _ _).drewN mm) 18)
  obtain ⟨c0, c1, c2, c3, c4, c5, ff, lt1, lt2⟩ := h.cells
  have hn : R.length = z := by have := h.le; omega
  have hz := h.size
  rw [hn] at c3
  clear h k hp hE hLx hRx hf hn
  go_enter Try.func45, Try.ntmps45
  go_wp2
  go_quiet (fail)
  go_wp2
  go_ret
  exact G.out _
set_option maxRecDepth 100000 in
set_option maxHeartbeats 2000000 in
theorem layMove_no (q p s f c z : Nat) (ys : List Int) (o : Int) (R : List Nat) (d : Nat) (b0 bq b2 : Nat) (b fr : Int) (g cp : Nat) (L : Slots) (F : Nat → Prop) (w : World) (h : RgRow w q p s f c ys z o R d) (hd : d ≤ 100000) (k : ∀ n, RgCells w q p s f c n z o d → KS q p s f c n z o d [(b0, .int .i64 b), (bq, ptr q), (b2, .int .i64 fr)] w) (hnb : b0 ≠ g ∧ bq ≠ g ∧ b2 ≠ g) (hp : Pp w p g cp L F) (hL : 0 < L.length) (hf : R.length < z) (hE : ¬ mvE L R z o b fr = 0) : Calls Try.prog 45 #[ptr q, .func (.func 51) #[] #[ptr b0, ptr bq, ptr b2]] w (GivesL w q p s g cp z o (mvL L R z o b fr) (mvR L R z o b fr) (drp (mvE L R z o b fr) d) F (mvE L R z o b fr)) := by
  have hRx : mvR L R z o b fr = R := by unfold mvR; rw [if_neg hE]
  have hE' : mvE L R z o b fr = hdE L b fr o := by unfold mvE; rw [if_pos hf]
  have hLx : mvL L R z o b fr = hdL L b fr o := by unfold mvL; rw [if_pos hf]
  rw [hE'] at hE
  have G : Hid (∀ w1, Pp w1 p g cp (hdL L b fr o) F → Kept (· = g) w w1 → GivesL w q p s g cp z o (mvL L R z o b fr) (mvR L R z o b fr) (drp (mvE L R z o b fr) d) F (mvE L R z o b fr) (.returned (.int .i64 (hdE L b fr o))) (w1.setCell ⟨q, 5, none⟩ (.int .i64 ((d : Int) + 1)))) := Lib.hid (by
    rw [hE', hLx, hRx, drp_no hE]
    intro w1 hp1 hk1
    exact GivesL.no h hp hL (hdL_len _ _ _ _) hp1 hk1 _)
  have hcz := h.cells
  have hqs := h.qs hp hL
  have T : Hid (∀ m0, Calls Try.prog 51 #[ptr b0, ptr bq, ptr b2] (w.drewN m0) fun e w' => e = .returned (.tuple #[.int .i64 (b), .int .i64 (hdE L b fr o)]) ∧ Pp w' p g cp (hdL L b fr o) F ∧ Kept (· = g) (w.drewN m0) w') := Lib.hid (fun m0 => move1_any q p s f c R.length z o d b0 bq b2 b fr g cp L F (w.drewN m0) ((k _ hcz).below (dN w m0)) hnb (hp.below (dN w m0)) hL)
  obtain ⟨c0, c1, c2, c3, c4, c5, ff, lt1, lt2⟩ := h.cells
  have hz := h.size
  have hfi : (R.length : Int) < (z : Int) := by omega
  have hE2 : (hdE L b fr o == 0) = false := by simpa using hE
  generalize hdE L b fr o = E at *
  clear h k hp hE' hLx hRx
  go_enter Try.func45, Try.ntmps45
  go_wp2
  go_quiet (fail)
  go_wp2_with fail
  refine (T.out _).mono ?_
  rintro ev w2 ⟨rfl, hp2, hk2⟩
  have hc2 := (hcz.below (below_drewN (Below.refl _ _) _)).kept hk2 hqs.1
  have hk3 : Kept (· = g) w w2 := Kept.ahead (below_drewN (Below.refl _ _) _) hk2
  have c5' := hc2.c5
  have ff' := hc2.fr 5
  clear hc2 hk2 c0 c1 c2 c3 c4 c5 ff T hcz
  go_wp2
  go_ret
  exact G.out _ hp2 hk3
set_option maxRecDepth 100000 in
set_option maxHeartbeats 2000000 in
theorem layMove_yes (q p s f c z : Nat) (ys : List Int) (o : Int) (R : List Nat) (d : Nat) (b0 bq b2 : Nat) (b fr : Int) (g cp : Nat) (L : Slots) (F : Nat → Prop) (w : World) (h : RgRow w q p s f c ys z o R d) (hd : d ≤ 100000) (k : ∀ n, RgCells w q p s f c n z o d → KS q p s f c n z o d [(b0, .int .i64 b), (bq, ptr q), (b2, .int .i64 fr)] w) (hnb : b0 ≠ g ∧ bq ≠ g ∧ b2 ≠ g) (hp : Pp w p g cp L F) (hL : 0 < L.length) (hf : R.length < z) (hE : mvE L R z o b fr = 0) : Calls Try.prog 45 #[ptr q, .func (.func 51) #[] #[ptr b0, ptr bq, ptr b2]] w (GivesL w q p s g cp z o (mvL L R z o b fr) (mvR L R z o b fr) (drp (mvE L R z o b fr) d) F (mvE L R z o b fr)) := by
  have hE' : mvE L R z o b fr = hdE L b fr o := by unfold mvE; rw [if_pos hf]
  have hLx : mvL L R z o b fr = hdL L b fr o := by unfold mvL; rw [if_pos hf]
  have hRx : mvR L R z o b fr = R ++ [b.toNat] := by unfold mvR; rw [if_pos hE]
  have hE0 := hE
  rw [hE'] at hE
  obtain ⟨x, hx, hxl⟩ : ∃ x : Nat, b.toNat = x ∧ x < L.length := ⟨_, rfl, hdE_lt hE⟩
  have hxv : b = (x : Int) := by have := hdE_nn hE; omega
  have hbw : Hid (b = (x : Int)) := Lib.hid hxv
  have hxm : x ≤ 100000 := by have := hp.len; omega
  obtain ⟨n, hn⟩ : ∃ n, R.length = n := ⟨_, rfl⟩
  have G : Hid (∀ w1 w5, Pp w1 p g cp (hdL L b fr o) F → Kept (· = g) w w1 → w5 = (w1.setCell ⟨s, slotN f n z, none⟩ (.int .i64 (b))).setCell ⟨q, 3, none⟩ (.int .i64 ((n : Int) + 1)) → GivesL w q p s g cp z o (mvL L R z o b fr) (mvR L R z o b fr) (drp (mvE L R z o b fr) d) F (mvE L R z o b fr) (.returned (.int .i64 0)) w5) := Lib.hid (by
    rw [hE0, hLx, hRx, drp_ok, hx, ← hn]
    rintro w1 w5 hp1 hk1 rfl
    have Y := GivesL.yes h hp hL (hdL_len _ _ _ _) hp1 hk1 hf x hxm
    rw [← hxv] at Y
    exact Y)
  have hcz := h.cells
  have hqs := h.qs hp hL
  have hne := h.ne
  have T : Hid (∀ m0, Calls Try.prog 51 #[ptr b0, ptr bq, ptr b2] (w.drewN m0) fun e w' => e = .returned (.tuple #[.int .i64 (b), .int .i64 (hdE L b fr o)]) ∧ Pp w' p g cp (hdL L b fr o) F ∧ Kept (· = g) (w.drewN m0) w') := Lib.hid (fun m0 => move1_any q p s f c R.length z o d b0 bq b2 b fr g cp L F (w.drewN m0) ((k _ hcz).below (dN w m0)) hnb (hp.below (dN w m0)) hL)
  rw [hE] at T
  have ho := h.out
  have hfl := h.flt
  obtain ⟨c0, c1, c2, c3, c4, c5, ff, lt1, lt2⟩ := h.cells
  have hz := h.size
  rw [hn] at c3 hcz hf
  have hfi : (n : Int) < (z : Int) := by omega
  have hgs : s ≠ g := hqs.2
  clear h k hp hE' hLx hRx hE0 hE hn hx hxv
  go_enter Try.func45, Try.ntmps45
  go_wp2
  go_quiet (fail)
  go_wp2_with fail
  refine (T.out _).mono ?_
  rintro ev w2 ⟨rfl, hp2, hk2⟩
  have hc2 := (hcz.below (below_drewN (Below.refl _ _) _)).kept hk2 hqs.1
  have ho2 := (ho.below (below_drewN (Below.refl _ _) _) (Nat.le_refl _)).kept hk2 (fun ad e => by cases e; exact hgs)
  have hk3 : Kept (· = g) w w2 := Kept.ahead (below_drewN (Below.refl _ _) _) hk2
  clear hk2 c0 c1 c2 c3 c4 c5 ff T hcz ho
  go_wp2
  refine wp_region_held_drew (S := fun w' => RgCells w' q p s f c n z o d) (by kernel_rfl) (hc2.below (below_drew _)) (fun hHeld => ?_)
  replace hp2 := hp2.below (below_drew w2)
  replace hk3 := hk3.then (below_drew w2)
  replace ho2 := ho2.below (below_drew w2) (Nat.le_refl _)
  clear hc2
  change wpAnyH _ _ _ _ _ _ _ _ (World.drew _)
  generalize World.drew w2 = W0 at *
  refine wpAnyH_at (i := 0) (some 32) (v := ?v0z12) rfl rfl (by kernel_rfl) (by kernel_rfl) (by kernel_rfl) (fun _ _ _ h => h) (Or.inl ⟨by rfl, ?y0z12⟩) (by assumption) ?r0z12
  case y0z12 =>
    intro w9 hSw
    obtain ⟨c0, c1, c2, c3, c4, c5, ff, lt1, lt2⟩ := hSw
    go_simp
    all_goals with_reducible rfl
  simp only [Act.put, List.setIfInBounds_toArray, List.set_cons_zero, List.set_cons_succ]
  refine wpAnyH_at (i := 1) (some 33) (v := ?v1z13) rfl rfl (by kernel_rfl) (by kernel_rfl) (by kernel_rfl) (fun _ _ _ h => h) (Or.inl ⟨by rfl, ?y1z13⟩) (by assumption) ?r1z13
  case y1z13 =>
    intro w9 hSw
    obtain ⟨c0, c1, c2, c3, c4, c5, ff, lt1, lt2⟩ := hSw
    go_simp
    all_goals with_reducible rfl
  simp only [Act.put, List.setIfInBounds_toArray, List.set_cons_zero, List.set_cons_succ]
  refine wpAnyH_at (i := 2) (some 34) (v := ?v2z14) rfl rfl (by kernel_rfl) (by kernel_rfl) (by kernel_rfl) (fun _ _ _ h => h) (Or.inl ⟨by rfl, ?y2z14⟩) (by assumption) ?r2z14
  case y2z14 =>
    intro w9 hSw
    obtain ⟨c0, c1, c2, c3, c4, c5, ff, lt1, lt2⟩ := hSw
    go_simp
    all_goals with_reducible rfl
  simp only [Act.put, List.setIfInBounds_toArray, List.set_cons_zero, List.set_cons_succ]
  refine wpAnyH_at (i := 3) (some 35) (v := ?v3z15) rfl rfl (by kernel_rfl) (by kernel_rfl) (by kernel_rfl) (fun _ _ _ h => h) (Or.inl ⟨by rfl, ?y3z15⟩) (by assumption) ?r3z15
  case y3z15 =>
    intro w9 hSw
    obtain ⟨c0, c1, c2, c3, c4, c5, ff, lt1, lt2⟩ := hSw
    go_simp
    all_goals with_reducible rfl
  simp only [Act.put, List.setIfInBounds_toArray, List.set_cons_zero, List.set_cons_succ]
  refine wpAnyH_at (i := 4) (some 36) (v := ?v4z16) rfl rfl (by kernel_rfl) (by kernel_rfl) (by kernel_rfl) (fun _ _ _ h => h) (Or.inl ⟨by rfl, ?y4z16⟩) (by assumption) ?r4z16
  case y4z16 =>
    intro w9 hSw
    obtain ⟨c0, c1, c2, c3, c4, c5, ff, lt1, lt2⟩ := hSw
    go_simp
    all_goals with_reducible rfl
  simp only [Act.put, List.setIfInBounds_toArray, List.set_cons_zero, List.set_cons_succ]
  refine wpAnyH_at (i := 5) (some 37) (v := ?v5z17) rfl rfl (by kernel_rfl) (by kernel_rfl) (by kernel_rfl) (fun _ _ _ h => h) (Or.inl ⟨by rfl, ?y5z17⟩) (by assumption) ?r5z17
  case y5z17 =>
    intro w9 hSw
    obtain ⟨c0, c1, c2, c3, c4, c5, ff, lt1, lt2⟩ := hSw
    go_simp
    all_goals with_reducible rfl
  simp only [Act.put, List.setIfInBounds_toArray, List.set_cons_zero, List.set_cons_succ]
  refine wpAnyH_at (i := 6) (some 38) (v := ?v6z18) rfl rfl (by kernel_rfl) (by kernel_rfl) (by kernel_rfl) (fun _ _ _ h => h) (Or.inl ⟨by rfl, ?y6z18⟩) (by assumption) ?r6z18
  case y6z18 =>
    intro w9 hSw
    obtain ⟨c0, c1, c2, c3, c4, c5, ff, lt1, lt2⟩ := hSw
    go_simp
    all_goals with_reducible rfl
  simp only [Act.put, List.setIfInBounds_toArray, List.set_cons_zero, List.set_cons_succ]
  refine wpAnyH_at (i := 7) (some 39) (v := ?v7z19) rfl rfl (by kernel_rfl) (by kernel_rfl) (by kernel_rfl) (fun _ _ _ h => h) (Or.inl ⟨by rfl, ?y7z19⟩) (by assumption) ?r7z19
  case y7z19 =>
    intro w9 hSw
    obtain ⟨c0, c1, c2, c3, c4, c5, ff, lt1, lt2⟩ := hSw
    go_simp
    all_goals with_reducible rfl
  simp only [Act.put, List.setIfInBounds_toArray, List.set_cons_zero, List.set_cons_succ]
  refine wpAnyH_at (i := 8) (some 40) (v := ?v8z20) rfl rfl (by kernel_rfl) (by kernel_rfl) (by kernel_rfl) (fun _ _ _ h => h) (Or.inl ⟨by rfl, ?y8z20⟩) (by assumption) ?r8z20
  case y8z20 =>
    intro w9 hSw
    obtain ⟨c0, c1, c2, c3, c4, c5, ff, lt1, lt2⟩ := hSw
    go_simp
    all_goals with_reducible rfl
  simp only [Act.put, List.setIfInBounds_toArray, List.set_cons_zero, List.set_cons_succ]
  refine wpAnyH_at (i := 10) (some 42) (v := ?v10z21) rfl rfl (by kernel_rfl) (by kernel_rfl) (by kernel_rfl) (fun _ _ _ h => h) (Or.inl ⟨by rfl, ?y10z21⟩) (by assumption) ?r10z21
  case y10z21 =>
    intro w9 hSw
    clear hSw
    go_simp
    all_goals with_reducible rfl
  simp only [Act.put, List.setIfInBounds_toArray, List.set_cons_zero, List.set_cons_succ]
  refine wpAnyH_one (i := 9) (by kernel_rfl) rfl ?_
  go_wp2_with fail
  refine (slot_any q p s f c n z n o d W0 hHeld hfl hz.2 (by omega)).mono ?_
  rintro ev w4 ⟨rfl, m4, rfl⟩
  have b4 : Below W0.heap.size W0 (W0.drewN m4) := below_drewN (Below.refl _ _) _
  replace hp2 := hp2.below b4
  replace hk3 := hk3.then b4
  replace ho2 := ho2.below b4 (Nat.le_refl _)
  have hS4 := hHeld.below b4
  clear hHeld b4
  generalize World.drewN W0 m4 = W4 at *
  go_wp2
  have hHeld := hS4
  refine ⟨hHeld, ?_⟩
  try simp only [Act.put, List.setIfInBounds_toArray, List.set_cons_zero, List.set_cons_succ]
  have hk := slotN_lt hfl (Nat.le_of_lt hf)
  have hst := ho2.at3 hk
  have hkS : Kept (· = s) W4 (W4.setCell ⟨s, slotN f n z, none⟩ (.int .i64 (b))) := Kept.setCell (S := (· = s)) W4 _ _ rfl
  have hS5 := hS4.kept hkS hne
  have G5 := Lib.hid (fun w5 e => G.out W4 w5 hp2 hk3 e)
  clear G hp2 hk3 ho2 hkS hS4
  generalize slotN f n z = kk at *
  obtain ⟨hst1, hst2⟩ := hst
  refine wpAnyH_at (i := 11) (some 43) (v := ?v11z22) rfl rfl (by kernel_rfl) (by kernel_rfl) (by kernel_rfl) (fun _ _ _ h => h) (Or.inl ⟨by rfl, ?y11z22⟩) (by assumption) ?r11z22
  case y11z22 =>
    intro w9 hSw
    clear hSw
    go_simp
    all_goals with_reducible rfl
  simp only [Act.put, List.setIfInBounds_toArray, List.set_cons_zero, List.set_cons_succ]
  refine wpAnyH_one (i := 12) (by kernel_rfl) rfl ?_
  go_wp2
  have hHeld := hS5
  refine ⟨hHeld, ?_⟩
  refine wpAnyH_done (by kernel_rfl) ?_ _
  obtain ⟨c0, c1, c2, c3, c4, c5, ff, lt1, lt2⟩ := hHeld
  clear hS5
  generalize World.setCell W4 ⟨s, kk, none⟩ (.int .i64 (b)) = W5 at *
  go_wp2
  go_ret
  exact G5.out _ rfl
end Go.Proofs.Ytjaiagocbldbgaa
