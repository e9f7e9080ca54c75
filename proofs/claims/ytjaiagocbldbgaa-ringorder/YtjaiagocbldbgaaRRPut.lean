/-
  Contracts of the document's ring: Put, Move.
-/
import Derived.Test.YtjaiagocbldbgaaRRing
namespace Go.Proofs.Ytjaiagocbldbgaa
open Go.RowKit
set_option linter.unusedVariables false

set_option maxRecDepth 100000 in
set_option maxHeartbeats 2000000 in
theorem rputX_full (q p b : Nat) (A0 : Option Addr) (n c z : Nat) (o : Int) (R : List Nat) (d : Nat) (A : Option Addr) (m cA B : Nat) (xs : List Int) (g cp : Nat) (L : Slots) (F : Nat → Prop) (w : World) (h : RrRow w q p b A0 n c z o R d) (hd : d ≤ 100000) (hr : Rd .u8 w B A m cA xs) (hB : B ≤ w.heap.size) (hF : ∀ b, w.heap.size ≤ b → F b) (hp : Rp w p g cp L F) (hL : 0 < L.length) (hf : ¬ R.length < z) : Calls Try.prog 34 #[ptr q, .slice A m cA] w (GivesRL w q p b g cp z o (ptL L R z o xs) (ptR L R z o m) (drp (ptE L R z o m) d) F (ptE L R z o m)) := by
  have hE : ptE L R z o m = 18 := by unfold ptE; rw [if_neg hf]
  have hLx : ptL L R z o xs = L := by unfold ptL; rw [if_neg hf]
  have hRx : ptR L R z o m = R := by unfold ptR; rw [hE]; rfl
  have G : Hid (∀ mm, GivesRL w q p b g cp z o (ptL L R z o xs) (ptR L R z o m) (drp (ptE L R z o m) d) F (ptE L R z o m) (.returned (.int .i64 18)) ((w.drewN mm).setCell ⟨q, 4, none⟩ (.int .i64 ((d : Int) + 1)))) := Lib.hid (by
    rw [hE, hLx, hRx]
    intro mm
    exact GivesRL.no h hp hL rfl (hp.below (dN w mm)) ((Kept.refl _ _).drewN mm) 18)
  obtain ⟨c0, c1, c2, c3, c4, ff, lt1⟩ := h.cells
  have hn : n = z := by have := h.le; have := h.len; omega
  have hz := h.size
  subst hn
  clear h hp hE hLx hRx hf hr hF
  go_enter Try.func34, Try.ntmps34
  go_wp2
  go_quiet (fail)
  go_wp2
  go_ret
  exact G.out _
set_option maxRecDepth 100000 in
set_option maxHeartbeats 2000000 in
theorem rputX_no (q p b : Nat) (A0 : Option Addr) (n c z : Nat) (o : Int) (R : List Nat) (d : Nat) (A : Option Addr) (m cA B : Nat) (xs : List Int) (g cp : Nat) (L : Slots) (F : Nat → Prop) (w : World) (h : RrRow w q p b A0 n c z o R d) (hd : d ≤ 100000) (hr : Rd .u8 w B A m cA xs) (hB : B ≤ w.heap.size) (hF : ∀ b, w.heap.size ≤ b → F b) (hp : Rp w p g cp L F) (hL : 0 < L.length) (hf : R.length < z) (hE : ¬ ptE L R z o m = 0) : Calls Try.prog 34 #[ptr q, .slice A m cA] w (GivesRL w q p b g cp z o (ptL L R z o xs) (ptR L R z o m) (drp (ptE L R z o m) d) F (ptE L R z o m)) := by
  have hRx : ptR L R z o m = R := by unfold ptR; rw [if_neg hE]
  have hE' : ptE L R z o m = tkE L o m := by unfold ptE; rw [if_pos hf]
  have hLx : ptL L R z o xs = tkL L o xs := by unfold ptL; rw [if_pos hf]
  rw [hE'] at hE
  have G : Hid (∀ w1, Rp w1 p g cp (tkL L o xs) F → Kept (· = g) w w1 → GivesRL w q p b g cp z o (ptL L R z o xs) (ptR L R z o m) (drp (ptE L R z o m) d) F (ptE L R z o m) (.returned (.int .i64 (tkE L o m))) (w1.setCell ⟨q, 4, none⟩ (.int .i64 ((d : Int) + 1)))) := Lib.hid (by
    rw [hE', hLx, hRx, drp_no hE]
    intro w1 hp1 hk1
    exact GivesRL.no h hp hL (tkL_len _ _ _) hp1 hk1 _)
  have hcz := h.cells
  have hqg := h.qg hp hL
  obtain ⟨c0, c1, c2, c3, c4, ff, lt1⟩ := h.cells
  have hz := h.size
  have hnz : n < z := by have := h.len; omega
  have hE2 : (tkE L o m == 0) = false := by simpa using hE
  clear hE' hLx hRx
  go_enter Try.func34, Try.ntmps34
  go_wp2
  go_quiet (fail)
  go_wp2
  refine wp_region_held_drew (S := fun w' => RrCells w' q p A0 n c z o d) (by kernel_rfl) ((hcz.below (dN w _)).below (below_drew _)) (fun hHeld => ?_)
  have bw : Below w.heap.size w (World.drew (w.drewN nq)) := (dN w nq).trans ((below_drew _).mono (dN w nq).size)
  have hp1 := hp.below bw
  have hrow := h.below bw
  have hr1 := hr.below bw hB
  have hB1 := Nat.le_trans hB bw.size
  have hF1 : ∀ j, (World.drew (w.drewN nq)).heap.size ≤ j → F j := fun j hj => hF j (Nat.le_trans bw.size hj)
  change wpAnyH _ _ _ _ _ _ _ _ (World.drew _)
  generalize World.drew (w.drewN nq) = W0 at *
  refine wpAnyH_at (i := 0) (some 18) (v := ?v0z1) rfl rfl (by kernel_rfl) (by kernel_rfl) (by kernel_rfl) (fun _ _ _ h => h) (Or.inl ⟨by rfl, ?y0z1⟩) (by assumption) ?r0z1
  case y0z1 =>
    intro w9 hSw
    obtain ⟨c0, c1, c2, c3, c4, ff, lt1⟩ := hSw
    go_simp
    all_goals with_reducible rfl
  simp only [Act.put, List.setIfInBounds_toArray, List.set_cons_zero, List.set_cons_succ]
  refine wpAnyH_at (i := 1) (some 19) (v := ?v1z2) rfl rfl (by kernel_rfl) (by kernel_rfl) (by kernel_rfl) (fun _ _ _ h => h) (Or.inl ⟨by rfl, ?y1z2⟩) (by assumption) ?r1z2
  case y1z2 =>
    intro w9 hSw
    obtain ⟨c0, c1, c2, c3, c4, ff, lt1⟩ := hSw
    go_simp
    all_goals with_reducible rfl
  simp only [Act.put, List.setIfInBounds_toArray, List.set_cons_zero, List.set_cons_succ]
  refine wpAnyH_at (i := 2) (some 20) (v := ?v2z3) rfl rfl (by kernel_rfl) (by kernel_rfl) (by kernel_rfl) (fun _ _ _ h => h) (Or.inl ⟨by rfl, ?y2z3⟩) (by assumption) ?r2z3
  case y2z3 =>
    intro w9 hSw
    obtain ⟨c0, c1, c2, c3, c4, ff, lt1⟩ := hSw
    go_simp
    all_goals with_reducible rfl
  simp only [Act.put, List.setIfInBounds_toArray, List.set_cons_zero, List.set_cons_succ]
  refine wpAnyH_at (i := 3) (some 21) (v := ?v3z4) rfl rfl (by kernel_rfl) (by kernel_rfl) (by kernel_rfl) (fun _ _ _ h => h) (Or.inl ⟨by rfl, ?y3z4⟩) (by assumption) ?r3z4
  case y3z4 =>
    intro w9 hSw
    obtain ⟨c0, c1, c2, c3, c4, ff, lt1⟩ := hSw
    go_simp
    all_goals with_reducible rfl
  simp only [Act.put, List.setIfInBounds_toArray, List.set_cons_zero, List.set_cons_succ]
  refine wpAnyH_at (i := 4) (some 22) (v := ?v4z5) rfl rfl (by kernel_rfl) (by kernel_rfl) (by kernel_rfl) (fun _ _ _ h => h) (Or.inl ⟨by rfl, ?y4z5⟩) (by assumption) ?r4z5
  case y4z5 =>
    intro w9 hSw
    obtain ⟨c0, c1, c2, c3, c4, ff, lt1⟩ := hSw
    go_simp
    all_goals with_reducible rfl
  simp only [Act.put, List.setIfInBounds_toArray, List.set_cons_zero, List.set_cons_succ]
  refine wpAnyH_at (i := 5) (some 23) (v := ?v5z6) rfl rfl (by kernel_rfl) (by kernel_rfl) (by kernel_rfl) (fun _ _ _ h => h) (Or.inl ⟨by rfl, ?y5z6⟩) (by assumption) ?r5z6
  case y5z6 =>
    intro w9 hSw
    obtain ⟨c0, c1, c2, c3, c4, ff, lt1⟩ := hSw
    go_simp
    all_goals with_reducible rfl
  simp only [Act.put, List.setIfInBounds_toArray, List.set_cons_zero, List.set_cons_succ]
  refine wpAnyH_at (i := 6) (some 24) (v := ?v6z7) rfl rfl (by kernel_rfl) (by kernel_rfl) (by kernel_rfl) (fun _ _ _ h => h) (Or.inl ⟨by rfl, ?y6z7⟩) (by assumption) ?r6z7
  case y6z7 =>
    intro w9 hSw
    obtain ⟨c0, c1, c2, c3, c4, ff, lt1⟩ := hSw
    go_simp
    all_goals with_reducible rfl
  simp only [Act.put, List.setIfInBounds_toArray, List.set_cons_zero, List.set_cons_succ]
  refine wpAnyH_at (i := 7) (some 25) (v := ?v7z8) rfl rfl (by kernel_rfl) (by kernel_rfl) (by kernel_rfl) (fun _ _ _ h => h) (Or.inl ⟨by rfl, ?y7z8⟩) (by assumption) ?r7z8
  case y7z8 =>
    intro w9 hSw
    obtain ⟨c0, c1, c2, c3, c4, ff, lt1⟩ := hSw
    go_simp
    all_goals with_reducible rfl
  simp only [Act.put, List.setIfInBounds_toArray, List.set_cons_zero, List.set_cons_succ]
  refine wpAnyH_at (i := 8) (some 26) (v := ?v8z9) rfl rfl (by kernel_rfl) (by kernel_rfl) (by kernel_rfl) (fun _ _ _ h => h) (Or.inl ⟨by rfl, ?y8z9⟩) (by assumption) ?r8z9
  case y8z9 =>
    intro w9 hSw
    obtain ⟨c0, c1, c2, c3, c4, ff, lt1⟩ := hSw
    go_simp
    all_goals with_reducible rfl
  simp only [Act.put, List.setIfInBounds_toArray, List.set_cons_zero, List.set_cons_succ]
  refine wpAnyH_one (i := 9) (by kernel_rfl) rfl ?_
  go_wp2_with fail
  refine (refTake_any p g cp L F o A m cA B xs W0 hp1 hr1 hB1 hF1).mono ?_
  rintro ev w2 ⟨rfl, hp2, hk2⟩
  have hk3 : Kept (· = g) w w2 := Kept.ahead bw hk2
  have hc2 := hHeld.kept hk2 hqg.1
  clear hHeld hk2 bw hp1 hrow hcz hr1 hF1
  go_wp2
  have hHeld := hc2
  refine ⟨hHeld, ?_⟩
  try simp only [Act.put, List.setIfInBounds_toArray, List.set_cons_zero, List.set_cons_succ]
  refine wpAnyH_at (i := 10) (some 17) (v := ?v10z10) rfl rfl (by kernel_rfl) (by kernel_rfl) (by kernel_rfl) (fun _ _ _ h => h) (Or.inl ⟨by rfl, ?y10z10⟩) (by assumption) ?r10z10
  case y10z10 =>
    intro w9 hSw
    clear hSw
    go_simp
    all_goals with_reducible rfl
  simp only [Act.put, List.setIfInBounds_toArray, List.set_cons_zero, List.set_cons_succ]
  refine wpAnyH_at (i := 11) (some 28) (v := ?v11z11) rfl rfl (by kernel_rfl) (by kernel_rfl) (by kernel_rfl) (fun _ _ _ h => h) (Or.inl ⟨by rfl, ?y11z11⟩) (by assumption) ?r11z11
  case y11z11 =>
    intro w9 hSw
    clear hSw
    go_simp
    all_goals with_reducible rfl
  simp only [Act.put, List.setIfInBounds_toArray, List.set_cons_zero, List.set_cons_succ]
  refine wpAnyH_at (i := 12) (some 29) (v := ?v12z12) rfl rfl (by kernel_rfl) (by kernel_rfl) (by kernel_rfl) (fun _ _ _ h => h) (Or.inl ⟨by rfl, ?y12z12⟩) (by assumption) ?r12z12
  case y12z12 =>
    intro w9 hSw
    clear hSw
    go_simp
    all_goals with_reducible rfl
  simp only [Act.put, List.setIfInBounds_toArray, List.set_cons_zero, List.set_cons_succ]
  refine wpAnyH_at (i := 13) (some 6) (v := ?v13z13) rfl rfl (by kernel_rfl) (by kernel_rfl) (by kernel_rfl) (fun _ _ _ h => h) (Or.inl ⟨by rfl, ?y13z13⟩) (by assumption) ?r13z13
  case y13z13 =>
    intro w9 hSw
    clear hSw
    go_simp
    all_goals with_reducible rfl
  simp only [Act.put, List.setIfInBounds_toArray, List.set_cons_zero, List.set_cons_succ]
  refine wpAnyH_at (i := 14) (some 5) (v := ?v14z14) rfl rfl (by kernel_rfl) (by kernel_rfl) (by kernel_rfl) (fun _ _ _ h => h) (Or.inl ⟨by rfl, ?y14z14⟩) (by assumption) ?r14z14
  case y14z14 =>
    intro w9 hSw
    clear hSw
    go_simp
    all_goals with_reducible rfl
  simp only [Act.put, List.setIfInBounds_toArray, List.set_cons_zero, List.set_cons_succ]
  refine wpAnyH_done (by kernel_rfl) ?_ _
  obtain ⟨c0, c1, c2, c3, c4, ff, lt1⟩ := hHeld
  have G9 := Lib.hid (G.out w2 hp2 hk3)
  clear G hp2 hk3 hc2 h hp hr hF
  generalize tkE L o m = E at *
  go_wp2
  go_ret
  exact G9.out
set_option maxRecDepth 100000 in
set_option maxHeartbeats 2000000 in
theorem rputX_yes (q p b : Nat) (A0 : Option Addr) (n c z : Nat) (o : Int) (R : List Nat) (d : Nat) (A : Option Addr) (m cA B : Nat) (xs : List Int) (g cp : Nat) (L : Slots) (F : Nat → Prop) (w : World) (h : RrRow w q p b A0 n c z o R d) (hd : d ≤ 100000) (hr : Rd .u8 w B A m cA xs) (hB : B ≤ w.heap.size) (hF : ∀ b, w.heap.size ≤ b → F b) (hp : Rp w p g cp L F) (hL : 0 < L.length) (hf : R.length < z) (hE : ptE L R z o m = 0) : Calls Try.prog 34 #[ptr q, .slice A m cA] w (GivesRL w q p b g cp z o (ptL L R z o xs) (ptR L R z o m) (drp (ptE L R z o m) d) F (ptE L R z o m)) := by
  have hE' : ptE L R z o m = tkE L o m := by unfold ptE; rw [if_pos hf]
  have hLx : ptL L R z o xs = tkL L o xs := by unfold ptL; rw [if_pos hf]
  have hRx : ptR L R z o m = R ++ [free1 L] := by unfold ptR; rw [if_pos hE]
  have hE0 := hE
  rw [hE'] at hE
  obtain ⟨x, hx, hxl⟩ : ∃ x : Nat, free1 L = x ∧ x < L.length := ⟨_, rfl, (tkE_of hE).2.2⟩
  have hxv : tkN L o m = (x : Int) := by rw [tkN_yes hE, hx]
  have hxm : x ≤ 100000 := by have := hp.len; omega
  have hxw : Hid ((x : Int) = (x : Int)) := Lib.hid rfl
  have G : Hid (∀ w1 w2 A' n' c', Rp w1 p g cp (tkL L o xs) F → Kept (· = g) w w1 → Kept (IntB w1 b) w1 w2 → Out .i64 3 w2 b A' n' c' (ints (R ++ [x])) → GivesRL w q p b g cp z o (ptL L R z o xs) (ptR L R z o m) (drp (ptE L R z o m) d) F (ptE L R z o m) (.returned (.int .i64 0)) (w2.setCell ⟨q, 3, none⟩ (.slice A' n' c'))) := Lib.hid (by
    rw [hE0, hLx, hRx, drp_ok, hx]
    intro w1 w2 A' n' c' hp1 hk1 hk2 ho
    exact GivesRL.yes h hp hL (tkL_len _ _ _) hp1 hk1 hk2 ho (by simp; omega))
  have hcz := h.cells
  have hqg := h.qg hp hL
  have hle := h.lt.2
  obtain ⟨c0, c1, c2, c3, c4, ff, lt1⟩ := h.cells
  have hz := h.size
  have hnz : n < z := by have := h.len; omega
  clear hE' hLx hRx hE0
  go_enter Try.func34, Try.ntmps34
  go_wp2
  go_quiet (fail)
  go_wp2
  refine wp_region_held_drew (S := fun w' => RrCells w' q p A0 n c z o d) (by kernel_rfl) ((hcz.below (dN w _)).below (below_drew _)) (fun hHeld => ?_)
  have bw : Below w.heap.size w (World.drew (w.drewN nq)) := (dN w nq).trans ((below_drew _).mono (dN w nq).size)
  have hp1 := hp.below bw
  have hrow := h.below bw
  have hr1 := hr.below bw hB
  have hB1 := Nat.le_trans hB bw.size
  have hF1 : ∀ j, (World.drew (w.drewN nq)).heap.size ≤ j → F j := fun j hj => hF j (Nat.le_trans bw.size hj)
  change wpAnyH _ _ _ _ _ _ _ _ (World.drew _)
  generalize World.drew (w.drewN nq) = W0 at *
  refine wpAnyH_at (i := 0) (some 18) (v := ?v0z1) rfl rfl (by kernel_rfl) (by kernel_rfl) (by kernel_rfl) (fun _ _ _ h => h) (Or.inl ⟨by rfl, ?y0z1⟩) (by assumption) ?r0z1
  case y0z1 =>
    intro w9 hSw
    obtain ⟨c0, c1, c2, c3, c4, ff, lt1⟩ := hSw
    go_simp
    all_goals with_reducible rfl
  simp only [Act.put, List.setIfInBounds_toArray, List.set_cons_zero, List.set_cons_succ]
  refine wpAnyH_at (i := 1) (some 19) (v := ?v1z2) rfl rfl (by kernel_rfl) (by kernel_rfl) (by kernel_rfl) (fun _ _ _ h => h) (Or.inl ⟨by rfl, ?y1z2⟩) (by assumption) ?r1z2
  case y1z2 =>
    intro w9 hSw
    obtain ⟨c0, c1, c2, c3, c4, ff, lt1⟩ := hSw
    go_simp
    all_goals with_reducible rfl
  simp only [Act.put, List.setIfInBounds_toArray, List.set_cons_zero, List.set_cons_succ]
  refine wpAnyH_at (i := 2) (some 20) (v := ?v2z3) rfl rfl (by kernel_rfl) (by kernel_rfl) (by kernel_rfl) (fun _ _ _ h => h) (Or.inl ⟨by rfl, ?y2z3⟩) (by assumption) ?r2z3
  case y2z3 =>
    intro w9 hSw
    obtain ⟨c0, c1, c2, c3, c4, ff, lt1⟩ := hSw
    go_simp
    all_goals with_reducible rfl
  simp only [Act.put, List.setIfInBounds_toArray, List.set_cons_zero, List.set_cons_succ]
  refine wpAnyH_at (i := 3) (some 21) (v := ?v3z4) rfl rfl (by kernel_rfl) (by kernel_rfl) (by kernel_rfl) (fun _ _ _ h => h) (Or.inl ⟨by rfl, ?y3z4⟩) (by assumption) ?r3z4
  case y3z4 =>
    intro w9 hSw
    obtain ⟨c0, c1, c2, c3, c4, ff, lt1⟩ := hSw
    go_simp
    all_goals with_reducible rfl
  simp only [Act.put, List.setIfInBounds_toArray, List.set_cons_zero, List.set_cons_succ]
  refine wpAnyH_at (i := 4) (some 22) (v := ?v4z5) rfl rfl (by kernel_rfl) (by kernel_rfl) (by kernel_rfl) (fun _ _ _ h => h) (Or.inl ⟨by rfl, ?y4z5⟩) (by assumption) ?r4z5
  case y4z5 =>
    intro w9 hSw
    obtain ⟨c0, c1, c2, c3, c4, ff, lt1⟩ := hSw
    go_simp
    all_goals with_reducible rfl
  simp only [Act.put, List.setIfInBounds_toArray, List.set_cons_zero, List.set_cons_succ]
  refine wpAnyH_at (i := 5) (some 23) (v := ?v5z6) rfl rfl (by kernel_rfl) (by kernel_rfl) (by kernel_rfl) (fun _ _ _ h => h) (Or.inl ⟨by rfl, ?y5z6⟩) (by assumption) ?r5z6
  case y5z6 =>
    intro w9 hSw
    obtain ⟨c0, c1, c2, c3, c4, ff, lt1⟩ := hSw
    go_simp
    all_goals with_reducible rfl
  simp only [Act.put, List.setIfInBounds_toArray, List.set_cons_zero, List.set_cons_succ]
  refine wpAnyH_at (i := 6) (some 24) (v := ?v6z7) rfl rfl (by kernel_rfl) (by kernel_rfl) (by kernel_rfl) (fun _ _ _ h => h) (Or.inl ⟨by rfl, ?y6z7⟩) (by assumption) ?r6z7
  case y6z7 =>
    intro w9 hSw
    obtain ⟨c0, c1, c2, c3, c4, ff, lt1⟩ := hSw
    go_simp
    all_goals with_reducible rfl
  simp only [Act.put, List.setIfInBounds_toArray, List.set_cons_zero, List.set_cons_succ]
  refine wpAnyH_at (i := 7) (some 25) (v := ?v7z8) rfl rfl (by kernel_rfl) (by kernel_rfl) (by kernel_rfl) (fun _ _ _ h => h) (Or.inl ⟨by rfl, ?y7z8⟩) (by assumption) ?r7z8
  case y7z8 =>
    intro w9 hSw
    obtain ⟨c0, c1, c2, c3, c4, ff, lt1⟩ := hSw
    go_simp
    all_goals with_reducible rfl
  simp only [Act.put, List.setIfInBounds_toArray, List.set_cons_zero, List.set_cons_succ]
  refine wpAnyH_at (i := 8) (some 26) (v := ?v8z9) rfl rfl (by kernel_rfl) (by kernel_rfl) (by kernel_rfl) (fun _ _ _ h => h) (Or.inl ⟨by rfl, ?y8z9⟩) (by assumption) ?r8z9
  case y8z9 =>
    intro w9 hSw
    obtain ⟨c0, c1, c2, c3, c4, ff, lt1⟩ := hSw
    go_simp
    all_goals with_reducible rfl
  simp only [Act.put, List.setIfInBounds_toArray, List.set_cons_zero, List.set_cons_succ]
  refine wpAnyH_one (i := 9) (by kernel_rfl) rfl ?_
  go_wp2_with fail
  refine (refTake_any p g cp L F o A m cA B xs W0 hp1 hr1 hB1 hF1).mono ?_
  rintro ev w2 ⟨rfl, hp2, hk2⟩
  have hk3 : Kept (· = g) w w2 := Kept.ahead bw hk2
  have hc2 := hHeld.kept hk2 hqg.1
  rw [hxv, hE]
  have hr2 := hrow.kept hk2 hqg.1 (fun k e => by rw [e]; exact fun ⟨u, cur, v⟩ => hqg.2 (IntB.back (S := fun _ => False) (Kept.of_below bw) ⟨u, cur, v⟩ hp.lt.2 (fun h => h)))
  clear hHeld hk2 bw hp1 hrow hcz hr1 hF1
  go_wp2
  have hHeld := hc2
  refine ⟨hHeld, ?_⟩
  try simp only [Act.put, List.setIfInBounds_toArray, List.set_cons_zero, List.set_cons_succ]
  refine wpAnyH_at (i := 10) (some 17) (v := ?v10z10) rfl rfl (by kernel_rfl) (by kernel_rfl) (by kernel_rfl) (fun _ _ _ h => h) (Or.inl ⟨by rfl, ?y10z10⟩) (by assumption) ?r10z10
  case y10z10 =>
    intro w9 hSw
    clear hSw
    go_simp
    all_goals with_reducible rfl
  simp only [Act.put, List.setIfInBounds_toArray, List.set_cons_zero, List.set_cons_succ]
  refine wpAnyH_at (i := 11) (some 28) (v := ?v11z11) rfl rfl (by kernel_rfl) (by kernel_rfl) (by kernel_rfl) (fun _ _ _ h => h) (Or.inl ⟨by rfl, ?y11z11⟩) (by assumption) ?r11z11
  case y11z11 =>
    intro w9 hSw
    clear hSw
    go_simp
    all_goals with_reducible rfl
  simp only [Act.put, List.setIfInBounds_toArray, List.set_cons_zero, List.set_cons_succ]
  refine wpAnyH_at (i := 12) (some 29) (v := ?v12z12) rfl rfl (by kernel_rfl) (by kernel_rfl) (by kernel_rfl) (fun _ _ _ h => h) (Or.inl ⟨by rfl, ?y12z12⟩) (by assumption) ?r12z12
  case y12z12 =>
    intro w9 hSw
    clear hSw
    go_simp
    all_goals with_reducible rfl
  simp only [Act.put, List.setIfInBounds_toArray, List.set_cons_zero, List.set_cons_succ]
  refine wpAnyH_at (i := 13) (some 6) (v := ?v13z13) rfl rfl (by kernel_rfl) (by kernel_rfl) (by kernel_rfl) (fun _ _ _ h => h) (Or.inl ⟨by rfl, ?y13z13⟩) (by assumption) ?r13z13
  case y13z13 =>
    intro w9 hSw
    clear hSw
    go_simp
    all_goals with_reducible rfl
  simp only [Act.put, List.setIfInBounds_toArray, List.set_cons_zero, List.set_cons_succ]
  refine wpAnyH_at (i := 14) (some 5) (v := ?v14z14) rfl rfl (by kernel_rfl) (by kernel_rfl) (by kernel_rfl) (fun _ _ _ h => h) (Or.inl ⟨by rfl, ?y14z14⟩) (by assumption) ?r14z14
  case y14z14 =>
    intro w9 hSw
    clear hSw
    go_simp
    all_goals with_reducible rfl
  simp only [Act.put, List.setIfInBounds_toArray, List.set_cons_zero, List.set_cons_succ]
  refine wpAnyH_done (by kernel_rfl) ?_ _
  clear hHeld
  have ho2 := hr2.out
  have ba := alloc_below w2 (.cells #[.int .i64 ((x : Int))] 3)
  have ho3 := ho2.below ba (Nat.le_refl _)
  have rl : Rd .i64 (w2.alloc (.cells #[.int .i64 ((x : Int))] 3)) (w2.heap.size + 1) (some ⟨w2.heap.size, 0, none⟩) 1 1 [(x : Int)] := rd_lit .i64 3 w2 [(x : Int)] 1 rfl (by omega) (by intro y hy; simp at hy; subst hy; exact i64_small (by have := hxw.out; omega))
  have hb2 : b ≤ w2.heap.size := Nat.le_trans hle hk3.size
  obtain ⟨c0, c1, c2, c3, c4, ff, lt1⟩ := hc2
  have hr2' := hr2
  clear hE hr2 ho2 h hp hf
  go_wp2_with (at_builtin; refine wpList_app rfl (.tmp 44) (.tmp 46) 57 rfl b Try.underlying57 info3 (by omega) A0 n c _ rfl ho3 (some ⟨w2.heap.size, 0, none⟩) 1 1 (w2.heap.size + 1) [(x : Int)] rfl rl (by omega) (by simp; omega) ?_)
  intro A' n' c' w5 o5 hg5
  have k5 := Kept.intB2 (hr2'.out) ba hg5
  have e5 : ints R ++ [(x : Int)] = ints (R ++ [x]) := by simp [ints]
  rw [e5] at o5
  have G9 := Lib.hid (G.out w2 w5 A' n' c' hp2 hk3 k5 o5)
  have K5 := k5
  have hnq : ¬ IntB w2 b q := fun ⟨_, cur, hc⟩ => blk_ne hc hr2'.blk (by decide) rfl
  have hcq : RrCells w2 q p A0 n c z o d := ⟨c0, c1, c2, c3, c4, ff, lt1⟩
  obtain ⟨c0', c1', c2', c3', c4', ff', lt1'⟩ := hcq.kept K5 hnq
  clear G hp2 hk3 k5 o5 K5 hr2' ho3 rl ba hg5 c0 c1 c2 c3 c4 ff hcq
  go_wp2
  go_ret
  exact G9.out
set_option maxRecDepth 100000 in
set_option maxHeartbeats 2000000 in
theorem rmvX_full (q p b : Nat) (A0 : Option Addr) (n c z : Nat) (o : Int) (R : List Nat) (d : Nat) (bu fr : Int) (g cp : Nat) (L : Slots) (F : Nat → Prop) (w : World) (h : RrRow w q p b A0 n c z o R d) (hd : d ≤ 100000)  (hp : Rp w p g cp L F) (hL : 0 < L.length) (hf : ¬ R.length < z) : Calls Try.prog 36 #[ptr q, .int .i64 bu, .int .i64 fr] w (GivesRL w q p b g cp z o (mvL L R z o bu fr) (mvR L R z o bu fr) (drp (mvE L R z o bu fr) d) F (mvE L R z o bu fr)) := by
  have hE : mvE L R z o bu fr = 18 := by unfold mvE; rw [if_neg hf]
  have hLx : mvL L R z o bu fr = L := by unfold mvL; rw [if_neg hf]
  have hRx : mvR L R z o bu fr = R := by unfold mvR; rw [hE]; rfl
  have G : Hid (∀ mm, GivesRL w q p b g cp z o (mvL L R z o bu fr) (mvR L R z o bu fr) (drp (mvE L R z o bu fr) d) F (mvE L R z o bu fr) (.returned (.int .i64 18)) ((w.drewN mm).setCell ⟨q, 4, none⟩ (.int .i64 ((d : Int) + 1)))) := Lib.hid (by
    rw [hE, hLx, hRx]
    intro mm
    exact GivesRL.no h hp hL rfl (hp.below (dN w mm)) ((Kept.refl _ _).drewN mm) 18)
  obtain ⟨c0, c1, c2, c3, c4, ff, lt1⟩ := h.cells
  have hn : n = z := by have := h.le; have := h.len; omega
  have hz := h.size
  subst hn
  clear h hp hE hLx hRx hf
  go_enter Try.func36, Try.ntmps36
  go_wp2
  go_quiet (fail)
  go_wp2
  go_ret
  exact G.out _
set_option maxRecDepth 100000 in
set_option maxHeartbeats 2000000 in
theorem rmvX_no (q p b : Nat) (A0 : Option Addr) (n c z : Nat) (o : Int) (R : List Nat) (d : Nat) (bu fr : Int) (g cp : Nat) (L : Slots) (F : Nat → Prop) (w : World) (h : RrRow w q p b A0 n c z o R d) (hd : d ≤ 100000)  (hp : Rp w p g cp L F) (hL : 0 < L.length) (hf : R.length < z) (hE : ¬ mvE L R z o bu fr = 0) : Calls Try.prog 36 #[ptr q, .int .i64 bu, .int .i64 fr] w (GivesRL w q p b g cp z o (mvL L R z o bu fr) (mvR L R z o bu fr) (drp (mvE L R z o bu fr) d) F (mvE L R z o bu fr)) := by
  have hRx : mvR L R z o bu fr = R := by unfold mvR; rw [if_neg hE]
  have hE' : mvE L R z o bu fr = hdE L bu fr o := by unfold mvE; rw [if_pos hf]
  have hLx : mvL L R z o bu fr = hdL L bu fr o := by unfold mvL; rw [if_pos hf]
  rw [hE'] at hE
  have G : Hid (∀ w1, Rp w1 p g cp (hdL L bu fr o) F → Kept (· = g) w w1 → GivesRL w q p b g cp z o (mvL L R z o bu fr) (mvR L R z o bu fr) (drp (mvE L R z o bu fr) d) F (mvE L R z o bu fr) (.returned (.int .i64 (hdE L bu fr o))) (w1.setCell ⟨q, 4, none⟩ (.int .i64 ((d : Int) + 1)))) := Lib.hid (by
    rw [hE', hLx, hRx, drp_no hE]
    intro w1 hp1 hk1
    exact GivesRL.no h hp hL (hdL_len _ _ _ _) hp1 hk1 _)
  have hcz := h.cells
  have hqg := h.qg hp hL
  obtain ⟨c0, c1, c2, c3, c4, ff, lt1⟩ := h.cells
  have hz := h.size
  have hnz : n < z := by have := h.len; omega
  have hE2 : (hdE L bu fr o == 0) = false := by simpa using hE
  clear hE' hLx hRx
  go_enter Try.func36, Try.ntmps36
  go_wp2
  go_quiet (fail)
  go_wp2
  refine wp_region_held_drew (S := fun w' => RrCells w' q p A0 n c z o d) (by kernel_rfl) ((hcz.below (dN w _)).below (below_drew _)) (fun hHeld => ?_)
  have bw : Below w.heap.size w (World.drew (w.drewN nq)) := (dN w nq).trans ((below_drew _).mono (dN w nq).size)
  have hp1 := hp.below bw
  have hrow := h.below bw

  change wpAnyH _ _ _ _ _ _ _ _ (World.drew _)
  generalize World.drew (w.drewN nq) = W0 at *
  refine wpAnyH_at (i := 0) (some 18) (v := ?v0z15) rfl rfl (by kernel_rfl) (by kernel_rfl) (by kernel_rfl) (fun _ _ _ h => h) (Or.inl ⟨by rfl, ?y0z15⟩) (by assumption) ?r0z15
  case y0z15 =>
    intro w9 hSw
    obtain ⟨c0, c1, c2, c3, c4, ff, lt1⟩ := hSw
    go_simp
    all_goals with_reducible rfl
  simp only [Act.put, List.setIfInBounds_toArray, List.set_cons_zero, List.set_cons_succ]
  refine wpAnyH_at (i := 1) (some 19) (v := ?v1z16) rfl rfl (by kernel_rfl) (by kernel_rfl) (by kernel_rfl) (fun _ _ _ h => h) (Or.inl ⟨by rfl, ?y1z16⟩) (by assumption) ?r1z16
  case y1z16 =>
    intro w9 hSw
    obtain ⟨c0, c1, c2, c3, c4, ff, lt1⟩ := hSw
    go_simp
    all_goals with_reducible rfl
  simp only [Act.put, List.setIfInBounds_toArray, List.set_cons_zero, List.set_cons_succ]
  refine wpAnyH_at (i := 2) (some 20) (v := ?v2z17) rfl rfl (by kernel_rfl) (by kernel_rfl) (by kernel_rfl) (fun _ _ _ h => h) (Or.inl ⟨by rfl, ?y2z17⟩) (by assumption) ?r2z17
  case y2z17 =>
    intro w9 hSw
    obtain ⟨c0, c1, c2, c3, c4, ff, lt1⟩ := hSw
    go_simp
    all_goals with_reducible rfl
  simp only [Act.put, List.setIfInBounds_toArray, List.set_cons_zero, List.set_cons_succ]
  refine wpAnyH_at (i := 3) (some 21) (v := ?v3z18) rfl rfl (by kernel_rfl) (by kernel_rfl) (by kernel_rfl) (fun _ _ _ h => h) (Or.inl ⟨by rfl, ?y3z18⟩) (by assumption) ?r3z18
  case y3z18 =>
    intro w9 hSw
    obtain ⟨c0, c1, c2, c3, c4, ff, lt1⟩ := hSw
    go_simp
    all_goals with_reducible rfl
  simp only [Act.put, List.setIfInBounds_toArray, List.set_cons_zero, List.set_cons_succ]
  refine wpAnyH_at (i := 4) (some 22) (v := ?v4z19) rfl rfl (by kernel_rfl) (by kernel_rfl) (by kernel_rfl) (fun _ _ _ h => h) (Or.inl ⟨by rfl, ?y4z19⟩) (by assumption) ?r4z19
  case y4z19 =>
    intro w9 hSw
    obtain ⟨c0, c1, c2, c3, c4, ff, lt1⟩ := hSw
    go_simp
    all_goals with_reducible rfl
  simp only [Act.put, List.setIfInBounds_toArray, List.set_cons_zero, List.set_cons_succ]
  refine wpAnyH_at (i := 5) (some 23) (v := ?v5z20) rfl rfl (by kernel_rfl) (by kernel_rfl) (by kernel_rfl) (fun _ _ _ h => h) (Or.inl ⟨by rfl, ?y5z20⟩) (by assumption) ?r5z20
  case y5z20 =>
    intro w9 hSw
    obtain ⟨c0, c1, c2, c3, c4, ff, lt1⟩ := hSw
    go_simp
    all_goals with_reducible rfl
  simp only [Act.put, List.setIfInBounds_toArray, List.set_cons_zero, List.set_cons_succ]
  refine wpAnyH_at (i := 6) (some 24) (v := ?v6z21) rfl rfl (by kernel_rfl) (by kernel_rfl) (by kernel_rfl) (fun _ _ _ h => h) (Or.inl ⟨by rfl, ?y6z21⟩) (by assumption) ?r6z21
  case y6z21 =>
    intro w9 hSw
    obtain ⟨c0, c1, c2, c3, c4, ff, lt1⟩ := hSw
    go_simp
    all_goals with_reducible rfl
  simp only [Act.put, List.setIfInBounds_toArray, List.set_cons_zero, List.set_cons_succ]
  refine wpAnyH_at (i := 7) (some 25) (v := ?v7z22) rfl rfl (by kernel_rfl) (by kernel_rfl) (by kernel_rfl) (fun _ _ _ h => h) (Or.inl ⟨by rfl, ?y7z22⟩) (by assumption) ?r7z22
  case y7z22 =>
    intro w9 hSw
    obtain ⟨c0, c1, c2, c3, c4, ff, lt1⟩ := hSw
    go_simp
    all_goals with_reducible rfl
  simp only [Act.put, List.setIfInBounds_toArray, List.set_cons_zero, List.set_cons_succ]
  refine wpAnyH_at (i := 8) (some 26) (v := ?v8z23) rfl rfl (by kernel_rfl) (by kernel_rfl) (by kernel_rfl) (fun _ _ _ h => h) (Or.inl ⟨by rfl, ?y8z23⟩) (by assumption) ?r8z23
  case y8z23 =>
    intro w9 hSw
    obtain ⟨c0, c1, c2, c3, c4, ff, lt1⟩ := hSw
    go_simp
    all_goals with_reducible rfl
  simp only [Act.put, List.setIfInBounds_toArray, List.set_cons_zero, List.set_cons_succ]
  refine wpAnyH_at (i := 9) (some 27) (v := ?v9z24) rfl rfl (by kernel_rfl) (by kernel_rfl) (by kernel_rfl) (fun _ _ _ h => h) (Or.inl ⟨by rfl, ?y9z24⟩) (by assumption) ?r9z24
  case y9z24 =>
    intro w9 hSw
    obtain ⟨c0, c1, c2, c3, c4, ff, lt1⟩ := hSw
    go_simp
    all_goals with_reducible rfl
  simp only [Act.put, List.setIfInBounds_toArray, List.set_cons_zero, List.set_cons_succ]
  refine wpAnyH_one (i := 10) (by kernel_rfl) rfl ?_
  go_wp2_with fail
  refine (refHand_any p g cp L F bu fr o W0 hp1).mono ?_
  rintro ev w2 ⟨rfl, hp2, hk2⟩
  have hk3 : Kept (· = g) w w2 := Kept.ahead bw hk2
  have hc2 := hHeld.kept hk2 hqg.1
  clear hHeld hk2 bw hp1 hrow hcz
  go_wp2
  have hHeld := hc2
  refine ⟨hHeld, ?_⟩
  try simp only [Act.put, List.setIfInBounds_toArray, List.set_cons_zero, List.set_cons_succ]
  refine wpAnyH_at (i := 11) (some 7) (v := ?v11z25) rfl rfl (by kernel_rfl) (by kernel_rfl) (by kernel_rfl) (fun _ _ _ h => h) (Or.inl ⟨by rfl, ?y11z25⟩) (by assumption) ?r11z25
  case y11z25 =>
    intro w9 hSw
    clear hSw
    go_simp
    all_goals with_reducible rfl
  simp only [Act.put, List.setIfInBounds_toArray, List.set_cons_zero, List.set_cons_succ]
  refine wpAnyH_done (by kernel_rfl) ?_ _
  obtain ⟨c0, c1, c2, c3, c4, ff, lt1⟩ := hHeld
  have G9 := Lib.hid (G.out w2 hp2 hk3)
  clear G hp2 hk3 hc2 h hp
  generalize hdE L bu fr o = E at *
  go_wp2
  go_ret
  exact G9.out
set_option maxRecDepth 100000 in
set_option maxHeartbeats 2000000 in
theorem rmvX_yes (q p b : Nat) (A0 : Option Addr) (n c z : Nat) (o : Int) (R : List Nat) (d : Nat) (bu fr : Int) (g cp : Nat) (L : Slots) (F : Nat → Prop) (w : World) (h : RrRow w q p b A0 n c z o R d) (hd : d ≤ 100000)  (hp : Rp w p g cp L F) (hL : 0 < L.length) (hf : R.length < z) (hE : mvE L R z o bu fr = 0) : Calls Try.prog 36 #[ptr q, .int .i64 bu, .int .i64 fr] w (GivesRL w q p b g cp z o (mvL L R z o bu fr) (mvR L R z o bu fr) (drp (mvE L R z o bu fr) d) F (mvE L R z o bu fr)) := by
  have hE' : mvE L R z o bu fr = hdE L bu fr o := by unfold mvE; rw [if_pos hf]
  have hLx : mvL L R z o bu fr = hdL L bu fr o := by unfold mvL; rw [if_pos hf]
  have hRx : mvR L R z o bu fr = R ++ [bu.toNat] := by unfold mvR; rw [if_pos hE]
  have hE0 := hE
  rw [hE'] at hE
  obtain ⟨x, hx, hxl⟩ : ∃ x : Nat, bu.toNat = x ∧ x < L.length := ⟨_, rfl, hdE_lt hE⟩
  have hxv : bu = (x : Int) := by have := hdE_nn hE; omega
  have hxm : x ≤ 100000 := by have := hp.len; omega
  have hxw : Hid (bu = (x : Int)) := Lib.hid hxv
  have G : Hid (∀ w1 w2 A' n' c', Rp w1 p g cp (hdL L bu fr o) F → Kept (· = g) w w1 → Kept (IntB w1 b) w1 w2 → Out .i64 3 w2 b A' n' c' (ints (R ++ [x])) → GivesRL w q p b g cp z o (mvL L R z o bu fr) (mvR L R z o bu fr) (drp (mvE L R z o bu fr) d) F (mvE L R z o bu fr) (.returned (.int .i64 0)) (w2.setCell ⟨q, 3, none⟩ (.slice A' n' c'))) := Lib.hid (by
    rw [hE0, hLx, hRx, drp_ok, hx]
    intro w1 w2 A' n' c' hp1 hk1 hk2 ho
    exact GivesRL.yes h hp hL (hdL_len _ _ _ _) hp1 hk1 hk2 ho (by simp; omega))
  have hcz := h.cells
  have hqg := h.qg hp hL
  have hle := h.lt.2
  obtain ⟨c0, c1, c2, c3, c4, ff, lt1⟩ := h.cells
  have hz := h.size
  have hnz : n < z := by have := h.len; omega
  clear hE' hLx hRx hE0 hxv
  go_enter Try.func36, Try.ntmps36
  go_wp2
  go_quiet (fail)
  go_wp2
  refine wp_region_held_drew (S := fun w' => RrCells w' q p A0 n c z o d) (by kernel_rfl) ((hcz.below (dN w _)).below (below_drew _)) (fun hHeld => ?_)
  have bw : Below w.heap.size w (World.drew (w.drewN nq)) := (dN w nq).trans ((below_drew _).mono (dN w nq).size)
  have hp1 := hp.below bw
  have hrow := h.below bw

  change wpAnyH _ _ _ _ _ _ _ _ (World.drew _)
  generalize World.drew (w.drewN nq) = W0 at *
  refine wpAnyH_at (i := 0) (some 18) (v := ?v0z15) rfl rfl (by kernel_rfl) (by kernel_rfl) (by kernel_rfl) (fun _ _ _ h => h) (Or.inl ⟨by rfl, ?y0z15⟩) (by assumption) ?r0z15
  case y0z15 =>
    intro w9 hSw
    obtain ⟨c0, c1, c2, c3, c4, ff, lt1⟩ := hSw
    go_simp
    all_goals with_reducible rfl
  simp only [Act.put, List.setIfInBounds_toArray, List.set_cons_zero, List.set_cons_succ]
  refine wpAnyH_at (i := 1) (some 19) (v := ?v1z16) rfl rfl (by kernel_rfl) (by kernel_rfl) (by kernel_rfl) (fun _ _ _ h => h) (Or.inl ⟨by rfl, ?y1z16⟩) (by assumption) ?r1z16
  case y1z16 =>
    intro w9 hSw
    obtain ⟨c0, c1, c2, c3, c4, ff, lt1⟩ := hSw
    go_simp
    all_goals with_reducible rfl
  simp only [Act.put, List.setIfInBounds_toArray, List.set_cons_zero, List.set_cons_succ]
  refine wpAnyH_at (i := 2) (some 20) (v := ?v2z17) rfl rfl (by kernel_rfl) (by kernel_rfl) (by kernel_rfl) (fun _ _ _ h => h) (Or.inl ⟨by rfl, ?y2z17⟩) (by assumption) ?r2z17
  case y2z17 =>
    intro w9 hSw
    obtain ⟨c0, c1, c2, c3, c4, ff, lt1⟩ := hSw
    go_simp
    all_goals with_reducible rfl
  simp only [Act.put, List.setIfInBounds_toArray, List.set_cons_zero, List.set_cons_succ]
  refine wpAnyH_at (i := 3) (some 21) (v := ?v3z18) rfl rfl (by kernel_rfl) (by kernel_rfl) (by kernel_rfl) (fun _ _ _ h => h) (Or.inl ⟨by rfl, ?y3z18⟩) (by assumption) ?r3z18
  case y3z18 =>
    intro w9 hSw
    obtain ⟨c0, c1, c2, c3, c4, ff, lt1⟩ := hSw
    go_simp
    all_goals with_reducible rfl
  simp only [Act.put, List.setIfInBounds_toArray, List.set_cons_zero, List.set_cons_succ]
  refine wpAnyH_at (i := 4) (some 22) (v := ?v4z19) rfl rfl (by kernel_rfl) (by kernel_rfl) (by kernel_rfl) (fun _ _ _ h => h) (Or.inl ⟨by rfl, ?y4z19⟩) (by assumption) ?r4z19
  case y4z19 =>
    intro w9 hSw
    obtain ⟨c0, c1, c2, c3, c4, ff, lt1⟩ := hSw
    go_simp
    all_goals with_reducible rfl
  simp only [Act.put, List.setIfInBounds_toArray, List.set_cons_zero, List.set_cons_succ]
  refine wpAnyH_at (i := 5) (some 23) (v := ?v5z20) rfl rfl (by kernel_rfl) (by kernel_rfl) (by kernel_rfl) (fun _ _ _ h => h) (Or.inl ⟨by rfl, ?y5z20⟩) (by assumption) ?r5z20
  case y5z20 =>
    intro w9 hSw
    obtain ⟨c0, c1, c2, c3, c4, ff, lt1⟩ := hSw
    go_simp
    all_goals with_reducible rfl
  simp only [Act.put, List.setIfInBounds_toArray, List.set_cons_zero, List.set_cons_succ]
  refine wpAnyH_at (i := 6) (some 24) (v := ?v6z21) rfl rfl (by kernel_rfl) (by kernel_rfl) (by kernel_rfl) (fun _ _ _ h => h) (Or.inl ⟨by rfl, ?y6z21⟩) (by assumption) ?r6z21
  case y6z21 =>
    intro w9 hSw
    obtain ⟨c0, c1, c2, c3, c4, ff, lt1⟩ := hSw
    go_simp
    all_goals with_reducible rfl
  simp only [Act.put, List.setIfInBounds_toArray, List.set_cons_zero, List.set_cons_succ]
  refine wpAnyH_at (i := 7) (some 25) (v := ?v7z22) rfl rfl (by kernel_rfl) (by kernel_rfl) (by kernel_rfl) (fun _ _ _ h => h) (Or.inl ⟨by rfl, ?y7z22⟩) (by assumption) ?r7z22
  case y7z22 =>
    intro w9 hSw
    obtain ⟨c0, c1, c2, c3, c4, ff, lt1⟩ := hSw
    go_simp
    all_goals with_reducible rfl
  simp only [Act.put, List.setIfInBounds_toArray, List.set_cons_zero, List.set_cons_succ]
  refine wpAnyH_at (i := 8) (some 26) (v := ?v8z23) rfl rfl (by kernel_rfl) (by kernel_rfl) (by kernel_rfl) (fun _ _ _ h => h) (Or.inl ⟨by rfl, ?y8z23⟩) (by assumption) ?r8z23
  case y8z23 =>
    intro w9 hSw
    obtain ⟨c0, c1, c2, c3, c4, ff, lt1⟩ := hSw
    go_simp
    all_goals with_reducible rfl
  simp only [Act.put, List.setIfInBounds_toArray, List.set_cons_zero, List.set_cons_succ]
  refine wpAnyH_at (i := 9) (some 27) (v := ?v9z24) rfl rfl (by kernel_rfl) (by kernel_rfl) (by kernel_rfl) (fun _ _ _ h => h) (Or.inl ⟨by rfl, ?y9z24⟩) (by assumption) ?r9z24
  case y9z24 =>
    intro w9 hSw
    obtain ⟨c0, c1, c2, c3, c4, ff, lt1⟩ := hSw
    go_simp
    all_goals with_reducible rfl
  simp only [Act.put, List.setIfInBounds_toArray, List.set_cons_zero, List.set_cons_succ]
  refine wpAnyH_one (i := 10) (by kernel_rfl) rfl ?_
  go_wp2_with fail
  refine (refHand_any p g cp L F bu fr o W0 hp1).mono ?_
  rintro ev w2 ⟨rfl, hp2, hk2⟩
  have hk3 : Kept (· = g) w w2 := Kept.ahead bw hk2
  have hc2 := hHeld.kept hk2 hqg.1
  rw [hE]
  have hr2 := hrow.kept hk2 hqg.1 (fun k e => by rw [e]; exact fun ⟨u, cur, v⟩ => hqg.2 (IntB.back (S := fun _ => False) (Kept.of_below bw) ⟨u, cur, v⟩ hp.lt.2 (fun h => h)))
  clear hHeld hk2 bw hp1 hrow hcz
  go_wp2
  have hHeld := hc2
  refine ⟨hHeld, ?_⟩
  try simp only [Act.put, List.setIfInBounds_toArray, List.set_cons_zero, List.set_cons_succ]
  refine wpAnyH_at (i := 11) (some 7) (v := ?v11z25) rfl rfl (by kernel_rfl) (by kernel_rfl) (by kernel_rfl) (fun _ _ _ h => h) (Or.inl ⟨by rfl, ?y11z25⟩) (by assumption) ?r11z25
  case y11z25 =>
    intro w9 hSw
    clear hSw
    go_simp
    all_goals with_reducible rfl
  simp only [Act.put, List.setIfInBounds_toArray, List.set_cons_zero, List.set_cons_succ]
  refine wpAnyH_done (by kernel_rfl) ?_ _
  clear hHeld
  have ho2 := hr2.out
  have ba := alloc_below w2 (.cells #[.int .i64 (bu)] 3)
  have ho3 := ho2.below ba (Nat.le_refl _)
  have rl : Rd .i64 (w2.alloc (.cells #[.int .i64 (bu)] 3)) (w2.heap.size + 1) (some ⟨w2.heap.size, 0, none⟩) 1 1 [bu] := rd_lit .i64 3 w2 [bu] 1 rfl (by omega) (by intro y hy; simp at hy; subst hy; exact i64_small (by have := hxw.out; omega))
  have hb2 : b ≤ w2.heap.size := Nat.le_trans hle hk3.size
  obtain ⟨c0, c1, c2, c3, c4, ff, lt1⟩ := hc2
  have hr2' := hr2
  clear hE hr2 ho2 h hp hf
  go_wp2_with (at_builtin; refine wpList_app rfl (.tmp 43) (.tmp 45) 57 rfl b Try.underlying57 info3 (by omega) A0 n c _ rfl ho3 (some ⟨w2.heap.size, 0, none⟩) 1 1 (w2.heap.size + 1) [bu] rfl rl (by omega) (by simp; omega) ?_)
  intro A' n' c' w5 o5 hg5
  have k5 := Kept.intB2 (hr2'.out) ba hg5
  have e5 : ints R ++ [bu] = ints (R ++ [x]) := by rw [hxw.out]; simp [ints]
  rw [e5] at o5
  have G9 := Lib.hid (G.out w2 w5 A' n' c' hp2 hk3 k5 o5)
  have K5 := k5
  have hnq : ¬ IntB w2 b q := fun ⟨_, cur, hc⟩ => blk_ne hc hr2'.blk (by decide) rfl
  have hcq : RrCells w2 q p A0 n c z o d := ⟨c0, c1, c2, c3, c4, ff, lt1⟩
  obtain ⟨c0', c1', c2', c3', c4', ff', lt1'⟩ := hcq.kept K5 hnq
  clear G hp2 hk3 k5 o5 K5 hr2' ho3 rl ba hg5 c0 c1 c2 c3 c4 ff hcq
  go_wp2
  go_ret
  exact G9.out
end Go.Proofs.Ytjaiagocbldbgaa
