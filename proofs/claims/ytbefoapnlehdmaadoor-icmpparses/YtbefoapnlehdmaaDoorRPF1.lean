/-
  Contract of the document's Parse and Peek.
-/
import Derived.Test.YtbefoapnlehdmaaDoorRParseE
namespace Go.Proofs.YtbefoapnlehdmaaDoor
open Go.RowKit
set_option linter.unusedVariables false

set_option maxRecDepth 100000 in
set_option maxHeartbeats 4000000 in
theorem refP_goodF1 (b o n c : Nat) (xs : List Int) (w : World) (v0 v2 v3 v6 v7 : Int) (H T : Nat) (f : Int) (hr : Rd .u8 w w.heap.size (some ⟨b, o, none⟩) n c xs) (hn : 20 ≤ n) (fx : Fx w b o n c xs v0 v2 v3 v6 v7 H T f) (h4 : xs.getD 0 0 / 16 = 4) (hh : 20 ≤ hdL xs) (hq : hdL xs ≤ n) (hl : hdL xs ≤ told xs) (h20 : hdL xs = 20) (hfl : flg xs = 16384) : Calls Tryd.prog 65 #[.slice (some ⟨b, o, none⟩) n c, .bool false] w (GivesY w (hdOf xs) (bodyOf xs)) := by
  obtain ⟨e0, w0, w2, w3, w6, w7, hH, hT, hf, eH, eT, ef, cells⟩ := fx
  have st0 := R0.start hr
  obtain ⟨k0, k2, k3, k6, k7⟩ := cells _ st0.rd
  have hcap := hr.cap
  have hmax := hr.max
  have n1 : ¬ (n : Int) < 20 := by omega
  have i0 : 0 < n := by omega
  have i2 : (2 : Int) < (n : Int) := by omega
  have i3 : (3 : Int) < (n : Int) := by omega
  have i6 : (6 : Int) < (n : Int) := by omega
  have i7 : (7 : Int) < (n : Int) := by omega
  obtain ⟨D, hD⟩ : ∃ D, v0 / 16 = D := ⟨_, rfl⟩
  obtain ⟨R, hR⟩ : ∃ R, v0 % 16 = R := ⟨_, rfl⟩
  rw [hR] at hH
  have a1 : v0.tdiv 16 = D := by rw [Int.tdiv_eq_ediv_of_nonneg (by omega)]; exact hD
  have a2 : v0.tmod 16 = R := by rw [Int.tmod_eq_emod_of_nonneg (by omega)]; exact hR
  have u1 : IntKind.u8.wrap D = D := by rw [IntKind.wrap_u8]; omega
  have u2 : IntKind.u8.wrap R = R := by rw [IntKind.wrap_u8]; omega
  have u3 : IntKind.i64.wrap R = R := by rw [IntKind.wrap_i64]; omega
  have u4 : IntKind.i64.wrap (H : Int) = (H : Int) := by rw [IntKind.wrap_i64]; omega
  have u5 : IntKind.i64.wrap v2 = v2 := by rw [IntKind.wrap_i64]; omega
  have u6 : IntKind.i64.wrap v3 = v3 := by rw [IntKind.wrap_i64]; omega
  have u7 : IntKind.i64.wrap (v2 * 256) = v2 * 256 := by rw [IntKind.wrap_i64]; omega
  have u8 : IntKind.i64.wrap (T : Int) = (T : Int) := by rw [IntKind.wrap_i64]; omega
  have u9 : IntKind.i64.wrap v6 = v6 := by rw [IntKind.wrap_i64]; omega
  have u10 : IntKind.i64.wrap v7 = v7 := by rw [IntKind.wrap_i64]; omega
  have u11 : IntKind.i64.wrap (v6 * 256) = v6 * 256 := by rw [IntKind.wrap_i64]; omega
  have u12 : IntKind.i64.wrap f = f := by rw [IntKind.wrap_i64]; omega
  have hTb : T ≤ 65535 := by omega
  have hHb : H ≤ 60 := by omega
  obtain rfl : D = 4 := by rw [← hD, ← e0]; exact h4
  have q1 : ¬ (H : Int) < 20 := by omega
  have q2 : ¬ (n : Int) < (H : Int) := by omega
  have q4 : ¬ (T : Int) < (H : Int) := by omega
  obtain rfl : H = 20 := by omega
  have HL := Lib.hid hr.len
  obtain rfl : f = 16384 := by rw [← ef]; exact hfl
  obtain ⟨M, hM⟩ : ∃ M, min T n = M := ⟨_, rfl⟩
  have hMc : Hid (((T : Int) < (n : Int) ∧ M = T) ∨ ((n : Int) < (T : Int) ∧ M = n) ∨ (T = n ∧ M = n)) := Lib.hid (by omega)
  have m1 : (20 : Int) ≤ (M : Int) := by omega
  have m2 : (M : Int) ≤ (n : Int) := by omega
  have m3 : (M : Int) ≤ (c : Int) := by omega
  have HB : Hid ((xs.drop 20).take (M - 20) = bodyOf xs) := Lib.hid (by
    unfold bodyOf
    rw [eT, ← List.drop_take, ← hM, ← hr.len, ← List.take_eq_take_min])
  have x4b := u8_bd (hr.wf (i := 4) (by omega))
  have x5b := u8_bd (hr.wf (i := 5) (by omega))
  have d4 : num2 (xs.drop 4) = xs.getD 4 0 * 256 + xs.getD 5 0 := by unfold num2; rw [getD_drop, getD_drop]
  have hcell : Hid (∀ W, Rd .u8 W w.heap.size (some ⟨b, o, none⟩) n c xs → W.cell? ⟨b, o + 1, none⟩ = some (.int .u8 (xs.getD 1 0)) ∧ W.cell? ⟨b, o + 4, none⟩ = some (.int .u8 (xs.getD 4 0)) ∧ W.cell? ⟨b, o + 5, none⟩ = some (.int .u8 (xs.getD 5 0)) ∧ W.cell? ⟨b, o + 8, none⟩ = some (.int .u8 (xs.getD 8 0)) ∧ W.cell? ⟨b, o + 9, none⟩ = some (.int .u8 (xs.getD 9 0))) :=
    Lib.hid (fun W h => ⟨h.cellAt (by omega), h.cellAt (by omega), h.cellAt (by omega), h.cellAt (by omega), h.cellAt (by omega)⟩)
  have HH : Hid (hdOf xs = ⟨xs.getD 1 0, num2 (xs.drop 4), true, xs.getD 8 0, xs.getD 9 0, num4 (xs.drop 12), num4 (xs.drop 16)⟩) := Lib.hid (by unfold hdOf; rw [hfl]; rfl)
  have t3 : ∀ W, Rd .u8 W w.heap.size (some ⟨b, o, none⟩) n c xs → Calls Tryd.prog 80 #[.slice (some ⟨b, o + 12, none⟩) (n - 12) (c - 12)] W fun e w' => e = .returned (.int .u32 (num4 (xs.drop 12))) ∧ Still W w' := fun W h => num_any _ (n - 12) (c - 12) w.heap.size (xs.drop 12) W (h.cutS 12 (by omega) (by omega)) (by omega)
  have t4 : ∀ W, Rd .u8 W w.heap.size (some ⟨b, o, none⟩) n c xs → Calls Tryd.prog 80 #[.slice (some ⟨b, o + 16, none⟩) (n - 16) (c - 16)] W fun e w' => e = .returned (.int .u32 (num4 (xs.drop 16))) ∧ Still W w' := fun W h => num_any _ (n - 16) (c - 16) w.heap.size (xs.drop 16) W (h.cutS 16 (by omega) (by omega)) (by omega)
  generalize num4 (xs.drop 12) = src at *
  generalize num4 (xs.drop 16) = dst at *
  generalize xs.getD 1 0 = x1 at *
  generalize xs.getD 4 0 = x4 at *
  generalize xs.getD 5 0 = x5 at *
  generalize xs.getD 8 0 = x8 at *
  generalize xs.getD 9 0 = x9 at *
  generalize num2 (xs.drop 4) = id at *
  generalize hdOf xs = HD at *
  have d4' : x4 * 256 + x5 = id := d4.symm
  have s1 : IntKind.i64.wrap x4 = x4 := by rw [IntKind.wrap_i64]; omega
  have s2 : IntKind.i64.wrap x5 = x5 := by rw [IntKind.wrap_i64]; omega
  have s3 : IntKind.i64.wrap (x4 * 256) = x4 * 256 := by rw [IntKind.wrap_i64]; omega
  have s4 : IntKind.i64.wrap id = id := by rw [IntKind.wrap_i64]; omega
  have s5 : IntKind.u16.wrap id = id := by rw [IntKind.wrap_u16]; omega
  have k12 : ¬ c = 12 := by omega
  have j12 : (12 : Int) ≤ (n : Int) := by omega
  have k16 : ¬ c = 16 := by omega
  have j16 : (16 : Int) ≤ (n : Int) := by omega
  have i1 : (1 : Int) < (n : Int) := by omega
  have i4 : (4 : Int) < (n : Int) := by omega
  have i5 : (5 : Int) < (n : Int) := by omega
  have i8 : (8 : Int) < (n : Int) := by omega
  have i9 : (9 : Int) < (n : Int) := by omega
  have hMn : M ≤ n := by omega
  have hM20 : 20 ≤ M := by omega
  have hM65 : M ≤ 65535 := by omega
  clear hr hn e0 w0 w2 w3 w6 w7 eH eT ef cells hD hR h4 hh hq hl h20 hfl hM d4 x4b x5b
  go_enter Tryd.func65, Tryd.ntmps65
  go_wp2_with fail
  go_quiet (fail)
  go_wp2_with fail
  go_quiet (fail)
  have hMc' : M ≤ c := by omega
  have stA : ∀ q, R0 w (some ⟨b, o, none⟩) n c xs ((((w.alloc (.cells (pkC zeroH none 0 0) 63)).alloc (.cells (flC none 0 0 0) 36)).drewN q).alloc (.cells #[] 5)) := fun q => (st0.step (Still.drewN _ q).below).step (alloc_below _ _)
  have rdA : ∀ q, Rd .u8 ((((w.alloc (.cells (pkC zeroH none 0 0) 63)).alloc (.cells (flC none 0 0 0) 36)).drewN q).alloc (.cells #[] 5)) w.heap.size (cutA (some ⟨b, o, none⟩) c 20) (M - 20) (c - 20) ((xs.drop 20).take (M - 20)) := fun q => (stA q).rd.cut hM20 hMn
  have szA : ∀ q, w.heap.size + 2 ≤ ((((w.alloc (.cells (pkC zeroH none 0 0) 63)).alloc (.cells (flC none 0 0 0) 36)).drewN q).alloc (.cells #[] 5)).heap.size := fun q => (stA q).sz
  have litA : ∀ q, Out .u8 5 ((((w.alloc (.cells (pkC zeroH none 0 0) 63)).alloc (.cells (flC none 0 0 0) 36)).drewN q).alloc (.cells #[] 5)) (w.heap.size + 2) (some ⟨w.heap.size + 2, 0, none⟩) 0 0 [] := fun q => by
    have := Out.lit0 .u8 5 (((w.alloc (.cells (pkC zeroH none 0 0) 63)).alloc (.cells (flC none 0 0 0) 36)).drewN q) (((w.alloc (.cells (pkC zeroH none 0 0) 63)).alloc (.cells (flC none 0 0 0) 36)).drewN q).heap.size (Nat.le_refl _)
    have e : (((w.alloc (.cells (pkC zeroH none 0 0) 63)).alloc (.cells (flC none 0 0 0) 36)).drewN q).heap.size = w.heap.size + 2 := by show ((w.alloc (.cells (pkC zeroH none 0 0) 63)).alloc (.cells (flC none 0 0 0) 36)).heap.size = _; simp
    rw [e] at this
    exact this
  go_wp2_with (first | (refine wpList_run (dd := some 100) (v := .int .i64 (M : Int)) rfl rfl ?_ ?_; (exact min_run _ _ _ T n M _ _ rfl rfl hMc.out)) | (refine wpList_run (dd := some 101) (v := .slice (cutA (some ⟨b, o, none⟩) c 20) (M - 20) (c - 20)) rfl rfl ?_ ?_; (exact cut_run _ _ _ b o n c M _ _ rfl rfl rfl hM20 hMc')) | (at_builtin; refine wpList_app rfl (.tmp 94) (.tmp 101) 22 rfl (w.heap.size + 2) Tryd.underlying22 info5 (by omega) (some ⟨w.heap.size + 2, 0, none⟩) 0 0 [] rfl (litA _) (cutA (some ⟨b, o, none⟩) c 20) (M - 20) (c - 20) w.heap.size ((xs.drop 20).take (M - 20)) rfl (rdA _) (by omega) (szA _) ?_; intro A1 n1 c1 w6 o1 hgr; have st := (stA _).low (Nat.le_refl _) (grown_low (litA _) hgr (szA _)); clear hgr))
  rw [List.nil_append, HB.out] at o1
  clear stA rdA szA litA st0 k0 k2 k3 k6 k7 HB hMc
  refine wp_region_held_drew (S := fun w' => Rd .u8 w' w.heap.size (some ⟨b, o, none⟩) n c xs) (by kernel_rfl) (st.step (below_drew _)).rd (fun hHeld => ?_)
  replace st := st.step (below_drew _)
  replace o1 := o1.below (below_drew _) (Nat.le_refl _)
  generalize w6.drew = W7 at *
  refine wpAnyH_at (i := 0) (some 103) (v := ?v0z85) rfl rfl (by kernel_rfl) (by kernel_rfl) (by kernel_rfl) (fun _ _ _ h => h) (Or.inl ⟨by rfl, ?y0z85⟩) (by assumption) ?r0z85
  case y0z85 =>
    intro w9 hSw
    clear hSw
    go_simp
    all_goals with_reducible rfl
  simp only [Act.put, List.setIfInBounds_toArray, List.set_cons_zero, List.set_cons_succ]
  refine wpAnyH_at (i := 1) (some 104) (v := ?v1z86) rfl rfl (by kernel_rfl) (by kernel_rfl) (by kernel_rfl) (fun _ _ _ h => h) (Or.inl ⟨by rfl, ?y1z86⟩) (by assumption) ?r1z86
  case y1z86 =>
    intro w9 hSw
    clear hSw
    go_simp
    all_goals with_reducible rfl
  simp only [Act.put, List.setIfInBounds_toArray, List.set_cons_zero, List.set_cons_succ]
  refine wpAnyH_at (i := 2) (some 105) (v := ?v2z87) rfl rfl (by kernel_rfl) (by kernel_rfl) (by kernel_rfl) (fun _ _ _ h => h) (Or.inl ⟨by rfl, ?y2z87⟩) (by assumption) ?r2z87
  case y2z87 =>
    intro w9 hSw
    (obtain ⟨p1, p4, p5, p8, p9⟩ := hcell.out _ hSw); clear hSw
    go_simp
    all_goals with_reducible rfl
  simp only [Act.put, List.setIfInBounds_toArray, List.set_cons_zero, List.set_cons_succ]
  refine wpAnyH_at (i := 3) (some 106) (v := ?v3z88) rfl rfl (by kernel_rfl) (by kernel_rfl) (by kernel_rfl) (fun _ _ _ h => h) (Or.inl ⟨by rfl, ?y3z88⟩) (by assumption) ?r3z88
  case y3z88 =>
    intro w9 hSw
    clear hSw
    go_simp
    all_goals with_reducible rfl
  simp only [Act.put, List.setIfInBounds_toArray, List.set_cons_zero, List.set_cons_succ]
  refine wpAnyH_at (i := 4) (some 107) (v := ?v4z89) rfl rfl (by kernel_rfl) (by kernel_rfl) (by kernel_rfl) (fun _ _ _ h => h) (Or.inl ⟨by rfl, ?y4z89⟩) (by assumption) ?r4z89
  case y4z89 =>
    intro w9 hSw
    clear hSw
    go_simp
    all_goals with_reducible rfl
  simp only [Act.put, List.setIfInBounds_toArray, List.set_cons_zero, List.set_cons_succ]
  refine wpAnyH_at (i := 5) (some 108) (v := ?v5z90) rfl rfl (by kernel_rfl) (by kernel_rfl) (by kernel_rfl) (fun _ _ _ h => h) (Or.inl ⟨by rfl, ?y5z90⟩) (by assumption) ?r5z90
  case y5z90 =>
    intro w9 hSw
    (obtain ⟨p1, p4, p5, p8, p9⟩ := hcell.out _ hSw); clear hSw
    go_simp
    all_goals with_reducible rfl
  simp only [Act.put, List.setIfInBounds_toArray, List.set_cons_zero, List.set_cons_succ]
  refine wpAnyH_at (i := 6) (some 109) (v := ?v6z91) rfl rfl (by kernel_rfl) (by kernel_rfl) (by kernel_rfl) (fun _ _ _ h => h) (Or.inl ⟨by rfl, ?y6z91⟩) (by assumption) ?r6z91
  case y6z91 =>
    intro w9 hSw
    clear hSw
    go_simp
    all_goals with_reducible rfl
  simp only [Act.put, List.setIfInBounds_toArray, List.set_cons_zero, List.set_cons_succ]
  refine wpAnyH_at (i := 7) (some 110) (v := ?v7z92) rfl rfl (by kernel_rfl) (by kernel_rfl) (by kernel_rfl) (fun _ _ _ h => h) (Or.inl ⟨by rfl, ?y7z92⟩) (by assumption) ?r7z92
  case y7z92 =>
    intro w9 hSw
    clear hSw
    go_simp
    all_goals with_reducible rfl
  simp only [Act.put, List.setIfInBounds_toArray, List.set_cons_zero, List.set_cons_succ]
  refine wpAnyH_at (i := 8) (some 111) (v := ?v8z93) rfl rfl (by kernel_rfl) (by kernel_rfl) (by kernel_rfl) (fun _ _ _ h => h) (Or.inl ⟨by rfl, ?y8z93⟩) (by assumption) ?r8z93
  case y8z93 =>
    intro w9 hSw
    clear hSw
    go_simp
    all_goals with_reducible rfl
  simp only [Act.put, List.setIfInBounds_toArray, List.set_cons_zero, List.set_cons_succ]
  refine wpAnyH_at (i := 9) (some 112) (v := ?v9z94) rfl rfl (by kernel_rfl) (by kernel_rfl) (by kernel_rfl) (fun _ _ _ h => h) (Or.inl ⟨by rfl, ?y9z94⟩) (by assumption) ?r9z94
  case y9z94 =>
    intro w9 hSw
    clear hSw
    go_simp
    all_goals with_reducible rfl
  simp only [Act.put, List.setIfInBounds_toArray, List.set_cons_zero, List.set_cons_succ]
  refine wpAnyH_at (i := 10) (some 113) (v := ?v10z95) rfl rfl (by kernel_rfl) (by kernel_rfl) (by kernel_rfl) (fun _ _ _ h => h) (Or.inl ⟨by rfl, ?y10z95⟩) (by assumption) ?r10z95
  case y10z95 =>
    intro w9 hSw
    (obtain ⟨p1, p4, p5, p8, p9⟩ := hcell.out _ hSw); clear hSw
    go_simp
    all_goals with_reducible rfl
  simp only [Act.put, List.setIfInBounds_toArray, List.set_cons_zero, List.set_cons_succ]
  refine wpAnyH_at (i := 11) (some 114) (v := ?v11z96) rfl rfl (by kernel_rfl) (by kernel_rfl) (by kernel_rfl) (fun _ _ _ h => h) (Or.inl ⟨by rfl, ?y11z96⟩) (by assumption) ?r11z96
  case y11z96 =>
    intro w9 hSw
    clear hSw
    go_simp
    all_goals with_reducible rfl
  simp only [Act.put, List.setIfInBounds_toArray, List.set_cons_zero, List.set_cons_succ]
  refine wpAnyH_at (i := 12) (some 115) (v := ?v12z97) rfl rfl (by kernel_rfl) (by kernel_rfl) (by kernel_rfl) (fun _ _ _ h => h) (Or.inl ⟨by rfl, ?y12z97⟩) (by assumption) ?r12z97
  case y12z97 =>
    intro w9 hSw
    clear hSw
    go_simp
    all_goals with_reducible rfl
  simp only [Act.put, List.setIfInBounds_toArray, List.set_cons_zero, List.set_cons_succ]
  refine wpAnyH_at (i := 13) (some 116) (v := ?v13z98) rfl rfl (by kernel_rfl) (by kernel_rfl) (by kernel_rfl) (fun _ _ _ h => h) (Or.inl ⟨by rfl, ?y13z98⟩) (by assumption) ?r13z98
  case y13z98 =>
    intro w9 hSw
    clear hSw
    go_simp
    all_goals with_reducible rfl
  simp only [Act.put, List.setIfInBounds_toArray, List.set_cons_zero, List.set_cons_succ]
  refine wpAnyH_at (i := 14) (some 117) (v := ?v14z99) rfl rfl (by kernel_rfl) (by kernel_rfl) (by kernel_rfl) (fun _ _ _ h => h) (Or.inl ⟨by rfl, ?y14z99⟩) (by assumption) ?r14z99
  case y14z99 =>
    intro w9 hSw
    clear hSw
    go_simp
    all_goals with_reducible rfl
  simp only [Act.put, List.setIfInBounds_toArray, List.set_cons_zero, List.set_cons_succ]
  refine wpAnyH_at (i := 15) (some 118) (v := ?v15z100) rfl rfl (by kernel_rfl) (by kernel_rfl) (by kernel_rfl) (fun _ _ _ h => h) (Or.inl ⟨by rfl, ?y15z100⟩) (by assumption) ?r15z100
  case y15z100 =>
    intro w9 hSw
    clear hSw
    go_simp
    all_goals with_reducible rfl
  simp only [Act.put, List.setIfInBounds_toArray, List.set_cons_zero, List.set_cons_succ]
  refine wpAnyH_at (i := 16) (some 119) (v := ?v16z101) rfl rfl (by kernel_rfl) (by kernel_rfl) (by kernel_rfl) (fun _ _ _ h => h) (Or.inl ⟨by rfl, ?y16z101⟩) (by assumption) ?r16z101
  case y16z101 =>
    intro w9 hSw
    clear hSw
    go_simp
    all_goals with_reducible rfl
  simp only [Act.put, List.setIfInBounds_toArray, List.set_cons_zero, List.set_cons_succ]
  refine wpAnyH_at (i := 17) (some 120) (v := ?v17z102) rfl rfl (by kernel_rfl) (by kernel_rfl) (by kernel_rfl) (fun _ _ _ h => h) (Or.inl ⟨by rfl, ?y17z102⟩) (by assumption) ?r17z102
  case y17z102 =>
    intro w9 hSw
    clear hSw
    go_simp
    all_goals with_reducible rfl
  simp only [Act.put, List.setIfInBounds_toArray, List.set_cons_zero, List.set_cons_succ]
  refine wpAnyH_at (i := 18) (some 121) (v := ?v18z103) rfl rfl (by kernel_rfl) (by kernel_rfl) (by kernel_rfl) (fun _ _ _ h => h) (Or.inl ⟨by rfl, ?y18z103⟩) (by assumption) ?r18z103
  case y18z103 =>
    intro w9 hSw
    (obtain ⟨p1, p4, p5, p8, p9⟩ := hcell.out _ hSw); clear hSw
    go_simp
    all_goals with_reducible rfl
  simp only [Act.put, List.setIfInBounds_toArray, List.set_cons_zero, List.set_cons_succ]
  refine wpAnyH_at (i := 19) (some 122) (v := ?v19z104) rfl rfl (by kernel_rfl) (by kernel_rfl) (by kernel_rfl) (fun _ _ _ h => h) (Or.inl ⟨by rfl, ?y19z104⟩) (by assumption) ?r19z104
  case y19z104 =>
    intro w9 hSw
    clear hSw
    go_simp
    all_goals with_reducible rfl
  simp only [Act.put, List.setIfInBounds_toArray, List.set_cons_zero, List.set_cons_succ]
  refine wpAnyH_at (i := 20) (some 123) (v := ?v20z105) rfl rfl (by kernel_rfl) (by kernel_rfl) (by kernel_rfl) (fun _ _ _ h => h) (Or.inl ⟨by rfl, ?y20z105⟩) (by assumption) ?r20z105
  case y20z105 =>
    intro w9 hSw
    clear hSw
    go_simp
    all_goals with_reducible rfl
  simp only [Act.put, List.setIfInBounds_toArray, List.set_cons_zero, List.set_cons_succ]
  refine wpAnyH_at (i := 21) (some 124) (v := ?v21z106) rfl rfl (by kernel_rfl) (by kernel_rfl) (by kernel_rfl) (fun _ _ _ h => h) (Or.inl ⟨by rfl, ?y21z106⟩) (by assumption) ?r21z106
  case y21z106 =>
    intro w9 hSw
    (obtain ⟨p1, p4, p5, p8, p9⟩ := hcell.out _ hSw); clear hSw
    go_simp
    all_goals with_reducible rfl
  simp only [Act.put, List.setIfInBounds_toArray, List.set_cons_zero, List.set_cons_succ]
  refine wpAnyH_at (i := 22) (some 125) (v := ?v22z107) rfl rfl (by kernel_rfl) (by kernel_rfl) (by kernel_rfl) (fun _ _ _ h => h) (Or.inl ⟨by rfl, ?y22z107⟩) (by assumption) ?r22z107
  case y22z107 =>
    intro w9 hSw
    clear hSw
    go_simp
    all_goals with_reducible rfl
  simp only [Act.put, List.setIfInBounds_toArray, List.set_cons_zero, List.set_cons_succ]
  refine wpAnyH_at (i := 23) (some 126) (v := ?v23z108) rfl rfl (by kernel_rfl) (by kernel_rfl) (by kernel_rfl) (fun _ _ _ h => h) (Or.inl ⟨by rfl, ?y23z108⟩) (by assumption) ?r23z108
  case y23z108 =>
    intro w9 hSw
    clear hSw
    go_simp
    all_goals with_reducible rfl
  simp only [Act.put, List.setIfInBounds_toArray, List.set_cons_zero, List.set_cons_succ]
  refine wpAnyH_at (i := 25) (some 128) (v := ?v25z109) rfl rfl (by kernel_rfl) (by kernel_rfl) (by kernel_rfl) (fun _ _ _ h => h) (Or.inl ⟨by rfl, ?y25z109⟩) (by assumption) ?r25z109
  case y25z109 =>
    intro w9 hSw
    clear hSw
    go_simp
    all_goals with_reducible rfl
  simp only [Act.put, List.setIfInBounds_toArray, List.set_cons_zero, List.set_cons_succ]
  refine wpAnyH_at (i := 26) (some 129) (v := ?v26z110) rfl rfl (by kernel_rfl) (by kernel_rfl) (by kernel_rfl) (fun _ _ _ h => h) (Or.inl ⟨by rfl, ?y26z110⟩) (by assumption) ?r26z110
  case y26z110 =>
    intro w9 hSw
    clear hSw
    go_simp
    all_goals with_reducible rfl
  simp only [Act.put, List.setIfInBounds_toArray, List.set_cons_zero, List.set_cons_succ]
  refine wpAnyH_at (i := 28) (some 131) (v := ?v28z111) rfl rfl (by kernel_rfl) (by kernel_rfl) (by kernel_rfl) (fun _ _ _ h => h) (Or.inl ⟨by rfl, ?y28z111⟩) (by assumption) ?r28z111
  case y28z111 =>
    intro w9 hSw
    clear hSw
    go_simp
    all_goals with_reducible rfl
  simp only [Act.put, List.setIfInBounds_toArray, List.set_cons_zero, List.set_cons_succ]
  refine wpAnyH_at (i := 30) (some 133) (v := ?v30z112) rfl rfl (by kernel_rfl) (by kernel_rfl) (by kernel_rfl) (fun _ _ _ h => h) (Or.inl ⟨by rfl, ?y30z112⟩) (by assumption) ?r30z112
  case y30z112 =>
    intro w9 hSw
    clear hSw
    go_simp
    all_goals with_reducible rfl
  simp only [Act.put, List.setIfInBounds_toArray, List.set_cons_zero, List.set_cons_succ]
  refine wpAnyH_one (i := 24) (by kernel_rfl) rfl ?_
  go_wp2_with (go_at_call 80; with_reducible refine (t3 _ st.rd).mono ?_; rintro e W8 ⟨rfl, hs9⟩)
  replace st := st.step hs9.below
  replace o1 := o1.below hs9.below (Nat.le_refl _)
  clear hs9 hHeld
  have hHeld := st.rd
  refine ⟨hHeld, ?_⟩
  try simp only [Act.put, List.setIfInBounds_toArray, List.set_cons_zero, List.set_cons_succ]
  refine wpAnyH_one (i := 27) (by kernel_rfl) rfl ?_
  go_wp2_with (go_at_call 80; with_reducible refine (t4 _ st.rd).mono ?_; rintro e W9 ⟨rfl, hs9⟩)
  replace st := st.step hs9.below
  replace o1 := o1.below hs9.below (Nat.le_refl _)
  clear hs9 hHeld
  have hHeld := st.rd
  refine ⟨hHeld, ?_⟩
  try simp only [Act.put, List.setIfInBounds_toArray, List.set_cons_zero, List.set_cons_succ]
  refine wpAnyH_at (i := 29) (some 132) (v := pkV ⟨x1, id, true, x8, x9, src, dst⟩ A1 n1 c1) rfl rfl (by kernel_rfl) (by kernel_rfl) (by kernel_rfl) (fun _ _ _ h => h) (Or.inl ⟨by rfl, fun w9 _ => ?_⟩) (by assumption) ?_
  · exact build33 _ _ w9 _ _ _ _ _ _ _ _ _ _ _ _ rfl rfl rfl rfl rfl rfl rfl rfl
  simp only [Act.put, List.setIfInBounds_toArray, List.set_cons_zero, List.set_cons_succ]
  refine wpAnyH_one (i := 31) (by kernel_rfl) rfl ?_
  refine wpList_stF rfl rfl 63 _ _ rfl w.heap.size (pkC ⟨x1, id, true, x8, x9, src, dst⟩ A1 n1 c1) rfl rfl 63 _ st.z.z (by kernel_rfl) rfl (pkC_one ..) ?_
  intro wA fA hbA hoA hsA
  have yA := (hoA (w.heap.size + 1) (by omega)).trans st.z.y
  have bA := st.z.below.trans hbA
  have rA := st.rd.below hbA (Nat.le_refl _)
  replace o1 := o1.other (fun j hj => hoA j (by omega))
  clear hHeld hbA hoA hsA st
  go_wp2
  refine ⟨rA, ?_⟩
  refine wpAnyH_one (i := 32) (by kernel_rfl) rfl ?_
  refine wpList_stF rfl rfl 36 _ _ rfl (w.heap.size + 1) (flC none 0 0 0) rfl rfl 36 _ yA (by kernel_rfl) rfl (flC_one _ _ _ _) ?_
  intro wB fB hbB hoB hsB
  have zB : PkAt wB w.heap.size 63 ⟨x1, id, true, x8, x9, src, dst⟩ A1 n1 c1 := (hoB w.heap.size (by omega)).trans fA
  have bB := bA.trans (hbB.mono (by omega))
  have rB := rA.below hbB (by omega)
  replace o1 := o1.other (fun j hj => hoB j (by omega))
  clear hbB hoB hsB bA rA yA fA
  go_wp2
  refine ⟨rB, ?_⟩
  refine wpAnyH_done (by kernel_rfl) ?_ _
  go_wp2
  obtain ⟨a0, a1, a2, a3, a4, a5, a6, a7⟩ := zB.cells
  have b0 : wB.cell? ⟨w.heap.size + 1, 0, none⟩ = some (.slice none 0 0) := blk_cell fB rfl
  have b1 : wB.cell? ⟨w.heap.size + 1, 1, none⟩ = some (.int .i64 0) := blk_cell fB rfl
  refine bodyPost_ret (v := .tuple #[pkV ⟨x1, id, true, x8, x9, src, dst⟩ A1 n1 c1, .agg #[.slice none 0 0, .int .i64 0]]) (by simp [results, Tryd.results65, go_sem, b0, b1, a0, a1, a2, a3, a4, a5, a6, a7]) rfl ?_
  unfold GivesY
  rw [HH.out]
  exact ⟨bB, A1, n1, c1, rfl, o1.rebase (by omega)⟩
end Go.Proofs.YtbefoapnlehdmaaDoor
