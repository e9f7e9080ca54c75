/-
  The law IcmpErrors, all of it.
-/
import Derived.Test.YtbefoapnlehdmaaDoorLErrors0
namespace Go.Proofs.YtbefoapnlehdmaaDoor
open Go.RowKit
set_option linter.unusedVariables false
set_option maxRecDepth 100000 in
set_option maxHeartbeats 4000000 in
theorem errors_near_false (cd : Int) (h : Hd) (A : Option Addr) (n c : Nat) (xs : List Int) (w : World) (hg : Laid w) (hk : h.ok) (hcd : 0 ≤ cd ∧ cd ≤ 255) (hr : Rd .u8 w w.heap.size A n c xs) (h8 : 8 ≤ n) (hn : n ≤ 3000) : Calls Tryd.prog 6 #[.bool false, .int .u8 cd, pkV h A n c] w fun e w' => e = .returned (.bool true) ∧ Below w.heap.size w w' := by
  have q := KQ.start (h := h) hg hr
  have n1 : ¬ (n : Int) < 8 := by omega
  have n2 : ¬ (3000 : Int) < (n : Int) := by omega
  have hcap := hr.cap
  have hmax := hr.max
  have j8 : (8 : Int) ≤ (c : Int) := by omega
  have hl := hr.len
  have hwx := hr.2.2.2.1
  obtain ⟨hM, hMe⟩ : ∃ m : Ms, m = ⟨3, cd, 0, 0, 0, 0⟩ := ⟨_, rfl⟩
  have hMk : hM.ok := by subst hMe; exact ⟨by dsimp only; omega, hcd, by dsimp only; omega, by dsimp only; omega, by dsimp only; omega, by dsimp only; omega⟩
  have hMc : clsV hM = 1 := by subst hMe; rfl
  have hMd : (hM.cd == cd) = true := by subst hMe; simp
  obtain ⟨bd, hbd⟩ : ∃ b, hdR h n ++ xs.take 8 = b := ⟨_, rfl⟩
  have hbw : ∀ x ∈ bd, (Lit.int .u8 x).wf = true := by rw [← hbd]; exact fun x q => (List.mem_append.1 q).elim (hdR_wf hk (by omega) x) (fun q => hwx x (List.mem_of_mem_take q))
  have hbl : bd.length = 28 := by rw [← hbd, List.length_append, List.length_take, hl, hdR_len]; omega
  have hiE : (iE hM bd).2 = 0 := by rw [← hbd]; exact err_iE hMc hl h8
  obtain ⟨-, hhd, hbo⟩ := err_inner (h := h) (n := n) (xs := xs) hl h8
  rw [hbd] at hhd hbo
  have hx8 : (xs.take 8).length = 8 := by rw [List.length_take, hl]; omega
  have cE := Lib.hid (fun W (q : Rd .u8 W W.heap.size A n c xs) => by
    have := merror_any 3 cd h A n c 8 28 xs W hk q (by omega) (by omega) rfl
    rwa [hbd, ← hMe] at this)
  have cB := Lib.hid (fun W g (q : Row W g bd) => mbytes_near hM (some ⟨g, 0, none⟩) 28 28 36 bd W hMk (q.rdW hbl (by omega) hbw) (by omega) rfl)
  obtain ⟨zs, hzs⟩ : ∃ z, mR hM bd = z := ⟨_, rfl⟩
  have hzl : zs.length = 36 := by rw [← hzs, mR_len, hbl]
  have hzw : ∀ x ∈ zs, (Lit.int .u8 x).wf = true := by rw [← hzs]; exact mR_wf hMk hbw
  have cP := Lib.hid (fun W g (q : Row W g zs) => mparse_yes (m := 28) (q.rdW hzl (by omega) hzw) (by rw [← hzs, mR_mE hMk hbw (by omega)]) (by subst hzs; exact mR_hd bd) (by subst hzs; exact mR_body hM bd) rfl)
  have cI := Lib.hid (fun W g (q : Row W g bd) => inner_yes (q.rdW hbl (by omega) hbw) hiE hhd hbo hx8)
  have cC := Lib.hid (fun A n c W => by have := class_any hM A n c W; rwa [hMc] at this)
  rw [hzs] at cB
  have H8 := Lib.hid hx8
  have W8 : Hid (∀ x ∈ xs.take 8, (Lit.int .u8 x).wf = true) := Lib.hid (fun x q => hwx x (List.mem_of_mem_take q))
  have R8 := Lib.hid (fun W (q : Rd .u8 W w.heap.size A n c xs) => q.cutTo 8 h8)
  have HM := Lib.hid hMe
  clear hbd hbw hbl hiE hhd hbo hzs hzl hzw hMk hMc hl hwx hr hk hx8 hMe
  go_enter Tryd.func6, Tryd.ntmps6
  go_wp2_with (go_at_call 8; refine (alive_any _ q.kn.laid).mono ?_; rintro ev w1 ⟨rfl, hb⟩; replace q := q.step hb; clear hb; obtain ⟨a0, a1, a2, a3, a4, a5, a6, a7⟩ := q.p.cells)
  refine (cE.out _ (q.rd.more q.kn.below.size)).mono ?_
  rintro ev w2 ⟨gE, rfl, rE, -, hb⟩
  have ba := alloc_below w2 (.cells (msC hM (some ⟨gE, 0, none⟩) 28 28) 27)
  have m := MsAt.new w2 27 hM (some ⟨gE, 0, none⟩) 28 28
  replace rE := rE.below ba rE.lt
  replace hb := hb.trans (ba.mono hb.size)
  replace q := q.step hb
  clear hb ba cE a0 a1 a2 a3 a4 a5 a6 a7
  obtain ⟨a0, a1, a2, a3, a4, a5, a6⟩ := m.cells
  go_wp2_with fail
  refine (cB.out _ _ rE).mono ?_
  rintro ev w3 ⟨gB, rfl, rB, -, hb⟩
  replace q := q.step hb
  clear hb cB m rE a0 a1 a2 a3 a4 a5 a6
  go_wp2_with fail
  refine (cP.out _ _ rB).mono ?_
  rintro ev w4 ⟨gP, rfl, rP, -, hb⟩
  have ba := alloc_below w4 (.cells (msC hM (some ⟨gP, 0, none⟩) 28 28) 27)
  have x := MsAt.new w4 27 hM (some ⟨gP, 0, none⟩) 28 28
  replace rP := rP.below ba rP.lt
  replace hb := hb.trans (ba.mono hb.size)
  replace q := q.step hb
  clear hb ba cP rB
  obtain ⟨a0, a1, a2, a3, a4, a5, a6⟩ := x.cells
  go_wp2_with fail
  refine (cI.out _ _ rP).mono ?_
  rintro ev w5 ⟨g8, rfl, r8, -, hb⟩
  have ba := alloc_below w5 (.cells (pkC h (some ⟨g8, 0, none⟩) 8 8) 60)
  have e : Pp w5.heap.size h (some ⟨g8, 0, none⟩) 8 (xs.take 8) (w5.alloc (.cells (pkC h (some ⟨g8, 0, none⟩) 8 8) 60)) := Pp.new (r8.rdW H8.out (by omega) W8.out)
  replace hb := hb.trans (ba.mono hb.size)
  replace q := q.step hb
  replace x := x.step hb
  clear hb ba cI rP r8 a0 a1 a2 a3 a4 a5 a6
  obtain ⟨a0, a1, a2, a3, a4, a5, a6⟩ := x.cells
  go_wp2_with (go_at_call 19; refine (cC.out _ _ _ _).mono ?_; rintro ev w6 ⟨rfl, hb⟩; replace q := q.step hb; replace x := x.step hb; replace e := e.step hb; clear hb a0 a1 a2 a3 a4 a5 a6; obtain ⟨a0, a1, a2, a3, a4, a5, a6⟩ := x.cells)
  clear a0 a1 a2 a3 a4 a5 a6 x
  replace q := q.step (below_drew _)
  replace e := e.step (below_drew _)
  refine wp_region_held_drew (S := fun w' => (KQ w h A n c xs w' ∧ Pp w5.heap.size h (some ⟨g8, 0, none⟩) 8 (xs.take 8) w')) (by kernel_rfl) ⟨q, e⟩ (fun hHeld => ?_)
  clear hHeld
  change wpAnyH _ _ _ _ _ _ _ _ (World.drew _)
  generalize World.drew _ = U0 at *
  have hHeld := And.intro q e
  refine wpAnyH_at (i := 0) (some 73) (v := ?v0z49) rfl rfl (by kernel_rfl) (by kernel_rfl) (by kernel_rfl) (fun _ _ _ h => h) (Or.inl ⟨by rfl, ?y0z49⟩) (by assumption) ?r0z49
  case y0z49 =>
    intro w9 hSw
    clear hSw
    go_simp
    all_goals with_reducible rfl
  simp only [Act.put, List.setIfInBounds_toArray, List.set_cons_zero, List.set_cons_succ]
  refine wpAnyH_at (i := 1) (some 74) (v := ?v1z50) rfl rfl (by kernel_rfl) (by kernel_rfl) (by kernel_rfl) (fun _ _ _ h => h) (Or.inl ⟨by rfl, ?y1z50⟩) (by assumption) ?r1z50
  case y1z50 =>
    intro w9 hSw
    (obtain ⟨a0, a1, a2, a3, a4, a5, a6, a7⟩ := (show (KQ w h A n c xs w9 ∧ Pp w5.heap.size h (some ⟨g8, 0, none⟩) 8 (xs.take 8) w9) from hSw).2.p.cells); clear hSw
    go_simp
    all_goals with_reducible rfl
  simp only [Act.put, List.setIfInBounds_toArray, List.set_cons_zero, List.set_cons_succ]
  refine wpAnyH_at (i := 2) (some 75) (v := ?v2z51) rfl rfl (by kernel_rfl) (by kernel_rfl) (by kernel_rfl) (fun _ _ _ h => h) (Or.inl ⟨by rfl, ?y2z51⟩) (by assumption) ?r2z51
  case y2z51 =>
    intro w9 hSw
    clear hSw
    go_simp
    all_goals with_reducible rfl
  simp only [Act.put, List.setIfInBounds_toArray, List.set_cons_zero, List.set_cons_succ]
  refine wpAnyH_at (i := 3) (some 76) (v := ?v3z52) rfl rfl (by kernel_rfl) (by kernel_rfl) (by kernel_rfl) (fun _ _ _ h => h) (Or.inl ⟨by rfl, ?y3z52⟩) (by assumption) ?r3z52
  case y3z52 =>
    intro w9 hSw
    (obtain ⟨a0, a1, a2, a3, a4, a5, a6, a7⟩ := (show (KQ w h A n c xs w9 ∧ Pp w5.heap.size h (some ⟨g8, 0, none⟩) 8 (xs.take 8) w9) from hSw).1.p.cells); clear hSw
    go_simp
    all_goals with_reducible rfl
  simp only [Act.put, List.setIfInBounds_toArray, List.set_cons_zero, List.set_cons_succ]
  refine wpAnyH_at (i := 4) (some 77) (v := ?v4z53) rfl rfl (by kernel_rfl) (by kernel_rfl) (by kernel_rfl) (fun _ _ _ h => h) (Or.inl ⟨by rfl, ?y4z53⟩) (by assumption) ?r4z53
  case y4z53 =>
    intro w9 hSw
    clear hSw
    go_simp
    all_goals with_reducible rfl
  simp only [Act.put, List.setIfInBounds_toArray, List.set_cons_zero, List.set_cons_succ]
  refine wpAnyH_at (i := 5) (some 78) (v := ?v5z54) rfl rfl (by kernel_rfl) (by kernel_rfl) (by kernel_rfl) (fun _ _ _ h => h) (Or.inl ⟨by rfl, ?y5z54⟩) (by assumption) ?r5z54
  case y5z54 =>
    intro w9 hSw
    clear hSw
    go_simp
    all_goals with_reducible rfl
  simp only [Act.put, List.setIfInBounds_toArray, List.set_cons_zero, List.set_cons_succ]
  refine wpAnyH_at (i := 6) (some 79) (v := ?v6z55) rfl rfl (by kernel_rfl) (by kernel_rfl) (by kernel_rfl) (fun _ _ _ h => h) (Or.inl ⟨by rfl, ?y6z55⟩) (by assumption) ?r6z55
  case y6z55 =>
    intro w9 hSw
    clear hSw
    go_simp
    all_goals with_reducible rfl
  simp only [Act.put, List.setIfInBounds_toArray, List.set_cons_zero, List.set_cons_succ]
  refine wpAnyH_at (i := 7) (some 80) (v := ?v7z56) rfl rfl (by kernel_rfl) (by kernel_rfl) (by kernel_rfl) (fun _ _ _ h => h) (Or.inl ⟨by rfl, ?y7z56⟩) (by assumption) ?r7z56
  case y7z56 =>
    intro w9 hSw
    (obtain ⟨a0, a1, a2, a3, a4, a5, a6, a7⟩ := (show (KQ w h A n c xs w9 ∧ Pp w5.heap.size h (some ⟨g8, 0, none⟩) 8 (xs.take 8) w9) from hSw).2.p.cells); clear hSw
    go_simp
    all_goals with_reducible rfl
  simp only [Act.put, List.setIfInBounds_toArray, List.set_cons_zero, List.set_cons_succ]
  refine wpAnyH_at (i := 8) (some 81) (v := ?v8z57) rfl rfl (by kernel_rfl) (by kernel_rfl) (by kernel_rfl) (fun _ _ _ h => h) (Or.inl ⟨by rfl, ?y8z57⟩) (by assumption) ?r8z57
  case y8z57 =>
    intro w9 hSw
    clear hSw
    go_simp
    all_goals with_reducible rfl
  simp only [Act.put, List.setIfInBounds_toArray, List.set_cons_zero, List.set_cons_succ]
  refine wpAnyH_at (i := 9) (some 82) (v := ?v9z58) rfl rfl (by kernel_rfl) (by kernel_rfl) (by kernel_rfl) (fun _ _ _ h => h) (Or.inl ⟨by rfl, ?y9z58⟩) (by assumption) ?r9z58
  case y9z58 =>
    intro w9 hSw
    (obtain ⟨a0, a1, a2, a3, a4, a5, a6, a7⟩ := (show (KQ w h A n c xs w9 ∧ Pp w5.heap.size h (some ⟨g8, 0, none⟩) 8 (xs.take 8) w9) from hSw).1.p.cells); clear hSw
    go_simp
    all_goals with_reducible rfl
  simp only [Act.put, List.setIfInBounds_toArray, List.set_cons_zero, List.set_cons_succ]
  refine wpAnyH_at (i := 10) (some 83) (v := ?v10z59) rfl rfl (by kernel_rfl) (by kernel_rfl) (by kernel_rfl) (fun _ _ _ h => h) (Or.inl ⟨by rfl, ?y10z59⟩) (by assumption) ?r10z59
  case y10z59 =>
    intro w9 hSw
    clear hSw
    go_simp
    all_goals with_reducible rfl
  simp only [Act.put, List.setIfInBounds_toArray, List.set_cons_zero, List.set_cons_succ]
  refine wpAnyH_at (i := 11) (some 84) (v := ?v11z60) rfl rfl (by kernel_rfl) (by kernel_rfl) (by kernel_rfl) (fun _ _ _ h => h) (Or.inl ⟨by rfl, ?y11z60⟩) (by assumption) ?r11z60
  case y11z60 =>
    intro w9 hSw
    clear hSw
    go_simp
    all_goals with_reducible rfl
  simp only [Act.put, List.setIfInBounds_toArray, List.set_cons_zero, List.set_cons_succ]
  refine wpAnyH_at (i := 12) (some 85) (v := ?v12z61) rfl rfl (by kernel_rfl) (by kernel_rfl) (by kernel_rfl) (fun _ _ _ h => h) (Or.inl ⟨by rfl, ?y12z61⟩) (by assumption) ?r12z61
  case y12z61 =>
    intro w9 hSw
    clear hSw
    go_simp
    all_goals with_reducible rfl
  simp only [Act.put, List.setIfInBounds_toArray, List.set_cons_zero, List.set_cons_succ]
  refine wpAnyH_at (i := 13) (some 86) (v := ?v13z62) rfl rfl (by kernel_rfl) (by kernel_rfl) (by kernel_rfl) (fun _ _ _ h => h) (Or.inl ⟨by rfl, ?y13z62⟩) (by assumption) ?r13z62
  case y13z62 =>
    intro w9 hSw
    clear hSw
    go_simp
    all_goals with_reducible rfl
  simp only [Act.put, List.setIfInBounds_toArray, List.set_cons_zero, List.set_cons_succ]
  refine wpAnyH_at (i := 14) (some 87) (v := ?v14z63) rfl rfl (by kernel_rfl) (by kernel_rfl) (by kernel_rfl) (fun _ _ _ h => h) (Or.inl ⟨by rfl, ?y14z63⟩) (by assumption) ?r14z63
  case y14z63 =>
    intro w9 hSw
    (obtain ⟨a0, a1, a2, a3, a4, a5, a6, a7⟩ := (show (KQ w h A n c xs w9 ∧ Pp w5.heap.size h (some ⟨g8, 0, none⟩) 8 (xs.take 8) w9) from hSw).2.p.cells); clear hSw
    go_simp
    all_goals with_reducible rfl
  simp only [Act.put, List.setIfInBounds_toArray, List.set_cons_zero, List.set_cons_succ]
  refine wpAnyH_at (i := 15) (some 88) (v := ?v15z64) rfl rfl (by kernel_rfl) (by kernel_rfl) (by kernel_rfl) (fun _ _ _ h => h) (Or.inl ⟨by rfl, ?y15z64⟩) (by assumption) ?r15z64
  case y15z64 =>
    intro w9 hSw
    clear hSw
    go_simp
    all_goals with_reducible rfl
  simp only [Act.put, List.setIfInBounds_toArray, List.set_cons_zero, List.set_cons_succ]
  refine wpAnyH_at (i := 16) (some 89) (v := ?v16z65) rfl rfl (by kernel_rfl) (by kernel_rfl) (by kernel_rfl) (fun _ _ _ h => h) (Or.inl ⟨by rfl, ?y16z65⟩) (by assumption) ?r16z65
  case y16z65 =>
    intro w9 hSw
    (obtain ⟨a0, a1, a2, a3, a4, a5, a6, a7⟩ := (show (KQ w h A n c xs w9 ∧ Pp w5.heap.size h (some ⟨g8, 0, none⟩) 8 (xs.take 8) w9) from hSw).1.p.cells); clear hSw
    go_simp
    all_goals with_reducible rfl
  simp only [Act.put, List.setIfInBounds_toArray, List.set_cons_zero, List.set_cons_succ]
  refine wpAnyH_at (i := 17) (some 90) (v := ?v17z66) rfl rfl (by kernel_rfl) (by kernel_rfl) (by kernel_rfl) (fun _ _ _ h => h) (Or.inl ⟨by rfl, ?y17z66⟩) (by assumption) ?r17z66
  case y17z66 =>
    intro w9 hSw
    clear hSw
    go_simp
    all_goals with_reducible rfl
  simp only [Act.put, List.setIfInBounds_toArray, List.set_cons_zero, List.set_cons_succ]
  refine wpAnyH_at (i := 18) (some 91) (v := ?v18z67) rfl rfl (by kernel_rfl) (by kernel_rfl) (by kernel_rfl) (fun _ _ _ h => h) (Or.inl ⟨by rfl, ?y18z67⟩) (by assumption) ?r18z67
  case y18z67 =>
    intro w9 hSw
    clear hSw
    go_simp
    all_goals with_reducible rfl
  simp only [Act.put, List.setIfInBounds_toArray, List.set_cons_zero, List.set_cons_succ]
  refine wpAnyH_at (i := 19) (some 92) (v := ?v19z68) rfl rfl (by kernel_rfl) (by kernel_rfl) (by kernel_rfl) (fun _ _ _ h => h) (Or.inl ⟨by rfl, ?y19z68⟩) (by assumption) ?r19z68
  case y19z68 =>
    intro w9 hSw
    clear hSw
    go_simp
    all_goals with_reducible rfl
  simp only [Act.put, List.setIfInBounds_toArray, List.set_cons_zero, List.set_cons_succ]
  refine wpAnyH_at (i := 20) (some 93) (v := ?v20z69) rfl rfl (by kernel_rfl) (by kernel_rfl) (by kernel_rfl) (fun _ _ _ h => h) (Or.inl ⟨by rfl, ?y20z69⟩) (by assumption) ?r20z69
  case y20z69 =>
    intro w9 hSw
    clear hSw
    go_simp
    all_goals with_reducible rfl
  simp only [Act.put, List.setIfInBounds_toArray, List.set_cons_zero, List.set_cons_succ]
  refine wpAnyH_at (i := 21) (some 94) (v := ?v21z70) rfl rfl (by kernel_rfl) (by kernel_rfl) (by kernel_rfl) (fun _ _ _ h => h) (Or.inl ⟨by rfl, ?y21z70⟩) (by assumption) ?r21z70
  case y21z70 =>
    intro w9 hSw
    (obtain ⟨a0, a1, a2, a3, a4, a5, a6, a7⟩ := (show (KQ w h A n c xs w9 ∧ Pp w5.heap.size h (some ⟨g8, 0, none⟩) 8 (xs.take 8) w9) from hSw).2.p.cells); clear hSw
    go_simp
    all_goals with_reducible rfl
  simp only [Act.put, List.setIfInBounds_toArray, List.set_cons_zero, List.set_cons_succ]
  refine wpAnyH_at (i := 22) (some 95) (v := ?v22z71) rfl rfl (by kernel_rfl) (by kernel_rfl) (by kernel_rfl) (fun _ _ _ h => h) (Or.inl ⟨by rfl, ?y22z71⟩) (by assumption) ?r22z71
  case y22z71 =>
    intro w9 hSw
    clear hSw
    go_simp
    all_goals with_reducible rfl
  simp only [Act.put, List.setIfInBounds_toArray, List.set_cons_zero, List.set_cons_succ]
  refine wpAnyH_at (i := 23) (some 96) (v := ?v23z72) rfl rfl (by kernel_rfl) (by kernel_rfl) (by kernel_rfl) (fun _ _ _ h => h) (Or.inl ⟨by rfl, ?y23z72⟩) (by assumption) ?r23z72
  case y23z72 =>
    intro w9 hSw
    (obtain ⟨a0, a1, a2, a3, a4, a5, a6, a7⟩ := (show (KQ w h A n c xs w9 ∧ Pp w5.heap.size h (some ⟨g8, 0, none⟩) 8 (xs.take 8) w9) from hSw).1.p.cells); clear hSw
    go_simp
    all_goals with_reducible rfl
  simp only [Act.put, List.setIfInBounds_toArray, List.set_cons_zero, List.set_cons_succ]
  refine wpAnyH_at (i := 24) (some 97) (v := ?v24z73) rfl rfl (by kernel_rfl) (by kernel_rfl) (by kernel_rfl) (fun _ _ _ h => h) (Or.inl ⟨by rfl, ?y24z73⟩) (by assumption) ?r24z73
  case y24z73 =>
    intro w9 hSw
    clear hSw
    go_simp
    all_goals with_reducible rfl
  simp only [Act.put, List.setIfInBounds_toArray, List.set_cons_zero, List.set_cons_succ]
  refine wpAnyH_at (i := 25) (some 98) (v := ?v25z74) rfl rfl (by kernel_rfl) (by kernel_rfl) (by kernel_rfl) (fun _ _ _ h => h) (Or.inl ⟨by rfl, ?y25z74⟩) (by assumption) ?r25z74
  case y25z74 =>
    intro w9 hSw
    clear hSw
    go_simp
    all_goals with_reducible rfl
  simp only [Act.put, List.setIfInBounds_toArray, List.set_cons_zero, List.set_cons_succ]
  refine wpAnyH_at (i := 26) (some 99) (v := ?v26z75) rfl rfl (by kernel_rfl) (by kernel_rfl) (by kernel_rfl) (fun _ _ _ h => h) (Or.inl ⟨by rfl, ?y26z75⟩) (by assumption) ?r26z75
  case y26z75 =>
    intro w9 hSw
    clear hSw
    go_simp
    all_goals with_reducible rfl
  simp only [Act.put, List.setIfInBounds_toArray, List.set_cons_zero, List.set_cons_succ]
  refine wpAnyH_at (i := 27) (some 100) (v := ?v27z76) rfl rfl (by kernel_rfl) (by kernel_rfl) (by kernel_rfl) (fun _ _ _ h => h) (Or.inl ⟨by rfl, ?y27z76⟩) (by assumption) ?r27z76
  case y27z76 =>
    intro w9 hSw
    clear hSw
    go_simp
    all_goals with_reducible rfl
  simp only [Act.put, List.setIfInBounds_toArray, List.set_cons_zero, List.set_cons_succ]
  refine wpAnyH_at (i := 28) (some 101) (v := ?v28z77) rfl rfl (by kernel_rfl) (by kernel_rfl) (by kernel_rfl) (fun _ _ _ h => h) (Or.inl ⟨by rfl, ?y28z77⟩) (by assumption) ?r28z77
  case y28z77 =>
    intro w9 hSw
    (obtain ⟨a0, a1, a2, a3, a4, a5, a6, a7⟩ := (show (KQ w h A n c xs w9 ∧ Pp w5.heap.size h (some ⟨g8, 0, none⟩) 8 (xs.take 8) w9) from hSw).2.p.cells); clear hSw
    go_simp
    all_goals with_reducible rfl
  simp only [Act.put, List.setIfInBounds_toArray, List.set_cons_zero, List.set_cons_succ]
  refine wpAnyH_at (i := 29) (some 102) (v := ?v29z78) rfl rfl (by kernel_rfl) (by kernel_rfl) (by kernel_rfl) (fun _ _ _ h => h) (Or.inl ⟨by rfl, ?y29z78⟩) (by assumption) ?r29z78
  case y29z78 =>
    intro w9 hSw
    clear hSw
    go_simp
    all_goals with_reducible rfl
  simp only [Act.put, List.setIfInBounds_toArray, List.set_cons_zero, List.set_cons_succ]
  refine wpAnyH_at (i := 30) (some 103) (v := ?v30z79) rfl rfl (by kernel_rfl) (by kernel_rfl) (by kernel_rfl) (fun _ _ _ h => h) (Or.inl ⟨by rfl, ?y30z79⟩) (by assumption) ?r30z79
  case y30z79 =>
    intro w9 hSw
    (obtain ⟨a0, a1, a2, a3, a4, a5, a6, a7⟩ := (show (KQ w h A n c xs w9 ∧ Pp w5.heap.size h (some ⟨g8, 0, none⟩) 8 (xs.take 8) w9) from hSw).1.p.cells); clear hSw
    go_simp
    all_goals with_reducible rfl
  simp only [Act.put, List.setIfInBounds_toArray, List.set_cons_zero, List.set_cons_succ]
  refine wpAnyH_at (i := 31) (some 104) (v := ?v31z80) rfl rfl (by kernel_rfl) (by kernel_rfl) (by kernel_rfl) (fun _ _ _ h => h) (Or.inl ⟨by rfl, ?y31z80⟩) (by assumption) ?r31z80
  case y31z80 =>
    intro w9 hSw
    clear hSw
    go_simp
    all_goals with_reducible rfl
  simp only [Act.put, List.setIfInBounds_toArray, List.set_cons_zero, List.set_cons_succ]
  refine wpAnyH_at (i := 32) (some 105) (v := ?v32z81) rfl rfl (by kernel_rfl) (by kernel_rfl) (by kernel_rfl) (fun _ _ _ h => h) (Or.inl ⟨by rfl, ?y32z81⟩) (by assumption) ?r32z81
  case y32z81 =>
    intro w9 hSw
    clear hSw
    go_simp
    all_goals with_reducible rfl
  simp only [Act.put, List.setIfInBounds_toArray, List.set_cons_zero, List.set_cons_succ]
  refine wpAnyH_at (i := 33) (some 106) (v := ?v33z82) rfl rfl (by kernel_rfl) (by kernel_rfl) (by kernel_rfl) (fun _ _ _ h => h) (Or.inl ⟨by rfl, ?y33z82⟩) (by assumption) ?r33z82
  case y33z82 =>
    intro w9 hSw
    clear hSw
    go_simp
    all_goals with_reducible rfl
  simp only [Act.put, List.setIfInBounds_toArray, List.set_cons_zero, List.set_cons_succ]
  refine wpAnyH_at (i := 34) (some 107) (v := ?v34z83) rfl rfl (by kernel_rfl) (by kernel_rfl) (by kernel_rfl) (fun _ _ _ h => h) (Or.inl ⟨by rfl, ?y34z83⟩) (by assumption) ?r34z83
  case y34z83 =>
    intro w9 hSw
    clear hSw
    go_simp
    all_goals with_reducible rfl
  simp only [Act.put, List.setIfInBounds_toArray, List.set_cons_zero, List.set_cons_succ]
  refine wpAnyH_at (i := 35) (some 108) (v := ?v35z84) rfl rfl (by kernel_rfl) (by kernel_rfl) (by kernel_rfl) (fun _ _ _ h => h) (Or.inl ⟨by rfl, ?y35z84⟩) (by assumption) ?r35z84
  case y35z84 =>
    intro w9 hSw
    (obtain ⟨a0, a1, a2, a3, a4, a5, a6, a7⟩ := (show (KQ w h A n c xs w9 ∧ Pp w5.heap.size h (some ⟨g8, 0, none⟩) 8 (xs.take 8) w9) from hSw).2.p.cells); clear hSw
    go_simp
    all_goals with_reducible rfl
  simp only [Act.put, List.setIfInBounds_toArray, List.set_cons_zero, List.set_cons_succ]
  refine wpAnyH_at (i := 36) (some 109) (v := ?v36z85) rfl rfl (by kernel_rfl) (by kernel_rfl) (by kernel_rfl) (fun _ _ _ h => h) (Or.inl ⟨by rfl, ?y36z85⟩) (by assumption) ?r36z85
  case y36z85 =>
    intro w9 hSw
    clear hSw
    go_simp
    all_goals with_reducible rfl
  simp only [Act.put, List.setIfInBounds_toArray, List.set_cons_zero, List.set_cons_succ]
  refine wpAnyH_at (i := 37) (some 110) (v := ?v37z86) rfl rfl (by kernel_rfl) (by kernel_rfl) (by kernel_rfl) (fun _ _ _ h => h) (Or.inl ⟨by rfl, ?y37z86⟩) (by assumption) ?r37z86
  case y37z86 =>
    intro w9 hSw
    (obtain ⟨a0, a1, a2, a3, a4, a5, a6, a7⟩ := (show (KQ w h A n c xs w9 ∧ Pp w5.heap.size h (some ⟨g8, 0, none⟩) 8 (xs.take 8) w9) from hSw).1.p.cells); clear hSw
    go_simp
    all_goals with_reducible rfl
  simp only [Act.put, List.setIfInBounds_toArray, List.set_cons_zero, List.set_cons_succ]
  refine wpAnyH_at (i := 38) (some 111) (v := ?v38z87) rfl rfl (by kernel_rfl) (by kernel_rfl) (by kernel_rfl) (fun _ _ _ h => h) (Or.inl ⟨by rfl, ?y38z87⟩) (by assumption) ?r38z87
  case y38z87 =>
    intro w9 hSw
    clear hSw
    go_simp
    all_goals with_reducible rfl
  simp only [Act.put, List.setIfInBounds_toArray, List.set_cons_zero, List.set_cons_succ]
  refine wpAnyH_at (i := 39) (some 112) (v := ?v39z88) rfl rfl (by kernel_rfl) (by kernel_rfl) (by kernel_rfl) (fun _ _ _ h => h) (Or.inl ⟨by rfl, ?y39z88⟩) (by assumption) ?r39z88
  case y39z88 =>
    intro w9 hSw
    clear hSw
    go_simp
    all_goals with_reducible rfl
  simp only [Act.put, List.setIfInBounds_toArray, List.set_cons_zero, List.set_cons_succ]
  refine wpAnyH_at (i := 40) (some 113) (v := ?v40z89) rfl rfl (by kernel_rfl) (by kernel_rfl) (by kernel_rfl) (fun _ _ _ h => h) (Or.inl ⟨by rfl, ?y40z89⟩) (by assumption) ?r40z89
  case y40z89 =>
    intro w9 hSw
    clear hSw
    go_simp
    all_goals with_reducible rfl
  simp only [Act.put, List.setIfInBounds_toArray, List.set_cons_zero, List.set_cons_succ]
  refine wpAnyH_at (i := 41) (some 114) (v := ?v41z90) rfl rfl (by kernel_rfl) (by kernel_rfl) (by kernel_rfl) (fun _ _ _ h => h) (Or.inl ⟨by rfl, ?y41z90⟩) (by assumption) ?r41z90
  case y41z90 =>
    intro w9 hSw
    clear hSw
    go_simp
    all_goals with_reducible rfl
  simp only [Act.put, List.setIfInBounds_toArray, List.set_cons_zero, List.set_cons_succ]
  refine wpAnyH_at (i := 42) (some 115) (v := ?v42z91) rfl rfl (by kernel_rfl) (by kernel_rfl) (by kernel_rfl) (fun _ _ _ h => h) (Or.inl ⟨by rfl, ?y42z91⟩) (by assumption) ?r42z91
  case y42z91 =>
    intro w9 hSw
    (obtain ⟨a0, a1, a2, a3, a4, a5, a6, a7⟩ := (show (KQ w h A n c xs w9 ∧ Pp w5.heap.size h (some ⟨g8, 0, none⟩) 8 (xs.take 8) w9) from hSw).2.p.cells); clear hSw
    go_simp
    all_goals with_reducible rfl
  simp only [Act.put, List.setIfInBounds_toArray, List.set_cons_zero, List.set_cons_succ]
  refine wpAnyH_at (i := 43) (some 116) (v := ?v43z92) rfl rfl (by kernel_rfl) (by kernel_rfl) (by kernel_rfl) (fun _ _ _ h => h) (Or.inl ⟨by rfl, ?y43z92⟩) (by assumption) ?r43z92
  case y43z92 =>
    intro w9 hSw
    clear hSw
    go_simp
    all_goals with_reducible rfl
  simp only [Act.put, List.setIfInBounds_toArray, List.set_cons_zero, List.set_cons_succ]
  refine wpAnyH_at (i := 44) (some 117) (v := ?v44z93) rfl rfl (by kernel_rfl) (by kernel_rfl) (by kernel_rfl) (fun _ _ _ h => h) (Or.inl ⟨by rfl, ?y44z93⟩) (by assumption) ?r44z93
  case y44z93 =>
    intro w9 hSw
    (obtain ⟨a0, a1, a2, a3, a4, a5, a6, a7⟩ := (show (KQ w h A n c xs w9 ∧ Pp w5.heap.size h (some ⟨g8, 0, none⟩) 8 (xs.take 8) w9) from hSw).1.p.cells); clear hSw
    go_simp
    all_goals with_reducible rfl
  simp only [Act.put, List.setIfInBounds_toArray, List.set_cons_zero, List.set_cons_succ]
  refine wpAnyH_at (i := 45) (some 118) (v := ?v45z94) rfl rfl (by kernel_rfl) (by kernel_rfl) (by kernel_rfl) (fun _ _ _ h => h) (Or.inl ⟨by rfl, ?y45z94⟩) (by assumption) ?r45z94
  case y45z94 =>
    intro w9 hSw
    clear hSw
    go_simp
    all_goals with_reducible rfl
  simp only [Act.put, List.setIfInBounds_toArray, List.set_cons_zero, List.set_cons_succ]
  refine wpAnyH_one (i := 46) (by kernel_rfl) rfl ?_
  have s := same_any _ _ _ _ _ _ (xs.take 8) _ _ U0 e.r (R8.out _ q.rd)
  go_wp2_with (go_at_call 15; refine (s).mono ?_; rintro ev U1 ⟨rfl, hb⟩)
  replace q := q.step hb
  replace e := e.step hb
  clear hb hHeld s
  have hHeld := And.intro q e
  refine ⟨hHeld, ?_⟩
  try simp only [Act.put, List.setIfInBounds_toArray, List.set_cons_zero, List.set_cons_succ]
  refine wpAnyH_at (i := 47) (some 120) (v := ?v47z95) rfl rfl (by kernel_rfl) (by kernel_rfl) (by kernel_rfl) (fun _ _ _ h => h) (Or.inl ⟨by rfl, ?y47z95⟩) (by assumption) ?r47z95
  case y47z95 =>
    intro w9 hSw
    clear hSw
    go_simp
    all_goals with_reducible rfl
  simp only [Act.put, List.setIfInBounds_toArray, List.set_cons_zero, List.set_cons_succ]
  refine wpAnyH_at (i := 48) (some 6) (v := ?v48z96) rfl rfl (by kernel_rfl) (by kernel_rfl) (by kernel_rfl) (fun _ _ _ h => h) (Or.inl ⟨by rfl, ?y48z96⟩) (by assumption) ?r48z96
  case y48z96 =>
    intro w9 hSw
    clear hSw
    go_simp
    all_goals with_reducible rfl
  simp only [Act.put, List.setIfInBounds_toArray, List.set_cons_zero, List.set_cons_succ]
  refine wpAnyH_done (by kernel_rfl) ?_ _
  go_wp2
  go_ret
  exact ⟨rfl, q.kn.below⟩
theorem errors_law (late : Bool) (cd : Int) (h : Hd) (A : Option Addr) (n c : Nat) (xs : List Int) (w : World) (hg : Laid w) (hk : h.ok) (hcd : 0 ≤ cd ∧ cd ≤ 255) (hr : Rd .u8 w w.heap.size A n c xs) : Calls Tryd.prog 6 #[.bool late, .int .u8 cd, pkV h A n c] w fun e w' => e = .returned (.bool true) ∧ Below w.heap.size w w' := by
  have hc := hr.cap
  cases late
  · by_cases h8 : n < 8
    · exact errors_short_false cd h A n c xs w hg hk hcd hr h8
    · by_cases hn : 3000 < n
      · exact errors_far_false cd h A n c xs w hg hk hcd hr hn
      · exact errors_near_false cd h A n c xs w hg hk hcd hr (by omega) (by omega)
  · by_cases h8 : n < 8
    · exact errors_short_true cd h A n c xs w hg hk hcd hr h8
    · by_cases hn : 3000 < n
      · exact errors_far_true cd h A n c xs w hg hk hcd hr hn
      · exact errors_near_true cd h A n c xs w hg hk hcd hr (by omega) (by omega)
theorem errors_card (late : Bool) (cd : Int) (h : Hd) (A : Option Addr) (n c : Nat) (xs : List Int) (w : World) (hg : Laid w) (hcd : 0 ≤ cd ∧ cd ≤ 255) (hk : h.ok) (hr : Rd .u8 w w.heap.size A n c xs) : Calls Tryd.prog 6 #[.bool late, .int .u8 cd, pkV h A n c] w fun e w' => e = .returned (.bool true) ∧ Below w.heap.size w w' := by exact errors_law late cd h A n c xs w hg hk hcd hr
end Go.Proofs.YtbefoapnlehdmaaDoor
