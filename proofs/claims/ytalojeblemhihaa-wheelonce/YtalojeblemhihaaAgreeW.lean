/-
  The contract of the laws' agree: both wheels tell the same.
-/
import Derived.Test.YtalojeblemhihaaDo
namespace Go.Proofs.Ytalojeblemhihaa
open Go.RowKit
set_option linter.unusedVariables false

section
variable {w : World} {lo hi p base q now : Nat} {R : List Tm}
theorem dN (w : World) (m : Nat) : Below w.heap.size w (w.drewN m) := below_drewN (Below.refl _ _) m
set_option maxRecDepth 100000 in
set_option maxHeartbeats 4000000 in
theorem agree_any (h : Two w lo hi p base q now R) : Calls Try.prog 12 #[ptr p, ptr q] w fun e w' => e = .returned (.bool true) ∧ Below w.heap.size w w' := by
  have N := wnext h.pw
  cases R with
  | nil =>
    go_enter Try.func12, Try.ntmps12
    go_wp2_with fail
    refine N.mono ?_
    rintro ev w1 ⟨rfl, b1⟩
    have h1 := h.new b1
    obtain ⟨A, n, c, hr⟩ := h1.rr
    have q0 := hr.c0
    have q1 := hr.c1
    obtain rfl : n = 0 := by have := hr.rows.len; simpa using this.symm
    have C1 : ∀ m, Calls Try.prog 23 #[ptr p] (w1.drewN m) fun e w' => e = .returned (.int .u64 now) ∧ w' = w1.drewN m := fun m => wnow (h1.pw.new (dN w1 m))
    have C2 : ∀ m, Calls Try.prog 20 #[ptr p] (w1.drewN m) fun e w' => e = .returned (.int .i64 0) ∧ w' = w1.drewN m := fun m => wlen (h1.pw.new (dN w1 m))
    have nx : nextT [] = 0 := rfl
    clear N hr h
    go_wp2
    go_quiet (first | (go_at_call 23; exact Calls.quiet_of_same (C1 _)) | (go_at_call 20; exact Calls.quiet_of_same (C2 _)))
    clear C1 C2
    go_wp2
    refine wp_loop_rounds 1 ?_
    rw [rounds_succ]
    go_wp2
    go_ret
    exact ⟨rfl, b1.trans ((dN w1 _).mono b1.size)⟩
  | cons x R => 
    obtain ⟨a, b⟩ := x
    go_enter Try.func12, Try.ntmps12
    go_wp2_with fail
    refine N.mono ?_
    rintro ev w1 ⟨rfl, b1⟩
    have h1 := h.new b1
    obtain ⟨A, n, c, hr⟩ := h1.rr
    have q0 := hr.c0
    have q1 := hr.c1
    have hn := hr.rows.len
    have hn0 : 0 < n := by rw [← hn]; simp
    have hn0i : (0 : Int) < (n : Int) := by omega
    have hn1 : n ≤ 16384 := by rw [← hn]; exact hr.len
    obtain ⟨x, rfl, hxb, hxl, x0, x1⟩ := hr.rows.at0 hn0
    replace x0 : w1.cell? ⟨x, 0, none⟩ = some (.int .i64 a) := by simpa using x0
    replace x1 : w1.cell? ⟨x, 1, none⟩ = some (.int .u64 (b : Nat)) := by simpa using x1
    have C1 : ∀ m, Calls Try.prog 23 #[ptr p] (w1.drewN m) fun e w' => e = .returned (.int .u64 now) ∧ w' = w1.drewN m := fun m => wnow (h1.pw.new (dN w1 m))
    have C2 : ∀ m, Calls Try.prog 20 #[ptr p] (w1.drewN m) fun e w' => e = .returned (.int .i64 n) ∧ w' = w1.drewN m := fun m => by have := wlen (h1.pw.new (dN w1 m)); rw [hn] at this; exact this
    have nx : nextT ((a, b) :: R) = b := rfl
    have nx2 : ((a, b) :: R).isEmpty = false := rfl
    generalize hRR : (a, b) :: R = RR at *
    clear N hr h hRR
    go_wp2
    refine wp_region_held_drew (S := fun W => ∃ m, W = w1.drewN m) (by kernel_rfl) ⟨1, rfl⟩ (fun hHeld => ?_)
    have hd : World.drew w1 = w1.drewN 1 := rfl
    have D1 := C1 1
    have D2 := C2 1
    rw [← hd] at D1 D2
    clear hd
    change wpAnyH _ _ _ _ _ _ _ _ (World.drew _)
    generalize hW : World.drew w1 = W0 at *
    refine wpAnyH_at (i := 0) (some 15) (v := ?v0z1) rfl rfl (by kernel_rfl) (by kernel_rfl) (by kernel_rfl) (fun _ _ _ h => h) (Or.inl ⟨by rfl, ?y0z1⟩) (by assumption) ?r0z1
    case y0z1 =>
      intro w9 hSw
      obtain ⟨m, rfl⟩ := hSw
      go_simp
      all_goals with_reducible rfl
    simp only [Act.put, List.setIfInBounds_toArray, List.set_cons_zero, List.set_cons_succ]
    refine wpAnyH_at (i := 1) (some 16) (v := ?v1z2) rfl rfl (by kernel_rfl) (by kernel_rfl) (by kernel_rfl) (fun _ _ _ h => h) (Or.inl ⟨by rfl, ?y1z2⟩) (by assumption) ?r1z2
    case y1z2 =>
      intro w9 hSw
      obtain ⟨m, rfl⟩ := hSw
      go_simp
      all_goals with_reducible rfl
    simp only [Act.put, List.setIfInBounds_toArray, List.set_cons_zero, List.set_cons_succ]
    refine wpAnyH_at (i := 2) (some 17) (v := ?v2z3) rfl rfl (by kernel_rfl) (by kernel_rfl) (by kernel_rfl) (fun _ _ _ h => h) (Or.inl ⟨by rfl, ?y2z3⟩) (by assumption) ?r2z3
    case y2z3 =>
      intro w9 hSw
      obtain ⟨m, rfl⟩ := hSw
      go_simp
      all_goals with_reducible rfl
    simp only [Act.put, List.setIfInBounds_toArray, List.set_cons_zero, List.set_cons_succ]
    refine wpAnyH_at (i := 3) (some 18) (v := ?v3z4) rfl rfl (by kernel_rfl) (by kernel_rfl) (by kernel_rfl) (fun _ _ _ h => h) (Or.inl ⟨by rfl, ?y3z4⟩) (by assumption) ?r3z4
    case y3z4 =>
      intro w9 hSw
      obtain ⟨m, rfl⟩ := hSw
      go_simp
      all_goals with_reducible rfl
    simp only [Act.put, List.setIfInBounds_toArray, List.set_cons_zero, List.set_cons_succ]
    refine wpAnyH_at (i := 4) (some 19) (v := ?v4z5) rfl rfl (by kernel_rfl) (by kernel_rfl) (by kernel_rfl) (fun _ _ _ h => h) (Or.inl ⟨by rfl, ?y4z5⟩) (by assumption) ?r4z5
    case y4z5 =>
      intro w9 hSw
      obtain ⟨m, rfl⟩ := hSw
      go_simp
      all_goals with_reducible rfl
    simp only [Act.put, List.setIfInBounds_toArray, List.set_cons_zero, List.set_cons_succ]
    refine wpAnyH_at (i := 5) (some 20) (v := ?v5z6) rfl rfl (by kernel_rfl) (by kernel_rfl) (by kernel_rfl) (fun _ _ _ h => h) (Or.inl ⟨by rfl, ?y5z6⟩) (by assumption) ?r5z6
    case y5z6 =>
      intro w9 hSw
      obtain ⟨m, rfl⟩ := hSw
      go_simp
      all_goals with_reducible rfl
    simp only [Act.put, List.setIfInBounds_toArray, List.set_cons_zero, List.set_cons_succ]
    refine wpAnyH_at (i := 6) (some 21) (v := ?v6z7) rfl rfl (by kernel_rfl) (by kernel_rfl) (by kernel_rfl) (fun _ _ _ h => h) (Or.inl ⟨by rfl, ?y6z7⟩) (by assumption) ?r6z7
    case y6z7 =>
      intro w9 hSw
      obtain ⟨m, rfl⟩ := hSw
      go_simp
      all_goals with_reducible rfl
    simp only [Act.put, List.setIfInBounds_toArray, List.set_cons_zero, List.set_cons_succ]
    refine wpAnyH_at (i := 7) (some 22) (v := ?v7z8) rfl rfl (by kernel_rfl) (by kernel_rfl) (by kernel_rfl) (fun _ _ _ h => h) (Or.inl ⟨by rfl, ?y7z8⟩) (by assumption) ?r7z8
    case y7z8 =>
      intro w9 hSw
      obtain ⟨m, rfl⟩ := hSw
      go_simp
      all_goals with_reducible rfl
    simp only [Act.put, List.setIfInBounds_toArray, List.set_cons_zero, List.set_cons_succ]
    refine wpAnyH_at (i := 8) (some 23) (v := ?v8z9) rfl rfl (by kernel_rfl) (by kernel_rfl) (by kernel_rfl) (fun _ _ _ h => h) (Or.inl ⟨by rfl, ?y8z9⟩) (by assumption) ?r8z9
    case y8z9 =>
      intro w9 hSw
      obtain ⟨m, rfl⟩ := hSw
      go_simp
      all_goals with_reducible rfl
    simp only [Act.put, List.setIfInBounds_toArray, List.set_cons_zero, List.set_cons_succ]
    refine wpAnyH_at (i := 9) (some 24) (v := ?v9z10) rfl rfl (by kernel_rfl) (by kernel_rfl) (by kernel_rfl) (fun _ _ _ h => h) (Or.inl ⟨by rfl, ?y9z10⟩) (by assumption) ?r9z10
    case y9z10 =>
      intro w9 hSw
      obtain ⟨m, rfl⟩ := hSw
      go_simp
      all_goals with_reducible rfl
    simp only [Act.put, List.setIfInBounds_toArray, List.set_cons_zero, List.set_cons_succ]
    refine wpAnyH_at (i := 10) (some 25) (v := ?v10z11) rfl rfl (by kernel_rfl) (by kernel_rfl) (by kernel_rfl) (fun _ _ _ h => h) (Or.inl ⟨by rfl, ?y10z11⟩) (by assumption) ?r10z11
    case y10z11 =>
      intro w9 hSw
      obtain ⟨m, rfl⟩ := hSw
      go_simp
      all_goals with_reducible rfl
    simp only [Act.put, List.setIfInBounds_toArray, List.set_cons_zero, List.set_cons_succ]
    refine wpAnyH_at (i := 11) (some 26) (v := ?v11z12) rfl rfl (by kernel_rfl) (by kernel_rfl) (by kernel_rfl) (fun _ _ _ h => h) (Or.inl ⟨by rfl, ?y11z12⟩) (by assumption) ?r11z12
    case y11z12 =>
      intro w9 hSw
      obtain ⟨m, rfl⟩ := hSw
      go_simp
      all_goals with_reducible rfl
    simp only [Act.put, List.setIfInBounds_toArray, List.set_cons_zero, List.set_cons_succ]
    refine wpAnyH_at (i := 12) (some 27) (v := ?v12z13) rfl rfl (by kernel_rfl) (by kernel_rfl) (by kernel_rfl) (fun _ _ _ h => h) (Or.inl ⟨by rfl, ?y12z13⟩) (by assumption) ?r12z13
    case y12z13 =>
      intro w9 hSw
      obtain ⟨m, rfl⟩ := hSw
      go_simp
      all_goals with_reducible rfl
    simp only [Act.put, List.setIfInBounds_toArray, List.set_cons_zero, List.set_cons_succ]
    refine wpAnyH_at (i := 13) (some 28) (v := ?v13z14) rfl rfl (by kernel_rfl) (by kernel_rfl) (by kernel_rfl) (fun _ _ _ h => h) (Or.inl ⟨by rfl, ?y13z14⟩) (by assumption) ?r13z14
    case y13z14 =>
      intro w9 hSw
      obtain ⟨m, rfl⟩ := hSw
      go_simp
      all_goals with_reducible rfl
    simp only [Act.put, List.setIfInBounds_toArray, List.set_cons_zero, List.set_cons_succ]
    refine wpAnyH_at (i := 14) (some 29) (v := ?v14z15) rfl rfl (by kernel_rfl) (by kernel_rfl) (by kernel_rfl) (fun _ _ _ h => h) (Or.inl ⟨by rfl, ?y14z15⟩) (by assumption) ?r14z15
    case y14z15 =>
      intro w9 hSw
      obtain ⟨m, rfl⟩ := hSw
      go_simp
      all_goals with_reducible rfl
    simp only [Act.put, List.setIfInBounds_toArray, List.set_cons_zero, List.set_cons_succ]
    refine wpAnyH_at (i := 15) (some 30) (v := ?v15z16) rfl rfl (by kernel_rfl) (by kernel_rfl) (by kernel_rfl) (fun _ _ _ h => h) (Or.inl ⟨by rfl, ?y15z16⟩) (by assumption) ?r15z16
    case y15z16 =>
      intro w9 hSw
      obtain ⟨m, rfl⟩ := hSw
      go_simp
      all_goals with_reducible rfl
    simp only [Act.put, List.setIfInBounds_toArray, List.set_cons_zero, List.set_cons_succ]
    refine wpAnyH_at (i := 16) (some 31) (v := ?v16z17) rfl rfl (by kernel_rfl) (by kernel_rfl) (by kernel_rfl) (fun _ _ _ h => h) (Or.inl ⟨by rfl, ?y16z17⟩) (by assumption) ?r16z17
    case y16z17 =>
      intro w9 hSw
      obtain ⟨m, rfl⟩ := hSw
      go_simp
      all_goals with_reducible rfl
    simp only [Act.put, List.setIfInBounds_toArray, List.set_cons_zero, List.set_cons_succ]
    refine wpAnyH_at (i := 17) (some 32) (v := ?v17z18) rfl rfl (by kernel_rfl) (by kernel_rfl) (by kernel_rfl) (fun _ _ _ h => h) (Or.inl ⟨by rfl, ?y17z18⟩) (by assumption) ?r17z18
    case y17z18 =>
      intro w9 hSw
      obtain ⟨m, rfl⟩ := hSw
      go_simp
      all_goals with_reducible rfl
    simp only [Act.put, List.setIfInBounds_toArray, List.set_cons_zero, List.set_cons_succ]
    refine wpAnyH_at (i := 18) (some 33) (v := ?v18z19) rfl rfl (by kernel_rfl) (by kernel_rfl) (by kernel_rfl) (fun _ _ _ h => h) (Or.inl ⟨by rfl, ?y18z19⟩) (by assumption) ?r18z19
    case y18z19 =>
      intro w9 hSw
      obtain ⟨m, rfl⟩ := hSw
      go_simp
      all_goals with_reducible rfl
    simp only [Act.put, List.setIfInBounds_toArray, List.set_cons_zero, List.set_cons_succ]
    refine wpAnyH_at (i := 19) (some 34) (v := ?v19z20) rfl rfl (by kernel_rfl) (by kernel_rfl) (by kernel_rfl) (fun _ _ _ h => h) (Or.inl ⟨by rfl, ?y19z20⟩) (by assumption) ?r19z20
    case y19z20 =>
      intro w9 hSw
      obtain ⟨m, rfl⟩ := hSw
      go_simp
      all_goals with_reducible rfl
    simp only [Act.put, List.setIfInBounds_toArray, List.set_cons_zero, List.set_cons_succ]
    refine wpAnyH_at (i := 20) (some 35) (v := ?v20z21) rfl rfl (by kernel_rfl) (by kernel_rfl) (by kernel_rfl) (fun _ _ _ h => h) (Or.inl ⟨by rfl, ?y20z21⟩) (by assumption) ?r20z21
    case y20z21 =>
      intro w9 hSw
      obtain ⟨m, rfl⟩ := hSw
      go_simp
      all_goals with_reducible rfl
    simp only [Act.put, List.setIfInBounds_toArray, List.set_cons_zero, List.set_cons_succ]
    refine wpAnyH_at (i := 21) (some 36) (v := ?v21z22) rfl rfl (by kernel_rfl) (by kernel_rfl) (by kernel_rfl) (fun _ _ _ h => h) (Or.inl ⟨by rfl, ?y21z22⟩) (by assumption) ?r21z22
    case y21z22 =>
      intro w9 hSw
      obtain ⟨m, rfl⟩ := hSw
      go_simp
      all_goals with_reducible rfl
    simp only [Act.put, List.setIfInBounds_toArray, List.set_cons_zero, List.set_cons_succ]
    refine wpAnyH_at (i := 22) (some 37) (v := ?v22z23) rfl rfl (by kernel_rfl) (by kernel_rfl) (by kernel_rfl) (fun _ _ _ h => h) (Or.inl ⟨by rfl, ?y22z23⟩) (by assumption) ?r22z23
    case y22z23 =>
      intro w9 hSw
      obtain ⟨m, rfl⟩ := hSw
      go_simp
      all_goals with_reducible rfl
    simp only [Act.put, List.setIfInBounds_toArray, List.set_cons_zero, List.set_cons_succ]
    refine wpAnyH_at (i := 23) (some 38) (v := ?v23z24) rfl rfl (by kernel_rfl) (by kernel_rfl) (by kernel_rfl) (fun _ _ _ h => h) (Or.inl ⟨by rfl, ?y23z24⟩) (by assumption) ?r23z24
    case y23z24 =>
      intro w9 hSw
      obtain ⟨m, rfl⟩ := hSw
      go_simp
      all_goals with_reducible rfl
    simp only [Act.put, List.setIfInBounds_toArray, List.set_cons_zero, List.set_cons_succ]
    refine wpAnyH_at (i := 24) (some 39) (v := ?v24z25) rfl rfl (by kernel_rfl) (by kernel_rfl) (by kernel_rfl) (fun _ _ _ h => h) (Or.inl ⟨by rfl, ?y24z25⟩) (by assumption) ?r24z25
    case y24z25 =>
      intro w9 hSw
      obtain ⟨m, rfl⟩ := hSw
      go_simp
      all_goals with_reducible rfl
    simp only [Act.put, List.setIfInBounds_toArray, List.set_cons_zero, List.set_cons_succ]
    refine wpAnyH_at (i := 25) (some 40) (v := ?v25z26) rfl rfl (by kernel_rfl) (by kernel_rfl) (by kernel_rfl) (fun _ _ _ h => h) (Or.inl ⟨by rfl, ?y25z26⟩) (by assumption) ?r25z26
    case y25z26 =>
      intro w9 hSw
      obtain ⟨m, rfl⟩ := hSw
      go_simp
      all_goals with_reducible rfl
    simp only [Act.put, List.setIfInBounds_toArray, List.set_cons_zero, List.set_cons_succ]
    refine wpAnyH_at (i := 26) (some 41) (v := undef) rfl rfl (by kernel_rfl) (by kernel_rfl) (by kernel_rfl) (fun _ _ _ h => h) (Or.inr ⟨by rfl, rfl⟩) (by assumption) ?_
    simp only [Act.put, List.setIfInBounds_toArray, List.set_cons_zero, List.set_cons_succ]
    refine wpAnyH_at (i := 27) (some 42) (v := undef) rfl rfl (by kernel_rfl) (by kernel_rfl) (by kernel_rfl) (fun _ _ _ h => h) (Or.inr ⟨by rfl, rfl⟩) (by assumption) ?_
    simp only [Act.put, List.setIfInBounds_toArray, List.set_cons_zero, List.set_cons_succ]
    refine wpAnyH_at (i := 28) (some 43) (v := ?v28z27) rfl rfl (by kernel_rfl) (by kernel_rfl) (by kernel_rfl) (fun _ _ _ h => h) (Or.inl ⟨by rfl, ?y28z27⟩) (by assumption) ?r28z27
    case y28z27 =>
      intro w9 hSw
      obtain ⟨m, rfl⟩ := hSw
      go_simp
      all_goals with_reducible rfl
    simp only [Act.put, List.setIfInBounds_toArray, List.set_cons_zero, List.set_cons_succ]
    refine wpAnyH_at (i := 29) (some 44) (v := ?v29z28) rfl rfl (by kernel_rfl) (by kernel_rfl) (by kernel_rfl) (fun _ _ _ h => h) (Or.inl ⟨by rfl, ?y29z28⟩) (by assumption) ?r29z28
    case y29z28 =>
      intro w9 hSw
      obtain ⟨m, rfl⟩ := hSw
      go_simp
      all_goals with_reducible rfl
    simp only [Act.put, List.setIfInBounds_toArray, List.set_cons_zero, List.set_cons_succ]
    refine wpAnyH_at (i := 30) (some 45) (v := ?v30z29) rfl rfl (by kernel_rfl) (by kernel_rfl) (by kernel_rfl) (fun _ _ _ h => h) (Or.inl ⟨by rfl, ?y30z29⟩) (by assumption) ?r30z29
    case y30z29 =>
      intro w9 hSw
      obtain ⟨m, rfl⟩ := hSw
      go_simp
      all_goals with_reducible rfl
    simp only [Act.put, List.setIfInBounds_toArray, List.set_cons_zero, List.set_cons_succ]
    refine wpAnyH_at (i := 31) (some 46) (v := ?v31z30) rfl rfl (by kernel_rfl) (by kernel_rfl) (by kernel_rfl) (fun _ _ _ h => h) (Or.inl ⟨by rfl, ?y31z30⟩) (by assumption) ?r31z30
    case y31z30 =>
      intro w9 hSw
      obtain ⟨m, rfl⟩ := hSw
      go_simp
      all_goals with_reducible rfl
    simp only [Act.put, List.setIfInBounds_toArray, List.set_cons_zero, List.set_cons_succ]
    refine wpAnyH_at (i := 33) (some 48) (v := ?v33z31) rfl rfl (by kernel_rfl) (by kernel_rfl) (by kernel_rfl) (fun _ _ _ h => h) (Or.inl ⟨by rfl, ?y33z31⟩) (by assumption) ?r33z31
    case y33z31 =>
      intro w9 hSw
      obtain ⟨m, rfl⟩ := hSw
      go_simp
      all_goals with_reducible rfl
    simp only [Act.put, List.setIfInBounds_toArray, List.set_cons_zero, List.set_cons_succ]
    refine wpAnyH_at (i := 34) (some 49) (v := ?v34z32) rfl rfl (by kernel_rfl) (by kernel_rfl) (by kernel_rfl) (fun _ _ _ h => h) (Or.inl ⟨by rfl, ?y34z32⟩) (by assumption) ?r34z32
    case y34z32 =>
      intro w9 hSw
      obtain ⟨m, rfl⟩ := hSw
      go_simp
      all_goals with_reducible rfl
    simp only [Act.put, List.setIfInBounds_toArray, List.set_cons_zero, List.set_cons_succ]
    refine wpAnyH_at (i := 35) (some 50) (v := ?v35z33) rfl rfl (by kernel_rfl) (by kernel_rfl) (by kernel_rfl) (fun _ _ _ h => h) (Or.inl ⟨by rfl, ?y35z33⟩) (by assumption) ?r35z33
    case y35z33 =>
      intro w9 hSw
      obtain ⟨m, rfl⟩ := hSw
      go_simp
      all_goals with_reducible rfl
    simp only [Act.put, List.setIfInBounds_toArray, List.set_cons_zero, List.set_cons_succ]
    refine wpAnyH_at (i := 36) (some 51) (v := ?v36z34) rfl rfl (by kernel_rfl) (by kernel_rfl) (by kernel_rfl) (fun _ _ _ h => h) (Or.inl ⟨by rfl, ?y36z34⟩) (by assumption) ?r36z34
    case y36z34 =>
      intro w9 hSw
      obtain ⟨m, rfl⟩ := hSw
      go_simp
      all_goals with_reducible rfl
    simp only [Act.put, List.setIfInBounds_toArray, List.set_cons_zero, List.set_cons_succ]
    refine wpAnyH_one (i := 32) (by kernel_rfl) rfl ?_
    go_wp2_with fail
    refine D1.mono ?_
    rintro ev w2 ⟨rfl, rfl⟩
    go_wp2
    refine ⟨hHeld, ?_⟩
    try simp only [Act.put, List.setIfInBounds_toArray, List.set_cons_zero, List.set_cons_succ]
    refine wpAnyH_at (i := 37) (some 52) (v := ?v37z35) rfl rfl (by kernel_rfl) (by kernel_rfl) (by kernel_rfl) (fun _ _ _ h => h) (Or.inl ⟨by rfl, ?y37z35⟩) (by assumption) ?r37z35
    case y37z35 =>
      intro w9 hSw
      obtain ⟨m, rfl⟩ := hSw
      go_simp
      all_goals with_reducible rfl
    simp only [Act.put, List.setIfInBounds_toArray, List.set_cons_zero, List.set_cons_succ]
    refine wpAnyH_at (i := 38) (some 53) (v := ?v38z36) rfl rfl (by kernel_rfl) (by kernel_rfl) (by kernel_rfl) (fun _ _ _ h => h) (Or.inl ⟨by rfl, ?y38z36⟩) (by assumption) ?r38z36
    case y38z36 =>
      intro w9 hSw
      obtain ⟨m, rfl⟩ := hSw
      go_simp
      all_goals with_reducible rfl
    simp only [Act.put, List.setIfInBounds_toArray, List.set_cons_zero, List.set_cons_succ]
    refine wpAnyH_at (i := 39) (some 54) (v := ?v39z37) rfl rfl (by kernel_rfl) (by kernel_rfl) (by kernel_rfl) (fun _ _ _ h => h) (Or.inl ⟨by rfl, ?y39z37⟩) (by assumption) ?r39z37
    case y39z37 =>
      intro w9 hSw
      obtain ⟨m, rfl⟩ := hSw
      go_simp
      all_goals with_reducible rfl
    simp only [Act.put, List.setIfInBounds_toArray, List.set_cons_zero, List.set_cons_succ]
    refine wpAnyH_at (i := 40) (some 55) (v := ?v40z38) rfl rfl (by kernel_rfl) (by kernel_rfl) (by kernel_rfl) (fun _ _ _ h => h) (Or.inl ⟨by rfl, ?y40z38⟩) (by assumption) ?r40z38
    case y40z38 =>
      intro w9 hSw
      obtain ⟨m, rfl⟩ := hSw
      go_simp
      all_goals with_reducible rfl
    simp only [Act.put, List.setIfInBounds_toArray, List.set_cons_zero, List.set_cons_succ]
    refine wpAnyH_at (i := 42) (some 57) (v := ?v42z39) rfl rfl (by kernel_rfl) (by kernel_rfl) (by kernel_rfl) (fun _ _ _ h => h) (Or.inl ⟨by rfl, ?y42z39⟩) (by assumption) ?r42z39
    case y42z39 =>
      intro w9 hSw
      obtain ⟨m, rfl⟩ := hSw
      go_simp
      all_goals with_reducible rfl
    simp only [Act.put, List.setIfInBounds_toArray, List.set_cons_zero, List.set_cons_succ]
    refine wpAnyH_at (i := 43) (some 58) (v := ?v43z40) rfl rfl (by kernel_rfl) (by kernel_rfl) (by kernel_rfl) (fun _ _ _ h => h) (Or.inl ⟨by rfl, ?y43z40⟩) (by assumption) ?r43z40
    case y43z40 =>
      intro w9 hSw
      obtain ⟨m, rfl⟩ := hSw
      go_simp
      all_goals with_reducible rfl
    simp only [Act.put, List.setIfInBounds_toArray, List.set_cons_zero, List.set_cons_succ]
    refine wpAnyH_at (i := 44) (some 59) (v := ?v44z41) rfl rfl (by kernel_rfl) (by kernel_rfl) (by kernel_rfl) (fun _ _ _ h => h) (Or.inl ⟨by rfl, ?y44z41⟩) (by assumption) ?r44z41
    case y44z41 =>
      intro w9 hSw
      obtain ⟨m, rfl⟩ := hSw
      go_simp
      all_goals with_reducible rfl
    simp only [Act.put, List.setIfInBounds_toArray, List.set_cons_zero, List.set_cons_succ]
    refine wpAnyH_at (i := 45) (some 60) (v := ?v45z42) rfl rfl (by kernel_rfl) (by kernel_rfl) (by kernel_rfl) (fun _ _ _ h => h) (Or.inl ⟨by rfl, ?y45z42⟩) (by assumption) ?r45z42
    case y45z42 =>
      intro w9 hSw
      obtain ⟨m, rfl⟩ := hSw
      go_simp
      all_goals with_reducible rfl
    simp only [Act.put, List.setIfInBounds_toArray, List.set_cons_zero, List.set_cons_succ]
    refine wpAnyH_at (i := 46) (some 61) (v := ?v46z43) rfl rfl (by kernel_rfl) (by kernel_rfl) (by kernel_rfl) (fun _ _ _ h => h) (Or.inl ⟨by rfl, ?y46z43⟩) (by assumption) ?r46z43
    case y46z43 =>
      intro w9 hSw
      obtain ⟨m, rfl⟩ := hSw
      go_simp
      all_goals with_reducible rfl
    simp only [Act.put, List.setIfInBounds_toArray, List.set_cons_zero, List.set_cons_succ]
    refine wpAnyH_one (i := 41) (by kernel_rfl) rfl ?_
    go_wp2_with fail
    refine D2.mono ?_
    rintro ev w2 ⟨rfl, rfl⟩
    go_wp2
    refine ⟨hHeld, ?_⟩
    try simp only [Act.put, List.setIfInBounds_toArray, List.set_cons_zero, List.set_cons_succ]
    refine wpAnyH_at (i := 47) (some 62) (v := ?v47z44) rfl rfl (by kernel_rfl) (by kernel_rfl) (by kernel_rfl) (fun _ _ _ h => h) (Or.inl ⟨by rfl, ?y47z44⟩) (by assumption) ?r47z44
    case y47z44 =>
      intro w9 hSw
      obtain ⟨m, rfl⟩ := hSw
      go_simp
      all_goals with_reducible rfl
    simp only [Act.put, List.setIfInBounds_toArray, List.set_cons_zero, List.set_cons_succ]
    refine wpAnyH_at (i := 48) (some 63) (v := ?v48z45) rfl rfl (by kernel_rfl) (by kernel_rfl) (by kernel_rfl) (fun _ _ _ h => h) (Or.inl ⟨by rfl, ?y48z45⟩) (by assumption) ?r48z45
    case y48z45 =>
      intro w9 hSw
      obtain ⟨m, rfl⟩ := hSw
      go_simp
      all_goals with_reducible rfl
    simp only [Act.put, List.setIfInBounds_toArray, List.set_cons_zero, List.set_cons_succ]
    refine wpAnyH_done (by kernel_rfl) ?_ _
    subst hW
    have h2 := h1.new (below_drew w1)
    have b2 := b1.trans ((below_drew w1).mono b1.size)
    clear C1 C2 D1 D2 hHeld h1 b1 x0 x1 q0 q1 nx nx2 hn
    generalize World.drew w1 = wo at *
    obtain ⟨A3, n3, c3, hr⟩ := h2.rr
    have q1 := hr.c1
    have hn := hr.rows.len
    have hn3 : n3 ≤ 16384 := by rw [← hn]; exact hr.len
    go_wp2
    go_loopw [7] (fun i wr => ∃ k : Nat, k ≤ n3 ∧ i = .int .i64 k ∧ wr = wo) (fun i _ => n3 - (intOf i).toNat)
    case atStart => exact ⟨0, Nat.zero_le _, rfl, by first | rfl | trivial⟩
    case round =>
      obtain ⟨k, hk, rfl, rfl⟩ := hrel
      by_cases hkn : k < n3
      · have hki : (k : Int) < (n3 : Int) := by omega
        obtain ⟨x, rfl, hxb, hxl, x0, x1⟩ := hr.rows.at0 hkn
        have hm : RR.getD k (0, 0) ∈ RR := getD_memT (by omega)
        have hO := hr.ok
        have T := wdue h2.pw (RR.getD k (0, 0)).1 (hO.wf _ hm).1
        have e1 : dueT (RR.getD k (0, 0)).1 RR = (RR.getD k (0, 0)).2 := dueT_of hO hm
        have e2 : hasT (RR.getD k (0, 0)).1 RR = true := hasT_iff.2 ⟨_, hm⟩
        rw [e1, e2] at T
        generalize RR.getD k (0, 0) = y at *
        obtain ⟨a, b⟩ := y
        simp only at T x0 x1
        clear h2 hr hO e1 e2 hm hn
        go_wp2_with fail
        refine T.mono ?_
        rintro ev w3 ⟨rfl, rfl⟩
        clear T
        go_wp2
        go_roundw
        case rel => exact ⟨k + 1, by omega, by go_num, by first | rfl | trivial⟩
        case measure => simp [intOf]; omega
      · obtain rfl : k = n3 := by omega
        clear h2 hr hn
        go_wp2
        go_ret
        exact ⟨rfl, b2⟩
end
end Go.Proofs.Ytalojeblemhihaa
