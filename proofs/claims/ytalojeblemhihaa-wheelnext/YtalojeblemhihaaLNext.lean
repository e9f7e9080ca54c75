/-
  The law WheelNext: the least time.
-/
import Derived.Test.YtalojeblemhihaaSteps
namespace Go.Proofs.Ytalojeblemhihaa
open Go.RowKit
set_option linter.unusedVariables false

theorem nextT_cons (x : Tm) (R : List Tm) : nextT (x :: R) = x.2 := rfl
theorem goT_first {x : Tm} {R : List Tm} {m : Nat} (h : x.2 ≤ m) : goT m (x :: R) = x.1 :: goT m R := by unfold goT; simp [h]
theorem goT_early {x : Tm} {R : List Tm} (hO : Ok (x :: R)) {m : Nat} (h : m < x.2) : goT m (x :: R) = [] ∧ goR m (x :: R) = x :: R := by
  have hh := hO.head
  constructor
  · unfold goT
    rw [List.map_eq_nil_iff, List.filter_eq_nil_iff]
    intro y hy
    have := hh y hy
    simp
    omega
  · unfold goR
    rw [List.filter_eq_self]
    intro y hy
    have := hh y hy
    simp
    omega
theorem goR_next {R : List Tm} {m : Nat} : goR m R = [] ∨ ((goR m R).isEmpty = false ∧ m < nextT (goR m R)) := by
  cases h : goR m R with
  | nil => exact .inl rfl
  | cons y S =>
    have hy : y ∈ goR m R := by rw [h]; simp
    exact .inr ⟨rfl, (mem_goR.1 hy).2⟩
set_option maxRecDepth 100000 in
set_option maxHeartbeats 2000000 in
theorem next_out1 (nw : Nat) (A : Option Addr) (n c : Nat) (qs : Nat → Cal) (w : World) (H : CallsAt w w.heap.size A n c qs) (h1 : 100 < n) : Calls Try.prog 7 #[.int .u64 nw, .slice A n c] w fun e w' => e = .returned (.bool true) ∧ Below w.heap.size w w' := by
  have AL := alive_any w
  have hi : (100 : Int) < (n : Int) := by omega
  clear H
  go_enter Try.func7, Try.ntmps7
  go_wp2_with fail
  refine AL.mono ?_
  rintro ev w1 ⟨rfl, b1⟩
  clear AL
  go_wp2
  go_ret
  exact ⟨rfl, b1⟩
set_option maxRecDepth 100000 in
set_option maxHeartbeats 2000000 in
theorem next_out2 (nw : Nat) (A : Option Addr) (n c : Nat) (qs : Nat → Cal) (w : World) (H : CallsAt w w.heap.size A n c qs) (h1 : ¬ 100 < n) (h2 : 1152921504606846976 < nw) : Calls Try.prog 7 #[.int .u64 nw, .slice A n c] w fun e w' => e = .returned (.bool true) ∧ Below w.heap.size w w' := by
  have AL := alive_any w
  have hi : ¬ (100 : Int) < (n : Int) := by omega
  have hj : (1152921504606846976 : Int) < (nw : Int) := by omega
  clear H
  go_enter Try.func7, Try.ntmps7
  go_wp2_with fail
  refine AL.mono ?_
  rintro ev w1 ⟨rfl, b1⟩
  clear AL
  go_wp2
  go_ret
  exact ⟨rfl, b1⟩
set_option maxRecDepth 100000 in
set_option maxHeartbeats 2000000 in
theorem next_in (nw : Nat) (A : Option Addr) (n c : Nat) (qs : Nat → Cal) (w : World) (H : CallsAt w w.heap.size A n c qs) (h1 : ¬ 100 < n) (h2 : ¬ 1152921504606846976 < nw) : Calls Try.prog 7 #[.int .u64 nw, .slice A n c] w fun e w' => e = .returned (.bool true) ∧ Below w.heap.size w w' := by
  have AL := alive_any w
  have hi1 : ¬ (100 : Int) < (n : Int) := by omega
  have hl1 : ¬ (1152921504606846976 : Int) < (nw : Int) := by omega
  have hcap := H.1
  go_enter Try.func7, Try.ntmps7
  go_wp2_with fail
  refine AL.mono ?_
  rintro ev w1 ⟨rfl, b1⟩
  clear AL
  go_wp2_with fail
  refine (wnew nw (by omega) w1).mono ?_
  rintro ev w2 ⟨hi, p, rfl, T3, k2⟩
  have b3 := b1.step k2 (Nat.le_refl _)
  have hlo := b1.size
  generalize w1.heap.size = lo at *
  clear k2 b1
  go_wp2
  go_loopw [7] (fun i wr => ∃ (k : Nat) (R : List Tm), k ≤ n ∧ i = .int .i64 k ∧ Whl wr lo hi p nw R ∧ Below w.heap.size w wr) (fun i _ => n - (intOf i).toNat)
  case atStart => exact ⟨0, [], Nat.zero_le _, rfl, T3, b3⟩
  case round =>
    obtain ⟨k, R, hk, rfl, T, b⟩ := hrel
    clear T3 b3
    by_cases hkn : k < n
    · have hki : (k : Int) < (n : Int) := by omega
      obtain ⟨bq, o, rfl, hB, hcal, hok⟩ := (H.below b).2 k hkn
      have hws := b.size
      generalize qs k = y at *
      obtain ⟨wh, t, d⟩ := y
      have hbd := T.bounds
      obtain ⟨c0, c1, c2⟩ := hcal
      simp only at c0 c1 c2
      have hcal : CalAt wr bq (o + k * 3) ⟨wh, t, d⟩ := ⟨c0, c1, c2⟩
      by_cases hwh : wh = 0
      · subst hwh
        have hS0 : CalAt wr.drew bq (o + k * 3) ⟨0, t, d⟩ := ⟨hcal.c0, hcal.c1, hcal.c2⟩
        have T1 := T.new (below_drew wr)
        have b1 := b.step (below_drew wr) (Nat.le_refl _)
        have DD := wset T1 t hok.t d hok.d
        have cc0 := c0
        clear T b c1 c2 hcal
        go_wp2
        refine wp_region_held_drew (S := fun W => CalAt W bq (o + k * 3) ⟨0, t, d⟩) (by kernel_rfl) hS0 (fun hHeld => ?_)
        change wpAnyH _ _ _ _ _ _ _ _ (World.drew _)
        clear hS0 cc0 c0
        generalize World.drew wr = W0 at *
        refine wpAnyH_at (i := 0) (some 51) (v := ?v0z1) rfl rfl (by kernel_rfl) (by kernel_rfl) (by kernel_rfl) (fun _ _ _ h => h) (Or.inl ⟨by rfl, ?y0z1⟩) (by assumption) ?r0z1
        case y0z1 =>
          intro w9 hSw
          have c0 := hSw.c0; have c1 := hSw.c1; have c2 := hSw.c2; clear hSw
          go_simp
          all_goals with_reducible rfl
        simp only [Act.put, List.setIfInBounds_toArray, List.set_cons_zero, List.set_cons_succ]
        refine wpAnyH_at (i := 1) (some 52) (v := ?v1z2) rfl rfl (by kernel_rfl) (by kernel_rfl) (by kernel_rfl) (fun _ _ _ h => h) (Or.inl ⟨by rfl, ?y1z2⟩) (by assumption) ?r1z2
        case y1z2 =>
          intro w9 hSw
          have c0 := hSw.c0; have c1 := hSw.c1; have c2 := hSw.c2; clear hSw
          go_simp
          all_goals with_reducible rfl
        simp only [Act.put, List.setIfInBounds_toArray, List.set_cons_zero, List.set_cons_succ]
        refine wpAnyH_at (i := 2) (some 53) (v := ?v2z3) rfl rfl (by kernel_rfl) (by kernel_rfl) (by kernel_rfl) (fun _ _ _ h => h) (Or.inl ⟨by rfl, ?y2z3⟩) (by assumption) ?r2z3
        case y2z3 =>
          intro w9 hSw
          have c0 := hSw.c0; have c1 := hSw.c1; have c2 := hSw.c2; clear hSw
          go_simp
          all_goals with_reducible rfl
        simp only [Act.put, List.setIfInBounds_toArray, List.set_cons_zero, List.set_cons_succ]
        refine wpAnyH_at (i := 3) (some 54) (v := ?v3z4) rfl rfl (by kernel_rfl) (by kernel_rfl) (by kernel_rfl) (fun _ _ _ h => h) (Or.inl ⟨by rfl, ?y3z4⟩) (by assumption) ?r3z4
        case y3z4 =>
          intro w9 hSw
          have c0 := hSw.c0; have c1 := hSw.c1; have c2 := hSw.c2; clear hSw
          go_simp
          all_goals with_reducible rfl
        simp only [Act.put, List.setIfInBounds_toArray, List.set_cons_zero, List.set_cons_succ]
        refine wpAnyH_at (i := 4) (some 55) (v := ?v4z5) rfl rfl (by kernel_rfl) (by kernel_rfl) (by kernel_rfl) (fun _ _ _ h => h) (Or.inl ⟨by rfl, ?y4z5⟩) (by assumption) ?r4z5
        case y4z5 =>
          intro w9 hSw
          have c0 := hSw.c0; have c1 := hSw.c1; have c2 := hSw.c2; clear hSw
          go_simp
          all_goals with_reducible rfl
        simp only [Act.put, List.setIfInBounds_toArray, List.set_cons_zero, List.set_cons_succ]
        refine wpAnyH_at (i := 5) (some 56) (v := ?v5z6) rfl rfl (by kernel_rfl) (by kernel_rfl) (by kernel_rfl) (fun _ _ _ h => h) (Or.inl ⟨by rfl, ?y5z6⟩) (by assumption) ?r5z6
        case y5z6 =>
          intro w9 hSw
          have c0 := hSw.c0; have c1 := hSw.c1; have c2 := hSw.c2; clear hSw
          go_simp
          all_goals with_reducible rfl
        simp only [Act.put, List.setIfInBounds_toArray, List.set_cons_zero, List.set_cons_succ]
        refine wpAnyH_at (i := 6) (some 57) (v := ?v6z7) rfl rfl (by kernel_rfl) (by kernel_rfl) (by kernel_rfl) (fun _ _ _ h => h) (Or.inl ⟨by rfl, ?y6z7⟩) (by assumption) ?r6z7
        case y6z7 =>
          intro w9 hSw
          have c0 := hSw.c0; have c1 := hSw.c1; have c2 := hSw.c2; clear hSw
          go_simp
          all_goals with_reducible rfl
        simp only [Act.put, List.setIfInBounds_toArray, List.set_cons_zero, List.set_cons_succ]
        refine wpAnyH_at (i := 7) (some 58) (v := ?v7z8) rfl rfl (by kernel_rfl) (by kernel_rfl) (by kernel_rfl) (fun _ _ _ h => h) (Or.inl ⟨by rfl, ?y7z8⟩) (by assumption) ?r7z8
        case y7z8 =>
          intro w9 hSw
          have c0 := hSw.c0; have c1 := hSw.c1; have c2 := hSw.c2; clear hSw
          go_simp
          all_goals with_reducible rfl
        simp only [Act.put, List.setIfInBounds_toArray, List.set_cons_zero, List.set_cons_succ]
        refine wpAnyH_at (i := 8) (some 59) (v := ?v8z9) rfl rfl (by kernel_rfl) (by kernel_rfl) (by kernel_rfl) (fun _ _ _ h => h) (Or.inl ⟨by rfl, ?y8z9⟩) (by assumption) ?r8z9
        case y8z9 =>
          intro w9 hSw
          have c0 := hSw.c0; have c1 := hSw.c1; have c2 := hSw.c2; clear hSw
          go_simp
          all_goals with_reducible rfl
        simp only [Act.put, List.setIfInBounds_toArray, List.set_cons_zero, List.set_cons_succ]
        refine wpAnyH_at (i := 9) (some 60) (v := ?v9z10) rfl rfl (by kernel_rfl) (by kernel_rfl) (by kernel_rfl) (fun _ _ _ h => h) (Or.inl ⟨by rfl, ?y9z10⟩) (by assumption) ?r9z10
        case y9z10 =>
          intro w9 hSw
          have c0 := hSw.c0; have c1 := hSw.c1; have c2 := hSw.c2; clear hSw
          go_simp
          all_goals with_reducible rfl
        simp only [Act.put, List.setIfInBounds_toArray, List.set_cons_zero, List.set_cons_succ]
        refine wpAnyH_at (i := 10) (some 61) (v := ?v10z11) rfl rfl (by kernel_rfl) (by kernel_rfl) (by kernel_rfl) (fun _ _ _ h => h) (Or.inl ⟨by rfl, ?y10z11⟩) (by assumption) ?r10z11
        case y10z11 =>
          intro w9 hSw
          have c0 := hSw.c0; have c1 := hSw.c1; have c2 := hSw.c2; clear hSw
          go_simp
          all_goals with_reducible rfl
        simp only [Act.put, List.setIfInBounds_toArray, List.set_cons_zero, List.set_cons_succ]
        refine wpAnyH_one (i := 11) (by kernel_rfl) rfl ?_
        go_wp2_with fail
        refine DD.mono ?_
        rintro ev w4 ⟨rfl, T4, k4⟩
        have b4 := b1.trans (k4.below (by omega) b1.size)
        have b4k := k4.below (B := w.heap.size) (by omega) b1.size
        have hbW : bq < W0.heap.size := Nat.lt_of_lt_of_le hB b1.size
        have hHeld4 : CalAt w4 bq (o + k * 3) ⟨0, t, d⟩ := ⟨(b4k.cell hB).trans hHeld.c0, (b4k.cell hB).trans hHeld.c1, (b4k.cell hB).trans hHeld.c2⟩
        clear DD k4 b1 T1
        go_wp2
        have hHeld := hHeld4
        refine ⟨hHeld, ?_⟩
        try simp only [Act.put, List.setIfInBounds_toArray, List.set_cons_zero, List.set_cons_succ]
        refine wpAnyH_done (by kernel_rfl) ?_ _
        have hc0 := hHeld.c0
        simp only at hc0
        clear hHeld hHeld4
        go_wp2
        go_roundw
        case rel => exact ⟨k + 1, _, by omega, by go_num, T4, b4⟩
        case measure => simp [intOf]; omega
      · have hwi : (wh == 0) = false := by simpa using hwh
        by_cases hwh1 : wh = 1
        · subst hwh1
          have DC := wcancel T t hok.t
          clear hwh c2 hcal T
          go_wp2_with fail
          refine DC.mono ?_
          rintro ev w4 ⟨rfl, T4, k4⟩
          have b4 := b.trans (k4.below (by omega) b.size)
          clear DC k4 b c0 c1
          go_wp2
          go_roundw
          case rel => exact ⟨k + 1, _, by omega, by go_num, T4, b4⟩
          case measure => simp [intOf]; omega
        · have hwi1 : (wh == 1) = false := by simpa using hwh1
          clear hwh hwh1 c1 c2 hcal hok
          go_wp2
          go_roundw
          case rel => exact ⟨k + 1, R, by omega, by go_num, T, b⟩
          case measure => simp [intOf]; omega
    · obtain rfl : k = n := by omega
      have hws := b.size
      have NX0 := wnext T
      have hTb0 := T.bounds
      have hO := hTb0.2.2.2.2.1
      clear H
      cases R with
      | nil =>
        have nx0 : nextT [] = 0 := rfl
        go_wp2_with fail
        refine NX0.mono ?_
        rintro ev w4 ⟨rfl, k4⟩
        have b4 := b.step k4 (Nat.le_refl _)
        have LN := wlen (T.new k4)
        clear NX0 T k4 b
        go_wp2_with fail
        refine LN.mono ?_
        rintro ev w5 ⟨rfl, rfl⟩
        go_wp2
        go_ret
        exact ⟨rfl, b4⟩
      | cons x R =>
        obtain ⟨xt, xd⟩ := x
        have nx0 : nextT ((xt, xd) :: R) = xd := rfl
        have nx1 : ((xt, xd) :: R).isEmpty = false := rfl
        rw [nx0, nx1] at NX0
        clear nx0 nx1
        go_wp2_with fail
        refine NX0.mono ?_
        rintro ev w3 ⟨rfl, k3⟩
        replace T := T.new k3
        replace b := b.step k3 (Nat.le_refl _)
        replace hws := b.size
        clear NX0 k3
        have hxmax : xd ≤ 4611686018427387904 := (hO.wf (xt, xd) (by simp)).2
        by_cases hgt : nw < xd
        · have hgti : (nw : Int) < (xd : Int) := by omega
          obtain ⟨m, hm⟩ : ∃ m, xd = m + 1 := ⟨xd - 1, by omega⟩
          have hsub : (xd : Int) - 1 = (m : Int) := by omega
          have hE0 : goE nw m = 0 := by
            unfold goE
            rw [if_neg (by omega), if_neg (by omega)]
          have G0 := wgo T m
          obtain ⟨t1, t2⟩ := goT_early hO (m := m) (by simp only; omega)
          have f1 : goL nw m ((xt, xd) :: R) = [] := by unfold goL; rw [if_pos hE0, t1]
          have f2 : goN nw m = m := by unfold goN; rw [if_pos hE0]
          have f3 : goRR nw m ((xt, xd) :: R) = (xt, xd) :: R := by unfold goRR; rw [if_pos hE0, t2]
          rw [hE0, f1, f2, f3] at G0
          have hTbb := T.bounds
          have hmx : max (xd : Int) (nw : Int) = (xd : Int) := by omega
          have hm64 : (m : Int) < 18446744073709551616 := by omega
          have hmlt : m < xd := by omega
          have hmle : m ≤ 4611686018427387904 := by omega
          clear hE0 f1 f2 f3 t1 t2 hm
          go_wp2_with fail
          refine G0.mono ?_
          rintro ev w9 ⟨A9, n9, c9, rfl, o9, T9, k9⟩
          have b9 := b.trans (k9.below (by omega) b.size)
          obtain rfl : n9 = 0 := by have := o9.len; simpa using this.symm
          clear G0 o9 T b k9 hsub hm64
          have C := wclone T9
          have hTb := T9.bounds
          go_wp2_with fail
          refine C.mono ?_
          rintro ev w4 ⟨hic, pc, rfl, hc4, k4⟩
          have b4 := b9.step k4 (Nat.le_refl _)
          have T4 := T9.new k4
          have hcb := hc4.bounds
          have hs4 := k4.size
          have hE : goE m xd = 0 := by
            unfold goE
            rw [if_neg (by omega), if_neg (by omega)]
          have G := wgo T4 xd
          have e1 : goL m xd ((xt, xd) :: R) = goT xd ((xt, xd) :: R) := by unfold goL; rw [if_pos hE]
          have e2 : goN m xd = xd := by unfold goN; rw [if_pos hE]
          have e3 : goRR m xd ((xt, xd) :: R) = goR xd ((xt, xd) :: R) := by unfold goRR; rw [if_pos hE]
          rw [hE, e1, e2, e3, goT_first (by omega)] at G
          have hdue : dueT xt ((xt, xd) :: R) = xd := dueT_of hO (by simp)
          have hhas : hasT xt ((xt, xd) :: R) = true := hasT_iff.2 ⟨xd, by simp⟩
          have hwx := (hO.wf (xt, xd) (by simp)).1
          have DU := fun W (hW : Whl W w9.heap.size hic pc m ((xt, xd) :: R)) => wdue hW xt hwx
          rw [hdue, hhas] at DU
          have hgr := goR_next (R := (xt, xd) :: R) (m := xd)
          obtain ⟨RR, hRR⟩ : ∃ RR, goR xd ((xt, xd) :: R) = RR := ⟨_, rfl⟩
          rw [hRR] at G hgr
          generalize goT xd R = tl at *
          clear C T9 b9 k4 hE e1 e2 e3 hdue hhas hRR T4
          simp only at *
          go_wp2_with fail
          refine G.mono ?_
          rintro ev w6 ⟨A6, n6, c6, rfl, o6, T6, k6⟩
          have hc6 := hc4.kept k6 (fun k h1 h2 h3 => by omega)
          have b6 := b4.trans (k6.below (by omega) b4.size)
          have hn6 := o6.len
          have hn6p : 0 < n6 := by rw [← hn6]; simp
          have hn6i : ¬ (n6 : Int) = 0 := by omega
          have hn6j : (0 : Int) < (n6 : Int) := by omega
          obtain ⟨xa, rfl, hxa, hxl, cx, fx⟩ := o6.at3 hn6p
          replace cx : w6.cell? ⟨xa, 0, none⟩ = some (.int .i64 xt) := by simpa using cx
          have DD := DU w6 hc6
          have NX := wnext T6
          rcases hgr with rfl | ⟨hg1, hg2⟩
          · have nx : nextT [] = 0 := rfl
            clear G DU hc4 hc6 T6 k6 b4 o6 fx hn6
            go_wp2_with fail
            refine DD.mono ?_
            rintro ev w7 ⟨rfl, rfl⟩
            go_wp2_with fail
            refine NX.mono ?_
            rintro ev w8 ⟨rfl, k8⟩
            have b8 := b6.step k8 (Nat.le_refl _)
            clear DD NX k8 b6 cx
            go_wp2
            go_ret
            exact ⟨by simp, b8⟩
          · have hg2i : (xd : Int) < (nextT RR : Int) := by omega
            generalize nextT RR = nx at *
            clear G DU hc4 hc6 T6 k6 b4 o6 fx hn6
            go_wp2_with fail
            refine DD.mono ?_
            rintro ev w7 ⟨rfl, rfl⟩
            go_wp2_with fail
            refine NX.mono ?_
            rintro ev w8 ⟨rfl, k8⟩
            have b8 := b6.step k8 (Nat.le_refl _)
            clear DD NX k8 b6 cx
            go_wp2
            go_ret
            exact ⟨by simp, b8⟩
        · have hgti : ¬ (nw : Int) < (xd : Int) := by omega
          have hmx : max (xd : Int) (nw : Int) = (nw : Int) := by omega
          have C := wclone T
          have hTb := T.bounds
          go_wp2_with fail
          refine C.mono ?_
          rintro ev w4 ⟨hic, pc, rfl, hc4, k4⟩
          have b4 := b.step k4 (Nat.le_refl _)
          have T4 := T.new k4
          have hcb := hc4.bounds
          have hs4 := k4.size
          have hE : goE nw nw = 0 := by
            unfold goE
            rw [if_neg (by omega), if_neg (by omega)]
          have G := wgo T4 nw
          have e1 : goL nw nw ((xt, xd) :: R) = goT nw ((xt, xd) :: R) := by unfold goL; rw [if_pos hE]
          have e2 : goN nw nw = nw := by unfold goN; rw [if_pos hE]
          have e3 : goRR nw nw ((xt, xd) :: R) = goR nw ((xt, xd) :: R) := by unfold goRR; rw [if_pos hE]
          rw [hE, e1, e2, e3, goT_first (by omega)] at G
          have hdue : dueT xt ((xt, xd) :: R) = xd := dueT_of hO (by simp)
          have hhas : hasT xt ((xt, xd) :: R) = true := hasT_iff.2 ⟨xd, by simp⟩
          have hwx := (hO.wf (xt, xd) (by simp)).1
          have DU := fun W (hW : Whl W w3.heap.size hic pc nw ((xt, xd) :: R)) => wdue hW xt hwx
          rw [hdue, hhas] at DU
          have hgr := goR_next (R := (xt, xd) :: R) (m := nw)
          obtain ⟨RR, hRR⟩ : ∃ RR, goR nw ((xt, xd) :: R) = RR := ⟨_, rfl⟩
          rw [hRR] at G hgr
          generalize goT nw R = tl at *
          clear C T b k4 hE e1 e2 e3 hdue hhas hRR T4
          simp only at *
          go_wp2_with fail
          refine G.mono ?_
          rintro ev w6 ⟨A6, n6, c6, rfl, o6, T6, k6⟩
          have hc6 := hc4.kept k6 (fun k h1 h2 h3 => by omega)
          have b6 := b4.trans (k6.below (by omega) b4.size)
          have hn6 := o6.len
          have hn6p : 0 < n6 := by rw [← hn6]; simp
          have hn6i : ¬ (n6 : Int) = 0 := by omega
          have hn6j : (0 : Int) < (n6 : Int) := by omega
          obtain ⟨xa, rfl, hxa, hxl, cx, fx⟩ := o6.at3 hn6p
          replace cx : w6.cell? ⟨xa, 0, none⟩ = some (.int .i64 xt) := by simpa using cx
          have DD := DU w6 hc6
          have NX := wnext T6
          rcases hgr with rfl | ⟨hg1, hg2⟩
          · have nx : nextT [] = 0 := rfl
            clear G DU hc4 hc6 T6 k6 b4 o6 fx hn6
            go_wp2_with fail
            refine DD.mono ?_
            rintro ev w7 ⟨rfl, rfl⟩
            go_wp2_with fail
            refine NX.mono ?_
            rintro ev w8 ⟨rfl, k8⟩
            have b8 := b6.step k8 (Nat.le_refl _)
            clear DD NX k8 b6 cx
            go_wp2
            go_ret
            exact ⟨by simp, b8⟩
          · have hg2i : (nw : Int) < (nextT RR : Int) := by omega
            generalize nextT RR = nx at *
            clear G DU hc4 hc6 T6 k6 b4 o6 fx hn6
            go_wp2_with fail
            refine DD.mono ?_
            rintro ev w7 ⟨rfl, rfl⟩
            go_wp2_with fail
            refine NX.mono ?_
            rintro ev w8 ⟨rfl, k8⟩
            have b8 := b6.step k8 (Nat.le_refl _)
            clear DD NX k8 b6 cx
            go_wp2
            go_ret
            exact ⟨by simp, b8⟩
theorem next_law (a : Int) (hw : (Lit.int .u64 a).wf = true) (A : Option Addr) (n c : Nat) (qs : Nat → Cal) (w : World) (H : CallsAt w w.heap.size A n c qs) :
    Calls Try.prog 7 #[.int .u64 a, .slice A n c] w fun e w' => e = .returned (.bool true) ∧ Below w.heap.size w w' := by
  obtain ⟨nw, rfl⟩ := Int.eq_ofNat_of_zero_le (u64_bd hw).1
  by_cases h1 : 100 < n
  · exact next_out1 nw A n c qs w H h1
  by_cases h2 : 1152921504606846976 < nw
  · exact next_out2 nw A n c qs w H h1 h2
  · exact next_in nw A n c qs w H h1 h2
end Go.Proofs.Ytalojeblemhihaa
