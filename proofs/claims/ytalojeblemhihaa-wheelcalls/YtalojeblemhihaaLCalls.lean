/-
  The law WheelCalls: every row of calls.
-/
import Derived.Test.YtalojeblemhihaaOpenC
namespace Go.Proofs.Ytalojeblemhihaa
open Go.RowKit
set_option linter.unusedVariables false

theorem fnd_has (t : Int) (R : List Tm) : hasT t R = decide (0 ≤ fndT t R) := by
  rcases fndT_cases t R with ⟨h1, h2⟩ | ⟨k, h1, h2, h3, h4⟩
  · rw [h1, h2]; rfl
  · rw [h4, h2]; simp
set_option maxRecDepth 100000 in
set_option maxHeartbeats 2000000 in
theorem calls_big (nw : Nat) (A : Option Addr) (n c : Nat) (qs : Nat → Cal) (lq : Cal) (w : World) (H : CallsAt w w.heap.size A n c qs) (hl : CalOk lq) (hn : 100 < n) : Calls Try.prog 3 #[.int .u64 nw, .slice A n c, .agg #[.int .i64 lq.wh, .int .i64 lq.t, .int .u64 (lq.d : Nat)]] w fun e w' => e = .returned (.bool true) ∧ Below w.heap.size w w' := by
  have ba := alloc_below w (.cells #[.int .i64 lq.wh, .int .i64 lq.t, .int .u64 (lq.d : Nat)] 25)
  have AL := alive_any (w.alloc (.cells #[.int .i64 lq.wh, .int .i64 lq.t, .int .u64 (lq.d : Nat)] 25))
  have hni : (100 : Int) < (n : Int) := by omega
  clear H
  go_enter Try.func3, Try.ntmps3
  go_wp2_with fail
  refine AL.mono ?_
  rintro ev w1 ⟨rfl, b1⟩
  have b2 := ba.step b1 (Nat.le_refl _)
  clear AL ba b1
  go_wp2
  go_ret
  exact ⟨rfl, b2⟩
set_option maxRecDepth 100000 in
set_option maxHeartbeats 2000000 in
theorem calls_far (nw : Nat) (A : Option Addr) (n c : Nat) (qs : Nat → Cal) (lq : Cal) (w : World) (H : CallsAt w w.heap.size A n c qs) (hl : CalOk lq) (hn : ¬ 100 < n) (hf : 4611686018427387904 < nw) : Calls Try.prog 3 #[.int .u64 nw, .slice A n c, .agg #[.int .i64 lq.wh, .int .i64 lq.t, .int .u64 (lq.d : Nat)]] w fun e w' => e = .returned (.bool true) ∧ Below w.heap.size w w' := by
  have ba := alloc_below w (.cells #[.int .i64 lq.wh, .int .i64 lq.t, .int .u64 (lq.d : Nat)] 25)
  have AL := alive_any (w.alloc (.cells #[.int .i64 lq.wh, .int .i64 lq.t, .int .u64 (lq.d : Nat)] 25))
  have hni : ¬ (100 : Int) < (n : Int) := by omega
  clear H
  go_enter Try.func3, Try.ntmps3
  go_wp2_with fail
  refine AL.mono ?_
  rintro ev w1 ⟨rfl, b1⟩
  have b2 := ba.step b1 (Nat.le_refl _)
  clear AL ba b1
  go_wp2_with fail
  refine (newBig_any nw hf w1).mono ?_
  rintro ev w2 ⟨rfl, rfl⟩
  go_wp2_with fail
  refine (rnewBig_any nw hf w2).mono ?_
  rintro ev w3 ⟨rfl, rfl⟩
  go_wp2
  go_ret
  exact ⟨rfl, b2⟩
set_option maxRecDepth 100000 in
set_option maxHeartbeats 2000000 in
theorem calls_in (nw : Nat) (A : Option Addr) (n c : Nat) (qs : Nat → Cal) (lq : Cal) (w : World) (H : CallsAt w w.heap.size A n c qs) (hl : CalOk lq) (hn : ¬ 100 < n) (hf : ¬ 4611686018427387904 < nw) : Calls Try.prog 3 #[.int .u64 nw, .slice A n c, .agg #[.int .i64 lq.wh, .int .i64 lq.t, .int .u64 (lq.d : Nat)]] w fun e w' => e = .returned (.bool true) ∧ Below w.heap.size w w' := by
  have ba := alloc_below w (.cells #[.int .i64 lq.wh, .int .i64 lq.t, .int .u64 (lq.d : Nat)] 25)
  have AL := alive_any (w.alloc (.cells #[.int .i64 lq.wh, .int .i64 lq.t, .int .u64 (lq.d : Nat)] 25))
  have hni : ¬ (100 : Int) < (n : Int) := by omega
  have hcap := H.1
  have hbx := heap_alloc_new w (.cells #[.int .i64 lq.wh, .int .i64 lq.t, .int .u64 (lq.d : Nat)] 25)
  have hsz : (w.alloc (.cells #[.int .i64 lq.wh, .int .i64 lq.t, .int .u64 (lq.d : Nat)] 25)).heap.size = w.heap.size + 1 := by simp
  have H1 := H.below ba
  clear H
  go_enter Try.func3, Try.ntmps3
  go_wp2_with fail
  refine AL.mono ?_
  rintro ev w1 ⟨rfl, b1⟩
  rw [hsz] at b1
  generalize w.alloc (.cells #[.int .i64 lq.wh, .int .i64 lq.t, .int .u64 (lq.d : Nat)] 25) = wb at *
  clear AL
  go_wp2_with fail
  refine (wnew nw (by omega) w1).mono ?_
  rintro ev w2 ⟨hi, p, rfl, h2, k2⟩
  have b2 := b1.step k2 (by omega)
  have hlo := b1.size
  go_wp2_with fail
  refine (rnew_any nw (by omega) w2).mono ?_
  rintro ev w3 ⟨rfl, r3, k3⟩
  have hup := h2.bounds.2.2.1
  have T3 : Two w3 w1.heap.size hi p w2.heap.size w2.heap.size nw [] := ⟨h2.new k3, r3, hup⟩
  have b3 := b2.step k3 (by omega)
  have hq : w.heap.size + 1 ≤ w2.heap.size := by have := k2.size; omega
  generalize w2.heap.size = q at *
  generalize w1.heap.size = lo at *
  generalize hbase : q = base at T3
  rw [hbase] at hup hq
  subst hbase
  clear h2 r3 k2 k3 b2 b1
  go_wp2
  go_loopw [11] (fun i wr => ∃ (k m : Nat) (R : List Tm), k ≤ n ∧ i = .int .i64 k ∧ Two wr lo hi p q q m R ∧ Below (w.heap.size + 1) wb wr) (fun i _ => n - (intOf i).toNat)
  case atStart => exact ⟨0, nw, [], Nat.zero_le _, rfl, T3, b3⟩
  case round =>
    obtain ⟨k, m, R, hk, rfl, T, b⟩ := hrel
    clear T3 b3
    by_cases hkn : k < n
    · have hki : (k : Int) < (n : Int) := by omega
      obtain ⟨bq, o, rfl, hB, ⟨c0, c1, c2⟩, hok⟩ := (H1.below (b.mono (by omega))).2 k hkn
      have DD := do_any (qs k).wh T (qs k).t hok.t (qs k).d hok.d
      have hws := b.size
      generalize qs k = y at *
      obtain ⟨wh, t, d⟩ := y
      simp only at c0 c1 c2 DD
      generalize doN wh m d = m2 at *
      generalize doR wh t m d R = R2 at *
      clear T hok
      go_wp2_with fail
      refine DD.mono ?_
      rintro ev w4 ⟨rfl, T4, k4⟩
      have b4 := b.trans (k4.below (B := w.heap.size + 1) (by omega) (by omega) (by omega))
      have AG := agree_any T4
      clear DD k4 b
      go_wp2_with fail
      refine AG.mono ?_
      rintro ev w5 ⟨rfl, k5⟩
      have T5 := T4.new k5
      have b5 := b4.step k5 (by omega)
      clear AG T4 b4 k5 c0 c1 c2
      go_wp2
      go_roundw
      case rel => exact ⟨k + 1, m2, R2, by omega, by go_num, T5, b5⟩
      case measure => simp [intOf]; omega
    · obtain rfl : k = n := by omega
      have hws := b.size
      have hb0 : wb.heap.size ≤ wr.heap.size := hws
      have C := wclone T.pw
      clear H1
      go_wp2_with fail
      refine C.mono ?_
      rintro ev w4 ⟨hic, pc, rfl, h4, k4⟩
      have b4 := b.step k4 (by omega)
      have hbx4 := (b4.block w.heap.size (by omega)).trans hbx
      have z1 : w4.cell? ⟨w.heap.size, 1, none⟩ = some (.int .i64 lq.t) := by rw [cell_of_row _ _ _ _ _ _ hbx4]; rfl
      have DU := wdue (T.pw.new k4) lq.t hl.t
      rw [fnd_has] at DU
      obtain ⟨f, hf⟩ : ∃ f, fndT lq.t R = f := ⟨_, rfl⟩
      obtain ⟨dd, hdd⟩ : ∃ d, dueT lq.t R = d := ⟨_, rfl⟩
      rw [hf, hdd] at DU
      clear C
      go_wp2_with fail
      refine DU.mono ?_
      rintro ev w5 ⟨rfl, rfl⟩
      clear DU z1
      go_wp2
      have b6 := b4.step (below_drew w5) (by omega)
      have k6 := k4.step (below_drew w5) (Nat.le_refl _)
      have hbx6 := (b6.block w.heap.size (by omega)).trans hbx
      have h6 := h4.new (below_drew w5)
      have T6 := (T.new k4).new (below_drew w5)
      refine wp_region_held_drew (S := fun W => W.heap[w.heap.size]? = some (.cells #[.int .i64 lq.wh, .int .i64 lq.t, .int .u64 (lq.d : Nat)] 25)) (by kernel_rfl) hbx6 (fun hHeld => ?_)
      change wpAnyH _ _ _ _ _ _ _ _ (World.drew _)
      generalize World.drew w5 = W0 at *
      have hw4 := k6.size
      have RC := rcopy_any T6.rr
      have hcb := h6.bounds
      clear hbx4 k4 h4 T6 hbx6 b4
      refine wpAnyH_at (i := 0) (some 75) (v := ?v0z1) rfl rfl (by kernel_rfl) (by kernel_rfl) (by kernel_rfl) (fun _ _ _ h => h) (Or.inl ⟨by rfl, ?y0z1⟩) (by assumption) ?r0z1
      case y0z1 =>
        intro w9 hSw
        have x0 := cell_of_row _ _ 0 _ _ _ hSw; have x1 := cell_of_row _ _ 1 _ _ _ hSw; have x2 := cell_of_row _ _ 2 _ _ _ hSw; clear hSw; simp only [List.getElem?_toArray, List.getElem?_cons_zero, List.getElem?_cons_succ] at x0 x1 x2
        go_simp
        all_goals with_reducible rfl
      simp only [Act.put, List.setIfInBounds_toArray, List.set_cons_zero, List.set_cons_succ]
      refine wpAnyH_at (i := 1) (some 76) (v := ?v1z2) rfl rfl (by kernel_rfl) (by kernel_rfl) (by kernel_rfl) (fun _ _ _ h => h) (Or.inl ⟨by rfl, ?y1z2⟩) (by assumption) ?r1z2
      case y1z2 =>
        intro w9 hSw
        have x0 := cell_of_row _ _ 0 _ _ _ hSw; have x1 := cell_of_row _ _ 1 _ _ _ hSw; have x2 := cell_of_row _ _ 2 _ _ _ hSw; clear hSw; simp only [List.getElem?_toArray, List.getElem?_cons_zero, List.getElem?_cons_succ] at x0 x1 x2
        go_simp
        all_goals with_reducible rfl
      simp only [Act.put, List.setIfInBounds_toArray, List.set_cons_zero, List.set_cons_succ]
      refine wpAnyH_at (i := 2) (some 77) (v := ?v2z3) rfl rfl (by kernel_rfl) (by kernel_rfl) (by kernel_rfl) (fun _ _ _ h => h) (Or.inl ⟨by rfl, ?y2z3⟩) (by assumption) ?r2z3
      case y2z3 =>
        intro w9 hSw
        have x0 := cell_of_row _ _ 0 _ _ _ hSw; have x1 := cell_of_row _ _ 1 _ _ _ hSw; have x2 := cell_of_row _ _ 2 _ _ _ hSw; clear hSw; simp only [List.getElem?_toArray, List.getElem?_cons_zero, List.getElem?_cons_succ] at x0 x1 x2
        go_simp
        all_goals with_reducible rfl
      simp only [Act.put, List.setIfInBounds_toArray, List.set_cons_zero, List.set_cons_succ]
      refine wpAnyH_at (i := 3) (some 78) (v := ?v3z4) rfl rfl (by kernel_rfl) (by kernel_rfl) (by kernel_rfl) (fun _ _ _ h => h) (Or.inl ⟨by rfl, ?y3z4⟩) (by assumption) ?r3z4
      case y3z4 =>
        intro w9 hSw
        have x0 := cell_of_row _ _ 0 _ _ _ hSw; have x1 := cell_of_row _ _ 1 _ _ _ hSw; have x2 := cell_of_row _ _ 2 _ _ _ hSw; clear hSw; simp only [List.getElem?_toArray, List.getElem?_cons_zero, List.getElem?_cons_succ] at x0 x1 x2
        go_simp
        all_goals with_reducible rfl
      simp only [Act.put, List.setIfInBounds_toArray, List.set_cons_zero, List.set_cons_succ]
      refine wpAnyH_at (i := 4) (some 79) (v := ?v4z5) rfl rfl (by kernel_rfl) (by kernel_rfl) (by kernel_rfl) (fun _ _ _ h => h) (Or.inl ⟨by rfl, ?y4z5⟩) (by assumption) ?r4z5
      case y4z5 =>
        intro w9 hSw
        have x0 := cell_of_row _ _ 0 _ _ _ hSw; have x1 := cell_of_row _ _ 1 _ _ _ hSw; have x2 := cell_of_row _ _ 2 _ _ _ hSw; clear hSw; simp only [List.getElem?_toArray, List.getElem?_cons_zero, List.getElem?_cons_succ] at x0 x1 x2
        go_simp
        all_goals with_reducible rfl
      simp only [Act.put, List.setIfInBounds_toArray, List.set_cons_zero, List.set_cons_succ]
      refine wpAnyH_at (i := 6) (some 81) (v := ?v6z6) rfl rfl (by kernel_rfl) (by kernel_rfl) (by kernel_rfl) (fun _ _ _ h => h) (Or.inl ⟨by rfl, ?y6z6⟩) (by assumption) ?r6z6
      case y6z6 =>
        intro w9 hSw
        have x0 := cell_of_row _ _ 0 _ _ _ hSw; have x1 := cell_of_row _ _ 1 _ _ _ hSw; have x2 := cell_of_row _ _ 2 _ _ _ hSw; clear hSw; simp only [List.getElem?_toArray, List.getElem?_cons_zero, List.getElem?_cons_succ] at x0 x1 x2
        go_simp
        all_goals with_reducible rfl
      simp only [Act.put, List.setIfInBounds_toArray, List.set_cons_zero, List.set_cons_succ]
      refine wpAnyH_one (i := 5) (by kernel_rfl) rfl ?_
      go_wp2_with fail
      refine RC.mono ?_
      rintro ev w7 ⟨qc, rfl, r7, hqc, k7⟩
      have T7 : Two w7 wr.heap.size hic pc W0.heap.size qc m R := ⟨h6.new k7, r7, hcb.2.2.1⟩
      have b7 := b6.step k7 (by omega)
      have k8 := k6.step k7 (Nat.le_refl _)
      have hHeld7 := (b7.block w.heap.size (by omega)).trans hbx
      have DD := do_any lq.wh T7 lq.t hl.t lq.d hl.d
      have hw7 := k8.size
      clear RC h6 r7 T7 k7 b6 k6
      go_wp2
      have hHeld := hHeld7
      refine ⟨hHeld, ?_⟩
      try simp only [Act.put, List.setIfInBounds_toArray, List.set_cons_zero, List.set_cons_succ]
      refine wpAnyH_one (i := 7) (by kernel_rfl) rfl ?_
      go_wp2_with fail
      refine DD.mono ?_
      rintro ev w8 ⟨rfl, T8, k9⟩
      have k10 := k8.trans (k9.below (B := wr.heap.size) (Nat.le_refl _) (by omega) hw7)
      have b8 := b.step k10 (by omega)
      have hHeld8 := (b8.block w.heap.size (by omega)).trans hbx
      have T9 := T.new k10
      have AG := agree_any T9
      clear DD T8 k9 k8 b7
      go_wp2
      have hHeld := hHeld8
      refine ⟨hHeld, ?_⟩
      try simp only [Act.put, List.setIfInBounds_toArray, List.set_cons_zero, List.set_cons_succ]
      refine wpAnyH_at (i := 8) (some 83) (v := ?v8z7) rfl rfl (by kernel_rfl) (by kernel_rfl) (by kernel_rfl) (fun _ _ _ h => h) (Or.inl ⟨by rfl, ?y8z7⟩) (by assumption) ?r8z7
      case y8z7 =>
        intro w9 hSw
        have x0 := cell_of_row _ _ 0 _ _ _ hSw; have x1 := cell_of_row _ _ 1 _ _ _ hSw; have x2 := cell_of_row _ _ 2 _ _ _ hSw; clear hSw; simp only [List.getElem?_toArray, List.getElem?_cons_zero, List.getElem?_cons_succ] at x0 x1 x2
        go_simp
        all_goals with_reducible rfl
      simp only [Act.put, List.setIfInBounds_toArray, List.set_cons_zero, List.set_cons_succ]
      refine wpAnyH_at (i := 9) (some 84) (v := ?v9z8) rfl rfl (by kernel_rfl) (by kernel_rfl) (by kernel_rfl) (fun _ _ _ h => h) (Or.inl ⟨by rfl, ?y9z8⟩) (by assumption) ?r9z8
      case y9z8 =>
        intro w9 hSw
        have x0 := cell_of_row _ _ 0 _ _ _ hSw; have x1 := cell_of_row _ _ 1 _ _ _ hSw; have x2 := cell_of_row _ _ 2 _ _ _ hSw; clear hSw; simp only [List.getElem?_toArray, List.getElem?_cons_zero, List.getElem?_cons_succ] at x0 x1 x2
        go_simp
        all_goals with_reducible rfl
      simp only [Act.put, List.setIfInBounds_toArray, List.set_cons_zero, List.set_cons_succ]
      refine wpAnyH_at (i := 10) (some 85) (v := ?v10z9) rfl rfl (by kernel_rfl) (by kernel_rfl) (by kernel_rfl) (fun _ _ _ h => h) (Or.inl ⟨by rfl, ?y10z9⟩) (by assumption) ?r10z9
      case y10z9 =>
        intro w9 hSw
        have x0 := cell_of_row _ _ 0 _ _ _ hSw; have x1 := cell_of_row _ _ 1 _ _ _ hSw; have x2 := cell_of_row _ _ 2 _ _ _ hSw; clear hSw; simp only [List.getElem?_toArray, List.getElem?_cons_zero, List.getElem?_cons_succ] at x0 x1 x2
        go_simp
        all_goals with_reducible rfl
      simp only [Act.put, List.setIfInBounds_toArray, List.set_cons_zero, List.set_cons_succ]
      refine wpAnyH_at (i := 11) (some 86) (v := ?v11z10) rfl rfl (by kernel_rfl) (by kernel_rfl) (by kernel_rfl) (fun _ _ _ h => h) (Or.inl ⟨by rfl, ?y11z10⟩) (by assumption) ?r11z10
      case y11z10 =>
        intro w9 hSw
        have x0 := cell_of_row _ _ 0 _ _ _ hSw; have x1 := cell_of_row _ _ 1 _ _ _ hSw; have x2 := cell_of_row _ _ 2 _ _ _ hSw; clear hSw; simp only [List.getElem?_toArray, List.getElem?_cons_zero, List.getElem?_cons_succ] at x0 x1 x2
        go_simp
        all_goals with_reducible rfl
      simp only [Act.put, List.setIfInBounds_toArray, List.set_cons_zero, List.set_cons_succ]
      refine wpAnyH_one (i := 12) (by kernel_rfl) rfl ?_
      go_wp2_with fail
      refine AG.mono ?_
      rintro ev w9 ⟨rfl, k11⟩
      have b9 := b8.step k11 (by omega)
      have hHeld9 := (b9.block w.heap.size (by omega)).trans hbx
      have T10 := T9.new k11
      have FN := find_any T10.rr lq.t
      rw [hf] at FN
      clear AG T9 k11 b8
      go_wp2
      have hHeld := hHeld9
      refine ⟨hHeld, ?_⟩
      try simp only [Act.put, List.setIfInBounds_toArray, List.set_cons_zero, List.set_cons_succ]
      refine wpAnyH_at (i := 13) (some 88) (v := ?v13z11) rfl rfl (by kernel_rfl) (by kernel_rfl) (by kernel_rfl) (fun _ _ _ h => h) (Or.inl ⟨by rfl, ?y13z11⟩) (by assumption) ?r13z11
      case y13z11 =>
        intro w9 hSw
        have x0 := cell_of_row _ _ 0 _ _ _ hSw; have x1 := cell_of_row _ _ 1 _ _ _ hSw; have x2 := cell_of_row _ _ 2 _ _ _ hSw; clear hSw; simp only [List.getElem?_toArray, List.getElem?_cons_zero, List.getElem?_cons_succ] at x0 x1 x2
        go_simp
        all_goals with_reducible rfl
      simp only [Act.put, List.setIfInBounds_toArray, List.set_cons_zero, List.set_cons_succ]
      refine wpAnyH_at (i := 14) (some 89) (v := ?v14z12) rfl rfl (by kernel_rfl) (by kernel_rfl) (by kernel_rfl) (fun _ _ _ h => h) (Or.inl ⟨by rfl, ?y14z12⟩) (by assumption) ?r14z12
      case y14z12 =>
        intro w9 hSw
        have x0 := cell_of_row _ _ 0 _ _ _ hSw; have x1 := cell_of_row _ _ 1 _ _ _ hSw; have x2 := cell_of_row _ _ 2 _ _ _ hSw; clear hSw; simp only [List.getElem?_toArray, List.getElem?_cons_zero, List.getElem?_cons_succ] at x0 x1 x2
        go_simp
        all_goals with_reducible rfl
      simp only [Act.put, List.setIfInBounds_toArray, List.set_cons_zero, List.set_cons_succ]
      refine wpAnyH_at (i := 15) (some 90) (v := ?v15z13) rfl rfl (by kernel_rfl) (by kernel_rfl) (by kernel_rfl) (fun _ _ _ h => h) (Or.inl ⟨by rfl, ?y15z13⟩) (by assumption) ?r15z13
      case y15z13 =>
        intro w9 hSw
        have x0 := cell_of_row _ _ 0 _ _ _ hSw; have x1 := cell_of_row _ _ 1 _ _ _ hSw; have x2 := cell_of_row _ _ 2 _ _ _ hSw; clear hSw; simp only [List.getElem?_toArray, List.getElem?_cons_zero, List.getElem?_cons_succ] at x0 x1 x2
        go_simp
        all_goals with_reducible rfl
      simp only [Act.put, List.setIfInBounds_toArray, List.set_cons_zero, List.set_cons_succ]
      refine wpAnyH_at (i := 16) (some 91) (v := ?v16z14) rfl rfl (by kernel_rfl) (by kernel_rfl) (by kernel_rfl) (fun _ _ _ h => h) (Or.inl ⟨by rfl, ?y16z14⟩) (by assumption) ?r16z14
      case y16z14 =>
        intro w9 hSw
        have x0 := cell_of_row _ _ 0 _ _ _ hSw; have x1 := cell_of_row _ _ 1 _ _ _ hSw; have x2 := cell_of_row _ _ 2 _ _ _ hSw; clear hSw; simp only [List.getElem?_toArray, List.getElem?_cons_zero, List.getElem?_cons_succ] at x0 x1 x2
        go_simp
        all_goals with_reducible rfl
      simp only [Act.put, List.setIfInBounds_toArray, List.set_cons_zero, List.set_cons_succ]
      refine wpAnyH_at (i := 17) (some 92) (v := ?v17z15) rfl rfl (by kernel_rfl) (by kernel_rfl) (by kernel_rfl) (fun _ _ _ h => h) (Or.inl ⟨by rfl, ?y17z15⟩) (by assumption) ?r17z15
      case y17z15 =>
        intro w9 hSw
        have x0 := cell_of_row _ _ 0 _ _ _ hSw; have x1 := cell_of_row _ _ 1 _ _ _ hSw; have x2 := cell_of_row _ _ 2 _ _ _ hSw; clear hSw; simp only [List.getElem?_toArray, List.getElem?_cons_zero, List.getElem?_cons_succ] at x0 x1 x2
        go_simp
        all_goals with_reducible rfl
      simp only [Act.put, List.setIfInBounds_toArray, List.set_cons_zero, List.set_cons_succ]
      refine wpAnyH_at (i := 18) (some 93) (v := ?v18z16) rfl rfl (by kernel_rfl) (by kernel_rfl) (by kernel_rfl) (fun _ _ _ h => h) (Or.inl ⟨by rfl, ?y18z16⟩) (by assumption) ?r18z16
      case y18z16 =>
        intro w9 hSw
        have x0 := cell_of_row _ _ 0 _ _ _ hSw; have x1 := cell_of_row _ _ 1 _ _ _ hSw; have x2 := cell_of_row _ _ 2 _ _ _ hSw; clear hSw; simp only [List.getElem?_toArray, List.getElem?_cons_zero, List.getElem?_cons_succ] at x0 x1 x2
        go_simp
        all_goals with_reducible rfl
      simp only [Act.put, List.setIfInBounds_toArray, List.set_cons_zero, List.set_cons_succ]
      refine wpAnyH_one (i := 19) (by kernel_rfl) rfl ?_
      go_wp2_with fail
      refine FN.mono ?_
      rintro ev w10 ⟨rfl, rfl⟩
      clear FN
      go_wp2
      refine ⟨hHeld, ?_⟩
      try simp only [Act.put, List.setIfInBounds_toArray, List.set_cons_zero, List.set_cons_succ]
      refine wpAnyH_at (i := 20) (some 95) (v := ?v20z17) rfl rfl (by kernel_rfl) (by kernel_rfl) (by kernel_rfl) (fun _ _ _ h => h) (Or.inl ⟨by rfl, ?y20z17⟩) (by assumption) ?r20z17
      case y20z17 =>
        intro w9 hSw
        have x0 := cell_of_row _ _ 0 _ _ _ hSw; have x1 := cell_of_row _ _ 1 _ _ _ hSw; have x2 := cell_of_row _ _ 2 _ _ _ hSw; clear hSw; simp only [List.getElem?_toArray, List.getElem?_cons_zero, List.getElem?_cons_succ] at x0 x1 x2
        go_simp
        all_goals with_reducible rfl
      simp only [Act.put, List.setIfInBounds_toArray, List.set_cons_zero, List.set_cons_succ]
      refine wpAnyH_at (i := 21) (some 96) (v := ?v21z18) rfl rfl (by kernel_rfl) (by kernel_rfl) (by kernel_rfl) (fun _ _ _ h => h) (Or.inl ⟨by rfl, ?y21z18⟩) (by assumption) ?r21z18
      case y21z18 =>
        intro w9 hSw
        have x0 := cell_of_row _ _ 0 _ _ _ hSw; have x1 := cell_of_row _ _ 1 _ _ _ hSw; have x2 := cell_of_row _ _ 2 _ _ _ hSw; clear hSw; simp only [List.getElem?_toArray, List.getElem?_cons_zero, List.getElem?_cons_succ] at x0 x1 x2
        go_simp
        all_goals with_reducible rfl
      simp only [Act.put, List.setIfInBounds_toArray, List.set_cons_zero, List.set_cons_succ]
      refine wpAnyH_at (i := 22) (some 97) (v := ?v22z19) rfl rfl (by kernel_rfl) (by kernel_rfl) (by kernel_rfl) (fun _ _ _ h => h) (Or.inl ⟨by rfl, ?y22z19⟩) (by assumption) ?r22z19
      case y22z19 =>
        intro w9 hSw
        have x0 := cell_of_row _ _ 0 _ _ _ hSw; have x1 := cell_of_row _ _ 1 _ _ _ hSw; have x2 := cell_of_row _ _ 2 _ _ _ hSw; clear hSw; simp only [List.getElem?_toArray, List.getElem?_cons_zero, List.getElem?_cons_succ] at x0 x1 x2
        go_simp
        all_goals with_reducible rfl
      simp only [Act.put, List.setIfInBounds_toArray, List.set_cons_zero, List.set_cons_succ]
      refine wpAnyH_at (i := 23) (some 6) (v := ?v23z20) rfl rfl (by kernel_rfl) (by kernel_rfl) (by kernel_rfl) (fun _ _ _ h => h) (Or.inl ⟨by rfl, ?y23z20⟩) (by assumption) ?r23z20
      case y23z20 =>
        intro w9 hSw
        have x0 := cell_of_row _ _ 0 _ _ _ hSw; have x1 := cell_of_row _ _ 1 _ _ _ hSw; have x2 := cell_of_row _ _ 2 _ _ _ hSw; clear hSw; simp only [List.getElem?_toArray, List.getElem?_cons_zero, List.getElem?_cons_succ] at x0 x1 x2
        go_simp
        all_goals with_reducible rfl
      simp only [Act.put, List.setIfInBounds_toArray, List.set_cons_zero, List.set_cons_succ]
      refine wpAnyH_done (by kernel_rfl) ?_ _
      have bF : Below w.heap.size w w10 := ba.trans (b9.mono (by omega))
      clear hHeld hf
      go_wp2
      go_ret
      exact ⟨by simp, bF⟩
theorem calls_law (a : Int) (hw : (Lit.int .u64 a).wf = true) (A : Option Addr) (n c : Nat) (qs : Nat → Cal) (lq : Cal) (w : World) (H : CallsAt w w.heap.size A n c qs) (hl : CalOk lq) :
    Calls Try.prog 3 #[.int .u64 a, .slice A n c, .agg #[.int .i64 lq.wh, .int .i64 lq.t, .int .u64 (lq.d : Nat)]] w fun e w' => e = .returned (.bool true) ∧ Below w.heap.size w w' := by
  obtain ⟨nw, rfl⟩ := Int.eq_ofNat_of_zero_le (u64_bd hw).1
  by_cases hn : 100 < n
  · exact calls_big nw A n c qs lq w H hl hn
  by_cases hf : 4611686018427387904 < nw
  · exact calls_far nw A n c qs lq w H hl hn hf
  · exact calls_in nw A n c qs lq w H hl hn hf
end Go.Proofs.Ytalojeblemhihaa
