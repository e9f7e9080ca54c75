/-
  The law WheelSteps: the time in many steps.
-/
import Derived.Test.YtalojeblemhihaaSteps
namespace Go.Proofs.Ytalojeblemhihaa
open Go.RowKit
set_option linter.unusedVariables false

set_option maxRecDepth 100000 in
set_option maxHeartbeats 2000000 in
theorem steps_out1 (nw : Nat) (A : Option Addr) (n c : Nat) (qs : Nat → Cal) (w : World) (H : CallsAt w w.heap.size A n c qs) (A2 : Option Addr) (n2 c2 : Nat) (ss : List Int) (H2 : Rd .u16 w w.heap.size A2 n2 c2 ss) (h1 : 100 < n) : Calls Try.prog 5 #[.int .u64 nw, .slice A n c, .slice A2 n2 c2] w fun e w' => e = .returned (.bool true) ∧ Below w.heap.size w w' := by
  have AL := alive_any w
  have hi : (100 : Int) < (n : Int) := by omega
  clear H H2
  go_enter Try.func5, Try.ntmps5
  go_wp2_with fail
  refine AL.mono ?_
  rintro ev w1 ⟨rfl, b1⟩
  clear AL
  go_wp2
  go_ret
  exact ⟨rfl, b1⟩
set_option maxRecDepth 100000 in
set_option maxHeartbeats 2000000 in
theorem steps_out2 (nw : Nat) (A : Option Addr) (n c : Nat) (qs : Nat → Cal) (w : World) (H : CallsAt w w.heap.size A n c qs) (A2 : Option Addr) (n2 c2 : Nat) (ss : List Int) (H2 : Rd .u16 w w.heap.size A2 n2 c2 ss) (h1 : ¬ 100 < n) (h2 : n2 < 1) : Calls Try.prog 5 #[.int .u64 nw, .slice A n c, .slice A2 n2 c2] w fun e w' => e = .returned (.bool true) ∧ Below w.heap.size w w' := by
  have AL := alive_any w
  have hi : ¬ (100 : Int) < (n : Int) := by omega
  have hj : (n2 : Int) < 1 := by omega
  clear H H2
  go_enter Try.func5, Try.ntmps5
  go_wp2_with fail
  refine AL.mono ?_
  rintro ev w1 ⟨rfl, b1⟩
  clear AL
  go_wp2
  go_ret
  exact ⟨rfl, b1⟩
set_option maxRecDepth 100000 in
set_option maxHeartbeats 2000000 in
theorem steps_out3 (nw : Nat) (A : Option Addr) (n c : Nat) (qs : Nat → Cal) (w : World) (H : CallsAt w w.heap.size A n c qs) (A2 : Option Addr) (n2 c2 : Nat) (ss : List Int) (H2 : Rd .u16 w w.heap.size A2 n2 c2 ss) (h1 : ¬ 100 < n) (h2 : ¬ n2 < 1) (h3 : 60 < n2) : Calls Try.prog 5 #[.int .u64 nw, .slice A n c, .slice A2 n2 c2] w fun e w' => e = .returned (.bool true) ∧ Below w.heap.size w w' := by
  have AL := alive_any w
  have hi : ¬ (100 : Int) < (n : Int) := by omega
  have hj : ¬ (n2 : Int) < 1 := by omega
  have hk : (60 : Int) < (n2 : Int) := by omega
  clear H H2
  go_enter Try.func5, Try.ntmps5
  go_wp2_with fail
  refine AL.mono ?_
  rintro ev w1 ⟨rfl, b1⟩
  clear AL
  go_wp2
  go_ret
  exact ⟨rfl, b1⟩
set_option maxRecDepth 100000 in
set_option maxHeartbeats 2000000 in
theorem steps_out4 (nw : Nat) (A : Option Addr) (n c : Nat) (qs : Nat → Cal) (w : World) (H : CallsAt w w.heap.size A n c qs) (A2 : Option Addr) (n2 c2 : Nat) (ss : List Int) (H2 : Rd .u16 w w.heap.size A2 n2 c2 ss) (h1 : ¬ 100 < n) (h2 : ¬ n2 < 1) (h3 : ¬ 60 < n2) (h4 : 1152921504606846976 < nw) : Calls Try.prog 5 #[.int .u64 nw, .slice A n c, .slice A2 n2 c2] w fun e w' => e = .returned (.bool true) ∧ Below w.heap.size w w' := by
  have AL := alive_any w
  have hi : ¬ (100 : Int) < (n : Int) := by omega
  have hj : ¬ (n2 : Int) < 1 := by omega
  have hk : ¬ (60 : Int) < (n2 : Int) := by omega
  have hl : (1152921504606846976 : Int) < (nw : Int) := by omega
  clear H H2
  go_enter Try.func5, Try.ntmps5
  go_wp2_with fail
  refine AL.mono ?_
  rintro ev w1 ⟨rfl, b1⟩
  clear AL
  go_wp2
  go_ret
  exact ⟨rfl, b1⟩
set_option maxRecDepth 100000 in
set_option maxHeartbeats 2000000 in
theorem steps_in (nw : Nat) (A : Option Addr) (n c : Nat) (qs : Nat → Cal) (w : World) (H : CallsAt w w.heap.size A n c qs) (A2 : Option Addr) (n2 c2 : Nat) (ss : List Int) (H2 : Rd .u16 w w.heap.size A2 n2 c2 ss) (h1 : ¬ 100 < n) (h2 : ¬ n2 < 1) (h3 : ¬ 60 < n2) (h4 : ¬ 1152921504606846976 < nw) : Calls Try.prog 5 #[.int .u64 nw, .slice A n c, .slice A2 n2 c2] w fun e w' => e = .returned (.bool true) ∧ Below w.heap.size w w' := by
  have AL := alive_any w
  have hi1 : ¬ (100 : Int) < (n : Int) := by omega
  have hj1 : ¬ (n2 : Int) < 1 := by omega
  have hk1 : ¬ (60 : Int) < (n2 : Int) := by omega
  have hl1 : ¬ (1152921504606846976 : Int) < (nw : Int) := by omega
  have hcap := H.1
  have hcap2 := H2.max
  have hcap3 := H2.cap
  go_enter Try.func5, Try.ntmps5
  go_wp2_with fail
  refine AL.mono ?_
  rintro ev w1 ⟨rfl, b1⟩
  clear AL
  go_wp2_with fail
  refine (wnew nw (by omega) w1).mono ?_
  rintro ev w2 ⟨hi, p, rfl, T3, k2⟩
  have b3 := b1.step k2 (Nat.le_refl _)
  have hlo := b1.size
  generalize w1.heap.size = lo at *
  clear k2 b1
  go_wp2
  go_loopw [9] (fun i wr => ∃ (k : Nat) (R : List Tm), k ≤ n ∧ i = .int .i64 k ∧ Whl wr lo hi p nw R ∧ Below w.heap.size w wr) (fun i _ => n - (intOf i).toNat)
  case atStart => exact ⟨0, [], Nat.zero_le _, rfl, T3, b3⟩
  case round =>
    obtain ⟨k, R, hk, rfl, T, b⟩ := hrel
    clear T3 b3
    by_cases hkn : k < n
    · have hki : (k : Int) < (n : Int) := by omega
      obtain ⟨bq, o, rfl, hB, hcal, hok⟩ := (H.below b).2 k hkn
      have hws := b.size
      generalize qs k = y at *
      obtain ⟨wh, t, d⟩ := y
      have hbd := T.bounds
      obtain ⟨c0, c1, c2⟩ := hcal
      simp only at c0 c1 c2
      have hcal : CalAt wr bq (o + k * 3) ⟨wh, t, d⟩ := ⟨c0, c1, c2⟩
      by_cases hwh : wh = 0
      · subst hwh
        have hS0 : CalAt wr.drew bq (o + k * 3) ⟨0, t, d⟩ := ⟨hcal.c0, hcal.c1, hcal.c2⟩
        have T1 := T.new (below_drew wr)
        have b1 := b.step (below_drew wr) (Nat.le_refl _)
        have DD := wset T1 t hok.t d hok.d
        have cc0 := c0
        clear T b c1 c2 hcal
        go_wp2
        refine wp_region_held_drew (S := fun W => CalAt W bq (o + k * 3) ⟨0, t, d⟩) (by kernel_rfl) hS0 (fun hHeld => ?_)
        change wpAnyH _ _ _ _ _ _ _ _ (World.drew _)
        clear hS0 cc0 c0
        generalize World.drew wr = W0 at *
        refine wpAnyH_at (i := 0) (some 60) (v := ?v0z1) rfl rfl (by kernel_rfl) (by kernel_rfl) (by kernel_rfl) (fun _ _ _ h => h) (Or.inl ⟨by rfl, ?y0z1⟩) (by assumption) ?r0z1
        case y0z1 =>
          intro w9 hSw
          have c0 := hSw.c0; have c1 := hSw.c1; have c2 := hSw.c2; clear hSw
          go_simp
          all_goals with_reducible rfl
        simp only [Act.put, List.setIfInBounds_toArray, List.set_cons_zero, List.set_cons_succ]
        refine wpAnyH_at (i := 1) (some 61) (v := ?v1z2) rfl rfl (by kernel_rfl) (by kernel_rfl) (by kernel_rfl) (fun _ _ _ h => h) (Or.inl ⟨by rfl, ?y1z2⟩) (by assumption) ?r1z2
        case y1z2 =>
          intro w9 hSw
          have c0 := hSw.c0; have c1 := hSw.c1; have c2 := hSw.c2; clear hSw
          go_simp
          all_goals with_reducible rfl
        simp only [Act.put, List.setIfInBounds_toArray, List.set_cons_zero, List.set_cons_succ]
        refine wpAnyH_at (i := 2) (some 62) (v := ?v2z3) rfl rfl (by kernel_rfl) (by kernel_rfl) (by kernel_rfl) (fun _ _ _ h => h) (Or.inl ⟨by rfl, ?y2z3⟩) (by assumption) ?r2z3
        case y2z3 =>
          intro w9 hSw
          have c0 := hSw.c0; have c1 := hSw.c1; have c2 := hSw.c2; clear hSw
          go_simp
          all_goals with_reducible rfl
        simp only [Act.put, List.setIfInBounds_toArray, List.set_cons_zero, List.set_cons_succ]
        refine wpAnyH_at (i := 3) (some 63) (v := ?v3z4) rfl rfl (by kernel_rfl) (by kernel_rfl) (by kernel_rfl) (fun _ _ _ h => h) (Or.inl ⟨by rfl, ?y3z4⟩) (by assumption) ?r3z4
        case y3z4 =>
          intro w9 hSw
          have c0 := hSw.c0; have c1 := hSw.c1; have c2 := hSw.c2; clear hSw
          go_simp
          all_goals with_reducible rfl
        simp only [Act.put, List.setIfInBounds_toArray, List.set_cons_zero, List.set_cons_succ]
        refine wpAnyH_at (i := 4) (some 64) (v := ?v4z5) rfl rfl (by kernel_rfl) (by kernel_rfl) (by kernel_rfl) (fun _ _ _ h => h) (Or.inl ⟨by rfl, ?y4z5⟩) (by assumption) ?r4z5
        case y4z5 =>
          intro w9 hSw
          have c0 := hSw.c0; have c1 := hSw.c1; have c2 := hSw.c2; clear hSw
          go_simp
          all_goals with_reducible rfl
        simp only [Act.put, List.setIfInBounds_toArray, List.set_cons_zero, List.set_cons_succ]
        refine wpAnyH_at (i := 5) (some 65) (v := ?v5z6) rfl rfl (by kernel_rfl) (by kernel_rfl) (by kernel_rfl) (fun _ _ _ h => h) (Or.inl ⟨by rfl, ?y5z6⟩) (by assumption) ?r5z6
        case y5z6 =>
          intro w9 hSw
          have c0 := hSw.c0; have c1 := hSw.c1; have c2 := hSw.c2; clear hSw
          go_simp
          all_goals with_reducible rfl
        simp only [Act.put, List.setIfInBounds_toArray, List.set_cons_zero, List.set_cons_succ]
        refine wpAnyH_at (i := 6) (some 66) (v := ?v6z7) rfl rfl (by kernel_rfl) (by kernel_rfl) (by kernel_rfl) (fun _ _ _ h => h) (Or.inl ⟨by rfl, ?y6z7⟩) (by assumption) ?r6z7
        case y6z7 =>
          intro w9 hSw
          have c0 := hSw.c0; have c1 := hSw.c1; have c2 := hSw.c2; clear hSw
          go_simp
          all_goals with_reducible rfl
        simp only [Act.put, List.setIfInBounds_toArray, List.set_cons_zero, List.set_cons_succ]
        refine wpAnyH_at (i := 7) (some 67) (v := ?v7z8) rfl rfl (by kernel_rfl) (by kernel_rfl) (by kernel_rfl) (fun _ _ _ h => h) (Or.inl ⟨by rfl, ?y7z8⟩) (by assumption) ?r7z8
        case y7z8 =>
          intro w9 hSw
          have c0 := hSw.c0; have c1 := hSw.c1; have c2 := hSw.c2; clear hSw
          go_simp
          all_goals with_reducible rfl
        simp only [Act.put, List.setIfInBounds_toArray, List.set_cons_zero, List.set_cons_succ]
        refine wpAnyH_at (i := 8) (some 68) (v := ?v8z9) rfl rfl (by kernel_rfl) (by kernel_rfl) (by kernel_rfl) (fun _ _ _ h => h) (Or.inl ⟨by rfl, ?y8z9⟩) (by assumption) ?r8z9
        case y8z9 =>
          intro w9 hSw
          have c0 := hSw.c0; have c1 := hSw.c1; have c2 := hSw.c2; clear hSw
          go_simp
          all_goals with_reducible rfl
        simp only [Act.put, List.setIfInBounds_toArray, List.set_cons_zero, List.set_cons_succ]
        refine wpAnyH_at (i := 9) (some 69) (v := ?v9z10) rfl rfl (by kernel_rfl) (by kernel_rfl) (by kernel_rfl) (fun _ _ _ h => h) (Or.inl ⟨by rfl, ?y9z10⟩) (by assumption) ?r9z10
        case y9z10 =>
          intro w9 hSw
          have c0 := hSw.c0; have c1 := hSw.c1; have c2 := hSw.c2; clear hSw
          go_simp
          all_goals with_reducible rfl
        simp only [Act.put, List.setIfInBounds_toArray, List.set_cons_zero, List.set_cons_succ]
        refine wpAnyH_at (i := 10) (some 70) (v := ?v10z11) rfl rfl (by kernel_rfl) (by kernel_rfl) (by kernel_rfl) (fun _ _ _ h => h) (Or.inl ⟨by rfl, ?y10z11⟩) (by assumption) ?r10z11
        case y10z11 =>
          intro w9 hSw
          have c0 := hSw.c0; have c1 := hSw.c1; have c2 := hSw.c2; clear hSw
          go_simp
          all_goals with_reducible rfl
        simp only [Act.put, List.setIfInBounds_toArray, List.set_cons_zero, List.set_cons_succ]
        refine wpAnyH_one (i := 11) (by kernel_rfl) rfl ?_
        go_wp2_with fail
        refine DD.mono ?_
        rintro ev w4 ⟨rfl, T4, k4⟩
        have b4 := b1.trans (k4.below (by omega) b1.size)
        have b4k := k4.below (B := w.heap.size) (by omega) b1.size
        have hbW : bq < W0.heap.size := Nat.lt_of_lt_of_le hB b1.size
        have hHeld4 : CalAt w4 bq (o + k * 3) ⟨0, t, d⟩ := ⟨(b4k.cell hB).trans hHeld.c0, (b4k.cell hB).trans hHeld.c1, (b4k.cell hB).trans hHeld.c2⟩
        clear DD k4 b1 T1
        go_wp2
        have hHeld := hHeld4
        refine ⟨hHeld, ?_⟩
        try simp only [Act.put, List.setIfInBounds_toArray, List.set_cons_zero, List.set_cons_succ]
        refine wpAnyH_done (by kernel_rfl) ?_ _
        have hc0 := hHeld.c0
        simp only at hc0
        clear hHeld hHeld4
        go_wp2
        go_roundw
        case rel => exact ⟨k + 1, _, by omega, by go_num, T4, b4⟩
        case measure => simp [intOf]; omega
      · have hwi : (wh == 0) = false := by simpa using hwh
        clear hwh c1 c2 hcal hok
        go_wp2
        go_roundw
        case rel => exact ⟨k + 1, R, by omega, by go_num, T, b⟩
        case measure => simp [intOf]; omega
    · obtain rfl : k = n := by omega
      obtain ⟨wk, rfl⟩ : ∃ wk : World, wk = wr := ⟨_, rfl⟩
      have hws := b.size
      have C := wclone T
      have hTb := T.bounds
      clear H
      go_wp2_with fail
      refine C.mono ?_
      rintro ev w4 ⟨hic, pc, rfl, hc4, k4⟩
      have b4 := b.step k4 (Nat.le_refl _)
      have T4 := T.new k4
      have hcb := hc4.bounds
      have hs4 := k4.size
      have ba := alloc_below w4 (.cells #[] 3)
      have o4 := Out.lit0 .i64 3 w4 w4.heap.size (Nat.le_refl _)
      have T5 := T4.new ba
      have hc5 := hc4.new ba
      have b5 := b4.step ba (Nat.le_refl _)
      have ba5 := ba
      have hO := hTb.2.2.2.2.1
      have hRl := hTb.2.2.2.2.2
      have S0 := Stp.start hO nw
      clear C T b k4 T4 hc4 b4 ba
      go_wp2
      go_loopw [11, 12, 13] (fun v a i wr => ∃ (j at_ : Nat) (A3 : Option Addr) (n3 c3 : Nat) (L : List Int) (R2 : List Tm), j ≤ n2 ∧ i = .int .i64 j ∧ a = .int .u64 (at_ : Nat) ∧ v = .slice A3 n3 c3 ∧ at_ ≤ 1152921504606846976 + j * 65535 ∧ Out .i64 3 wr w4.heap.size A3 n3 c3 L ∧ Stp R at_ j L R2 ∧ Whl wr lo hi p at_ R2 ∧ Whl wr wk.heap.size hic pc nw R ∧ Below w.heap.size w wr ∧ w4.heap.size ≤ wr.heap.size ∧ nw ≤ at_) (fun _ _ i _ => n2 - (intOf i).toNat)
      case atStart => exact ⟨0, nw, _, 0, 0, [], R, Nat.zero_le _, rfl, rfl, rfl, by omega, o4, S0, T5, hc5, b5, by simp, Nat.le_refl _⟩
      case round =>
        obtain ⟨j, at_, A3, n3, c3, L, R2, hj, rfl, rfl, rfl, hat, oL, hS, T, hc, b, hsz, hna⟩ := hrel
        clear o4 S0 T5 hc5 b5 ba5
        have hLl := hS.len
        have hn3 := oL.len
        by_cases hjn : j < n2
        · have hji : (j : Int) < (n2 : Int) := by omega
          obtain ⟨bs, os, rfl, hBs, cs⟩ := (H2.below b (Nat.le_refl _)).at_ hjn
          have hwf := H2.wf hjn
          generalize ss.getD j 0 = x at *
          have hxb : 0 ≤ x ∧ x ≤ 65535 := by simpa [Lit.wf, IntKind.min, IntKind.max, IntKind.signed, IntKind.bits] using hwf
          obtain ⟨x, rfl⟩ := Int.eq_ofNat_of_zero_le hxb.1
          have hadd : (at_ : Int) + (x : Int) = ((at_ + x : Nat) : Int) := by omega
          have hS' := hS.step (b := at_ + x) (by omega)
          have hE : goE at_ (at_ + x) = 0 := by
            unfold goE
            rw [if_neg (by omega), if_neg (by omega)]
          have G := wgo T (at_ + x)
          have e1 : goL at_ (at_ + x) R2 = goT (at_ + x) R2 := by unfold goL; rw [if_pos hE]
          have e2 : goN at_ (at_ + x) = at_ + x := by unfold goN; rw [if_pos hE]
          have e3 : goRR at_ (at_ + x) R2 = goR (at_ + x) R2 := by unfold goRR; rw [if_pos hE]
          rw [hE, e1, e2, e3] at G
          have hat' : at_ + x ≤ 1152921504606846976 + (j + 1) * 65535 := by omega
          have hna' : nw ≤ at_ + x := by omega
          have hxl : (x : Int) ≤ 65535 := hxb.2
          have hb64 : (at_ + x : Nat) < 18446744073709551616 := by omega
          have hgl : (goT (at_ + x) R2).length ≤ 16384 := by have := goT_len (n := at_ + x) (R := R2); have := T.bounds; omega
          have hTb2 := T.bounds
          have hcb2 := hc.bounds
          obtain ⟨a2, ha2⟩ : ∃ a, at_ + x = a := ⟨_, rfl⟩
          rw [ha2] at hadd hS' G hat' hna' hb64 hgl
          clear hE e1 e2 e3 hS T hxb hwf ha2
          go_wp2_with fail
          refine G.mono ?_
          rintro ev w6 ⟨A6, n6, c6, rfl, o6, T6, k6⟩
          have oL6 := oL.kept k6 (fun ad e => by have := (oL.block ad e).1; omega)
          have hc6 := hc.kept k6 (fun k h1 h2 h3 => by omega)
          have b6 := b.trans (k6.below (by omega) b.size)
          have hs6 := k6.size
          have hn6 := o6.len
          have hne : ∀ g, (Value.slice A3 n3 c3).ownBlock = some g → w4.heap.size ≤ g := oL6.own_ge
          clear G oL hc b k6
          go_wp2_with (first | (at_builtin; refine wpList_app rfl (.tmp 99) (.tmp 100) 47 rfl w4.heap.size Try.underlying47 info3 (by omega) A3 n3 c3 L rfl oL6 A6 n6 c6 _ (goT a2 R2) rfl o6.rd (by omega) (by omega) ?_))
          intro A7 n7 c7 w7 o7 g7
          have kG : Kept (fun k => w4.heap.size ≤ k) w6 w7 := Kept.grown g7 hne
          have T7 := T6.kept kG (fun k h1 h2 h3 => by omega)
          have hc7 := hc6.kept kG (fun k h1 h2 h3 => by omega)
          have b7 := b6.trans (kG.below (B := w.heap.size) b6.size (fun k hk => by omega))
          have hs7 := kG.size
          clear oL6 o6 T6 hc6 b6 g7 kG hne
          go_wp2
          go_roundw
          case rel => exact ⟨j + 1, a2, A7, n7, c7, _, _, by omega, by go_num, rfl, rfl, hat', o7, hS', T7, hc7, b7, by omega, hna'⟩
          case measure => simp [intOf]; omega
        · obtain rfl : j = n2 := by omega
          obtain ⟨rfl, rfl⟩ := hS.done (by omega)
          have hE : goE nw at_ = 0 := by
            unfold goE
            rw [if_neg (by omega), if_neg (by omega)]
          have G := wgo hc at_
          have e1 : goL nw at_ R = goT at_ R := by unfold goL; rw [if_pos hE]
          have e2 : goN nw at_ = at_ := by unfold goN; rw [if_pos hE]
          have e3 : goRR nw at_ R = goR at_ R := by unfold goRR; rw [if_pos hE]
          rw [hE, e1, e2, e3] at G
          have hTb2 := T.bounds
          have hcb2 := hc.bounds
          clear hE e1 e2 e3 hS hc H2
          go_wp2_with fail
          refine G.mono ?_
          rintro ev w6 ⟨A6, n6, c6, rfl, o6, hc6, k6⟩
          have oL6 := oL.kept k6 (fun ad e => by have := (oL.block ad e).1; omega)
          have T6 := T.kept k6 (fun k h1 h2 h3 => by omega)
          have b6 := b.trans (k6.below (by omega) b.size)
          clear G oL T b k6
          have SI := sameInts_any _ _ _ _ _ _ _ _ _ _ o6.rd oL6.rd
          go_wp2_with fail
          refine SI.mono ?_
          rintro ev w7 ⟨rfl, k7⟩
          have b7 := b6.step k7 (Nat.le_refl _)
          have L1 := wlen (T6.new k7)
          have L2 := wlen (hc6.new k7)
          generalize (goR at_ R).length = ln at *
          clear SI o6 oL6 T6 hc6 k7 b6
          go_wp2_with fail
          refine L1.mono ?_
          rintro ev w8 ⟨rfl, rfl⟩
          go_wp2_with fail
          refine L2.mono ?_
          rintro ev w9 ⟨rfl, rfl⟩
          clear L1 L2
          go_wp2
          go_ret
          exact ⟨by simp, b7⟩
theorem steps_law (a : Int) (hw : (Lit.int .u64 a).wf = true) (A : Option Addr) (n c : Nat) (qs : Nat → Cal) (A2 : Option Addr) (n2 c2 : Nat) (ss : List Int) (w : World) (H : CallsAt w w.heap.size A n c qs) (H2 : Rd .u16 w w.heap.size A2 n2 c2 ss) :
    Calls Try.prog 5 #[.int .u64 a, .slice A n c, .slice A2 n2 c2] w fun e w' => e = .returned (.bool true) ∧ Below w.heap.size w w' := by
  obtain ⟨nw, rfl⟩ := Int.eq_ofNat_of_zero_le (u64_bd hw).1
  by_cases h1 : 100 < n
  · exact steps_out1 nw A n c qs w H A2 n2 c2 ss H2 h1
  by_cases h2 : n2 < 1
  · exact steps_out2 nw A n c qs w H A2 n2 c2 ss H2 h1 h2
  by_cases h3 : 60 < n2
  · exact steps_out3 nw A n c qs w H A2 n2 c2 ss H2 h1 h2 h3
  by_cases h4 : 1152921504606846976 < nw
  · exact steps_out4 nw A n c qs w H A2 n2 c2 ss H2 h1 h2 h3 h4
  · exact steps_in nw A n c qs w H A2 n2 c2 ss H2 h1 h2 h3 h4
end Go.Proofs.Ytalojeblemhihaa
