/-
  The law WheelCancels: what is cancelled is never told, what is set anew once.
-/
import Derived.Test.YtalojeblemhihaaCnt
namespace Go.Proofs.Ytalojeblemhihaa
open Go.RowKit
set_option linter.unusedVariables false

/-- No timer beyond the first k. -/
def Till (k : Nat) (R : List Tm) : Prop := ∀ t d, (t, d) ∈ R → 0 ≤ t ∧ t < (k : Int)
theorem Till.no {k : Nat} {R : List Tm} (h : Till k R) : hasT (k : Int) R = false := hasT_false.2 fun d hd => by have := h _ _ hd; omega
theorem Till.mono {k : Nat} {R : List Tm} (h : Till k R) : Till (k + 1) R := fun t d hd => by have := h t d hd; omega
theorem Till.set {k d : Nat} {R : List Tm} (h : Till k R) : Till (k + 1) (setT (k : Int) d R) := fun t e hd => by
  rcases mem_setT.1 hd with h1 | ⟨h1, _⟩
  · injection h1 with h1 _
    omega
  · have := h t e h1
    omega
theorem len_setT_le {R : List Tm} (hO : Ok R) (t : Int) (d : Nat) : (setT t d R).length ≤ R.length + 1 := by rw [hO.len_set]; split <;> omega
theorem i64_int {t : Int} (h : -1 ≤ t) (h2 : t ≤ 100) : wfI t := by
  show (Lit.int .i64 t).wf = true
  simp [Lit.wf, IntKind.min, IntKind.max, IntKind.signed, IntKind.bits]
  omega
theorem Whl.len {w : World} {lo hi p now : Nat} {R : List Tm} (h : Whl w lo hi p now R) : R.length ≤ 16384 := h.bounds.2.2.2.2.2
theorem Whl.okk {w : World} {lo hi p now : Nat} {R : List Tm} (h : Whl w lo hi p now R) : Ok R := h.bounds.2.2.2.2.1
set_option maxRecDepth 100000 in
set_option maxHeartbeats 2000000 in
theorem cancels_out1 (A : Option Addr) (n c : Nat) (ds : List Int) (cc ag : Int) (due m : Nat) (w : World) (H : Rd .u64 w w.heap.size A n c ds) (hcc : wfI cc) (hag : wfI ag) (h1 : 60 < n) : Calls Try.prog 6 #[.slice A n c, .int .i64 cc, .int .i64 ag, .int .u64 due, .int .u64 m] w fun e w' => e = .returned (.bool true) ∧ Below w.heap.size w w' := by
  have AL := alive_any w
  have i1 : (60 : Int) < (n : Int) := by omega
  clear H
  go_enter Try.func6, Try.ntmps6
  go_wp2_with fail
  refine AL.mono ?_
  rintro ev w1 ⟨rfl, b1⟩
  clear AL
  go_wp2
  go_ret
  exact ⟨rfl, b1⟩
set_option maxRecDepth 100000 in
set_option maxHeartbeats 2000000 in
theorem cancels_out2 (A : Option Addr) (n c : Nat) (ds : List Int) (cc ag : Int) (due m : Nat) (w : World) (H : Rd .u64 w w.heap.size A n c ds) (hcc : wfI cc) (hag : wfI ag) (h1 : ¬ 60 < n) (h2 : 4611686018427387904 < due) : Calls Try.prog 6 #[.slice A n c, .int .i64 cc, .int .i64 ag, .int .u64 due, .int .u64 m] w fun e w' => e = .returned (.bool true) ∧ Below w.heap.size w w' := by
  have AL := alive_any w
  have i1 : ¬ (60 : Int) < (n : Int) := by omega
  have i2 : (4611686018427387904 : Int) < (due : Int) := by omega
  clear H
  go_enter Try.func6, Try.ntmps6
  go_wp2_with fail
  refine AL.mono ?_
  rintro ev w1 ⟨rfl, b1⟩
  clear AL
  go_wp2
  go_ret
  exact ⟨rfl, b1⟩
set_option maxRecDepth 100000 in
set_option maxHeartbeats 2000000 in
theorem cancels_out3 (A : Option Addr) (n c : Nat) (ds : List Int) (cc ag : Int) (due m : Nat) (w : World) (H : Rd .u64 w w.heap.size A n c ds) (hcc : wfI cc) (hag : wfI ag) (h1 : ¬ 60 < n) (h2 : ¬ 4611686018427387904 < due) (h3 : 4611686018427387904 < m) : Calls Try.prog 6 #[.slice A n c, .int .i64 cc, .int .i64 ag, .int .u64 due, .int .u64 m] w fun e w' => e = .returned (.bool true) ∧ Below w.heap.size w w' := by
  have AL := alive_any w
  have i1 : ¬ (60 : Int) < (n : Int) := by omega
  have i2 : ¬ (4611686018427387904 : Int) < (due : Int) := by omega
  have i3 : (4611686018427387904 : Int) < (m : Int) := by omega
  clear H
  go_enter Try.func6, Try.ntmps6
  go_wp2_with fail
  refine AL.mono ?_
  rintro ev w1 ⟨rfl, b1⟩
  clear AL
  go_wp2
  go_ret
  exact ⟨rfl, b1⟩
set_option maxRecDepth 100000 in
set_option maxHeartbeats 2000000 in
theorem cancels_in (A : Option Addr) (n c : Nat) (ds : List Int) (cc ag : Int) (due m : Nat) (w : World) (H : Rd .u64 w w.heap.size A n c ds) (hcc : wfI cc) (hag : wfI ag) (h1 : ¬ 60 < n) (h2 : ¬ 4611686018427387904 < due) (h3 : ¬ 4611686018427387904 < m) : Calls Try.prog 6 #[.slice A n c, .int .i64 cc, .int .i64 ag, .int .u64 due, .int .u64 m] w fun e w' => e = .returned (.bool true) ∧ Below w.heap.size w w' := by
  have AL := alive_any w
  have i1 : ¬ (60 : Int) < (n : Int) := by omega
  have i2 : ¬ (4611686018427387904 : Int) < (due : Int) := by omega
  have i3 : ¬ (4611686018427387904 : Int) < (m : Int) := by omega
  have hcap := H.max
  have hcap2 := H.cap
  go_enter Try.func6, Try.ntmps6
  go_wp2_with fail
  refine AL.mono ?_
  rintro ev w1 ⟨rfl, b1⟩
  clear AL
  go_wp2_with fail
  refine (wnew 0 (by omega) w1).mono ?_
  rintro ev w2 ⟨hi, p, rfl, T2, k2⟩
  have b2 := b1.step k2 (Nat.le_refl _)
  have hlo := b1.size
  have hhi := T2.bounds.2.2.1
  have ba := alloc_below w2 (.map #[] 0)
  have T3 := T2.new ba
  have D0 := DuAt.new w2
  have b3 := b2.step ba (Nat.le_refl _)
  have hmm := @run_makeMap Try.prog
  have hsz2 : w2.heap.size < (w2.alloc (.map #[] 0)).heap.size := by simp
  have hbl : w.heap.size ≤ w2.heap.size := b2.size
  generalize hbm : w2.heap.size = bm at *
  generalize w1.heap.size = lo at *
  clear k2 b1 T2 ba b2
  go_wp2
  generalize w2.alloc (.map #[] 0) = w3 at *
  clear hbm hmm
  go_loopw [14] (fun i wr => ∃ (k : Nat) (R : List Tm), k ≤ n ∧ i = .int .i64 k ∧ Whl wr lo hi p 0 R ∧ DuAt wr bm R ∧ Till k R ∧ R.length ≤ k ∧ Below w.heap.size w wr ∧ bm < wr.heap.size) (fun i _ => n - (intOf i).toNat)
  case atStart => exact ⟨0, [], Nat.zero_le _, rfl, T3, D0, fun t d h => by simp at h, Nat.le_refl _, b3, hsz2⟩
  case round =>
    obtain ⟨k, R, hk, rfl, T, hD, hT, hl, b, hs⟩ := hrel
    clear T3 b3 D0
    have hlen := T.len
    have hO := T.okk
    have hTb := T.bounds
    by_cases hkn : k < n
    · have hki : (k : Int) < (n : Int) := by omega
      obtain ⟨bs, os, rfl, hBs, cs⟩ := (H.below b (Nat.le_refl _)).at_ hkn
      have hwf := H.wf hkn
      generalize ds.getD k 0 = x at *
      have hxb := u64_bd hwf
      obtain ⟨x, rfl⟩ := Int.eq_ofNat_of_zero_le hxb.1
      have hwk : wfI (k : Int) := i64_int (by omega) (by omega)
      have S := wset T (k : Int) hwk x (by omega)
      by_cases hx : x ≤ 4611686018427387904
      · have e : setE (k : Int) x R = 0 := setE_mk hx (fun h => by omega)
        have e' : setR (k : Int) x R = setT (k : Int) x R := by unfold setR; rw [if_pos e]
        rw [e, e'] at S
        have P : Hid (∀ w4, OnlyW lo hi wr w4 → ∃ w5, (Instr.mapUpdate 56 (.map (some bm)) (.int .i64 (k : Int)) (.int .u64 (x : Nat))).run Try.prog w4 = .ok () w5 ∧ DuAt w5 bm (setT (k : Int) x R) ∧ Kept (· = bm) w4 w5) := Lib.hid (fun w4 k4 => by
          obtain ⟨w5, a, b, c⟩ := (hD.kept k4 (by omega)).set hO hwk (by omega) hx
          exact ⟨w5, a, b, kept_turned c rfl⟩)
        have hl' := len_setT_le hO (k : Int) x
        have hT' := hT.set (d := x)
        clear e e' hD hT hwf hxb hx
        go_wp2_with fail
        refine S.mono ?_
        rintro ev w4 ⟨rfl, T4, k4⟩
        obtain ⟨w5, u5, D5, k5⟩ := P.out w4 k4
        have b4 := b.trans (k4.below (B := w.heap.size) (by omega) b.size)
        have b4k := k4.below (B := w.heap.size) (by omega) b.size
        have cs4 := (b4k.cell hBs).trans cs
        have T5 := T4.kept k5 (fun j h1 h2 h3 => by omega)
        have b5 := b4.trans (k5.below (B := w.heap.size) b4.size (fun j hj => by omega))
        have hs5 : bm < w5.heap.size := by have := k4.size; have := k5.size; omega
        clear S P T4 k4 k5 b4 b T
        go_wp2
        go_roundw
        case rel => exact ⟨k + 1, _, by omega, by go_num, T5, D5, hT', by omega, b5, hs5⟩
        case measure => simp [intOf]; omega
      · have e : setE (k : Int) x R = 11 := by unfold setE; rw [if_pos (by omega)]
        have e' : setR (k : Int) x R = R := by unfold setR; rw [e]; rfl
        rw [e, e'] at S
        clear e e' hwf hxb hx
        go_wp2_with fail
        refine S.mono ?_
        rintro ev w4 ⟨rfl, T4, k4⟩
        have b4 := b.trans (k4.below (B := w.heap.size) (by omega) b.size)
        have D4 := hD.kept k4 (by omega)
        have hs4 : bm < w4.heap.size := by have := k4.size; omega
        have hT' := hT.mono
        clear S T k4 b hD hT cs
        go_wp2
        go_roundw
        case rel => exact ⟨k + 1, _, by omega, by go_num, T4, D4, hT', by omega, b4, hs4⟩
        case measure => simp [intOf]; omega
    · obtain rfl : k = n := by omega
      have L1 := hD.look hO hcc
      have C := wcancel T cc hcc
      have hld := len_delT_le (t := cc) (R := R)
      have hOd := hO.del cc
      have E1 : Hid (∀ w4, OnlyW lo hi wr w4 → ∃ w5, (∀ ty, (Builtin.delete_ #[56, 3] ty #[.map (some bm), .int .i64 cc]).run Try.prog w4 = .ok (.tuple #[]) w5) ∧ DuAt w5 bm (delT cc R) ∧ Kept (· = bm) w4 w5) := Lib.hid (fun w4 k4 => by
        obtain ⟨w5, a, b, c⟩ := (hD.kept k4 (by omega)).del hO hcc 0
        exact ⟨w5, fun _ => a, b, kept_turned c rfl⟩)
      have hTd : ∀ t d, (t, d) ∈ delT cc R → 0 ≤ t ∧ t < (k : Int) := fun t d h => hT t d (mem_delT.1 h).1
      generalize hR1 : delT cc R = R1 at *
      generalize dueT cc R = dcc at *
      generalize hasT cc R = hc at *
      clear hD hT hR1 H
      go_wp2_with fail
      refine C.mono ?_
      rintro ev w4 ⟨rfl, T4, k4⟩
      obtain ⟨w5, u5, D5, k5⟩ := E1.out w4 k4
      have b4 := b.trans (k4.below (B := w.heap.size) (by omega) b.size)
      have T5 := T4.kept k5 (fun j h1 h2 h3 => by omega)
      have b5 := b4.trans (k5.below (B := w.heap.size) b4.size (fun j hj => by omega))
      have hs5 : bm < w5.heap.size := by have := k4.size; have := k5.size; omega
      clear C E1 T4 k4 k5 b4 b T L1
      have S := wset T5 ag hag due (by omega)
      have e : setE ag due R1 = 0 := setE_mk (by omega) (fun h => by omega)
      have e' : setR ag due R1 = setT ag due R1 := by unfold setR; rw [if_pos e]
      rw [e, e'] at S
      have P : Hid (∀ w6, OnlyW lo hi w5 w6 → ∃ w7, (Instr.mapUpdate 56 (.map (some bm)) (.int .i64 ag) (.int .u64 due)).run Try.prog w6 = .ok () w7 ∧ DuAt w7 bm (setT ag due R1) ∧ Kept (· = bm) w6 w7) := Lib.hid (fun w6 k6 => by
        obtain ⟨w7, a, b, c⟩ := (D5.kept k6 (by omega)).set (d := due) hOd hag (by omega) (by omega)
        exact ⟨w7, a, b, kept_turned c rfl⟩)
      have hO2 : Ok (setT ag due R1) := hOd.set hag (by omega)
      have hmem : (ag, due) ∈ setT ag due R1 := mem_setT.2 (.inl rfl)
      have hall : ∀ t d, (t, d) ∈ setT ag due R1 → t = ag ∨ (0 ≤ t ∧ t < (k : Int)) := fun t d h => by
        rcases mem_setT.1 h with h1 | ⟨h1, _⟩
        · injection h1 with h1 _
          exact .inl h1
        · exact .inr (hTd t d h1)
      have hcount := told_count hO2 (m := m) (n := k) hmem hall
      have hl2 := len_setT_le hOd ag due
      generalize setT ag due R1 = R2 at *
      clear e e' hTd
      go_wp2_with fail
      refine S.mono ?_
      rintro ev w6 ⟨rfl, T6, k6⟩
      obtain ⟨w7, u7, D7, k7⟩ := P.out w6 k6
      have b6 := b5.trans (k6.below (B := w.heap.size) (by omega) b5.size)
      have T7 := T6.kept k7 (fun j h1 h2 h3 => by omega)
      have b7 := b6.trans (k7.below (B := w.heap.size) b6.size (fun j hj => by omega))
      have hs7 : bm < w7.heap.size := by have := k6.size; have := k7.size; omega
      clear S P T6 k6 k7 b6 b5 T5 D5 hs5
      have LN := wlen T7
      have LM := D7.len
      have hE : goE 0 m = 0 := by
        unfold goE
        rw [if_neg (by omega), if_neg (by omega)]
      have G := wgo T7 m
      have f1 : goL 0 m R2 = goT m R2 := by unfold goL; rw [if_pos hE]
      have f2 : goN 0 m = m := by unfold goN; rw [if_pos hE]
      have f3 : goRR 0 m R2 = goR m R2 := by unfold goRR; rw [if_pos hE]
      rw [hE, f1, f2, f3] at G
      clear hE f1 f2 f3
      generalize R2.length = l2 at *
      go_wp2_with fail
      refine LN.mono ?_
      rintro ev w8 ⟨rfl, rfl⟩
      clear LN
      go_wp2_with fail
      refine G.mono ?_
      rintro ev w9 ⟨A9, n9, c9, rfl, o9, T9, k9⟩
      have D9 := D7.kept k9 (by omega)
      have b9 := b7.trans (k9.below (B := w.heap.size) (by omega) b7.size)
      have hs9 : bm < w9.heap.size := by have := k9.size; omega
      have hbo : ∀ ad, A9 = some ad → bm < ad.block := fun ad e => by have := (o9.block ad e).1; omega
      have hn9 := o9.len
      clear G LM T7 D7 k9 b7 hs7 hTb
      go_wp2
      go_loopw [19, 20] (fun s i wr => ∃ (v : Int), -1 ≤ v ∧ v ≤ (k : Int) + 1 ∧ i = .int .i64 v ∧ s = .int .i64 (cntT R2 m (v + 1).toNat : Nat) ∧ wr = w9) (fun _ i _ => ((k : Int) + 1 - intOf i).toNat)
      case atStart => exact ⟨-1, by omega, by omega, rfl, rfl, by first | rfl | trivial⟩
      case round =>
        obtain ⟨v, hv1, hv2, rfl, rfl, rfl⟩ := hrel
        have hcl := cntT_le R2 m (v + 1).toNat
        by_cases hvn : v ≤ (k : Int)
        · have hLk := D9.look hO2 (t := v) (i64_int hv1 (by omega))
          have hst := cntT_succ R2 m (v + 1).toNat
          have hvv : ((v + 1).toNat : Int) - 1 = v := by omega
          have hv3 : (v + 1).toNat + 1 = (v + 1 + 1).toNat := by omega
          rw [hvv, hv3] at hst
          obtain ⟨cn, hcn⟩ : ∃ c, cntT R2 m (v + 1).toNat = c := ⟨_, rfl⟩
          rw [hcn] at hst hcl
          have hclb : cn ≤ 200 := by omega
          by_cases hh : hasT v R2 = true
          · by_cases hdu : dueT v R2 ≤ m
            · have hdui : (dueT v R2 : Int) ≤ (m : Int) := by omega
              have hst2 : cntT R2 m (v + 1 + 1).toNat = cn + 1 := by rw [hst, hh]; simp [hdu]
              rw [hh] at hLk
              rw [hcn]
              generalize dueT v R2 = dv at *
              clear hst hh hdu hvv hv3 T9 D9 b9 o9 hcount hall hcn
              go_wp2
              go_roundw
              case rel => exact ⟨v + 1, by omega, by omega, by go_num, by rw [hst2]; go_num, by first | rfl | trivial⟩
              case measure => simp [intOf]; omega
            · have hdui : ¬ (dueT v R2 : Int) ≤ (m : Int) := by omega
              have hst2 : cntT R2 m (v + 1 + 1).toNat = cn := by rw [hst]; simp [hdu]
              rw [hh] at hLk
              rw [hcn]
              generalize dueT v R2 = dv at *
              clear hst hh hdu hvv hv3 T9 D9 b9 o9 hcount hall hcn
              go_wp2
              go_roundw
              case rel => exact ⟨v + 1, by omega, by omega, by go_num, by rw [hst2], by first | rfl | trivial⟩
              case measure => simp [intOf]; omega
          · have hh' : hasT v R2 = false := by simpa using hh
            have hst2 : cntT R2 m (v + 1 + 1).toNat = cn := by rw [hst, hh']; simp
            rw [hh'] at hLk
            rw [hcn]
            generalize dueT v R2 = dv at *
            clear hst hh hh' hvv hv3 T9 D9 b9 o9 hcount hall hcn
            go_wp2
            go_roundw
            case rel => exact ⟨v + 1, by omega, by omega, by go_num, by rw [hst2], by first | rfl | trivial⟩
            case measure => simp [intOf]; omega
        · obtain rfl : v = (k : Int) + 1 := by omega
          have hv3 : ((k : Int) + 1 + 1).toNat = k + 2 := by omega
          rw [hv3] at hcl ⊢
          rw [hn9] at hcount
          obtain ⟨cn, hcn⟩ : ∃ c, cntT R2 m (k + 2) = c := ⟨_, rfl⟩
          rw [hcn] at hcount hcl ⊢
          have hnd := hO2.goT_nodup m
          have hgm : ∀ t ∈ goT m R2, hasT t R2 = true ∧ dueT t R2 ≤ m := fun t ht => by
            obtain ⟨d, h1, h2⟩ := mem_goT.1 ht
            exact ⟨hasT_iff.2 ⟨d, h1⟩, by rw [dueT_of hO2 h1]; exact h2⟩
          have D9' : DuAt wr bm (dropL ((goT m R2).take 0) R2) := by rw [List.take_zero, dropL_nil]; exact D9
          clear D9 hall hvn hcn hv3 hmem
          by_cases hu : (ag < -1 ∨ (k : Int) < ag)
          · by_cases hd : due ≤ m
            · rw [if_pos ⟨hu, hd⟩] at hcount
              have hdi : (due : Int) ≤ (m : Int) := by omega
              have hci : (n9 : Int) = (cn : Int) + 1 := by omega
              have hcl2 : cn ≤ 200 := by omega
              rcases hu with hu1 | hu2
              · clear hcount hd
                go_wp2
                go_loopw [23] (fun i wz => ∃ j : Nat, j ≤ n9 ∧ i = .int .i64 j ∧ DuAt wz bm (dropL ((goT m R2).take j) R2) ∧ Whl wz lo hi p m (goR m R2) ∧ Out .i64 3 wz w8.heap.size A9 n9 c9 (goT m R2) ∧ Below w.heap.size w wz ∧ bm < wz.heap.size) (fun i _ => n9 - (intOf i).toNat)
                case atStart => exact ⟨0, Nat.zero_le _, rfl, D9', T9, o9, b9, hs9⟩
                case round =>
                  obtain ⟨j, hj, rfl, D, T, oo, b, hs⟩ := hrel
                  clear D9' T9 o9 b9 hs9
                  by_cases hjn : j < n9
                  · have hji : (j : Int) < (n9 : Int) := by omega
                    obtain ⟨xa, rfl, hxa, hxl, cx, fx⟩ := oo.at3 hjn
                    have hjl : j < (goT m R2).length := by omega
                    have htm := getD_mem hjl
                    have hwt := oo.2 _ htm
                    obtain ⟨g1, g2⟩ := hgm _ htm
                    have hts := take_succ hjl
                    have hin : hasT ((goT m R2).getD j 0) (dropL ((goT m R2).take j) R2) = true := by
                      obtain ⟨d, hd⟩ := hasT_iff.1 g1
                      refine hasT_iff.2 ⟨d, mem_dropL.2 ⟨hd, fun h => ?_⟩⟩
                      have hnd2 : ((goT m R2).take (j + 1)).Nodup := hnd.sublist (List.take_sublist _ _)
                      rw [hts] at hnd2
                      exact (List.nodup_append.1 hnd2).2.2 _ h _ (by simp) rfl
                    have hOj : Ok (dropL ((goT m R2).take j) R2) := hO2.sub List.filter_sublist
                    have hdue : dueT ((goT m R2).getD j 0) (dropL ((goT m R2).take j) R2) ≤ m := by
                      obtain ⟨d, hd⟩ := hasT_iff.1 hin
                      rw [dueT_of hOj hd]
                      rw [dueT_of hO2 (mem_dropL.1 hd).1] at g2
                      exact g2
                    have hLk := D.look hOj hwt
                    rw [hin] at hLk
                    obtain ⟨w8b, e8, D8, k8⟩ : ∃ w', (∀ ty, (Builtin.delete_ #[56, 3] ty #[.map (some bm), .int .i64 ((goT m R2).getD j 0)]).run Try.prog wr = .ok (.tuple #[]) w') ∧ DuAt w' bm (delT ((goT m R2).getD j 0) (dropL ((goT m R2).take j) R2)) ∧ Kept (· = bm) wr w' := by
                      obtain ⟨w', a, b, c⟩ := D.del hOj hwt 0
                      exact ⟨w', fun _ => a, b, kept_turned c rfl⟩
                    rw [dropL_snoc, ← hts] at D8
                    generalize dueT ((goT m R2).getD j 0) (dropL ((goT m R2).take j) R2) = dj at *
                    have hdj : ¬ (m : Int) < (dj : Int) := by omega
                    have hTb := T.bounds
                    have T8 := T.kept k8 (fun j h1 h2 h3 => by omega)
                    have o8 := oo.kept k8 (fun ad e => by have := hbo ad e; omega)
                    have b8 := b.trans (k8.below (B := w.heap.size) b.size (fun j hj => by omega))
                    have hs8 : bm < w8b.heap.size := by have := k8.size; omega
                    obtain ⟨t, hte⟩ : ∃ t, (goT m R2).getD j 0 = t := ⟨_, rfl⟩
                    rw [hte] at cx hLk e8
                    clear D T oo b k8 hin hOj hts g1 g2 htm hte hdue hwt
                    go_wp2
                    go_roundw
                    case rel => exact ⟨j + 1, by omega, by go_num, D8, T8, o8, b8, hs8⟩
                    case measure => simp [intOf]; omega
                  · obtain rfl : j = n9 := by omega
                    rw [take_all hn9, dropL_goT hO2] at D
                    have LN := wlen T
                    have LM := D.len
                    generalize (goR m R2).length = lr at *
                    clear D T oo
                    go_wp2_with fail
                    refine LN.mono ?_
                    rintro ev wz ⟨rfl, rfl⟩
                    clear LN
                    go_wp2
                    go_ret
                    exact ⟨by simp, b⟩
              · have hu1 : ¬ ag < -1 := by omega
                clear hcount hd
                go_wp2
                go_loopw [23] (fun i wz => ∃ j : Nat, j ≤ n9 ∧ i = .int .i64 j ∧ DuAt wz bm (dropL ((goT m R2).take j) R2) ∧ Whl wz lo hi p m (goR m R2) ∧ Out .i64 3 wz w8.heap.size A9 n9 c9 (goT m R2) ∧ Below w.heap.size w wz ∧ bm < wz.heap.size) (fun i _ => n9 - (intOf i).toNat)
                case atStart => exact ⟨0, Nat.zero_le _, rfl, D9', T9, o9, b9, hs9⟩
                case round =>
                  obtain ⟨j, hj, rfl, D, T, oo, b, hs⟩ := hrel
                  clear D9' T9 o9 b9 hs9
                  by_cases hjn : j < n9
                  · have hji : (j : Int) < (n9 : Int) := by omega
                    obtain ⟨xa, rfl, hxa, hxl, cx, fx⟩ := oo.at3 hjn
                    have hjl : j < (goT m R2).length := by omega
                    have htm := getD_mem hjl
                    have hwt := oo.2 _ htm
                    obtain ⟨g1, g2⟩ := hgm _ htm
                    have hts := take_succ hjl
                    have hin : hasT ((goT m R2).getD j 0) (dropL ((goT m R2).take j) R2) = true := by
                      obtain ⟨d, hd⟩ := hasT_iff.1 g1
                      refine hasT_iff.2 ⟨d, mem_dropL.2 ⟨hd, fun h => ?_⟩⟩
                      have hnd2 : ((goT m R2).take (j + 1)).Nodup := hnd.sublist (List.take_sublist _ _)
                      rw [hts] at hnd2
                      exact (List.nodup_append.1 hnd2).2.2 _ h _ (by simp) rfl
                    have hOj : Ok (dropL ((goT m R2).take j) R2) := hO2.sub List.filter_sublist
                    have hdue : dueT ((goT m R2).getD j 0) (dropL ((goT m R2).take j) R2) ≤ m := by
                      obtain ⟨d, hd⟩ := hasT_iff.1 hin
                      rw [dueT_of hOj hd]
                      rw [dueT_of hO2 (mem_dropL.1 hd).1] at g2
                      exact g2
                    have hLk := D.look hOj hwt
                    rw [hin] at hLk
                    obtain ⟨w8b, e8, D8, k8⟩ : ∃ w', (∀ ty, (Builtin.delete_ #[56, 3] ty #[.map (some bm), .int .i64 ((goT m R2).getD j 0)]).run Try.prog wr = .ok (.tuple #[]) w') ∧ DuAt w' bm (delT ((goT m R2).getD j 0) (dropL ((goT m R2).take j) R2)) ∧ Kept (· = bm) wr w' := by
                      obtain ⟨w', a, b, c⟩ := D.del hOj hwt 0
                      exact ⟨w', fun _ => a, b, kept_turned c rfl⟩
                    rw [dropL_snoc, ← hts] at D8
                    generalize dueT ((goT m R2).getD j 0) (dropL ((goT m R2).take j) R2) = dj at *
                    have hdj : ¬ (m : Int) < (dj : Int) := by omega
                    have hTb := T.bounds
                    have T8 := T.kept k8 (fun j h1 h2 h3 => by omega)
                    have o8 := oo.kept k8 (fun ad e => by have := hbo ad e; omega)
                    have b8 := b.trans (k8.below (B := w.heap.size) b.size (fun j hj => by omega))
                    have hs8 : bm < w8b.heap.size := by have := k8.size; omega
                    obtain ⟨t, hte⟩ : ∃ t, (goT m R2).getD j 0 = t := ⟨_, rfl⟩
                    rw [hte] at cx hLk e8
                    clear D T oo b k8 hin hOj hts g1 g2 htm hte hdue hwt
                    go_wp2
                    go_roundw
                    case rel => exact ⟨j + 1, by omega, by go_num, D8, T8, o8, b8, hs8⟩
                    case measure => simp [intOf]; omega
                  · obtain rfl : j = n9 := by omega
                    rw [take_all hn9, dropL_goT hO2] at D
                    have LN := wlen T
                    have LM := D.len
                    generalize (goR m R2).length = lr at *
                    clear D T oo
                    go_wp2_with fail
                    refine LN.mono ?_
                    rintro ev wz ⟨rfl, rfl⟩
                    clear LN
                    go_wp2
                    go_ret
                    exact ⟨by simp, b⟩
            · rw [if_neg (fun h => hd h.2)] at hcount
              have hdi : ¬ (due : Int) ≤ (m : Int) := by omega
              have hci : (n9 : Int) = (cn : Int) := by omega
              rcases hu with hu1 | hu2
              · clear hcount hd
                go_wp2
                go_loopw [23] (fun i wz => ∃ j : Nat, j ≤ n9 ∧ i = .int .i64 j ∧ DuAt wz bm (dropL ((goT m R2).take j) R2) ∧ Whl wz lo hi p m (goR m R2) ∧ Out .i64 3 wz w8.heap.size A9 n9 c9 (goT m R2) ∧ Below w.heap.size w wz ∧ bm < wz.heap.size) (fun i _ => n9 - (intOf i).toNat)
                case atStart => exact ⟨0, Nat.zero_le _, rfl, D9', T9, o9, b9, hs9⟩
                case round =>
                  obtain ⟨j, hj, rfl, D, T, oo, b, hs⟩ := hrel
                  clear D9' T9 o9 b9 hs9
                  by_cases hjn : j < n9
                  · have hji : (j : Int) < (n9 : Int) := by omega
                    obtain ⟨xa, rfl, hxa, hxl, cx, fx⟩ := oo.at3 hjn
                    have hjl : j < (goT m R2).length := by omega
                    have htm := getD_mem hjl
                    have hwt := oo.2 _ htm
                    obtain ⟨g1, g2⟩ := hgm _ htm
                    have hts := take_succ hjl
                    have hin : hasT ((goT m R2).getD j 0) (dropL ((goT m R2).take j) R2) = true := by
                      obtain ⟨d, hd⟩ := hasT_iff.1 g1
                      refine hasT_iff.2 ⟨d, mem_dropL.2 ⟨hd, fun h => ?_⟩⟩
                      have hnd2 : ((goT m R2).take (j + 1)).Nodup := hnd.sublist (List.take_sublist _ _)
                      rw [hts] at hnd2
                      exact (List.nodup_append.1 hnd2).2.2 _ h _ (by simp) rfl
                    have hOj : Ok (dropL ((goT m R2).take j) R2) := hO2.sub List.filter_sublist
                    have hdue : dueT ((goT m R2).getD j 0) (dropL ((goT m R2).take j) R2) ≤ m := by
                      obtain ⟨d, hd⟩ := hasT_iff.1 hin
                      rw [dueT_of hOj hd]
                      rw [dueT_of hO2 (mem_dropL.1 hd).1] at g2
                      exact g2
                    have hLk := D.look hOj hwt
                    rw [hin] at hLk
                    obtain ⟨w8b, e8, D8, k8⟩ : ∃ w', (∀ ty, (Builtin.delete_ #[56, 3] ty #[.map (some bm), .int .i64 ((goT m R2).getD j 0)]).run Try.prog wr = .ok (.tuple #[]) w') ∧ DuAt w' bm (delT ((goT m R2).getD j 0) (dropL ((goT m R2).take j) R2)) ∧ Kept (· = bm) wr w' := by
                      obtain ⟨w', a, b, c⟩ := D.del hOj hwt 0
                      exact ⟨w', fun _ => a, b, kept_turned c rfl⟩
                    rw [dropL_snoc, ← hts] at D8
                    generalize dueT ((goT m R2).getD j 0) (dropL ((goT m R2).take j) R2) = dj at *
                    have hdj : ¬ (m : Int) < (dj : Int) := by omega
                    have hTb := T.bounds
                    have T8 := T.kept k8 (fun j h1 h2 h3 => by omega)
                    have o8 := oo.kept k8 (fun ad e => by have := hbo ad e; omega)
                    have b8 := b.trans (k8.below (B := w.heap.size) b.size (fun j hj => by omega))
                    have hs8 : bm < w8b.heap.size := by have := k8.size; omega
                    obtain ⟨t, hte⟩ : ∃ t, (goT m R2).getD j 0 = t := ⟨_, rfl⟩
                    rw [hte] at cx hLk e8
                    clear D T oo b k8 hin hOj hts g1 g2 htm hte hdue hwt
                    go_wp2
                    go_roundw
                    case rel => exact ⟨j + 1, by omega, by go_num, D8, T8, o8, b8, hs8⟩
                    case measure => simp [intOf]; omega
                  · obtain rfl : j = n9 := by omega
                    rw [take_all hn9, dropL_goT hO2] at D
                    have LN := wlen T
                    have LM := D.len
                    generalize (goR m R2).length = lr at *
                    clear D T oo
                    go_wp2_with fail
                    refine LN.mono ?_
                    rintro ev wz ⟨rfl, rfl⟩
                    clear LN
                    go_wp2
                    go_ret
                    exact ⟨by simp, b⟩
              · have hu1 : ¬ ag < -1 := by omega
                clear hcount hd
                go_wp2
                go_loopw [23] (fun i wz => ∃ j : Nat, j ≤ n9 ∧ i = .int .i64 j ∧ DuAt wz bm (dropL ((goT m R2).take j) R2) ∧ Whl wz lo hi p m (goR m R2) ∧ Out .i64 3 wz w8.heap.size A9 n9 c9 (goT m R2) ∧ Below w.heap.size w wz ∧ bm < wz.heap.size) (fun i _ => n9 - (intOf i).toNat)
                case atStart => exact ⟨0, Nat.zero_le _, rfl, D9', T9, o9, b9, hs9⟩
                case round =>
                  obtain ⟨j, hj, rfl, D, T, oo, b, hs⟩ := hrel
                  clear D9' T9 o9 b9 hs9
                  by_cases hjn : j < n9
                  · have hji : (j : Int) < (n9 : Int) := by omega
                    obtain ⟨xa, rfl, hxa, hxl, cx, fx⟩ := oo.at3 hjn
                    have hjl : j < (goT m R2).length := by omega
                    have htm := getD_mem hjl
                    have hwt := oo.2 _ htm
                    obtain ⟨g1, g2⟩ := hgm _ htm
                    have hts := take_succ hjl
                    have hin : hasT ((goT m R2).getD j 0) (dropL ((goT m R2).take j) R2) = true := by
                      obtain ⟨d, hd⟩ := hasT_iff.1 g1
                      refine hasT_iff.2 ⟨d, mem_dropL.2 ⟨hd, fun h => ?_⟩⟩
                      have hnd2 : ((goT m R2).take (j + 1)).Nodup := hnd.sublist (List.take_sublist _ _)
                      rw [hts] at hnd2
                      exact (List.nodup_append.1 hnd2).2.2 _ h _ (by simp) rfl
                    have hOj : Ok (dropL ((goT m R2).take j) R2) := hO2.sub List.filter_sublist
                    have hdue : dueT ((goT m R2).getD j 0) (dropL ((goT m R2).take j) R2) ≤ m := by
                      obtain ⟨d, hd⟩ := hasT_iff.1 hin
                      rw [dueT_of hOj hd]
                      rw [dueT_of hO2 (mem_dropL.1 hd).1] at g2
                      exact g2
                    have hLk := D.look hOj hwt
                    rw [hin] at hLk
                    obtain ⟨w8b, e8, D8, k8⟩ : ∃ w', (∀ ty, (Builtin.delete_ #[56, 3] ty #[.map (some bm), .int .i64 ((goT m R2).getD j 0)]).run Try.prog wr = .ok (.tuple #[]) w') ∧ DuAt w' bm (delT ((goT m R2).getD j 0) (dropL ((goT m R2).take j) R2)) ∧ Kept (· = bm) wr w' := by
                      obtain ⟨w', a, b, c⟩ := D.del hOj hwt 0
                      exact ⟨w', fun _ => a, b, kept_turned c rfl⟩
                    rw [dropL_snoc, ← hts] at D8
                    generalize dueT ((goT m R2).getD j 0) (dropL ((goT m R2).take j) R2) = dj at *
                    have hdj : ¬ (m : Int) < (dj : Int) := by omega
                    have hTb := T.bounds
                    have T8 := T.kept k8 (fun j h1 h2 h3 => by omega)
                    have o8 := oo.kept k8 (fun ad e => by have := hbo ad e; omega)
                    have b8 := b.trans (k8.below (B := w.heap.size) b.size (fun j hj => by omega))
                    have hs8 : bm < w8b.heap.size := by have := k8.size; omega
                    obtain ⟨t, hte⟩ : ∃ t, (goT m R2).getD j 0 = t := ⟨_, rfl⟩
                    rw [hte] at cx hLk e8
                    clear D T oo b k8 hin hOj hts g1 g2 htm hte hdue hwt
                    go_wp2
                    go_roundw
                    case rel => exact ⟨j + 1, by omega, by go_num, D8, T8, o8, b8, hs8⟩
                    case measure => simp [intOf]; omega
                  · obtain rfl : j = n9 := by omega
                    rw [take_all hn9, dropL_goT hO2] at D
                    have LN := wlen T
                    have LM := D.len
                    generalize (goR m R2).length = lr at *
                    clear D T oo
                    go_wp2_with fail
                    refine LN.mono ?_
                    rintro ev wz ⟨rfl, rfl⟩
                    clear LN
                    go_wp2
                    go_ret
                    exact ⟨by simp, b⟩
          · rw [if_neg (fun h => hu h.1)] at hcount
            have hci : (n9 : Int) = (cn : Int) := by omega
            have hu1 : ¬ ag < -1 := fun h => hu (.inl h)
            have hu2 : ¬ (k : Int) < ag := fun h => hu (.inr h)
            clear hcount hu
            go_wp2
            go_loopw [23] (fun i wz => ∃ j : Nat, j ≤ n9 ∧ i = .int .i64 j ∧ DuAt wz bm (dropL ((goT m R2).take j) R2) ∧ Whl wz lo hi p m (goR m R2) ∧ Out .i64 3 wz w8.heap.size A9 n9 c9 (goT m R2) ∧ Below w.heap.size w wz ∧ bm < wz.heap.size) (fun i _ => n9 - (intOf i).toNat)
            case atStart => exact ⟨0, Nat.zero_le _, rfl, D9', T9, o9, b9, hs9⟩
            case round =>
              obtain ⟨j, hj, rfl, D, T, oo, b, hs⟩ := hrel
              clear D9' T9 o9 b9 hs9
              by_cases hjn : j < n9
              · have hji : (j : Int) < (n9 : Int) := by omega
                obtain ⟨xa, rfl, hxa, hxl, cx, fx⟩ := oo.at3 hjn
                have hjl : j < (goT m R2).length := by omega
                have htm := getD_mem hjl
                have hwt := oo.2 _ htm
                obtain ⟨g1, g2⟩ := hgm _ htm
                have hts := take_succ hjl
                have hin : hasT ((goT m R2).getD j 0) (dropL ((goT m R2).take j) R2) = true := by
                  obtain ⟨d, hd⟩ := hasT_iff.1 g1
                  refine hasT_iff.2 ⟨d, mem_dropL.2 ⟨hd, fun h => ?_⟩⟩
                  have hnd2 : ((goT m R2).take (j + 1)).Nodup := hnd.sublist (List.take_sublist _ _)
                  rw [hts] at hnd2
                  exact (List.nodup_append.1 hnd2).2.2 _ h _ (by simp) rfl
                have hOj : Ok (dropL ((goT m R2).take j) R2) := hO2.sub List.filter_sublist
                have hdue : dueT ((goT m R2).getD j 0) (dropL ((goT m R2).take j) R2) ≤ m := by
                  obtain ⟨d, hd⟩ := hasT_iff.1 hin
                  rw [dueT_of hOj hd]
                  rw [dueT_of hO2 (mem_dropL.1 hd).1] at g2
                  exact g2
                have hLk := D.look hOj hwt
                rw [hin] at hLk
                obtain ⟨w8b, e8, D8, k8⟩ : ∃ w', (∀ ty, (Builtin.delete_ #[56, 3] ty #[.map (some bm), .int .i64 ((goT m R2).getD j 0)]).run Try.prog wr = .ok (.tuple #[]) w') ∧ DuAt w' bm (delT ((goT m R2).getD j 0) (dropL ((goT m R2).take j) R2)) ∧ Kept (· = bm) wr w' := by
                  obtain ⟨w', a, b, c⟩ := D.del hOj hwt 0
                  exact ⟨w', fun _ => a, b, kept_turned c rfl⟩
                rw [dropL_snoc, ← hts] at D8
                generalize dueT ((goT m R2).getD j 0) (dropL ((goT m R2).take j) R2) = dj at *
                have hdj : ¬ (m : Int) < (dj : Int) := by omega
                have hTb := T.bounds
                have T8 := T.kept k8 (fun j h1 h2 h3 => by omega)
                have o8 := oo.kept k8 (fun ad e => by have := hbo ad e; omega)
                have b8 := b.trans (k8.below (B := w.heap.size) b.size (fun j hj => by omega))
                have hs8 : bm < w8b.heap.size := by have := k8.size; omega
                obtain ⟨t, hte⟩ : ∃ t, (goT m R2).getD j 0 = t := ⟨_, rfl⟩
                rw [hte] at cx hLk e8
                clear D T oo b k8 hin hOj hts g1 g2 htm hte hdue hwt
                go_wp2
                go_roundw
                case rel => exact ⟨j + 1, by omega, by go_num, D8, T8, o8, b8, hs8⟩
                case measure => simp [intOf]; omega
              · obtain rfl : j = n9 := by omega
                rw [take_all hn9, dropL_goT hO2] at D
                have LN := wlen T
                have LM := D.len
                generalize (goR m R2).length = lr at *
                clear D T oo
                go_wp2_with fail
                refine LN.mono ?_
                rintro ev wz ⟨rfl, rfl⟩
                clear LN
                go_wp2
                go_ret
                exact ⟨by simp, b⟩
theorem cancels_law (A : Option Addr) (n c : Nat) (ds : List Int) (cc : Int) (hcc : wfI cc) (ag : Int) (hag : wfI ag) (due : Int) (hdue : (Lit.int .u64 due).wf = true) (m : Int) (hm : (Lit.int .u64 m).wf = true) (w : World) (H : Rd .u64 w w.heap.size A n c ds) :
    Calls Try.prog 6 #[.slice A n c, .int .i64 cc, .int .i64 ag, .int .u64 due, .int .u64 m] w fun e w' => e = .returned (.bool true) ∧ Below w.heap.size w w' := by
  obtain ⟨due, rfl⟩ := Int.eq_ofNat_of_zero_le (u64_bd hdue).1
  obtain ⟨m, rfl⟩ := Int.eq_ofNat_of_zero_le (u64_bd hm).1
  by_cases h1 : 60 < n
  · exact cancels_out1 A n c ds cc ag due m w H hcc hag h1
  by_cases h2 : 4611686018427387904 < due
  · exact cancels_out2 A n c ds cc ag due m w H hcc hag h1 h2
  by_cases h3 : 4611686018427387904 < m
  · exact cancels_out3 A n c ds cc ag due m w H hcc hag h1 h2 h3
  · exact cancels_in A n c ds cc ag due m w H hcc hag h1 h2 h3
end Go.Proofs.Ytalojeblemhihaa
