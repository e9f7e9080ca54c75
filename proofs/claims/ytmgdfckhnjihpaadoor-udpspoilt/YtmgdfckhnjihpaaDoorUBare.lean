/-
  Contract of Parse, where there is a datagram that is bare.
-/
import Derived.Test.YtmgdfckhnjihpaaDoorUParse0
namespace Go.Proofs.YtmgdfckhnjihpaaDoor
open Go.RowKit

set_option maxRecDepth 100000 in
set_option maxHeartbeats 4000000 in
theorem parse_bare (b o n c T : Nat) (xs : List Int) (f t : Int) (w : World) (hr : Rd .u8 w w.heap.size (some ⟨b, o, none⟩) n c xs) (hbe : (bE xs).2 = 0) (hT : told xs = T) (hz : num2 (xs.drop 6) = 0) :
    Calls Tryd.prog 9 #[.slice (some ⟨b, o, none⟩) n c, .int .u32 f, .int .u32 t] w fun ev w' => Below w.heap.size w w' ∧ ∃ g, ev = .returned (.tuple #[pkV (hdOf xs) (some ⟨g, 0, none⟩) (T - 8) (T - 8), .nilIface]) ∧ Row w' g ((xs.take T).drop 8) ∧ w.heap.size ≤ g := by
  have hcap := hr.cap
  have hmax := hr.max
  have hl := hr.len
  obtain ⟨-, h8, hTn, hTm⟩ := bE_ok hbe
  rw [hT] at h8 hTn hTm
  rw [hl] at hTn
  have k0 := KR.start hr
  have hb1 : Calls Tryd.prog 20 #[.slice (some ⟨b, o, none⟩) n c] (w.alloc (.cells (pkC zeroH none 0 0) 28)) fun ev w' => (∃ m, w' = (w.alloc (.cells (pkC zeroH none 0 0) 28)).drewN m) ∧ ev = .returned (.tuple #[.slice (some ⟨b, o, none⟩) T c, .nilIface]) :=
    (cut_any _ n c w.heap.size xs _ k0.rd).mono fun ev w' ⟨h1, h2⟩ => ⟨h1, h2.elim (fun q => absurd hbe q.1) (fun q => by rw [← hT]; exact q.2)⟩
  have e6 : num2 ((xs.take T).drop 6) = num2 (xs.drop 6) := num2_take (by omega)
  have eH : hdOf (xs.take T) = hdOf xs := hdOf_take h8
  rw [← e6] at hz
  rw [← eH]
  have HL : Hid ((xs.take T).length = T) := Lib.hid (by rw [List.length_take]; omega)
  have k1 := k0.take T hTn
  clear k0 hr eH e6 hl hbe
  generalize xs.take T = ys at *
  have k6 : ¬ c = 6 := by omega
  have j6 : (6 : Int) ≤ (T : Int) := by omega
  have t6 : ∀ W, Rd .u8 W w.heap.size (some ⟨b, o, none⟩) T c ys → Calls Tryd.prog 21 #[.slice (some ⟨b, o + 6, none⟩) (T - 6) (c - 6)] W fun e w' => e = .returned (.int .u16 (num2 (ys.drop 6))) ∧ ∃ m', w' = W.drewN m' := fun W h => two_any _ (T - 6) (c - 6) w.heap.size (ys.drop 6) W (h.cutS 6 (by omega) k6) (by omega)
  have k2 : ¬ c = 2 := by omega
  have j2 : (2 : Int) ≤ (T : Int) := by omega
  have j8 : (8 : Int) ≤ (T : Int) := by omega
  have i3 : ((T : Int) - 8) = ((T - 8 : Nat) : Int) := by omega
  have i4 : IntKind.i64.wrap ((T - 8 : Nat) : Int) = ((T - 8 : Nat) : Int) := by rw [IntKind.wrap_i64]; omega
  have t0 : ∀ W, Rd .u8 W w.heap.size (some ⟨b, o, none⟩) T c ys → Calls Tryd.prog 21 #[.slice (some ⟨b, o, none⟩) T c] W fun e w' => e = .returned (.int .u16 (num2 ys)) ∧ ∃ m', w' = W.drewN m' := fun W h => two_any _ T c w.heap.size ys W h (by omega)
  have t2 : ∀ W, Rd .u8 W w.heap.size (some ⟨b, o, none⟩) T c ys → Calls Tryd.prog 21 #[.slice (some ⟨b, o + 2, none⟩) (T - 2) (c - 2)] W fun e w' => e = .returned (.int .u16 (num2 (ys.drop 2))) ∧ ∃ m', w' = W.drewN m' := fun W h => two_any _ (T - 2) (c - 2) w.heap.size (ys.drop 2) W (h.cutS 2 (by omega) k2) (by omega)
  have HH : Hid (hdOf ys = ⟨num2 ys, num2 (ys.drop 2), true⟩) := Lib.hid (hd_eq rfl rfl (by show (num2 (ys.drop 6) == 0) = true; rw [hz]; rfl))
  generalize hdOf ys = h at *
  generalize num2 (ys.drop 2) = pt at *
  generalize num2 ys = pf at *
  rw [hz] at t6
  clear hz
  go_enter Tryd.func9, Tryd.ntmps9
  go_wp2_with fail
  with_reducible refine hb1.mono ?_
  rintro e w1 ⟨⟨m, hw⟩, rfl⟩
  have k : KR w (some ⟨b, o, none⟩) T c ys w1 := by rw [hw]; exact k1.step (Still.drewN _ _).below
  clear hw k1 hb1
  go_wp2_with fail
  with_reducible refine (t6 _ k.rd).mono ?_
  rintro e w2 ⟨rfl, m2, hw⟩
  replace k := k.step (Still.drewN _ m2).below
  rw [← hw] at k
  clear hw t6
  go_wp2_with fail
  go_cut [11] from 40 to 50 (fun x11 wc => ∃ g1 g2, x11 = .pointer (some ⟨g2, 0, none⟩) ∧ PR w (some ⟨b, o, none⟩) T c ys h g1 g2 (List.replicate (T - 8) 0) wc)
  case first =>
    refine wp_region_held_drew (S := fun w' => KR w (some ⟨b, o, none⟩) T c ys w') (by kernel_rfl) (k.step (below_drew _)) (fun hHeld => ?_)
    change wpAnyH _ _ _ _ _ _ _ _ (World.drew _)
    generalize World.drew _ = W1 at hHeld ⊢
    clear k
    refine wpAnyH_at (i := 0) (some 40) (v := ?v0z12) rfl rfl (by kernel_rfl) (by kernel_rfl) (by kernel_rfl) (fun _ _ _ h => h) (Or.inl ⟨by rfl, ?y0z12⟩) (by assumption) ?r0z12
    case y0z12 =>
      intro w9 hSw
      clear hSw
      go_simp
      all_goals with_reducible rfl
    simp only [Act.put, List.setIfInBounds_toArray, List.set_cons_zero, List.set_cons_succ]
    refine wpAnyH_at (i := 2) (some 42) (v := ?v2z13) rfl rfl (by kernel_rfl) (by kernel_rfl) (by kernel_rfl) (fun _ _ _ h => h) (Or.inl ⟨by rfl, ?y2z13⟩) (by assumption) ?r2z13
    case y2z13 =>
      intro w9 hSw
      clear hSw
      go_simp
      all_goals with_reducible rfl
    simp only [Act.put, List.setIfInBounds_toArray, List.set_cons_zero, List.set_cons_succ]
    refine wpAnyH_at (i := 3) (some 43) (v := ?v3z14) rfl rfl (by kernel_rfl) (by kernel_rfl) (by kernel_rfl) (fun _ _ _ h => h) (Or.inl ⟨by rfl, ?y3z14⟩) (by assumption) ?r3z14
    case y3z14 =>
      intro w9 hSw
      clear hSw
      go_simp
      all_goals with_reducible rfl
    simp only [Act.put, List.setIfInBounds_toArray, List.set_cons_zero, List.set_cons_succ]
    refine wpAnyH_at (i := 5) (some 45) (v := ?v5z15) rfl rfl (by kernel_rfl) (by kernel_rfl) (by kernel_rfl) (fun _ _ _ h => h) (Or.inl ⟨by rfl, ?y5z15⟩) (by assumption) ?r5z15
    case y5z15 =>
      intro w9 hSw
      clear hSw
      go_simp
      all_goals with_reducible rfl
    simp only [Act.put, List.setIfInBounds_toArray, List.set_cons_zero, List.set_cons_succ]
    refine wpAnyH_at (i := 6) (some 46) (v := ?v6z16) rfl rfl (by kernel_rfl) (by kernel_rfl) (by kernel_rfl) (fun _ _ _ h => h) (Or.inl ⟨by rfl, ?y6z16⟩) (by assumption) ?r6z16
    case y6z16 =>
      intro w9 hSw
      clear hSw
      go_simp
      all_goals with_reducible rfl
    simp only [Act.put, List.setIfInBounds_toArray, List.set_cons_zero, List.set_cons_succ]
    refine wpAnyH_at (i := 7) (some 47) (v := ?v7z17) rfl rfl (by kernel_rfl) (by kernel_rfl) (by kernel_rfl) (fun _ _ _ h => h) (Or.inl ⟨by rfl, ?y7z17⟩) (by assumption) ?r7z17
    case y7z17 =>
      intro w9 hSw
      clear hSw
      go_simp
      all_goals with_reducible rfl
    simp only [Act.put, List.setIfInBounds_toArray, List.set_cons_zero, List.set_cons_succ]
    refine wpAnyH_at (i := 8) (some 48) (v := ?v8z18) rfl rfl (by kernel_rfl) (by kernel_rfl) (by kernel_rfl) (fun _ _ _ h => h) (Or.inl ⟨by rfl, ?y8z18⟩) (by assumption) ?r8z18
    case y8z18 =>
      intro w9 hSw
      clear hSw
      go_simp
      all_goals with_reducible rfl
    simp only [Act.put, List.setIfInBounds_toArray, List.set_cons_zero, List.set_cons_succ]
    refine wpAnyH_three (i := 1) (j := 9) (l := 11) (by kernel_rfl) rfl rfl rfl ?_ ?_ ?_
    · as_aux_lemma =>
        go_wp2_with (go_at_call 21; with_reducible refine (t0 _ hHeld.rd).mono ?_; rintro e w9 ⟨rfl, m9, rfl⟩)
        replace hHeld := hHeld.step (Still.drewN _ m9).below
        refine ⟨hHeld, ?_⟩
        generalize W1.drewN m9 = W2 at *
        refine wpAnyH_three (i := 4) (j := 9) (l := 11) (by kernel_rfl) rfl rfl rfl ?_ ?_ ?_
        · as_aux_lemma =>
            go_wp2_with (go_at_call 21; with_reducible refine (t2 _ hHeld.rd).mono ?_; rintro e w9 ⟨rfl, m9, rfl⟩)
            replace hHeld := hHeld.step (Still.drewN _ m9).below
            refine ⟨hHeld, ?_⟩
            generalize W2.drewN m9 = W3 at *
            refine wpAnyH_two (i := 9) (j := 11) (by kernel_rfl) rfl rfl ?_ ?_
            · as_aux_lemma =>
                refine wpList_mk (some 49) rfl rfl _ _ 22 rfl Tryd.underlying22 info5 (T - 8) _ _ rfl rfl rfl rfl (by omega) ?_
                intro W4 row hs2 hb2
                go_wp2
                have n1 := hHeld.z.lt
                replace hHeld := hHeld.step hb2
                refine ⟨hHeld, ?_⟩
                clear hs2 hb2
                generalize W3.heap.size = g1 at *
                try simp only [Act.put, List.setIfInBounds_toArray, List.set_cons_zero, List.set_cons_succ]
                refine wpAnyH_at (i := 10) (some 50) (v := pkV ⟨pf, pt, true⟩ (some ⟨g1, 0, none⟩) (T - 8) (T - 8)) rfl rfl (by kernel_rfl) (by kernel_rfl) (by kernel_rfl) (fun _ _ _ h => h) (Or.inl ⟨by rfl, fun w9 _ => ?_⟩) (by assumption) ?_
                · go_simp
                simp only [Act.put, List.setIfInBounds_toArray, List.set_cons_zero, List.set_cons_succ]
                refine wpAnyH_one (i := 11) (by kernel_rfl) rfl ?_
                have hb2 := alloc_below W4 (.cells (pkC zeroH none 0 0) 28)
                have pk := PkAt.new W4 28 zeroH none 0 0
                have n2 := hHeld.z.lt
                replace hHeld := hHeld.step hb2
                have ne := Nat.ne_of_lt row.lt
                replace row := row.below hb2 row.lt
                go_wp2
                refine ⟨hHeld, ?_⟩
                change wpAnyH _ _ _ _ _ _ _ _ (W4.alloc (.cells (pkC zeroH none 0 0) 28))
                clear hb2
                generalize (W4.alloc (.cells (pkC zeroH none 0 0) 28)) = W5 at *
                generalize W4.heap.size = g2 at *
                refine wpAnyH_one (i := 12) (by kernel_rfl) rfl ?_
                refine wpList_stF rfl rfl 28 _ _ rfl g2 (pkC ⟨pf, pt, true⟩ (some ⟨g1, 0, none⟩) (T - 8) (T - 8)) rfl rfl 28 _ pk (by kernel_rfl) rfl (pkC_one ..) ?_
                intro w4 f4 hb4 ho4 hs4
                have pr : PR w (some ⟨b, o, none⟩) T c ys h g1 g2 (List.replicate (T - 8) 0) w4 :=
                  ⟨hHeld.z.below hb4 n2, (by unfold PkAt; rw [HH.out]; exact f4), (ho4 _ ne).trans row, hHeld.rd.below hb4 (Nat.le_of_lt n2), hHeld.below.trans (hb4.mono (Nat.le_of_lt n2)), n1, n2, ne⟩
                have hK4 : KR w (some ⟨b, o, none⟩) T c ys w4 := ⟨pr.z, pr.rd, pr.below⟩
                clear hHeld hb4 f4 ho4 row pk
                go_wp2
                refine ⟨hK4, ?_⟩
                refine wpAnyH_done (by kernel_rfl) ?_ _
                clear hK4
                go_wp2_with fail
                go_meet
                case rel => exact ⟨_, _, rfl, pr⟩
            · as_aux_lemma =>
                have hb2 := alloc_below W3 (.cells (pkC zeroH none 0 0) 28)
                have pk := PkAt.new W3 28 zeroH none 0 0
                have n2 := hHeld.z.lt
                replace hHeld := hHeld.step hb2
                go_wp2
                refine ⟨hHeld, ?_⟩
                change wpAnyH _ _ _ _ _ _ _ _ (W3.alloc (.cells (pkC zeroH none 0 0) 28))
                clear hb2
                generalize (W3.alloc (.cells (pkC zeroH none 0 0) 28)) = W4 at *
                generalize W3.heap.size = g2 at *
                refine wpAnyH_one (i := 9) (by kernel_rfl) rfl ?_
                refine wpList_mk (some 49) rfl rfl _ _ 22 rfl Tryd.underlying22 info5 (T - 8) _ _ rfl rfl rfl rfl (by omega) ?_
                intro W5 row hs2 hb2
                go_wp2
                have n1 := hHeld.z.lt
                replace hHeld := hHeld.step hb2
                have ne := Nat.ne_of_gt pk.lt
                replace pk := pk.step hb2
                refine ⟨hHeld, ?_⟩
                clear hs2 hb2
                generalize W4.heap.size = g1 at *
                try simp only [Act.put, List.setIfInBounds_toArray, List.set_cons_zero, List.set_cons_succ]
                refine wpAnyH_at (i := 10) (some 50) (v := pkV ⟨pf, pt, true⟩ (some ⟨g1, 0, none⟩) (T - 8) (T - 8)) rfl rfl (by kernel_rfl) (by kernel_rfl) (by kernel_rfl) (fun _ _ _ h => h) (Or.inl ⟨by rfl, fun w9 _ => ?_⟩) (by assumption) ?_
                · go_simp
                simp only [Act.put, List.setIfInBounds_toArray, List.set_cons_zero, List.set_cons_succ]
                refine wpAnyH_one (i := 12) (by kernel_rfl) rfl ?_
                refine wpList_stF rfl rfl 28 _ _ rfl g2 (pkC ⟨pf, pt, true⟩ (some ⟨g1, 0, none⟩) (T - 8) (T - 8)) rfl rfl 28 _ pk (by kernel_rfl) rfl (pkC_one ..) ?_
                intro w4 f4 hb4 ho4 hs4
                have pr : PR w (some ⟨b, o, none⟩) T c ys h g1 g2 (List.replicate (T - 8) 0) w4 :=
                  ⟨hHeld.z.below hb4 n2, (by unfold PkAt; rw [HH.out]; exact f4), (ho4 _ ne).trans row, hHeld.rd.below hb4 (Nat.le_of_lt n2), hHeld.below.trans (hb4.mono (Nat.le_of_lt n2)), n1, n2, ne⟩
                have hK4 : KR w (some ⟨b, o, none⟩) T c ys w4 := ⟨pr.z, pr.rd, pr.below⟩
                clear hHeld hb4 f4 ho4 row pk
                go_wp2
                refine ⟨hK4, ?_⟩
                refine wpAnyH_done (by kernel_rfl) ?_ _
                clear hK4
                go_wp2_with fail
                go_meet
                case rel => exact ⟨_, _, rfl, pr⟩
        · as_aux_lemma =>
            refine wpList_mk (some 49) rfl rfl _ _ 22 rfl Tryd.underlying22 info5 (T - 8) _ _ rfl rfl rfl rfl (by omega) ?_
            intro W3 row hs2 hb2
            go_wp2
            have n1 := hHeld.z.lt
            replace hHeld := hHeld.step hb2
            refine ⟨hHeld, ?_⟩
            clear hs2 hb2
            generalize W2.heap.size = g1 at *
            refine wpAnyH_two (i := 4) (j := 11) (by kernel_rfl) rfl rfl ?_ ?_
            · as_aux_lemma =>
                go_wp2_with (go_at_call 21; with_reducible refine (t2 _ hHeld.rd).mono ?_; rintro e w9 ⟨rfl, m9, rfl⟩)
                replace hHeld := hHeld.step (Still.drewN _ m9).below
                replace row := row.below (Still.drewN _ m9).below row.lt
                refine ⟨hHeld, ?_⟩
                generalize W3.drewN m9 = W4 at *
                try simp only [Act.put, List.setIfInBounds_toArray, List.set_cons_zero, List.set_cons_succ]
                refine wpAnyH_at (i := 10) (some 50) (v := pkV ⟨pf, pt, true⟩ (some ⟨g1, 0, none⟩) (T - 8) (T - 8)) rfl rfl (by kernel_rfl) (by kernel_rfl) (by kernel_rfl) (fun _ _ _ h => h) (Or.inl ⟨by rfl, fun w9 _ => ?_⟩) (by assumption) ?_
                · go_simp
                simp only [Act.put, List.setIfInBounds_toArray, List.set_cons_zero, List.set_cons_succ]
                refine wpAnyH_one (i := 11) (by kernel_rfl) rfl ?_
                have hb2 := alloc_below W4 (.cells (pkC zeroH none 0 0) 28)
                have pk := PkAt.new W4 28 zeroH none 0 0
                have n2 := hHeld.z.lt
                replace hHeld := hHeld.step hb2
                have ne := Nat.ne_of_lt row.lt
                replace row := row.below hb2 row.lt
                go_wp2
                refine ⟨hHeld, ?_⟩
                change wpAnyH _ _ _ _ _ _ _ _ (W4.alloc (.cells (pkC zeroH none 0 0) 28))
                clear hb2
                generalize (W4.alloc (.cells (pkC zeroH none 0 0) 28)) = W5 at *
                generalize W4.heap.size = g2 at *
                refine wpAnyH_one (i := 12) (by kernel_rfl) rfl ?_
                refine wpList_stF rfl rfl 28 _ _ rfl g2 (pkC ⟨pf, pt, true⟩ (some ⟨g1, 0, none⟩) (T - 8) (T - 8)) rfl rfl 28 _ pk (by kernel_rfl) rfl (pkC_one ..) ?_
                intro w4 f4 hb4 ho4 hs4
                have pr : PR w (some ⟨b, o, none⟩) T c ys h g1 g2 (List.replicate (T - 8) 0) w4 :=
                  ⟨hHeld.z.below hb4 n2, (by unfold PkAt; rw [HH.out]; exact f4), (ho4 _ ne).trans row, hHeld.rd.below hb4 (Nat.le_of_lt n2), hHeld.below.trans (hb4.mono (Nat.le_of_lt n2)), n1, n2, ne⟩
                have hK4 : KR w (some ⟨b, o, none⟩) T c ys w4 := ⟨pr.z, pr.rd, pr.below⟩
                clear hHeld hb4 f4 ho4 row pk
                go_wp2
                refine ⟨hK4, ?_⟩
                refine wpAnyH_done (by kernel_rfl) ?_ _
                clear hK4
                go_wp2_with fail
                go_meet
                case rel => exact ⟨_, _, rfl, pr⟩
            · as_aux_lemma =>
                have hb2 := alloc_below W3 (.cells (pkC zeroH none 0 0) 28)
                have pk := PkAt.new W3 28 zeroH none 0 0
                have n2 := hHeld.z.lt
                replace hHeld := hHeld.step hb2
                have ne := Nat.ne_of_lt row.lt
                replace row := row.below hb2 row.lt
                go_wp2
                refine ⟨hHeld, ?_⟩
                change wpAnyH _ _ _ _ _ _ _ _ (W3.alloc (.cells (pkC zeroH none 0 0) 28))
                clear hb2
                generalize (W3.alloc (.cells (pkC zeroH none 0 0) 28)) = W4 at *
                generalize W3.heap.size = g2 at *
                refine wpAnyH_one (i := 4) (by kernel_rfl) rfl ?_
                go_wp2_with (go_at_call 21; with_reducible refine (t2 _ hHeld.rd).mono ?_; rintro e w9 ⟨rfl, m9, rfl⟩)
                replace hHeld := hHeld.step (Still.drewN _ m9).below
                replace row := row.below (Still.drewN _ m9).below row.lt
                replace pk := pk.step (Still.drewN _ m9).below
                refine ⟨hHeld, ?_⟩
                generalize W4.drewN m9 = W5 at *
                try simp only [Act.put, List.setIfInBounds_toArray, List.set_cons_zero, List.set_cons_succ]
                refine wpAnyH_at (i := 10) (some 50) (v := pkV ⟨pf, pt, true⟩ (some ⟨g1, 0, none⟩) (T - 8) (T - 8)) rfl rfl (by kernel_rfl) (by kernel_rfl) (by kernel_rfl) (fun _ _ _ h => h) (Or.inl ⟨by rfl, fun w9 _ => ?_⟩) (by assumption) ?_
                · go_simp
                simp only [Act.put, List.setIfInBounds_toArray, List.set_cons_zero, List.set_cons_succ]
                refine wpAnyH_one (i := 12) (by kernel_rfl) rfl ?_
                refine wpList_stF rfl rfl 28 _ _ rfl g2 (pkC ⟨pf, pt, true⟩ (some ⟨g1, 0, none⟩) (T - 8) (T - 8)) rfl rfl 28 _ pk (by kernel_rfl) rfl (pkC_one ..) ?_
                intro w4 f4 hb4 ho4 hs4
                have pr : PR w (some ⟨b, o, none⟩) T c ys h g1 g2 (List.replicate (T - 8) 0) w4 :=
                  ⟨hHeld.z.below hb4 n2, (by unfold PkAt; rw [HH.out]; exact f4), (ho4 _ ne).trans row, hHeld.rd.below hb4 (Nat.le_of_lt n2), hHeld.below.trans (hb4.mono (Nat.le_of_lt n2)), n1, n2, ne⟩
                have hK4 : KR w (some ⟨b, o, none⟩) T c ys w4 := ⟨pr.z, pr.rd, pr.below⟩
                clear hHeld hb4 f4 ho4 row pk
                go_wp2
                refine ⟨hK4, ?_⟩
                refine wpAnyH_done (by kernel_rfl) ?_ _
                clear hK4
                go_wp2_with fail
                go_meet
                case rel => exact ⟨_, _, rfl, pr⟩
        · as_aux_lemma =>
            have hb2 := alloc_below W2 (.cells (pkC zeroH none 0 0) 28)
            have pk := PkAt.new W2 28 zeroH none 0 0
            have n2 := hHeld.z.lt
            replace hHeld := hHeld.step hb2
            go_wp2
            refine ⟨hHeld, ?_⟩
            change wpAnyH _ _ _ _ _ _ _ _ (W2.alloc (.cells (pkC zeroH none 0 0) 28))
            clear hb2
            generalize (W2.alloc (.cells (pkC zeroH none 0 0) 28)) = W3 at *
            generalize W2.heap.size = g2 at *
            refine wpAnyH_two (i := 4) (j := 9) (by kernel_rfl) rfl rfl ?_ ?_
            · as_aux_lemma =>
                go_wp2_with (go_at_call 21; with_reducible refine (t2 _ hHeld.rd).mono ?_; rintro e w9 ⟨rfl, m9, rfl⟩)
                replace hHeld := hHeld.step (Still.drewN _ m9).below
                replace pk := pk.step (Still.drewN _ m9).below
                refine ⟨hHeld, ?_⟩
                generalize W3.drewN m9 = W4 at *
                refine wpAnyH_one (i := 9) (by kernel_rfl) rfl ?_
                refine wpList_mk (some 49) rfl rfl _ _ 22 rfl Tryd.underlying22 info5 (T - 8) _ _ rfl rfl rfl rfl (by omega) ?_
                intro W5 row hs2 hb2
                go_wp2
                have n1 := hHeld.z.lt
                replace hHeld := hHeld.step hb2
                have ne := Nat.ne_of_gt pk.lt
                replace pk := pk.step hb2
                refine ⟨hHeld, ?_⟩
                clear hs2 hb2
                generalize W4.heap.size = g1 at *
                try simp only [Act.put, List.setIfInBounds_toArray, List.set_cons_zero, List.set_cons_succ]
                refine wpAnyH_at (i := 10) (some 50) (v := pkV ⟨pf, pt, true⟩ (some ⟨g1, 0, none⟩) (T - 8) (T - 8)) rfl rfl (by kernel_rfl) (by kernel_rfl) (by kernel_rfl) (fun _ _ _ h => h) (Or.inl ⟨by rfl, fun w9 _ => ?_⟩) (by assumption) ?_
                · go_simp
                simp only [Act.put, List.setIfInBounds_toArray, List.set_cons_zero, List.set_cons_succ]
                refine wpAnyH_one (i := 12) (by kernel_rfl) rfl ?_
                refine wpList_stF rfl rfl 28 _ _ rfl g2 (pkC ⟨pf, pt, true⟩ (some ⟨g1, 0, none⟩) (T - 8) (T - 8)) rfl rfl 28 _ pk (by kernel_rfl) rfl (pkC_one ..) ?_
                intro w4 f4 hb4 ho4 hs4
                have pr : PR w (some ⟨b, o, none⟩) T c ys h g1 g2 (List.replicate (T - 8) 0) w4 :=
                  ⟨hHeld.z.below hb4 n2, (by unfold PkAt; rw [HH.out]; exact f4), (ho4 _ ne).trans row, hHeld.rd.below hb4 (Nat.le_of_lt n2), hHeld.below.trans (hb4.mono (Nat.le_of_lt n2)), n1, n2, ne⟩
                have hK4 : KR w (some ⟨b, o, none⟩) T c ys w4 := ⟨pr.z, pr.rd, pr.below⟩
                clear hHeld hb4 f4 ho4 row pk
                go_wp2
                refine ⟨hK4, ?_⟩
                refine wpAnyH_done (by kernel_rfl) ?_ _
                clear hK4
                go_wp2_with fail
                go_meet
                case rel => exact ⟨_, _, rfl, pr⟩
            · as_aux_lemma =>
                refine wpList_mk (some 49) rfl rfl _ _ 22 rfl Tryd.underlying22 info5 (T - 8) _ _ rfl rfl rfl rfl (by omega) ?_
                intro W4 row hs2 hb2
                go_wp2
                have n1 := hHeld.z.lt
                replace hHeld := hHeld.step hb2
                have ne := Nat.ne_of_gt pk.lt
                replace pk := pk.step hb2
                refine ⟨hHeld, ?_⟩
                clear hs2 hb2
                generalize W3.heap.size = g1 at *
                refine wpAnyH_one (i := 4) (by kernel_rfl) rfl ?_
                go_wp2_with (go_at_call 21; with_reducible refine (t2 _ hHeld.rd).mono ?_; rintro e w9 ⟨rfl, m9, rfl⟩)
                replace hHeld := hHeld.step (Still.drewN _ m9).below
                replace row := row.below (Still.drewN _ m9).below row.lt
                replace pk := pk.step (Still.drewN _ m9).below
                refine ⟨hHeld, ?_⟩
                generalize W4.drewN m9 = W5 at *
                try simp only [Act.put, List.setIfInBounds_toArray, List.set_cons_zero, List.set_cons_succ]
                refine wpAnyH_at (i := 10) (some 50) (v := pkV ⟨pf, pt, true⟩ (some ⟨g1, 0, none⟩) (T - 8) (T - 8)) rfl rfl (by kernel_rfl) (by kernel_rfl) (by kernel_rfl) (fun _ _ _ h => h) (Or.inl ⟨by rfl, fun w9 _ => ?_⟩) (by assumption) ?_
                · go_simp
                simp only [Act.put, List.setIfInBounds_toArray, List.set_cons_zero, List.set_cons_succ]
                refine wpAnyH_one (i := 12) (by kernel_rfl) rfl ?_
                refine wpList_stF rfl rfl 28 _ _ rfl g2 (pkC ⟨pf, pt, true⟩ (some ⟨g1, 0, none⟩) (T - 8) (T - 8)) rfl rfl 28 _ pk (by kernel_rfl) rfl (pkC_one ..) ?_
                intro w4 f4 hb4 ho4 hs4
                have pr : PR w (some ⟨b, o, none⟩) T c ys h g1 g2 (List.replicate (T - 8) 0) w4 :=
                  ⟨hHeld.z.below hb4 n2, (by unfold PkAt; rw [HH.out]; exact f4), (ho4 _ ne).trans row, hHeld.rd.below hb4 (Nat.le_of_lt n2), hHeld.below.trans (hb4.mono (Nat.le_of_lt n2)), n1, n2, ne⟩
                have hK4 : KR w (some ⟨b, o, none⟩) T c ys w4 := ⟨pr.z, pr.rd, pr.below⟩
                clear hHeld hb4 f4 ho4 row pk
                go_wp2
                refine ⟨hK4, ?_⟩
                refine wpAnyH_done (by kernel_rfl) ?_ _
                clear hK4
                go_wp2_with fail
                go_meet
                case rel => exact ⟨_, _, rfl, pr⟩
    · as_aux_lemma =>
        refine wpList_mk (some 49) rfl rfl _ _ 22 rfl Tryd.underlying22 info5 (T - 8) _ _ rfl rfl rfl rfl (by omega) ?_
        intro W2 row hs2 hb2
        go_wp2
        have n1 := hHeld.z.lt
        replace hHeld := hHeld.step hb2
        refine ⟨hHeld, ?_⟩
        clear hs2 hb2
        generalize W1.heap.size = g1 at *
        refine wpAnyH_two (i := 1) (j := 11) (by kernel_rfl) rfl rfl ?_ ?_
        · as_aux_lemma =>
            go_wp2_with (go_at_call 21; with_reducible refine (t0 _ hHeld.rd).mono ?_; rintro e w9 ⟨rfl, m9, rfl⟩)
            replace hHeld := hHeld.step (Still.drewN _ m9).below
            replace row := row.below (Still.drewN _ m9).below row.lt
            refine ⟨hHeld, ?_⟩
            generalize W2.drewN m9 = W3 at *
            refine wpAnyH_two (i := 4) (j := 11) (by kernel_rfl) rfl rfl ?_ ?_
            · as_aux_lemma =>
                go_wp2_with (go_at_call 21; with_reducible refine (t2 _ hHeld.rd).mono ?_; rintro e w9 ⟨rfl, m9, rfl⟩)
                replace hHeld := hHeld.step (Still.drewN _ m9).below
                replace row := row.below (Still.drewN _ m9).below row.lt
                refine ⟨hHeld, ?_⟩
                generalize W3.drewN m9 = W4 at *
                try simp only [Act.put, List.setIfInBounds_toArray, List.set_cons_zero, List.set_cons_succ]
                refine wpAnyH_at (i := 10) (some 50) (v := pkV ⟨pf, pt, true⟩ (some ⟨g1, 0, none⟩) (T - 8) (T - 8)) rfl rfl (by kernel_rfl) (by kernel_rfl) (by kernel_rfl) (fun _ _ _ h => h) (Or.inl ⟨by rfl, fun w9 _ => ?_⟩) (by assumption) ?_
                · go_simp
                simp only [Act.put, List.setIfInBounds_toArray, List.set_cons_zero, List.set_cons_succ]
                refine wpAnyH_one (i := 11) (by kernel_rfl) rfl ?_
                have hb2 := alloc_below W4 (.cells (pkC zeroH none 0 0) 28)
                have pk := PkAt.new W4 28 zeroH none 0 0
                have n2 := hHeld.z.lt
                replace hHeld := hHeld.step hb2
                have ne := Nat.ne_of_lt row.lt
                replace row := row.below hb2 row.lt
                go_wp2
                refine ⟨hHeld, ?_⟩
                change wpAnyH _ _ _ _ _ _ _ _ (W4.alloc (.cells (pkC zeroH none 0 0) 28))
                clear hb2
                generalize (W4.alloc (.cells (pkC zeroH none 0 0) 28)) = W5 at *
                generalize W4.heap.size = g2 at *
                refine wpAnyH_one (i := 12) (by kernel_rfl) rfl ?_
                refine wpList_stF rfl rfl 28 _ _ rfl g2 (pkC ⟨pf, pt, true⟩ (some ⟨g1, 0, none⟩) (T - 8) (T - 8)) rfl rfl 28 _ pk (by kernel_rfl) rfl (pkC_one ..) ?_
                intro w4 f4 hb4 ho4 hs4
                have pr : PR w (some ⟨b, o, none⟩) T c ys h g1 g2 (List.replicate (T - 8) 0) w4 :=
                  ⟨hHeld.z.below hb4 n2, (by unfold PkAt; rw [HH.out]; exact f4), (ho4 _ ne).trans row, hHeld.rd.below hb4 (Nat.le_of_lt n2), hHeld.below.trans (hb4.mono (Nat.le_of_lt n2)), n1, n2, ne⟩
                have hK4 : KR w (some ⟨b, o, none⟩) T c ys w4 := ⟨pr.z, pr.rd, pr.below⟩
                clear hHeld hb4 f4 ho4 row pk
                go_wp2
                refine ⟨hK4, ?_⟩
                refine wpAnyH_done (by kernel_rfl) ?_ _
                clear hK4
                go_wp2_with fail
                go_meet
                case rel => exact ⟨_, _, rfl, pr⟩
            · as_aux_lemma =>
                have hb2 := alloc_below W3 (.cells (pkC zeroH none 0 0) 28)
                have pk := PkAt.new W3 28 zeroH none 0 0
                have n2 := hHeld.z.lt
                replace hHeld := hHeld.step hb2
                have ne := Nat.ne_of_lt row.lt
                replace row := row.below hb2 row.lt
                go_wp2
                refine ⟨hHeld, ?_⟩
                change wpAnyH _ _ _ _ _ _ _ _ (W3.alloc (.cells (pkC zeroH none 0 0) 28))
                clear hb2
                generalize (W3.alloc (.cells (pkC zeroH none 0 0) 28)) = W4 at *
                generalize W3.heap.size = g2 at *
                refine wpAnyH_one (i := 4) (by kernel_rfl) rfl ?_
                go_wp2_with (go_at_call 21; with_reducible refine (t2 _ hHeld.rd).mono ?_; rintro e w9 ⟨rfl, m9, rfl⟩)
                replace hHeld := hHeld.step (Still.drewN _ m9).below
                replace row := row.below (Still.drewN _ m9).below row.lt
                replace pk := pk.step (Still.drewN _ m9).below
                refine ⟨hHeld, ?_⟩
                generalize W4.drewN m9 = W5 at *
                try simp only [Act.put, List.setIfInBounds_toArray, List.set_cons_zero, List.set_cons_succ]
                refine wpAnyH_at (i := 10) (some 50) (v := pkV ⟨pf, pt, true⟩ (some ⟨g1, 0, none⟩) (T - 8) (T - 8)) rfl rfl (by kernel_rfl) (by kernel_rfl) (by kernel_rfl) (fun _ _ _ h => h) (Or.inl ⟨by rfl, fun w9 _ => ?_⟩) (by assumption) ?_
                · go_simp
                simp only [Act.put, List.setIfInBounds_toArray, List.set_cons_zero, List.set_cons_succ]
                refine wpAnyH_one (i := 12) (by kernel_rfl) rfl ?_
                refine wpList_stF rfl rfl 28 _ _ rfl g2 (pkC ⟨pf, pt, true⟩ (some ⟨g1, 0, none⟩) (T - 8) (T - 8)) rfl rfl 28 _ pk (by kernel_rfl) rfl (pkC_one ..) ?_
                intro w4 f4 hb4 ho4 hs4
                have pr : PR w (some ⟨b, o, none⟩) T c ys h g1 g2 (List.replicate (T - 8) 0) w4 :=
                  ⟨hHeld.z.below hb4 n2, (by unfold PkAt; rw [HH.out]; exact f4), (ho4 _ ne).trans row, hHeld.rd.below hb4 (Nat.le_of_lt n2), hHeld.below.trans (hb4.mono (Nat.le_of_lt n2)), n1, n2, ne⟩
                have hK4 : KR w (some ⟨b, o, none⟩) T c ys w4 := ⟨pr.z, pr.rd, pr.below⟩
                clear hHeld hb4 f4 ho4 row pk
                go_wp2
                refine ⟨hK4, ?_⟩
                refine wpAnyH_done (by kernel_rfl) ?_ _
                clear hK4
                go_wp2_with fail
                go_meet
                case rel => exact ⟨_, _, rfl, pr⟩
        · as_aux_lemma =>
            have hb2 := alloc_below W2 (.cells (pkC zeroH none 0 0) 28)
            have pk := PkAt.new W2 28 zeroH none 0 0
            have n2 := hHeld.z.lt
            replace hHeld := hHeld.step hb2
            have ne := Nat.ne_of_lt row.lt
            replace row := row.below hb2 row.lt
            go_wp2
            refine ⟨hHeld, ?_⟩
            change wpAnyH _ _ _ _ _ _ _ _ (W2.alloc (.cells (pkC zeroH none 0 0) 28))
            clear hb2
            generalize (W2.alloc (.cells (pkC zeroH none 0 0) 28)) = W3 at *
            generalize W2.heap.size = g2 at *
            refine wpAnyH_one (i := 1) (by kernel_rfl) rfl ?_
            go_wp2_with (go_at_call 21; with_reducible refine (t0 _ hHeld.rd).mono ?_; rintro e w9 ⟨rfl, m9, rfl⟩)
            replace hHeld := hHeld.step (Still.drewN _ m9).below
            replace row := row.below (Still.drewN _ m9).below row.lt
            replace pk := pk.step (Still.drewN _ m9).below
            refine ⟨hHeld, ?_⟩
            generalize W3.drewN m9 = W4 at *
            refine wpAnyH_one (i := 4) (by kernel_rfl) rfl ?_
            go_wp2_with (go_at_call 21; with_reducible refine (t2 _ hHeld.rd).mono ?_; rintro e w9 ⟨rfl, m9, rfl⟩)
            replace hHeld := hHeld.step (Still.drewN _ m9).below
            replace row := row.below (Still.drewN _ m9).below row.lt
            replace pk := pk.step (Still.drewN _ m9).below
            refine ⟨hHeld, ?_⟩
            generalize W4.drewN m9 = W5 at *
            try simp only [Act.put, List.setIfInBounds_toArray, List.set_cons_zero, List.set_cons_succ]
            refine wpAnyH_at (i := 10) (some 50) (v := pkV ⟨pf, pt, true⟩ (some ⟨g1, 0, none⟩) (T - 8) (T - 8)) rfl rfl (by kernel_rfl) (by kernel_rfl) (by kernel_rfl) (fun _ _ _ h => h) (Or.inl ⟨by rfl, fun w9 _ => ?_⟩) (by assumption) ?_
            · go_simp
            simp only [Act.put, List.setIfInBounds_toArray, List.set_cons_zero, List.set_cons_succ]
            refine wpAnyH_one (i := 12) (by kernel_rfl) rfl ?_
            refine wpList_stF rfl rfl 28 _ _ rfl g2 (pkC ⟨pf, pt, true⟩ (some ⟨g1, 0, none⟩) (T - 8) (T - 8)) rfl rfl 28 _ pk (by kernel_rfl) rfl (pkC_one ..) ?_
            intro w4 f4 hb4 ho4 hs4
            have pr : PR w (some ⟨b, o, none⟩) T c ys h g1 g2 (List.replicate (T - 8) 0) w4 :=
              ⟨hHeld.z.below hb4 n2, (by unfold PkAt; rw [HH.out]; exact f4), (ho4 _ ne).trans row, hHeld.rd.below hb4 (Nat.le_of_lt n2), hHeld.below.trans (hb4.mono (Nat.le_of_lt n2)), n1, n2, ne⟩
            have hK4 : KR w (some ⟨b, o, none⟩) T c ys w4 := ⟨pr.z, pr.rd, pr.below⟩
            clear hHeld hb4 f4 ho4 row pk
            go_wp2
            refine ⟨hK4, ?_⟩
            refine wpAnyH_done (by kernel_rfl) ?_ _
            clear hK4
            go_wp2_with fail
            go_meet
            case rel => exact ⟨_, _, rfl, pr⟩
    · as_aux_lemma =>
        have hb2 := alloc_below W1 (.cells (pkC zeroH none 0 0) 28)
        have pk := PkAt.new W1 28 zeroH none 0 0
        have n2 := hHeld.z.lt
        replace hHeld := hHeld.step hb2
        go_wp2
        refine ⟨hHeld, ?_⟩
        change wpAnyH _ _ _ _ _ _ _ _ (W1.alloc (.cells (pkC zeroH none 0 0) 28))
        clear hb2
        generalize (W1.alloc (.cells (pkC zeroH none 0 0) 28)) = W2 at *
        generalize W1.heap.size = g2 at *
        refine wpAnyH_two (i := 1) (j := 9) (by kernel_rfl) rfl rfl ?_ ?_
        · as_aux_lemma =>
            go_wp2_with (go_at_call 21; with_reducible refine (t0 _ hHeld.rd).mono ?_; rintro e w9 ⟨rfl, m9, rfl⟩)
            replace hHeld := hHeld.step (Still.drewN _ m9).below
            replace pk := pk.step (Still.drewN _ m9).below
            refine ⟨hHeld, ?_⟩
            generalize W2.drewN m9 = W3 at *
            refine wpAnyH_two (i := 4) (j := 9) (by kernel_rfl) rfl rfl ?_ ?_
            · as_aux_lemma =>
                go_wp2_with (go_at_call 21; with_reducible refine (t2 _ hHeld.rd).mono ?_; rintro e w9 ⟨rfl, m9, rfl⟩)
                replace hHeld := hHeld.step (Still.drewN _ m9).below
                replace pk := pk.step (Still.drewN _ m9).below
                refine ⟨hHeld, ?_⟩
                generalize W3.drewN m9 = W4 at *
                refine wpAnyH_one (i := 9) (by kernel_rfl) rfl ?_
                refine wpList_mk (some 49) rfl rfl _ _ 22 rfl Tryd.underlying22 info5 (T - 8) _ _ rfl rfl rfl rfl (by omega) ?_
                intro W5 row hs2 hb2
                go_wp2
                have n1 := hHeld.z.lt
                replace hHeld := hHeld.step hb2
                have ne := Nat.ne_of_gt pk.lt
                replace pk := pk.step hb2
                refine ⟨hHeld, ?_⟩
                clear hs2 hb2
                generalize W4.heap.size = g1 at *
                try simp only [Act.put, List.setIfInBounds_toArray, List.set_cons_zero, List.set_cons_succ]
                refine wpAnyH_at (i := 10) (some 50) (v := pkV ⟨pf, pt, true⟩ (some ⟨g1, 0, none⟩) (T - 8) (T - 8)) rfl rfl (by kernel_rfl) (by kernel_rfl) (by kernel_rfl) (fun _ _ _ h => h) (Or.inl ⟨by rfl, fun w9 _ => ?_⟩) (by assumption) ?_
                · go_simp
                simp only [Act.put, List.setIfInBounds_toArray, List.set_cons_zero, List.set_cons_succ]
                refine wpAnyH_one (i := 12) (by kernel_rfl) rfl ?_
                refine wpList_stF rfl rfl 28 _ _ rfl g2 (pkC ⟨pf, pt, true⟩ (some ⟨g1, 0, none⟩) (T - 8) (T - 8)) rfl rfl 28 _ pk (by kernel_rfl) rfl (pkC_one ..) ?_
                intro w4 f4 hb4 ho4 hs4
                have pr : PR w (some ⟨b, o, none⟩) T c ys h g1 g2 (List.replicate (T - 8) 0) w4 :=
                  ⟨hHeld.z.below hb4 n2, (by unfold PkAt; rw [HH.out]; exact f4), (ho4 _ ne).trans row, hHeld.rd.below hb4 (Nat.le_of_lt n2), hHeld.below.trans (hb4.mono (Nat.le_of_lt n2)), n1, n2, ne⟩
                have hK4 : KR w (some ⟨b, o, none⟩) T c ys w4 := ⟨pr.z, pr.rd, pr.below⟩
                clear hHeld hb4 f4 ho4 row pk
                go_wp2
                refine ⟨hK4, ?_⟩
                refine wpAnyH_done (by kernel_rfl) ?_ _
                clear hK4
                go_wp2_with fail
                go_meet
                case rel => exact ⟨_, _, rfl, pr⟩
            · as_aux_lemma =>
                refine wpList_mk (some 49) rfl rfl _ _ 22 rfl Tryd.underlying22 info5 (T - 8) _ _ rfl rfl rfl rfl (by omega) ?_
                intro W4 row hs2 hb2
                go_wp2
                have n1 := hHeld.z.lt
                replace hHeld := hHeld.step hb2
                have ne := Nat.ne_of_gt pk.lt
                replace pk := pk.step hb2
                refine ⟨hHeld, ?_⟩
                clear hs2 hb2
                generalize W3.heap.size = g1 at *
                refine wpAnyH_one (i := 4) (by kernel_rfl) rfl ?_
                go_wp2_with (go_at_call 21; with_reducible refine (t2 _ hHeld.rd).mono ?_; rintro e w9 ⟨rfl, m9, rfl⟩)
                replace hHeld := hHeld.step (Still.drewN _ m9).below
                replace row := row.below (Still.drewN _ m9).below row.lt
                replace pk := pk.step (Still.drewN _ m9).below
                refine ⟨hHeld, ?_⟩
                generalize W4.drewN m9 = W5 at *
                try simp only [Act.put, List.setIfInBounds_toArray, List.set_cons_zero, List.set_cons_succ]
                refine wpAnyH_at (i := 10) (some 50) (v := pkV ⟨pf, pt, true⟩ (some ⟨g1, 0, none⟩) (T - 8) (T - 8)) rfl rfl (by kernel_rfl) (by kernel_rfl) (by kernel_rfl) (fun _ _ _ h => h) (Or.inl ⟨by rfl, fun w9 _ => ?_⟩) (by assumption) ?_
                · go_simp
                simp only [Act.put, List.setIfInBounds_toArray, List.set_cons_zero, List.set_cons_succ]
                refine wpAnyH_one (i := 12) (by kernel_rfl) rfl ?_
                refine wpList_stF rfl rfl 28 _ _ rfl g2 (pkC ⟨pf, pt, true⟩ (some ⟨g1, 0, none⟩) (T - 8) (T - 8)) rfl rfl 28 _ pk (by kernel_rfl) rfl (pkC_one ..) ?_
                intro w4 f4 hb4 ho4 hs4
                have pr : PR w (some ⟨b, o, none⟩) T c ys h g1 g2 (List.replicate (T - 8) 0) w4 :=
                  ⟨hHeld.z.below hb4 n2, (by unfold PkAt; rw [HH.out]; exact f4), (ho4 _ ne).trans row, hHeld.rd.below hb4 (Nat.le_of_lt n2), hHeld.below.trans (hb4.mono (Nat.le_of_lt n2)), n1, n2, ne⟩
                have hK4 : KR w (some ⟨b, o, none⟩) T c ys w4 := ⟨pr.z, pr.rd, pr.below⟩
                clear hHeld hb4 f4 ho4 row pk
                go_wp2
                refine ⟨hK4, ?_⟩
                refine wpAnyH_done (by kernel_rfl) ?_ _
                clear hK4
                go_wp2_with fail
                go_meet
                case rel => exact ⟨_, _, rfl, pr⟩
        · as_aux_lemma =>
            refine wpList_mk (some 49) rfl rfl _ _ 22 rfl Tryd.underlying22 info5 (T - 8) _ _ rfl rfl rfl rfl (by omega) ?_
            intro W3 row hs2 hb2
            go_wp2
            have n1 := hHeld.z.lt
            replace hHeld := hHeld.step hb2
            have ne := Nat.ne_of_gt pk.lt
            replace pk := pk.step hb2
            refine ⟨hHeld, ?_⟩
            clear hs2 hb2
            generalize W2.heap.size = g1 at *
            refine wpAnyH_one (i := 1) (by kernel_rfl) rfl ?_
            go_wp2_with (go_at_call 21; with_reducible refine (t0 _ hHeld.rd).mono ?_; rintro e w9 ⟨rfl, m9, rfl⟩)
            replace hHeld := hHeld.step (Still.drewN _ m9).below
            replace row := row.below (Still.drewN _ m9).below row.lt
            replace pk := pk.step (Still.drewN _ m9).below
            refine ⟨hHeld, ?_⟩
            generalize W3.drewN m9 = W4 at *
            refine wpAnyH_one (i := 4) (by kernel_rfl) rfl ?_
            go_wp2_with (go_at_call 21; with_reducible refine (t2 _ hHeld.rd).mono ?_; rintro e w9 ⟨rfl, m9, rfl⟩)
            replace hHeld := hHeld.step (Still.drewN _ m9).below
            replace row := row.below (Still.drewN _ m9).below row.lt
            replace pk := pk.step (Still.drewN _ m9).below
            refine ⟨hHeld, ?_⟩
            generalize W4.drewN m9 = W5 at *
            try simp only [Act.put, List.setIfInBounds_toArray, List.set_cons_zero, List.set_cons_succ]
            refine wpAnyH_at (i := 10) (some 50) (v := pkV ⟨pf, pt, true⟩ (some ⟨g1, 0, none⟩) (T - 8) (T - 8)) rfl rfl (by kernel_rfl) (by kernel_rfl) (by kernel_rfl) (fun _ _ _ h => h) (Or.inl ⟨by rfl, fun w9 _ => ?_⟩) (by assumption) ?_
            · go_simp
            simp only [Act.put, List.setIfInBounds_toArray, List.set_cons_zero, List.set_cons_succ]
            refine wpAnyH_one (i := 12) (by kernel_rfl) rfl ?_
            refine wpList_stF rfl rfl 28 _ _ rfl g2 (pkC ⟨pf, pt, true⟩ (some ⟨g1, 0, none⟩) (T - 8) (T - 8)) rfl rfl 28 _ pk (by kernel_rfl) rfl (pkC_one ..) ?_
            intro w4 f4 hb4 ho4 hs4
            have pr : PR w (some ⟨b, o, none⟩) T c ys h g1 g2 (List.replicate (T - 8) 0) w4 :=
              ⟨hHeld.z.below hb4 n2, (by unfold PkAt; rw [HH.out]; exact f4), (ho4 _ ne).trans row, hHeld.rd.below hb4 (Nat.le_of_lt n2), hHeld.below.trans (hb4.mono (Nat.le_of_lt n2)), n1, n2, ne⟩
            have hK4 : KR w (some ⟨b, o, none⟩) T c ys w4 := ⟨pr.z, pr.rd, pr.below⟩
            clear hHeld hb4 f4 ho4 row pk
            go_wp2
            refine ⟨hK4, ?_⟩
            refine wpAnyH_done (by kernel_rfl) ?_ _
            clear hK4
            go_wp2_with fail
            go_meet
            case rel => exact ⟨_, _, rfl, pr⟩
  case rest =>
    obtain ⟨g1, g2, rfl, pr⟩ := hcut
    clear t0 t2 k
    go_wp2_with fail
    refine wp_region_held_drew (S := fun w' => ∃ zs, PR w (some ⟨b, o, none⟩) T c ys h g1 g2 zs w') (by kernel_rfl) ⟨_, pr.step (below_drew _)⟩ (fun hHeld => ?_)
    replace pr := pr.step (below_drew _)
    change wpAnyH _ _ _ _ _ _ _ _ (World.drew _)
    generalize World.drew _ = W6 at pr hHeld ⊢
    refine wpAnyH_at (i := 0) (some 51) (v := ?v0z19) rfl rfl (by kernel_rfl) (by kernel_rfl) (by kernel_rfl) (fun _ _ _ h => h) (Or.inl ⟨by rfl, ?y0z19⟩) (by assumption) ?r0z19
    case y0z19 =>
      intro w9 hSw
      clear hSw
      go_simp
      all_goals with_reducible rfl
    simp only [Act.put, List.setIfInBounds_toArray, List.set_cons_zero, List.set_cons_succ]
    refine wpAnyH_at (i := 1) (some 52) (v := ?v1z20) rfl rfl (by kernel_rfl) (by kernel_rfl) (by kernel_rfl) (fun _ _ _ h => h) (Or.inl ⟨by rfl, ?y1z20⟩) (by assumption) ?r1z20
    case y1z20 =>
      intro w9 hSw
      (obtain ⟨zs, hy⟩ := hSw); (obtain ⟨a0, a1, a2, a3⟩ := hy.pk.cells); clear hy
      go_simp
      all_goals with_reducible rfl
    simp only [Act.put, List.setIfInBounds_toArray, List.set_cons_zero, List.set_cons_succ]
    refine wpAnyH_at (i := 2) (some 53) (v := ?v2z21) rfl rfl (by kernel_rfl) (by kernel_rfl) (by kernel_rfl) (fun _ _ _ h => h) (Or.inl ⟨by rfl, ?y2z21⟩) (by assumption) ?r2z21
    case y2z21 =>
      intro w9 hSw
      clear hSw
      go_simp
      all_goals with_reducible rfl
    simp only [Act.put, List.setIfInBounds_toArray, List.set_cons_zero, List.set_cons_succ]
    refine wpAnyH_at (i := 3) (some 54) (v := .slice (cutA (some ⟨b, o, none⟩) c 8) (T - 8) (c - 8)) rfl rfl (by kernel_rfl) (by kernel_rfl) (by kernel_rfl) (fun _ _ _ h => h) (Or.inl ⟨by rfl, ?y3z22⟩) (by assumption) ?r3z22
    case y3z22 =>
      intro w9 hSw
      clear hSw
      by_cases hq : c = 8
      · rw [cutA_eq hq]
        subst hq
        go_simp
      · rw [cutA_ne hq]
        go_simp
    simp only [Act.put, List.setIfInBounds_toArray, List.set_cons_zero, List.set_cons_succ]
    refine wpAnyH_one (i := 4) (by kernel_rfl) rfl ?_
    refine wpList_cpRow (some 55) rfl rfl (.tmp 52) (.tmp 54) 22 22 rfl Tryd.underlying22 sz5 g1 0 _ pr.row (some ⟨g1, 0, none⟩) (T - 8) (T - 8) rfl (cutA (some ⟨b, o, none⟩) c 8) (T - 8) (c - 8) w.heap.size (ys.drop 8) rfl (pr.rd.cutFrom 8 (by omega)) (by simp) (Nat.le_refl _) (fun _ => rfl) ?_
    intro w6 r6 ho6
    rw [splice_all _ _ (by rw [List.length_drop, HL.out])] at r6
    replace pr := pr.only1 ho6 r6
    clear r6 ho6 hHeld
    go_wp2
    refine ⟨⟨_, pr⟩, ?_⟩
    refine wpAnyH_done (by kernel_rfl) ?_ _
    obtain ⟨a0, a1, a2, a3⟩ := pr.pk.cells
    have z7 := pr.z
    go_wp2_with (refine wpList_stF rfl rfl 28 _ _ rfl w.heap.size (pkC h (some ⟨g1, 0, none⟩) (T - 8) (T - 8)) rfl rfl 28 _ z7 (by kernel_rfl) rfl (pkC_one ..) ?_; intro w7 h7 hb7 ho7 hs7)
    have h7' : PkAt w7 w.heap.size 28 h (some ⟨g1, 0, none⟩) (T - 8) (T - 8) := h7
    have r7 : Row w7 g1 (ys.drop 8) := (ho7 _ (Nat.ne_of_gt pr.n1)).trans pr.row
    have b7 : Below w.heap.size w w7 := pr.below.trans hb7
    have n1 := pr.n1
    clear a0 a1 a2 a3 pr z7 h7 ho7 hb7 hs7
    go_wp2
    obtain ⟨c0, c1, c2, c3⟩ := h7'.cells
    exact bodyPost_ret (v := .tuple #[pkV h (some ⟨g1, 0, none⟩) (T - 8) (T - 8), .nilIface]) (by simp [results, Tryd.results9, go_sem, c0, c1, c2, c3]) rfl ⟨b7, g1, rfl, r7, Nat.le_of_lt n1⟩
end Go.Proofs.YtmgdfckhnjihpaaDoor
