/-
  Contract of the document's Parse, where there is a datagram (a bare one).
-/
import Derived.Test.YtmgdfckhnjihpaaDoorRParseE
namespace Go.Proofs.YtmgdfckhnjihpaaDoor
open Go.RowKit
set_option linter.unusedVariables false

set_option maxRecDepth 100000 in
set_option maxHeartbeats 4000000 in
theorem refP_bare (b o n c T : Nat) (xs : List Int) (f t : Int) (w : World) (hr : Rd .u8 w w.heap.size (some ⟨b, o, none⟩) n c xs) (hn : 8 ≤ n) (hT : told xs = T) (h8 : 8 ≤ T) (hq : T ≤ n) (hm : T ≤ 1480) (hz : num2 (xs.drop 6) = 0) : Calls Tryd.prog 10 #[.slice (some ⟨b, o, none⟩) n c, .int .u32 f, .int .u32 t] w (GivesY w (hdOf xs) (bodyOf xs)) := by
  have hcap := hr.cap
  have hmax := hr.max
  have st := R0.start hr
  have n1 : ¬ (n : Int) < 8 := by omega
  have k4 : ¬ c = 4 := by omega
  have j4 : (4 : Int) ≤ (n : Int) := by omega
  have hb4 := num2_bd rfl (hr.cutS 4 (by omega) k4) (by omega)
  have e4 : num2 (xs.drop 4) = (T : Int) := by unfold told at hT; omega
  have t4 : ∀ W, Rd .u8 W w.heap.size (some ⟨b, o, none⟩) n c xs → Calls Tryd.prog 26 #[.slice (some ⟨b, o + 4, none⟩) (n - 4) (c - 4)] W fun e w' => e = .returned (.int .i64 (T : Int)) ∧ ∃ m', w' = W.drewN m' := fun W h => by
    rw [← e4]
    exact num_any _ (n - 4) (c - 4) w.heap.size (xs.drop 4) W (h.cutS 4 (by omega) k4) (by omega)
  have hT16 : T ≤ 65535 := by omega
  have q1 : ¬ (T : Int) < 8 := by omega
  have q2 : ¬ (n : Int) < (T : Int) := by omega
  have q3 : ¬ (1480 : Int) < (T : Int) := by omega
  have k6 : ¬ c = 6 := by omega
  have j6 : (6 : Int) ≤ (n : Int) := by omega
  have t6 : ∀ W, Rd .u8 W w.heap.size (some ⟨b, o, none⟩) n c xs → Calls Tryd.prog 26 #[.slice (some ⟨b, o + 6, none⟩) (n - 6) (c - 6)] W fun e w' => e = .returned (.int .i64 (num2 (xs.drop 6))) ∧ ∃ m', w' = W.drewN m' := fun W h => num_any _ (n - 6) (c - 6) w.heap.size (xs.drop 6) W (h.cutS 6 (by omega) k6) (by omega)
  have k2 : ¬ c = 2 := by omega
  have j2 : (2 : Int) ≤ (n : Int) := by omega
  have j8 : (8 : Int) ≤ (T : Int) := by omega
  have jc : (T : Int) ≤ (c : Int) := by omega
  have t0 : ∀ W, Rd .u8 W w.heap.size (some ⟨b, o, none⟩) n c xs → Calls Tryd.prog 26 #[.slice (some ⟨b, o, none⟩) n c] W fun e w' => e = .returned (.int .i64 (num2 xs)) ∧ ∃ m', w' = W.drewN m' := fun W h => num_any _ n c w.heap.size xs W h (by omega)
  have t2 : ∀ W, Rd .u8 W w.heap.size (some ⟨b, o, none⟩) n c xs → Calls Tryd.prog 26 #[.slice (some ⟨b, o + 2, none⟩) (n - 2) (c - 2)] W fun e w' => e = .returned (.int .i64 (num2 (xs.drop 2))) ∧ ∃ m', w' = W.drewN m' := fun W h => num_any _ (n - 2) (c - 2) w.heap.size (xs.drop 2) W (h.cutS 2 (by omega) k2) (by omega)
  have p0b := num2_bd rfl hr (by omega)
  have p2b := num2_bd rfl (hr.cutS 2 (by omega) k2) (by omega)
  have HH : Hid (hdOf xs = ⟨num2 xs, num2 (xs.drop 2), true⟩) := Lib.hid (hd_eq rfl rfl (by show (num2 (xs.drop 6) == 0) = true; rw [hz]; rfl))
  have HB : Hid ((xs.drop 8).take (T - 8) = bodyOf xs) := Lib.hid (by unfold bodyOf; rw [hT, List.drop_take])
  generalize hdOf xs = HD at *
  generalize bodyOf xs = BD at *
  generalize num2 (xs.drop 2) = pt at *
  generalize num2 xs = pf at *
  have s1 : IntKind.u16.wrap pf = pf := by rw [IntKind.wrap_u16]; omega
  have s2 : IntKind.u16.wrap pt = pt := by rw [IntKind.wrap_u16]; omega
  rw [hz] at t6
  clear hr hT e4 hb4 hz p0b p2b
  go_enter Tryd.func10, Tryd.ntmps10
  go_wp2_with fail
  refine (t4 _ st.rd).mono ?_
  rintro ev w5 ⟨rfl, m, hw⟩
  replace st := st.step (Still.drewN _ m).below
  rw [← hw] at st
  clear hw t4
  go_wp2_with fail
  refine (t6 _ st.rd).mono ?_
  rintro ev w6 ⟨rfl, m, hw⟩
  replace st := st.step (Still.drewN _ m).below
  rw [← hw] at st
  clear hw t6
  go_wp2_with fail
  refine wp_region_held_drew (S := fun w' => R0 w (some ⟨b, o, none⟩) n c xs w') (by kernel_rfl) (st.step (below_drew _)) (fun hHeld => ?_)
  replace st := st.step (below_drew _)
  change wpAnyH _ _ _ _ _ _ _ _ (World.drew _)
  generalize World.drew _ = W7 at *
  refine wpAnyH_at (i := 0) (some 36) (v := ?v0z12) rfl rfl (by kernel_rfl) (by kernel_rfl) (by kernel_rfl) (fun _ _ _ h => h) (Or.inl ⟨by rfl, ?y0z12⟩) (by assumption) ?r0z12
  case y0z12 =>
    intro w9 hSw
    clear hSw
    go_simp
    all_goals with_reducible rfl
  simp only [Act.put, List.setIfInBounds_toArray, List.set_cons_zero, List.set_cons_succ]
  refine wpAnyH_at (i := 1) (some 37) (v := ?v1z13) rfl rfl (by kernel_rfl) (by kernel_rfl) (by kernel_rfl) (fun _ _ _ h => h) (Or.inl ⟨by rfl, ?y1z13⟩) (by assumption) ?r1z13
  case y1z13 =>
    intro w9 hSw
    clear hSw
    go_simp
    all_goals with_reducible rfl
  simp only [Act.put, List.setIfInBounds_toArray, List.set_cons_zero, List.set_cons_succ]
  refine wpAnyH_at (i := 2) (some 38) (v := ?v2z14) rfl rfl (by kernel_rfl) (by kernel_rfl) (by kernel_rfl) (fun _ _ _ h => h) (Or.inl ⟨by rfl, ?y2z14⟩) (by assumption) ?r2z14
  case y2z14 =>
    intro w9 hSw
    clear hSw
    go_simp
    all_goals with_reducible rfl
  simp only [Act.put, List.setIfInBounds_toArray, List.set_cons_zero, List.set_cons_succ]
  refine wpAnyH_at (i := 3) (some 39) (v := undef) rfl rfl (by kernel_rfl) (by kernel_rfl) (by kernel_rfl) (fun _ _ _ h => h) (Or.inr ⟨by rfl, rfl⟩) (by assumption) ?_
  simp only [Act.put, List.setIfInBounds_toArray, List.set_cons_zero, List.set_cons_succ]
  refine wpAnyH_at (i := 4) (some 40) (v := undef) rfl rfl (by kernel_rfl) (by kernel_rfl) (by kernel_rfl) (fun _ _ _ h => h) (Or.inr ⟨by rfl, rfl⟩) (by assumption) ?_
  simp only [Act.put, List.setIfInBounds_toArray, List.set_cons_zero, List.set_cons_succ]
  refine wpAnyH_at (i := 5) (some 41) (v := undef) rfl rfl (by kernel_rfl) (by kernel_rfl) (by kernel_rfl) (fun _ _ _ h => h) (Or.inr ⟨by rfl, rfl⟩) (by assumption) ?_
  simp only [Act.put, List.setIfInBounds_toArray, List.set_cons_zero, List.set_cons_succ]
  refine wpAnyH_at (i := 7) (some 43) (v := undef) rfl rfl (by kernel_rfl) (by kernel_rfl) (by kernel_rfl) (fun _ _ _ h => h) (Or.inr ⟨by rfl, rfl⟩) (by assumption) ?_
  simp only [Act.put, List.setIfInBounds_toArray, List.set_cons_zero, List.set_cons_succ]
  refine wpAnyH_at (i := 8) (some 44) (v := undef) rfl rfl (by kernel_rfl) (by kernel_rfl) (by kernel_rfl) (fun _ _ _ h => h) (Or.inr ⟨by rfl, rfl⟩) (by assumption) ?_
  simp only [Act.put, List.setIfInBounds_toArray, List.set_cons_zero, List.set_cons_succ]
  refine wpAnyH_at (i := 9) (some 45) (v := undef) rfl rfl (by kernel_rfl) (by kernel_rfl) (by kernel_rfl) (fun _ _ _ h => h) (Or.inr ⟨by rfl, rfl⟩) (by assumption) ?_
  simp only [Act.put, List.setIfInBounds_toArray, List.set_cons_zero, List.set_cons_succ]
  refine wpAnyH_one (i := 6) (by kernel_rfl) rfl ?_
  go_wp2
  refine ⟨hHeld, ?_⟩
  refine wpAnyH_one (i := 10) (by kernel_rfl) rfl ?_
  go_wp2
  refine ⟨hHeld, ?_⟩
  refine wpAnyH_one (i := 11) (by kernel_rfl) rfl ?_
  go_wp2
  refine ⟨hHeld, ?_⟩
  refine wpAnyH_at (i := 12) (some 48) (v := undef) rfl rfl (by kernel_rfl) (by kernel_rfl) (by kernel_rfl) (fun _ _ _ h => h) (Or.inr ⟨by rfl, rfl⟩) (by assumption) ?_
  simp only [Act.put, List.setIfInBounds_toArray, List.set_cons_zero, List.set_cons_succ]
  refine wpAnyH_at (i := 13) (some 49) (v := ?v13z15) rfl rfl (by kernel_rfl) (by kernel_rfl) (by kernel_rfl) (fun _ _ _ h => h) (Or.inl ⟨by rfl, ?y13z15⟩) (by assumption) ?r13z15
  case y13z15 =>
    intro w9 hSw
    clear hSw
    go_simp
    all_goals with_reducible rfl
  simp only [Act.put, List.setIfInBounds_toArray, List.set_cons_zero, List.set_cons_succ]
  refine wpAnyH_done (by kernel_rfl) ?_ _
  clear hHeld
  go_wp2_with fail
  refine wp_region_held_drew (S := fun w' => Rd .u8 w' w.heap.size (some ⟨b, o, none⟩) n c xs) (by kernel_rfl) (st.step (below_drew _)).rd (fun hHeld => ?_)
  replace st := st.step (below_drew _)
  change wpAnyH _ _ _ _ _ _ _ _ (World.drew _)
  generalize World.drew _ = W20 at *
  refine wpAnyH_at (i := 0) (some 52) (v := ?v0z16) rfl rfl (by kernel_rfl) (by kernel_rfl) (by kernel_rfl) (fun _ _ _ h => h) (Or.inl ⟨by rfl, ?y0z16⟩) (by assumption) ?r0z16
  case y0z16 =>
    intro w9 hSw
    clear hSw
    go_simp
    all_goals with_reducible rfl
  simp only [Act.put, List.setIfInBounds_toArray, List.set_cons_zero, List.set_cons_succ]
  refine wpAnyH_at (i := 3) (some 55) (v := ?v3z17) rfl rfl (by kernel_rfl) (by kernel_rfl) (by kernel_rfl) (fun _ _ _ h => h) (Or.inl ⟨by rfl, ?y3z17⟩) (by assumption) ?r3z17
  case y3z17 =>
    intro w9 hSw
    clear hSw
    go_simp
    all_goals with_reducible rfl
  simp only [Act.put, List.setIfInBounds_toArray, List.set_cons_zero, List.set_cons_succ]
  refine wpAnyH_at (i := 4) (some 56) (v := ?v4z18) rfl rfl (by kernel_rfl) (by kernel_rfl) (by kernel_rfl) (fun _ _ _ h => h) (Or.inl ⟨by rfl, ?y4z18⟩) (by assumption) ?r4z18
  case y4z18 =>
    intro w9 hSw
    clear hSw
    go_simp
    all_goals with_reducible rfl
  simp only [Act.put, List.setIfInBounds_toArray, List.set_cons_zero, List.set_cons_succ]
  refine wpAnyH_at (i := 7) (some 59) (v := ?v7z19) rfl rfl (by kernel_rfl) (by kernel_rfl) (by kernel_rfl) (fun _ _ _ h => h) (Or.inl ⟨by rfl, ?y7z19⟩) (by assumption) ?r7z19
  case y7z19 =>
    intro w9 hSw
    clear hSw
    go_simp
    all_goals with_reducible rfl
  simp only [Act.put, List.setIfInBounds_toArray, List.set_cons_zero, List.set_cons_succ]
  refine wpAnyH_at (i := 9) (some 61) (v := ?v9z20) rfl rfl (by kernel_rfl) (by kernel_rfl) (by kernel_rfl) (fun _ _ _ h => h) (Or.inl ⟨by rfl, ?y9z20⟩) (by assumption) ?r9z20
  case y9z20 =>
    intro w9 hSw
    clear hSw
    go_simp
    all_goals with_reducible rfl
  simp only [Act.put, List.setIfInBounds_toArray, List.set_cons_zero, List.set_cons_succ]
  refine wpAnyH_at (i := 10) (some 62) (v := ?v10z21) rfl rfl (by kernel_rfl) (by kernel_rfl) (by kernel_rfl) (fun _ _ _ h => h) (Or.inl ⟨by rfl, ?y10z21⟩) (by assumption) ?r10z21
  case y10z21 =>
    intro w9 hSw
    clear hSw
    go_simp
    all_goals with_reducible rfl
  simp only [Act.put, List.setIfInBounds_toArray, List.set_cons_zero, List.set_cons_succ]
  refine wpAnyH_at (i := 11) (some 63) (v := .slice (cutA (some ⟨b, o, none⟩) c 8) (T - 8) (c - 8)) rfl rfl (by kernel_rfl) (by kernel_rfl) (by kernel_rfl) (fun _ _ _ h => h) (Or.inl ⟨by rfl, ?ycut⟩) (by assumption) ?rcut
  case ycut =>
    intro w9 hSw
    clear hSw
    by_cases hq8 : c = 8
    · rw [cutA_eq hq8]
      obtain rfl : T = 8 := by omega
      subst hq8
      go_simp
    · rw [cutA_ne hq8]
      go_simp
  simp only [Act.put, List.setIfInBounds_toArray, List.set_cons_zero, List.set_cons_succ]
  refine wpAnyH_at (i := 14) (some 66) (v := ?v14z22) rfl rfl (by kernel_rfl) (by kernel_rfl) (by kernel_rfl) (fun _ _ _ h => h) (Or.inl ⟨by rfl, ?y14z22⟩) (by assumption) ?r14z22
  case y14z22 =>
    intro w9 hSw
    clear hSw
    go_simp
    all_goals with_reducible rfl
  simp only [Act.put, List.setIfInBounds_toArray, List.set_cons_zero, List.set_cons_succ]
  refine wpAnyH_two (i := 1) (j := 8) (by kernel_rfl) rfl rfl ?_ ?_
  · as_aux_lemma =>
      go_wp2_with (go_at_call 26; refine (t0 _ st.rd).mono ?_; rintro ev w9 ⟨rfl, m9, rfl⟩)
      replace st := st.step (Still.drewN _ m9).below
      clear hHeld
      have hHeld := st.rd
      refine ⟨hHeld, ?_⟩
      generalize W20.drewN m9 = W21 at *
      try simp only [Act.put, List.setIfInBounds_toArray, List.set_cons_zero, List.set_cons_succ]
      refine wpAnyH_at (i := 2) (some 54) (v := ?v2z23) rfl rfl (by kernel_rfl) (by kernel_rfl) (by kernel_rfl) (fun _ _ _ h => h) (Or.inl ⟨by rfl, ?y2z23⟩) (by assumption) ?r2z23
      case y2z23 =>
        intro w9 hSw
        clear hSw
        go_simp
        all_goals with_reducible rfl
      simp only [Act.put, List.setIfInBounds_toArray, List.set_cons_zero, List.set_cons_succ]
      refine wpAnyH_two (i := 5) (j := 8) (by kernel_rfl) rfl rfl ?_ ?_
      · as_aux_lemma =>
          go_wp2_with (go_at_call 26; refine (t2 _ st.rd).mono ?_; rintro ev w9 ⟨rfl, m9, rfl⟩)
          replace st := st.step (Still.drewN _ m9).below
          clear hHeld
          have hHeld := st.rd
          refine ⟨hHeld, ?_⟩
          generalize W21.drewN m9 = W22 at *
          try simp only [Act.put, List.setIfInBounds_toArray, List.set_cons_zero, List.set_cons_succ]
          refine wpAnyH_at (i := 6) (some 58) (v := ?v6z24) rfl rfl (by kernel_rfl) (by kernel_rfl) (by kernel_rfl) (fun _ _ _ h => h) (Or.inl ⟨by rfl, ?y6z24⟩) (by assumption) ?r6z24
          case y6z24 =>
            intro w9 hSw
            clear hSw
            go_simp
            all_goals with_reducible rfl
          simp only [Act.put, List.setIfInBounds_toArray, List.set_cons_zero, List.set_cons_succ]
          refine wpAnyH_one (i := 8) (by kernel_rfl) rfl ?_
          have hb2 := alloc_below W22 (.cells #[] 5)
          have o1 := Out.lit0 .u8 5 W22 (w.heap.size + 2) st.sz
          replace st := st.step hb2
          clear hHeld hb2
          have hHeld := st.rd
          go_wp2
          refine ⟨hHeld, ?_⟩
          change wpAnyH _ _ _ _ _ _ _ _ (W22.alloc (.cells #[] 5))
          generalize (W22.alloc (.cells #[] 5)) = W23 at *
          generalize W22.heap.size = gE at *
          try simp only [Act.put, List.setIfInBounds_toArray, List.set_cons_zero, List.set_cons_succ]
          refine wpAnyH_one (i := 12) (by kernel_rfl) rfl ?_
          refine wpList_appD (some 64) rfl rfl (.tmp 60) (.tmp 63) 22 rfl (w.heap.size + 2) Tryd.underlying22 info5 (by omega) (some ⟨gE, 0, none⟩) 0 0 [] rfl o1 (cutA (some ⟨b, o, none⟩) c 8) (T - 8) (c - 8) w.heap.size ((xs.drop 8).take (T - 8)) rfl (st.rd.cut h8 hq) (by omega) st.sz ?_
          intro A1 n1 c1 W24 o2 hgr
          replace st := st.low (Nat.le_refl _) (grown_low o1 hgr st.sz)
          rw [List.nil_append, HB.out] at o2
          clear hgr o1 hHeld
          have o1 := o2
          clear o2
          have hHeld := st.rd
          go_wp2
          refine ⟨hHeld, ?_⟩
          try simp only [Act.put, List.setIfInBounds_toArray, List.set_cons_zero, List.set_cons_succ]
          refine wpAnyH_at (i := 13) (some 65) (v := pkV ⟨pf, pt, true⟩ A1 n1 c1) rfl rfl (by kernel_rfl) (by kernel_rfl) (by kernel_rfl) (fun _ _ _ h => h) (Or.inl ⟨by rfl, fun w9 _ => ?_⟩) (by assumption) ?_
          · go_simp
          simp only [Act.put, List.setIfInBounds_toArray, List.set_cons_zero, List.set_cons_succ]
          refine wpAnyH_one (i := 15) (by kernel_rfl) rfl ?_
          refine wpList_stF rfl rfl 33 _ _ rfl w.heap.size (pkC ⟨pf, pt, true⟩ A1 n1 c1) rfl rfl 33 _ st.z.z (by kernel_rfl) rfl (pkC_one ..) ?_
          intro wA fA hbA hoA hsA
          have yA := (hoA (w.heap.size + 1) (by omega)).trans st.z.y
          have bA := st.z.below.trans hbA
          have rA := st.rd.below hbA (Nat.le_refl _)
          replace o1 := o1.other (fun j hj => hoA j (by omega))
          clear hHeld hbA hoA hsA st
          go_wp2
          refine ⟨rA, ?_⟩
          refine wpAnyH_one (i := 16) (by kernel_rfl) rfl ?_
          refine wpList_stF rfl rfl 37 _ _ rfl (w.heap.size + 1) (flC none 0 0 0) rfl rfl 37 _ yA (by kernel_rfl) rfl (flC_one _ _ _ _) ?_
          intro wB fB hbB hoB hsB
          have zB : PkAt wB w.heap.size 33 ⟨pf, pt, true⟩ A1 n1 c1 := (hoB w.heap.size (by omega)).trans fA
          have bB := bA.trans (hbB.mono (by omega))
          have rB := rA.below hbB (by omega)
          replace o1 := o1.other (fun j hj => hoB j (by omega))
          clear hbB hoB hsB bA rA yA fA
          go_wp2
          refine ⟨rB, ?_⟩
          refine wpAnyH_done (by kernel_rfl) ?_ _
          go_wp2
          obtain ⟨a0, a1, a2, a3⟩ := zB.cells
          have b0 : wB.cell? ⟨w.heap.size + 1, 0, none⟩ = some (.slice none 0 0) := blk_cell fB rfl
          have b1 : wB.cell? ⟨w.heap.size + 1, 1, none⟩ = some (.int .i64 0) := blk_cell fB rfl
          refine bodyPost_ret (v := .tuple #[pkV ⟨pf, pt, true⟩ A1 n1 c1, .agg #[.slice none 0 0, .int .i64 0]]) (by simp [results, Tryd.results10, go_sem, b0, b1, a0, a1, a2, a3]) rfl ?_
          unfold GivesY
          rw [HH.out]
          exact ⟨bB, A1, n1, c1, rfl, o1.rebase (by omega)⟩
      · as_aux_lemma =>
          have hb2 := alloc_below W21 (.cells #[] 5)
          have o1 := Out.lit0 .u8 5 W21 (w.heap.size + 2) st.sz
          replace st := st.step hb2
          clear hHeld hb2
          have hHeld := st.rd
          go_wp2
          refine ⟨hHeld, ?_⟩
          change wpAnyH _ _ _ _ _ _ _ _ (W21.alloc (.cells #[] 5))
          generalize (W21.alloc (.cells #[] 5)) = W22 at *
          generalize W21.heap.size = gE at *
          try simp only [Act.put, List.setIfInBounds_toArray, List.set_cons_zero, List.set_cons_succ]
          refine wpAnyH_one (i := 5) (by kernel_rfl) rfl ?_
          go_wp2_with (go_at_call 26; refine (t2 _ st.rd).mono ?_; rintro ev w9 ⟨rfl, m9, rfl⟩)
          replace st := st.step (Still.drewN _ m9).below
          replace o1 := o1.below (Still.drewN _ m9).below (Nat.le_refl _)
          clear hHeld
          have hHeld := st.rd
          refine ⟨hHeld, ?_⟩
          generalize W22.drewN m9 = W23 at *
          try simp only [Act.put, List.setIfInBounds_toArray, List.set_cons_zero, List.set_cons_succ]
          refine wpAnyH_at (i := 6) (some 58) (v := ?v6z25) rfl rfl (by kernel_rfl) (by kernel_rfl) (by kernel_rfl) (fun _ _ _ h => h) (Or.inl ⟨by rfl, ?y6z25⟩) (by assumption) ?r6z25
          case y6z25 =>
            intro w9 hSw
            clear hSw
            go_simp
            all_goals with_reducible rfl
          simp only [Act.put, List.setIfInBounds_toArray, List.set_cons_zero, List.set_cons_succ]
          refine wpAnyH_one (i := 12) (by kernel_rfl) rfl ?_
          refine wpList_appD (some 64) rfl rfl (.tmp 60) (.tmp 63) 22 rfl (w.heap.size + 2) Tryd.underlying22 info5 (by omega) (some ⟨gE, 0, none⟩) 0 0 [] rfl o1 (cutA (some ⟨b, o, none⟩) c 8) (T - 8) (c - 8) w.heap.size ((xs.drop 8).take (T - 8)) rfl (st.rd.cut h8 hq) (by omega) st.sz ?_
          intro A1 n1 c1 W24 o2 hgr
          replace st := st.low (Nat.le_refl _) (grown_low o1 hgr st.sz)
          rw [List.nil_append, HB.out] at o2
          clear hgr o1 hHeld
          have o1 := o2
          clear o2
          have hHeld := st.rd
          go_wp2
          refine ⟨hHeld, ?_⟩
          try simp only [Act.put, List.setIfInBounds_toArray, List.set_cons_zero, List.set_cons_succ]
          refine wpAnyH_at (i := 13) (some 65) (v := pkV ⟨pf, pt, true⟩ A1 n1 c1) rfl rfl (by kernel_rfl) (by kernel_rfl) (by kernel_rfl) (fun _ _ _ h => h) (Or.inl ⟨by rfl, fun w9 _ => ?_⟩) (by assumption) ?_
          · go_simp
          simp only [Act.put, List.setIfInBounds_toArray, List.set_cons_zero, List.set_cons_succ]
          refine wpAnyH_one (i := 15) (by kernel_rfl) rfl ?_
          refine wpList_stF rfl rfl 33 _ _ rfl w.heap.size (pkC ⟨pf, pt, true⟩ A1 n1 c1) rfl rfl 33 _ st.z.z (by kernel_rfl) rfl (pkC_one ..) ?_
          intro wA fA hbA hoA hsA
          have yA := (hoA (w.heap.size + 1) (by omega)).trans st.z.y
          have bA := st.z.below.trans hbA
          have rA := st.rd.below hbA (Nat.le_refl _)
          replace o1 := o1.other (fun j hj => hoA j (by omega))
          clear hHeld hbA hoA hsA st
          go_wp2
          refine ⟨rA, ?_⟩
          refine wpAnyH_one (i := 16) (by kernel_rfl) rfl ?_
          refine wpList_stF rfl rfl 37 _ _ rfl (w.heap.size + 1) (flC none 0 0 0) rfl rfl 37 _ yA (by kernel_rfl) rfl (flC_one _ _ _ _) ?_
          intro wB fB hbB hoB hsB
          have zB : PkAt wB w.heap.size 33 ⟨pf, pt, true⟩ A1 n1 c1 := (hoB w.heap.size (by omega)).trans fA
          have bB := bA.trans (hbB.mono (by omega))
          have rB := rA.below hbB (by omega)
          replace o1 := o1.other (fun j hj => hoB j (by omega))
          clear hbB hoB hsB bA rA yA fA
          go_wp2
          refine ⟨rB, ?_⟩
          refine wpAnyH_done (by kernel_rfl) ?_ _
          go_wp2
          obtain ⟨a0, a1, a2, a3⟩ := zB.cells
          have b0 : wB.cell? ⟨w.heap.size + 1, 0, none⟩ = some (.slice none 0 0) := blk_cell fB rfl
          have b1 : wB.cell? ⟨w.heap.size + 1, 1, none⟩ = some (.int .i64 0) := blk_cell fB rfl
          refine bodyPost_ret (v := .tuple #[pkV ⟨pf, pt, true⟩ A1 n1 c1, .agg #[.slice none 0 0, .int .i64 0]]) (by simp [results, Tryd.results10, go_sem, b0, b1, a0, a1, a2, a3]) rfl ?_
          unfold GivesY
          rw [HH.out]
          exact ⟨bB, A1, n1, c1, rfl, o1.rebase (by omega)⟩
  · as_aux_lemma =>
      have hb2 := alloc_below W20 (.cells #[] 5)
      have o1 := Out.lit0 .u8 5 W20 (w.heap.size + 2) st.sz
      replace st := st.step hb2
      clear hHeld hb2
      have hHeld := st.rd
      go_wp2
      refine ⟨hHeld, ?_⟩
      change wpAnyH _ _ _ _ _ _ _ _ (W20.alloc (.cells #[] 5))
      generalize (W20.alloc (.cells #[] 5)) = W21 at *
      generalize W20.heap.size = gE at *
      try simp only [Act.put, List.setIfInBounds_toArray, List.set_cons_zero, List.set_cons_succ]
      refine wpAnyH_one (i := 1) (by kernel_rfl) rfl ?_
      go_wp2_with (go_at_call 26; refine (t0 _ st.rd).mono ?_; rintro ev w9 ⟨rfl, m9, rfl⟩)
      replace st := st.step (Still.drewN _ m9).below
      replace o1 := o1.below (Still.drewN _ m9).below (Nat.le_refl _)
      clear hHeld
      have hHeld := st.rd
      refine ⟨hHeld, ?_⟩
      generalize W21.drewN m9 = W22 at *
      try simp only [Act.put, List.setIfInBounds_toArray, List.set_cons_zero, List.set_cons_succ]
      refine wpAnyH_at (i := 2) (some 54) (v := ?v2z26) rfl rfl (by kernel_rfl) (by kernel_rfl) (by kernel_rfl) (fun _ _ _ h => h) (Or.inl ⟨by rfl, ?y2z26⟩) (by assumption) ?r2z26
      case y2z26 =>
        intro w9 hSw
        clear hSw
        go_simp
        all_goals with_reducible rfl
      simp only [Act.put, List.setIfInBounds_toArray, List.set_cons_zero, List.set_cons_succ]
      refine wpAnyH_one (i := 5) (by kernel_rfl) rfl ?_
      go_wp2_with (go_at_call 26; refine (t2 _ st.rd).mono ?_; rintro ev w9 ⟨rfl, m9, rfl⟩)
      replace st := st.step (Still.drewN _ m9).below
      replace o1 := o1.below (Still.drewN _ m9).below (Nat.le_refl _)
      clear hHeld
      have hHeld := st.rd
      refine ⟨hHeld, ?_⟩
      generalize W22.drewN m9 = W23 at *
      try simp only [Act.put, List.setIfInBounds_toArray, List.set_cons_zero, List.set_cons_succ]
      refine wpAnyH_at (i := 6) (some 58) (v := ?v6z27) rfl rfl (by kernel_rfl) (by kernel_rfl) (by kernel_rfl) (fun _ _ _ h => h) (Or.inl ⟨by rfl, ?y6z27⟩) (by assumption) ?r6z27
      case y6z27 =>
        intro w9 hSw
        clear hSw
        go_simp
        all_goals with_reducible rfl
      simp only [Act.put, List.setIfInBounds_toArray, List.set_cons_zero, List.set_cons_succ]
      refine wpAnyH_one (i := 12) (by kernel_rfl) rfl ?_
      refine wpList_appD (some 64) rfl rfl (.tmp 60) (.tmp 63) 22 rfl (w.heap.size + 2) Tryd.underlying22 info5 (by omega) (some ⟨gE, 0, none⟩) 0 0 [] rfl o1 (cutA (some ⟨b, o, none⟩) c 8) (T - 8) (c - 8) w.heap.size ((xs.drop 8).take (T - 8)) rfl (st.rd.cut h8 hq) (by omega) st.sz ?_
      intro A1 n1 c1 W24 o2 hgr
      replace st := st.low (Nat.le_refl _) (grown_low o1 hgr st.sz)
      rw [List.nil_append, HB.out] at o2
      clear hgr o1 hHeld
      have o1 := o2
      clear o2
      have hHeld := st.rd
      go_wp2
      refine ⟨hHeld, ?_⟩
      try simp only [Act.put, List.setIfInBounds_toArray, List.set_cons_zero, List.set_cons_succ]
      refine wpAnyH_at (i := 13) (some 65) (v := pkV ⟨pf, pt, true⟩ A1 n1 c1) rfl rfl (by kernel_rfl) (by kernel_rfl) (by kernel_rfl) (fun _ _ _ h => h) (Or.inl ⟨by rfl, fun w9 _ => ?_⟩) (by assumption) ?_
      · go_simp
      simp only [Act.put, List.setIfInBounds_toArray, List.set_cons_zero, List.set_cons_succ]
      refine wpAnyH_one (i := 15) (by kernel_rfl) rfl ?_
      refine wpList_stF rfl rfl 33 _ _ rfl w.heap.size (pkC ⟨pf, pt, true⟩ A1 n1 c1) rfl rfl 33 _ st.z.z (by kernel_rfl) rfl (pkC_one ..) ?_
      intro wA fA hbA hoA hsA
      have yA := (hoA (w.heap.size + 1) (by omega)).trans st.z.y
      have bA := st.z.below.trans hbA
      have rA := st.rd.below hbA (Nat.le_refl _)
      replace o1 := o1.other (fun j hj => hoA j (by omega))
      clear hHeld hbA hoA hsA st
      go_wp2
      refine ⟨rA, ?_⟩
      refine wpAnyH_one (i := 16) (by kernel_rfl) rfl ?_
      refine wpList_stF rfl rfl 37 _ _ rfl (w.heap.size + 1) (flC none 0 0 0) rfl rfl 37 _ yA (by kernel_rfl) rfl (flC_one _ _ _ _) ?_
      intro wB fB hbB hoB hsB
      have zB : PkAt wB w.heap.size 33 ⟨pf, pt, true⟩ A1 n1 c1 := (hoB w.heap.size (by omega)).trans fA
      have bB := bA.trans (hbB.mono (by omega))
      have rB := rA.below hbB (by omega)
      replace o1 := o1.other (fun j hj => hoB j (by omega))
      clear hbB hoB hsB bA rA yA fA
      go_wp2
      refine ⟨rB, ?_⟩
      refine wpAnyH_done (by kernel_rfl) ?_ _
      go_wp2
      obtain ⟨a0, a1, a2, a3⟩ := zB.cells
      have b0 : wB.cell? ⟨w.heap.size + 1, 0, none⟩ = some (.slice none 0 0) := blk_cell fB rfl
      have b1 : wB.cell? ⟨w.heap.size + 1, 1, none⟩ = some (.int .i64 0) := blk_cell fB rfl
      refine bodyPost_ret (v := .tuple #[pkV ⟨pf, pt, true⟩ A1 n1 c1, .agg #[.slice none 0 0, .int .i64 0]]) (by simp [results, Tryd.results10, go_sem, b0, b1, a0, a1, a2, a3]) rfl ?_
      unfold GivesY
      rw [HH.out]
      exact ⟨bB, A1, n1, c1, rfl, o1.rebase (by omega)⟩
end Go.Proofs.YtmgdfckhnjihpaaDoor
