/-
  Contract of the document's Parse, where there is a datagram (with its sum).
-/
import Derived.Test.YtmgdfckhnjihpaaDoorRParseE
namespace Go.Proofs.YtmgdfckhnjihpaaDoor
open Go.RowKit
set_option linter.unusedVariables false

set_option maxRecDepth 100000 in
set_option maxHeartbeats 4000000 in
theorem refP_right (b o n c T : Nat) (xs : List Int) (f t : Int) (w : World) (hr : Rd .u8 w w.heap.size (some ⟨b, o, none⟩) n c xs) (hn : 8 ≤ n) (hT : told xs = T) (h8 : 8 ≤ T) (hq : T ≤ n) (hm : T ≤ 1480) (hf : Ip f) (ht : Ip t) (tt : Int) (hz : ¬ num2 (xs.drop 6) = 0) (hs : totV (epR f t T ++ xs.take T) = tt) (hne : tt = 65535) : Calls Tryd.prog 10 #[.slice (some ⟨b, o, none⟩) n c, .int .u32 f, .int .u32 t] w (GivesY w (hdOf xs) (bodyOf xs)) := by
  have hcap := hr.cap
  have hmax := hr.max
  have st := R0.start hr
  have n1 : ¬ (n : Int) < 8 := by omega
  have k4 : ¬ c = 4 := by omega
  have j4 : (4 : Int) ≤ (n : Int) := by omega
  have hb4 := num2_bd rfl (hr.cutS 4 (by omega) k4) (by omega)
  have e4 : num2 (xs.drop 4) = (T : Int) := by unfold told at hT; omega
  have t4 : ∀ W, Rd .u8 W w.heap.size (some ⟨b, o, none⟩) n c xs → Calls Tryd.prog 26 #[.slice (some ⟨b, o + 4, none⟩) (n - 4) (c - 4)] W fun e w' => e = .returned (.int .i64 (T : Int)) ∧ ∃ m', w' = W.drewN m' := fun W h => by
    rw [← e4]
    exact num_any _ (n - 4) (c - 4) w.heap.size (xs.drop 4) W (h.cutS 4 (by omega) k4) (by omega)
  have hT16 : T ≤ 65535 := by omega
  have q1 : ¬ (T : Int) < 8 := by omega
  have q2 : ¬ (n : Int) < (T : Int) := by omega
  have q3 : ¬ (1480 : Int) < (T : Int) := by omega
  have k6 : ¬ c = 6 := by omega
  have j6 : (6 : Int) ≤ (n : Int) := by omega
  have t6 : ∀ W, Rd .u8 W w.heap.size (some ⟨b, o, none⟩) n c xs → Calls Tryd.prog 26 #[.slice (some ⟨b, o + 6, none⟩) (n - 6) (c - 6)] W fun e w' => e = .returned (.int .i64 (num2 (xs.drop 6))) ∧ ∃ m', w' = W.drewN m' := fun W h => num_any _ (n - 6) (c - 6) w.heap.size (xs.drop 6) W (h.cutS 6 (by omega) k6) (by omega)
  have j1 : (T : Int) ≤ (c : Int) := by omega
  have ce : Hid (∀ W, Calls Tryd.prog 28 #[.int .u32 f, .int .u32 t, .int .i64 17, .int .i64 T] W fun ev w' => ∃ A c, ev = .returned (.slice A 12 c) ∧ Out .u8 5 w' W.heap.size A 12 c (epR f t T) ∧ Below W.heap.size W w') := Lib.hid (fun W => ends_any f t T W hf ht (by omega))
  have cs : Hid (∀ W A n1 c1 , Out .u8 5 W (w.heap.size + 2) A n1 c1 (epR f t T ++ xs.take T) → Calls Tryd.prog 27 #[.slice A n1 c1] W fun ev w' => ev = .returned (.int .u16 tt) ∧ W = w') := Lib.hid (fun W A n1 c1 h => by
    have l := h.len
    rw [List.length_append, epR_len, List.length_take] at l
    have := refTotal_any A n1 c1 W.heap.size _ W h.rd (by omega)
    rwa [hs] at this)
  have EL : Hid ((epR f t T).length = 12) := Lib.hid rfl
  have k2 : ¬ c = 2 := by omega
  have j2 : (2 : Int) ≤ (n : Int) := by omega
  have j8 : (8 : Int) ≤ (T : Int) := by omega
  have jc : (T : Int) ≤ (c : Int) := by omega
  have t0 : ∀ W, Rd .u8 W w.heap.size (some ⟨b, o, none⟩) n c xs → Calls Tryd.prog 26 #[.slice (some ⟨b, o, none⟩) n c] W fun e w' => e = .returned (.int .i64 (num2 xs)) ∧ ∃ m', w' = W.drewN m' := fun W h => num_any _ n c w.heap.size xs W h (by omega)
  have t2 : ∀ W, Rd .u8 W w.heap.size (some ⟨b, o, none⟩) n c xs → Calls Tryd.prog 26 #[.slice (some ⟨b, o + 2, none⟩) (n - 2) (c - 2)] W fun e w' => e = .returned (.int .i64 (num2 (xs.drop 2))) ∧ ∃ m', w' = W.drewN m' := fun W h => num_any _ (n - 2) (c - 2) w.heap.size (xs.drop 2) W (h.cutS 2 (by omega) k2) (by omega)
  have p0b := num2_bd rfl hr (by omega)
  have p2b := num2_bd rfl (hr.cutS 2 (by omega) k2) (by omega)
  have HH : Hid (hdOf xs = ⟨num2 xs, num2 (xs.drop 2), false⟩) := Lib.hid (hd_eq rfl rfl (by show (num2 (xs.drop 6) == 0) = false; simpa using hz))
  have HB : Hid ((xs.drop 8).take (T - 8) = bodyOf xs) := Lib.hid (by unfold bodyOf; rw [hT, List.drop_take])
  generalize hdOf xs = HD at *
  generalize bodyOf xs = BD at *
  generalize num2 (xs.drop 2) = pt at *
  generalize num2 xs = pf at *
  have s1 : IntKind.u16.wrap pf = pf := by rw [IntKind.wrap_u16]; omega
  have s2 : IntKind.u16.wrap pt = pt := by rw [IntKind.wrap_u16]; omega
  generalize num2 (xs.drop 6) = p6 at *
  have hzb : (p6 == 0) = false := by simpa using hz
  have hnb : (tt != 65535) = false := by rw [hne]; rfl
  clear hr hT e4 hb4 hs hf ht p0b p2b hne
  go_enter Tryd.func10, Tryd.ntmps10
  go_wp2_with fail
  refine (t4 _ st.rd).mono ?_
  rintro ev w5 ⟨rfl, m, hw⟩
  replace st := st.step (Still.drewN _ m).below
  rw [← hw] at st
  clear hw t4
  go_wp2_with fail
  refine (t6 _ st.rd).mono ?_
  rintro ev w6 ⟨rfl, m, hw⟩
  replace st := st.step (Still.drewN _ m).below
  rw [← hw] at st
  clear hw t6
  go_wp2_with fail
  refine wp_region_held_drew (S := fun w' => R0 w (some ⟨b, o, none⟩) n c xs w') (by kernel_rfl) (st.step (below_drew _)) (fun hHeld => ?_)
  replace st := st.step (below_drew _)
  change wpAnyH _ _ _ _ _ _ _ _ (World.drew _)
  generalize World.drew _ = W7 at *
  refine wpAnyH_at (i := 0) (some 36) (v := ?v0z28) rfl rfl (by kernel_rfl) (by kernel_rfl) (by kernel_rfl) (fun _ _ _ h => h) (Or.inl ⟨by rfl, ?y0z28⟩) (by assumption) ?r0z28
  case y0z28 =>
    intro w9 hSw
    clear hSw
    go_simp
    all_goals with_reducible rfl
  simp only [Act.put, List.setIfInBounds_toArray, List.set_cons_zero, List.set_cons_succ]
  refine wpAnyH_at (i := 1) (some 37) (v := ?v1z29) rfl rfl (by kernel_rfl) (by kernel_rfl) (by kernel_rfl) (fun _ _ _ h => h) (Or.inl ⟨by rfl, ?y1z29⟩) (by assumption) ?r1z29
  case y1z29 =>
    intro w9 hSw
    clear hSw
    go_simp
    all_goals with_reducible rfl
  simp only [Act.put, List.setIfInBounds_toArray, List.set_cons_zero, List.set_cons_succ]
  refine wpAnyH_at (i := 2) (some 38) (v := ?v2z30) rfl rfl (by kernel_rfl) (by kernel_rfl) (by kernel_rfl) (fun _ _ _ h => h) (Or.inl ⟨by rfl, ?y2z30⟩) (by assumption) ?r2z30
  case y2z30 =>
    intro w9 hSw
    clear hSw
    go_simp
    all_goals with_reducible rfl
  simp only [Act.put, List.setIfInBounds_toArray, List.set_cons_zero, List.set_cons_succ]
  refine wpAnyH_at (i := 3) (some 39) (v := ?v3z31) rfl rfl (by kernel_rfl) (by kernel_rfl) (by kernel_rfl) (fun _ _ _ h => h) (Or.inl ⟨by rfl, ?y3z31⟩) (by assumption) ?r3z31
  case y3z31 =>
    intro w9 hSw
    clear hSw
    go_simp
    all_goals with_reducible rfl
  simp only [Act.put, List.setIfInBounds_toArray, List.set_cons_zero, List.set_cons_succ]
  refine wpAnyH_at (i := 4) (some 40) (v := ?v4z32) rfl rfl (by kernel_rfl) (by kernel_rfl) (by kernel_rfl) (fun _ _ _ h => h) (Or.inl ⟨by rfl, ?y4z32⟩) (by assumption) ?r4z32
  case y4z32 =>
    intro w9 hSw
    clear hSw
    go_simp
    all_goals with_reducible rfl
  simp only [Act.put, List.setIfInBounds_toArray, List.set_cons_zero, List.set_cons_succ]
  refine wpAnyH_at (i := 5) (some 41) (v := ?v5z33) rfl rfl (by kernel_rfl) (by kernel_rfl) (by kernel_rfl) (fun _ _ _ h => h) (Or.inl ⟨by rfl, ?y5z33⟩) (by assumption) ?r5z33
  case y5z33 =>
    intro w9 hSw
    clear hSw
    go_simp
    all_goals with_reducible rfl
  simp only [Act.put, List.setIfInBounds_toArray, List.set_cons_zero, List.set_cons_succ]
  refine wpAnyH_at (i := 7) (some 43) (v := ?v7z34) rfl rfl (by kernel_rfl) (by kernel_rfl) (by kernel_rfl) (fun _ _ _ h => h) (Or.inl ⟨by rfl, ?y7z34⟩) (by assumption) ?r7z34
  case y7z34 =>
    intro w9 hSw
    clear hSw
    go_simp
    all_goals with_reducible rfl
  simp only [Act.put, List.setIfInBounds_toArray, List.set_cons_zero, List.set_cons_succ]
  refine wpAnyH_at (i := 8) (some 44) (v := ?v8z35) rfl rfl (by kernel_rfl) (by kernel_rfl) (by kernel_rfl) (fun _ _ _ h => h) (Or.inl ⟨by rfl, ?y8z35⟩) (by assumption) ?r8z35
  case y8z35 =>
    intro w9 hSw
    clear hSw
    go_simp
    all_goals with_reducible rfl
  simp only [Act.put, List.setIfInBounds_toArray, List.set_cons_zero, List.set_cons_succ]
  refine wpAnyH_at (i := 9) (some 45) (v := ?v9z36) rfl rfl (by kernel_rfl) (by kernel_rfl) (by kernel_rfl) (fun _ _ _ h => h) (Or.inl ⟨by rfl, ?y9z36⟩) (by assumption) ?r9z36
  case y9z36 =>
    intro w9 hSw
    clear hSw
    go_simp
    all_goals with_reducible rfl
  simp only [Act.put, List.setIfInBounds_toArray, List.set_cons_zero, List.set_cons_succ]
  refine wpAnyH_one (i := 6) (by kernel_rfl) rfl ?_
  go_wp2_with (go_at_call 28; refine (ce.out _).mono ?_; rintro ev W8 ⟨A1, c1, rfl, o1, hb⟩)
  have b7 := st.sz
  replace st := st.step hb
  replace o1 := o1.rebase b7
  clear hHeld hb ce b7
  have hHeld := st
  refine ⟨hHeld, ?_⟩
  try simp only [Act.put, List.setIfInBounds_toArray, List.set_cons_zero, List.set_cons_succ]
  refine wpAnyH_one (i := 10) (by kernel_rfl) rfl ?_
  refine wpList_appGD (some 46) (by rfl) rfl (.tmp 42) (.tmp 45) 22 rfl (w.heap.size + 2) Tryd.underlying22 info5 (by omega) A1 12 c1 (epR f t T) rfl o1 (some ⟨b, o, none⟩) T c w.heap.size (xs.take T) rfl (st.rd.cutTo T hq) (by omega) st.sz ?_
  intro A2 n2 c2 W9 o2 hgr
  replace st := st.low (Nat.le_refl _) (grown_low o1 hgr st.sz)
  clear hgr o1 hHeld
  have hHeld := st
  go_wp2
  refine ⟨hHeld, ?_⟩
  try simp only [Act.put, List.setIfInBounds_toArray, List.set_cons_zero, List.set_cons_succ]
  refine wpAnyH_one (i := 11) (by kernel_rfl) rfl ?_
  go_wp2_with (go_at_call 27; refine (cs.out _ _ _ _ o2).mono ?_; rintro ev W10 ⟨rfl, rfl⟩)
  refine ⟨hHeld, ?_⟩
  try simp only [Act.put, List.setIfInBounds_toArray, List.set_cons_zero, List.set_cons_succ]
  refine wpAnyH_at (i := 12) (some 48) (v := ?v12z37) rfl rfl (by kernel_rfl) (by kernel_rfl) (by kernel_rfl) (fun _ _ _ h => h) (Or.inl ⟨by rfl, ?y12z37⟩) (by assumption) ?r12z37
  case y12z37 =>
    intro w9 hSw
    clear hSw
    go_simp
    all_goals with_reducible rfl
  simp only [Act.put, List.setIfInBounds_toArray, List.set_cons_zero, List.set_cons_succ]
  refine wpAnyH_at (i := 13) (some 49) (v := ?v13z38) rfl rfl (by kernel_rfl) (by kernel_rfl) (by kernel_rfl) (fun _ _ _ h => h) (Or.inl ⟨by rfl, ?y13z38⟩) (by assumption) ?r13z38
  case y13z38 =>
    intro w9 hSw
    clear hSw
    go_simp
    all_goals with_reducible rfl
  simp only [Act.put, List.setIfInBounds_toArray, List.set_cons_zero, List.set_cons_succ]
  refine wpAnyH_done (by kernel_rfl) ?_ _
  clear hHeld o2 cs
  go_wp2_with fail
  refine wp_region_held_drew (S := fun w' => Rd .u8 w' w.heap.size (some ⟨b, o, none⟩) n c xs) (by kernel_rfl) (st.step (below_drew _)).rd (fun hHeld => ?_)
  replace st := st.step (below_drew _)
  change wpAnyH _ _ _ _ _ _ _ _ (World.drew _)
  generalize World.drew _ = W20 at *
  refine wpAnyH_at (i := 0) (some 52) (v := ?v0z39) rfl rfl (by kernel_rfl) (by kernel_rfl) (by kernel_rfl) (fun _ _ _ h => h) (Or.inl ⟨by rfl, ?y0z39⟩) (by assumption) ?r0z39
  case y0z39 =>
    intro w9 hSw
    clear hSw
    go_simp
    all_goals with_reducible rfl
  simp only [Act.put, List.setIfInBounds_toArray, List.set_cons_zero, List.set_cons_succ]
  refine wpAnyH_at (i := 3) (some 55) (v := ?v3z40) rfl rfl (by kernel_rfl) (by kernel_rfl) (by kernel_rfl) (fun _ _ _ h => h) (Or.inl ⟨by rfl, ?y3z40⟩) (by assumption) ?r3z40
  case y3z40 =>
    intro w9 hSw
    clear hSw
    go_simp
    all_goals with_reducible rfl
  simp only [Act.put, List.setIfInBounds_toArray, List.set_cons_zero, List.set_cons_succ]
  refine wpAnyH_at (i := 4) (some 56) (v := ?v4z41) rfl rfl (by kernel_rfl) (by kernel_rfl) (by kernel_rfl) (fun _ _ _ h => h) (Or.inl ⟨by rfl, ?y4z41⟩) (by assumption) ?r4z41
  case y4z41 =>
    intro w9 hSw
    clear hSw
    go_simp
    all_goals with_reducible rfl
  simp only [Act.put, List.setIfInBounds_toArray, List.set_cons_zero, List.set_cons_succ]
  refine wpAnyH_at (i := 7) (some 59) (v := ?v7z42) rfl rfl (by kernel_rfl) (by kernel_rfl) (by kernel_rfl) (fun _ _ _ h => h) (Or.inl ⟨by rfl, ?y7z42⟩) (by assumption) ?r7z42
  case y7z42 =>
    intro w9 hSw
    clear hSw
    go_simp
    all_goals with_reducible rfl
  simp only [Act.put, List.setIfInBounds_toArray, List.set_cons_zero, List.set_cons_succ]
  refine wpAnyH_at (i := 9) (some 61) (v := ?v9z43) rfl rfl (by kernel_rfl) (by kernel_rfl) (by kernel_rfl) (fun _ _ _ h => h) (Or.inl ⟨by rfl, ?y9z43⟩) (by assumption) ?r9z43
  case y9z43 =>
    intro w9 hSw
    clear hSw
    go_simp
    all_goals with_reducible rfl
  simp only [Act.put, List.setIfInBounds_toArray, List.set_cons_zero, List.set_cons_succ]
  refine wpAnyH_at (i := 10) (some 62) (v := ?v10z44) rfl rfl (by kernel_rfl) (by kernel_rfl) (by kernel_rfl) (fun _ _ _ h => h) (Or.inl ⟨by rfl, ?y10z44⟩) (by assumption) ?r10z44
  case y10z44 =>
    intro w9 hSw
    clear hSw
    go_simp
    all_goals with_reducible rfl
  simp only [Act.put, List.setIfInBounds_toArray, List.set_cons_zero, List.set_cons_succ]
  refine wpAnyH_at (i := 11) (some 63) (v := .slice (cutA (some ⟨b, o, none⟩) c 8) (T - 8) (c - 8)) rfl rfl (by kernel_rfl) (by kernel_rfl) (by kernel_rfl) (fun _ _ _ h => h) (Or.inl ⟨by rfl, ?ycut⟩) (by assumption) ?rcut
  case ycut =>
    intro w9 hSw
    clear hSw
    by_cases hq8 : c = 8
    · rw [cutA_eq hq8]
      obtain rfl : T = 8 := by omega
      subst hq8
      go_simp
    · rw [cutA_ne hq8]
      go_simp
  simp only [Act.put, List.setIfInBounds_toArray, List.set_cons_zero, List.set_cons_succ]
  refine wpAnyH_at (i := 14) (some 66) (v := ?v14z45) rfl rfl (by kernel_rfl) (by kernel_rfl) (by kernel_rfl) (fun _ _ _ h => h) (Or.inl ⟨by rfl, ?y14z45⟩) (by assumption) ?r14z45
  case y14z45 =>
    intro w9 hSw
    clear hSw
    go_simp
    all_goals with_reducible rfl
  simp only [Act.put, List.setIfInBounds_toArray, List.set_cons_zero, List.set_cons_succ]
  refine wpAnyH_two (i := 1) (j := 8) (by kernel_rfl) rfl rfl ?_ ?_
  · as_aux_lemma =>
      go_wp2_with (go_at_call 26; refine (t0 _ st.rd).mono ?_; rintro ev w9 ⟨rfl, m9, rfl⟩)
      replace st := st.step (Still.drewN _ m9).below
      clear hHeld
      have hHeld := st.rd
      refine ⟨hHeld, ?_⟩
      generalize W20.drewN m9 = W21 at *
      try simp only [Act.put, List.setIfInBounds_toArray, List.set_cons_zero, List.set_cons_succ]
      refine wpAnyH_at (i := 2) (some 54) (v := ?v2z46) rfl rfl (by kernel_rfl) (by kernel_rfl) (by kernel_rfl) (fun _ _ _ h => h) (Or.inl ⟨by rfl, ?y2z46⟩) (by assumption) ?r2z46
      case y2z46 =>
        intro w9 hSw
        clear hSw
        go_simp
        all_goals with_reducible rfl
      simp only [Act.put, List.setIfInBounds_toArray, List.set_cons_zero, List.set_cons_succ]
      refine wpAnyH_two (i := 5) (j := 8) (by kernel_rfl) rfl rfl ?_ ?_
      · as_aux_lemma =>
          go_wp2_with (go_at_call 26; refine (t2 _ st.rd).mono ?_; rintro ev w9 ⟨rfl, m9, rfl⟩)
          replace st := st.step (Still.drewN _ m9).below
          clear hHeld
          have hHeld := st.rd
          refine ⟨hHeld, ?_⟩
          generalize W21.drewN m9 = W22 at *
          try simp only [Act.put, List.setIfInBounds_toArray, List.set_cons_zero, List.set_cons_succ]
          refine wpAnyH_at (i := 6) (some 58) (v := ?v6z47) rfl rfl (by kernel_rfl) (by kernel_rfl) (by kernel_rfl) (fun _ _ _ h => h) (Or.inl ⟨by rfl, ?y6z47⟩) (by assumption) ?r6z47
          case y6z47 =>
            intro w9 hSw
            clear hSw
            go_simp
            all_goals with_reducible rfl
          simp only [Act.put, List.setIfInBounds_toArray, List.set_cons_zero, List.set_cons_succ]
          refine wpAnyH_one (i := 8) (by kernel_rfl) rfl ?_
          have hb2 := alloc_below W22 (.cells #[] 5)
          have o1 := Out.lit0 .u8 5 W22 (w.heap.size + 2) st.sz
          replace st := st.step hb2
          clear hHeld hb2
          have hHeld := st.rd
          go_wp2
          refine ⟨hHeld, ?_⟩
          change wpAnyH _ _ _ _ _ _ _ _ (W22.alloc (.cells #[] 5))
          generalize (W22.alloc (.cells #[] 5)) = W23 at *
          generalize W22.heap.size = gE at *
          try simp only [Act.put, List.setIfInBounds_toArray, List.set_cons_zero, List.set_cons_succ]
          refine wpAnyH_one (i := 12) (by kernel_rfl) rfl ?_
          refine wpList_appD (some 64) rfl rfl (.tmp 60) (.tmp 63) 22 rfl (w.heap.size + 2) Tryd.underlying22 info5 (by omega) (some ⟨gE, 0, none⟩) 0 0 [] rfl o1 (cutA (some ⟨b, o, none⟩) c 8) (T - 8) (c - 8) w.heap.size ((xs.drop 8).take (T - 8)) rfl (st.rd.cut h8 hq) (by omega) st.sz ?_
          intro A1 n1 c1 W24 o2 hgr
          replace st := st.low (Nat.le_refl _) (grown_low o1 hgr st.sz)
          rw [List.nil_append, HB.out] at o2
          clear hgr o1 hHeld
          have o1 := o2
          clear o2
          have hHeld := st.rd
          go_wp2
          refine ⟨hHeld, ?_⟩
          try simp only [Act.put, List.setIfInBounds_toArray, List.set_cons_zero, List.set_cons_succ]
          refine wpAnyH_at (i := 13) (some 65) (v := pkV ⟨pf, pt, false⟩ A1 n1 c1) rfl rfl (by kernel_rfl) (by kernel_rfl) (by kernel_rfl) (fun _ _ _ h => h) (Or.inl ⟨by rfl, fun w9 _ => ?_⟩) (by assumption) ?_
          · go_simp
          simp only [Act.put, List.setIfInBounds_toArray, List.set_cons_zero, List.set_cons_succ]
          refine wpAnyH_one (i := 15) (by kernel_rfl) rfl ?_
          refine wpList_stF rfl rfl 33 _ _ rfl w.heap.size (pkC ⟨pf, pt, false⟩ A1 n1 c1) rfl rfl 33 _ st.z.z (by kernel_rfl) rfl (pkC_one ..) ?_
          intro wA fA hbA hoA hsA
          have yA := (hoA (w.heap.size + 1) (by omega)).trans st.z.y
          have bA := st.z.below.trans hbA
          have rA := st.rd.below hbA (Nat.le_refl _)
          replace o1 := o1.other (fun j hj => hoA j (by omega))
          clear hHeld hbA hoA hsA st
          go_wp2
          refine ⟨rA, ?_⟩
          refine wpAnyH_one (i := 16) (by kernel_rfl) rfl ?_
          refine wpList_stF rfl rfl 37 _ _ rfl (w.heap.size + 1) (flC none 0 0 0) rfl rfl 37 _ yA (by kernel_rfl) rfl (flC_one _ _ _ _) ?_
          intro wB fB hbB hoB hsB
          have zB : PkAt wB w.heap.size 33 ⟨pf, pt, false⟩ A1 n1 c1 := (hoB w.heap.size (by omega)).trans fA
          have bB := bA.trans (hbB.mono (by omega))
          have rB := rA.below hbB (by omega)
          replace o1 := o1.other (fun j hj => hoB j (by omega))
          clear hbB hoB hsB bA rA yA fA
          go_wp2
          refine ⟨rB, ?_⟩
          refine wpAnyH_done (by kernel_rfl) ?_ _
          go_wp2
          obtain ⟨a0, a1, a2, a3⟩ := zB.cells
          have b0 : wB.cell? ⟨w.heap.size + 1, 0, none⟩ = some (.slice none 0 0) := blk_cell fB rfl
          have b1 : wB.cell? ⟨w.heap.size + 1, 1, none⟩ = some (.int .i64 0) := blk_cell fB rfl
          refine bodyPost_ret (v := .tuple #[pkV ⟨pf, pt, false⟩ A1 n1 c1, .agg #[.slice none 0 0, .int .i64 0]]) (by simp [results, Tryd.results10, go_sem, b0, b1, a0, a1, a2, a3]) rfl ?_
          unfold GivesY
          rw [HH.out]
          exact ⟨bB, A1, n1, c1, rfl, o1.rebase (by omega)⟩
      · as_aux_lemma =>
          have hb2 := alloc_below W21 (.cells #[] 5)
          have o1 := Out.lit0 .u8 5 W21 (w.heap.size + 2) st.sz
          replace st := st.step hb2
          clear hHeld hb2
          have hHeld := st.rd
          go_wp2
          refine ⟨hHeld, ?_⟩
          change wpAnyH _ _ _ _ _ _ _ _ (W21.alloc (.cells #[] 5))
          generalize (W21.alloc (.cells #[] 5)) = W22 at *
          generalize W21.heap.size = gE at *
          try simp only [Act.put, List.setIfInBounds_toArray, List.set_cons_zero, List.set_cons_succ]
          refine wpAnyH_one (i := 5) (by kernel_rfl) rfl ?_
          go_wp2_with (go_at_call 26; refine (t2 _ st.rd).mono ?_; rintro ev w9 ⟨rfl, m9, rfl⟩)
          replace st := st.step (Still.drewN _ m9).below
          replace o1 := o1.below (Still.drewN _ m9).below (Nat.le_refl _)
          clear hHeld
          have hHeld := st.rd
          refine ⟨hHeld, ?_⟩
          generalize W22.drewN m9 = W23 at *
          try simp only [Act.put, List.setIfInBounds_toArray, List.set_cons_zero, List.set_cons_succ]
          refine wpAnyH_at (i := 6) (some 58) (v := ?v6z48) rfl rfl (by kernel_rfl) (by kernel_rfl) (by kernel_rfl) (fun _ _ _ h => h) (Or.inl ⟨by rfl, ?y6z48⟩) (by assumption) ?r6z48
          case y6z48 =>
            intro w9 hSw
            clear hSw
            go_simp
            all_goals with_reducible rfl
          simp only [Act.put, List.setIfInBounds_toArray, List.set_cons_zero, List.set_cons_succ]
          refine wpAnyH_one (i := 12) (by kernel_rfl) rfl ?_
          refine wpList_appD (some 64) rfl rfl (.tmp 60) (.tmp 63) 22 rfl (w.heap.size + 2) Tryd.underlying22 info5 (by omega) (some ⟨gE, 0, none⟩) 0 0 [] rfl o1 (cutA (some ⟨b, o, none⟩) c 8) (T - 8) (c - 8) w.heap.size ((xs.drop 8).take (T - 8)) rfl (st.rd.cut h8 hq) (by omega) st.sz ?_
          intro A1 n1 c1 W24 o2 hgr
          replace st := st.low (Nat.le_refl _) (grown_low o1 hgr st.sz)
          rw [List.nil_append, HB.out] at o2
          clear hgr o1 hHeld
          have o1 := o2
          clear o2
          have hHeld := st.rd
          go_wp2
          refine ⟨hHeld, ?_⟩
          try simp only [Act.put, List.setIfInBounds_toArray, List.set_cons_zero, List.set_cons_succ]
          refine wpAnyH_at (i := 13) (some 65) (v := pkV ⟨pf, pt, false⟩ A1 n1 c1) rfl rfl (by kernel_rfl) (by kernel_rfl) (by kernel_rfl) (fun _ _ _ h => h) (Or.inl ⟨by rfl, fun w9 _ => ?_⟩) (by assumption) ?_
          · go_simp
          simp only [Act.put, List.setIfInBounds_toArray, List.set_cons_zero, List.set_cons_succ]
          refine wpAnyH_one (i := 15) (by kernel_rfl) rfl ?_
          refine wpList_stF rfl rfl 33 _ _ rfl w.heap.size (pkC ⟨pf, pt, false⟩ A1 n1 c1) rfl rfl 33 _ st.z.z (by kernel_rfl) rfl (pkC_one ..) ?_
          intro wA fA hbA hoA hsA
          have yA := (hoA (w.heap.size + 1) (by omega)).trans st.z.y
          have bA := st.z.below.trans hbA
          have rA := st.rd.below hbA (Nat.le_refl _)
          replace o1 := o1.other (fun j hj => hoA j (by omega))
          clear hHeld hbA hoA hsA st
          go_wp2
          refine ⟨rA, ?_⟩
          refine wpAnyH_one (i := 16) (by kernel_rfl) rfl ?_
          refine wpList_stF rfl rfl 37 _ _ rfl (w.heap.size + 1) (flC none 0 0 0) rfl rfl 37 _ yA (by kernel_rfl) rfl (flC_one _ _ _ _) ?_
          intro wB fB hbB hoB hsB
          have zB : PkAt wB w.heap.size 33 ⟨pf, pt, false⟩ A1 n1 c1 := (hoB w.heap.size (by omega)).trans fA
          have bB := bA.trans (hbB.mono (by omega))
          have rB := rA.below hbB (by omega)
          replace o1 := o1.other (fun j hj => hoB j (by omega))
          clear hbB hoB hsB bA rA yA fA
          go_wp2
          refine ⟨rB, ?_⟩
          refine wpAnyH_done (by kernel_rfl) ?_ _
          go_wp2
          obtain ⟨a0, a1, a2, a3⟩ := zB.cells
          have b0 : wB.cell? ⟨w.heap.size + 1, 0, none⟩ = some (.slice none 0 0) := blk_cell fB rfl
          have b1 : wB.cell? ⟨w.heap.size + 1, 1, none⟩ = some (.int .i64 0) := blk_cell fB rfl
          refine bodyPost_ret (v := .tuple #[pkV ⟨pf, pt, false⟩ A1 n1 c1, .agg #[.slice none 0 0, .int .i64 0]]) (by simp [results, Tryd.results10, go_sem, b0, b1, a0, a1, a2, a3]) rfl ?_
          unfold GivesY
          rw [HH.out]
          exact ⟨bB, A1, n1, c1, rfl, o1.rebase (by omega)⟩
  · as_aux_lemma =>
      have hb2 := alloc_below W20 (.cells #[] 5)
      have o1 := Out.lit0 .u8 5 W20 (w.heap.size + 2) st.sz
      replace st := st.step hb2
      clear hHeld hb2
      have hHeld := st.rd
      go_wp2
      refine ⟨hHeld, ?_⟩
      change wpAnyH _ _ _ _ _ _ _ _ (W20.alloc (.cells #[] 5))
      generalize (W20.alloc (.cells #[] 5)) = W21 at *
      generalize W20.heap.size = gE at *
      try simp only [Act.put, List.setIfInBounds_toArray, List.set_cons_zero, List.set_cons_succ]
      refine wpAnyH_one (i := 1) (by kernel_rfl) rfl ?_
      go_wp2_with (go_at_call 26; refine (t0 _ st.rd).mono ?_; rintro ev w9 ⟨rfl, m9, rfl⟩)
      replace st := st.step (Still.drewN _ m9).below
      replace o1 := o1.below (Still.drewN _ m9).below (Nat.le_refl _)
      clear hHeld
      have hHeld := st.rd
      refine ⟨hHeld, ?_⟩
      generalize W21.drewN m9 = W22 at *
      try simp only [Act.put, List.setIfInBounds_toArray, List.set_cons_zero, List.set_cons_succ]
      refine wpAnyH_at (i := 2) (some 54) (v := ?v2z49) rfl rfl (by kernel_rfl) (by kernel_rfl) (by kernel_rfl) (fun _ _ _ h => h) (Or.inl ⟨by rfl, ?y2z49⟩) (by assumption) ?r2z49
      case y2z49 =>
        intro w9 hSw
        clear hSw
        go_simp
        all_goals with_reducible rfl
      simp only [Act.put, List.setIfInBounds_toArray, List.set_cons_zero, List.set_cons_succ]
      refine wpAnyH_one (i := 5) (by kernel_rfl) rfl ?_
      go_wp2_with (go_at_call 26; refine (t2 _ st.rd).mono ?_; rintro ev w9 ⟨rfl, m9, rfl⟩)
      replace st := st.step (Still.drewN _ m9).below
      replace o1 := o1.below (Still.drewN _ m9).below (Nat.le_refl _)
      clear hHeld
      have hHeld := st.rd
      refine ⟨hHeld, ?_⟩
      generalize W22.drewN m9 = W23 at *
      try simp only [Act.put, List.setIfInBounds_toArray, List.set_cons_zero, List.set_cons_succ]
      refine wpAnyH_at (i := 6) (some 58) (v := ?v6z50) rfl rfl (by kernel_rfl) (by kernel_rfl) (by kernel_rfl) (fun _ _ _ h => h) (Or.inl ⟨by rfl, ?y6z50⟩) (by assumption) ?r6z50
      case y6z50 =>
        intro w9 hSw
        clear hSw
        go_simp
        all_goals with_reducible rfl
      simp only [Act.put, List.setIfInBounds_toArray, List.set_cons_zero, List.set_cons_succ]
      refine wpAnyH_one (i := 12) (by kernel_rfl) rfl ?_
      refine wpList_appD (some 64) rfl rfl (.tmp 60) (.tmp 63) 22 rfl (w.heap.size + 2) Tryd.underlying22 info5 (by omega) (some ⟨gE, 0, none⟩) 0 0 [] rfl o1 (cutA (some ⟨b, o, none⟩) c 8) (T - 8) (c - 8) w.heap.size ((xs.drop 8).take (T - 8)) rfl (st.rd.cut h8 hq) (by omega) st.sz ?_
      intro A1 n1 c1 W24 o2 hgr
      replace st := st.low (Nat.le_refl _) (grown_low o1 hgr st.sz)
      rw [List.nil_append, HB.out] at o2
      clear hgr o1 hHeld
      have o1 := o2
      clear o2
      have hHeld := st.rd
      go_wp2
      refine ⟨hHeld, ?_⟩
      try simp only [Act.put, List.setIfInBounds_toArray, List.set_cons_zero, List.set_cons_succ]
      refine wpAnyH_at (i := 13) (some 65) (v := pkV ⟨pf, pt, false⟩ A1 n1 c1) rfl rfl (by kernel_rfl) (by kernel_rfl) (by kernel_rfl) (fun _ _ _ h => h) (Or.inl ⟨by rfl, fun w9 _ => ?_⟩) (by assumption) ?_
      · go_simp
      simp only [Act.put, List.setIfInBounds_toArray, List.set_cons_zero, List.set_cons_succ]
      refine wpAnyH_one (i := 15) (by kernel_rfl) rfl ?_
      refine wpList_stF rfl rfl 33 _ _ rfl w.heap.size (pkC ⟨pf, pt, false⟩ A1 n1 c1) rfl rfl 33 _ st.z.z (by kernel_rfl) rfl (pkC_one ..) ?_
      intro wA fA hbA hoA hsA
      have yA := (hoA (w.heap.size + 1) (by omega)).trans st.z.y
      have bA := st.z.below.trans hbA
      have rA := st.rd.below hbA (Nat.le_refl _)
      replace o1 := o1.other (fun j hj => hoA j (by omega))
      clear hHeld hbA hoA hsA st
      go_wp2
      refine ⟨rA, ?_⟩
      refine wpAnyH_one (i := 16) (by kernel_rfl) rfl ?_
      refine wpList_stF rfl rfl 37 _ _ rfl (w.heap.size + 1) (flC none 0 0 0) rfl rfl 37 _ yA (by kernel_rfl) rfl (flC_one _ _ _ _) ?_
      intro wB fB hbB hoB hsB
      have zB : PkAt wB w.heap.size 33 ⟨pf, pt, false⟩ A1 n1 c1 := (hoB w.heap.size (by omega)).trans fA
      have bB := bA.trans (hbB.mono (by omega))
      have rB := rA.below hbB (by omega)
      replace o1 := o1.other (fun j hj => hoB j (by omega))
      clear hbB hoB hsB bA rA yA fA
      go_wp2
      refine ⟨rB, ?_⟩
      refine wpAnyH_done (by kernel_rfl) ?_ _
      go_wp2
      obtain ⟨a0, a1, a2, a3⟩ := zB.cells
      have b0 : wB.cell? ⟨w.heap.size + 1, 0, none⟩ = some (.slice none 0 0) := blk_cell fB rfl
      have b1 : wB.cell? ⟨w.heap.size + 1, 1, none⟩ = some (.int .i64 0) := blk_cell fB rfl
      refine bodyPost_ret (v := .tuple #[pkV ⟨pf, pt, false⟩ A1 n1 c1, .agg #[.slice none 0 0, .int .i64 0]]) (by simp [results, Tryd.results10, go_sem, b0, b1, a0, a1, a2, a3]) rfl ?_
      unfold GivesY
      rw [HH.out]
      exact ⟨bB, A1, n1, c1, rfl, o1.rebase (by omega)⟩
end Go.Proofs.YtmgdfckhnjihpaaDoor
