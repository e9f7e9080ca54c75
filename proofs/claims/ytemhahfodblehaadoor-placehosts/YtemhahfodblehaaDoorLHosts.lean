/-
  The law PlaceHosts, walked.
-/
import Derived.Test.YtemhahfodblehaaDoorAlive
import Derived.Test.YtemhahfodblehaaDoorApart
namespace Go.Proofs.YtemhahfodblehaaDoor
open Go.RowKit

set_option maxRecDepth 100000 in
set_option maxHeartbeats 8000000 in
theorem hosts_law (ip b jp c x : Int) (w : World) (kn : Kn w) (hip : W32 ip) (hjp : W32 jp) (hx : W32 x) :
    Calls Tryd.prog 5 #[.agg #[.int .u32 ip, .int .i64 b], .agg #[.int .u32 jp, .int .i64 c], .int .u32 x] w fun e w' => e = .returned (.bool true) ∧ Below w.heap.size w w' := by
  have k := KB2.new w ip b jp c 24
  have kn2 := (kn.alloc (.cells #[.int .u32 ip, .int .i64 b] 24)).alloc (.cells #[.int .u32 jp, .int .i64 c] 24)
  by_cases R : rightV ip b = true
  · have hb := right_bnd R
    have hbi := base_bd (b := b) hip
    have hla := last_bd (b := b) hip
    have hbj := base_bd (b := c) hjp
    have f1 := right_host R
    have f2 := host_base ip b
    have f3 := host_last ip b
    have f4 := has_base (ip := ip) hb
    have f5 := has_last (ip := ip) hb
    have f6 := has_x (ip := ip) (x := x) hb
    have f7 := and_maskV (b := b) hx
    have f8 := sub_eq (ip := ip) hb
    have f9 := flip_eq (mask_bd b)
    have fs : IntKind.u32.signed = false := rfl
    go_enter Tryd.func5, Tryd.ntmps5
    go_wp2_with fail
    with_reducible refine (alive_any _ kn2).mono ?_
    rintro e w1 ⟨rfl, hb1⟩
    replace k := k.step hb1
    clear hb1
    obtain ⟨c0, c1, d0, d1, -⟩ := k.parts
    go_wp2_with fail
    with_reducible refine (right_any _ _ _ hip).mono ?_
    rintro e w2 ⟨rfl, hb1⟩
    replace k := k.step hb1
    clear hb1 c0 c1 d0 d1
    obtain ⟨c0, c1, d0, d1, -⟩ := k.parts
    go_wp2_with fail
    generalize hg : w.heap.size = g at k c0 c1 d0 d1 ⊢
    generalize hh : g + 1 = h at k c0 c1 d0 d1 ⊢
    go_region_held3 (fun w' => w'.cell? ⟨g, 0, none⟩ = some (.int .u32 ip) ∧ w'.cell? ⟨g, 1, none⟩ = some (.int .i64 b) ∧ w'.cell? ⟨h, 0, none⟩ = some (.int .u32 jp) ∧ w'.cell? ⟨h, 1, none⟩ = some (.int .i64 c) ∧ KB2 w g ip b h jp c w')
      (first
        | assumption
        | (exact KB2.parts (KB2.drew k))
        | (go_split_ands; exact KB2.parts (KB2.step (by assumption) hb1)))
      (first
        | (go_at_call 17; go_split_ands; with_reducible refine (host_any _ _ _ _ hip (by first | exact hip | exact hbi | exact hla)).mono ?_; rintro e w3 ⟨rfl, hb1⟩)
        | (go_at_call 11; go_split_ands; with_reducible refine (base_any _ _ _ hip).mono ?_; rintro e w3 ⟨rfl, hb1⟩)
        | (go_at_call 13; go_split_ands; with_reducible refine (last_any _ _ _ hip).mono ?_; rintro e w3 ⟨rfl, hb1⟩)
        | (go_at_call 15; go_split_ands; with_reducible refine (has_any _ _ _ _ hip (by first | exact hx | exact hbi | exact hla)).mono ?_; rintro e w3 ⟨rfl, hb1⟩)
        | (go_at_call 19; go_split_ands; with_reducible refine (mask_any _ _ _).mono ?_; rintro e w3 ⟨rfl, hb1⟩))
    go_split_ands
    have k3 : KB2 w g ip b h jp c w3 := by assumption
    clear k c0 c1 d0 d1 f6 f7 f8 f9 fs f1 f2 f3 f4 f5
    have k := k3
    clear k3
    obtain ⟨c0, c1, d0, d1, -⟩ := k.parts
    go_wp2_with fail
    with_reducible refine (apart_any _ _ _ _ _ hip hjp).mono ?_
    rintro ev w4 ⟨rfl, hb2⟩
    replace k := k.step hb2
    clear hb2 c0 c1 d0 d1
    obtain ⟨c0, c1, d0, d1, -⟩ := k.parts
    by_cases A : apartV ip b jp c = true
    · have a2 : apartV jp c ip b = true := by rw [apart_comm]; exact A
      have n1 := apart_ip hip hjp A
      have n2 := apart_ip hjp hip a2
      by_cases H : hasV ip b x = true
      case' pos => have n3 := apart_no hip hjp A H
      all_goals
        go_wp2_with (first
          | (go_at_call 21; with_reducible refine (apart_any _ _ _ _ _ hjp hip).mono ?_; rintro ev w5 ⟨rfl, hb2⟩; replace k := k.step hb2; clear hb2 c0 c1 d0 d1; obtain ⟨c0, c1, d0, d1, -⟩ := k.parts)
          | (go_at_call 15; with_reducible refine (has_any _ _ _ _ (by first | exact hip | exact hjp) (by first | exact hx | exact hip | exact hjp)).mono ?_; rintro ev w5 ⟨rfl, hb2⟩; replace k := k.step hb2; clear hb2 c0 c1 d0 d1; obtain ⟨c0, c1, d0, d1, -⟩ := k.parts))
        subst hh
        subst hg
        go_ret
        exact ⟨rfl, k.x.below⟩
    · have A' : apartV ip b jp c = false := by simpa using A
      by_cases R2 : rightV jp c = true
      · by_cases H1 : hasV ip b (baseV jp c) = true
        · go_wp2_with fail
          refine wp_region_held_drew (S := (fun w' => w'.cell? ⟨g, 0, none⟩ = some (.int .u32 ip) ∧ w'.cell? ⟨g, 1, none⟩ = some (.int .i64 b) ∧ w'.cell? ⟨h, 0, none⟩ = some (.int .u32 jp) ∧ w'.cell? ⟨h, 1, none⟩ = some (.int .i64 c) ∧ KB2 w g ip b h jp c w')) (by kernel_rfl) (KB2.parts (KB2.drew k)) (fun hHeld => ?_)
          have kk := KB2.drew k
          refine wpAnyH_at (i := 0) (some 81) (v := ?v0q1) rfl rfl (by kernel_rfl) (by kernel_rfl) (by kernel_rfl) (fun _ _ _ h => h) (Or.inl ⟨by rfl, ?y0q1⟩) (by assumption) ?r0q1
          case y0q1 =>
            intro w9 hSw
            (try dsimp only at hSw)
            go_simp
            all_goals with_reducible rfl
          simp only [Act.put, List.setIfInBounds_toArray, List.set_cons_zero, List.set_cons_succ]
          refine wpAnyH_one (i := 1) (by kernel_rfl) rfl ?_
          go_wp2_with (go_at_call 9; with_reducible refine (right_any _ _ _ hjp).mono ?_; rintro ev x2 ⟨rfl, hb2⟩)
          have hH2 := KB2.parts (KB2.step kk hb2)
          replace kk := hH2.2.2.2.2
          refine ⟨hH2, ?_⟩
          refine wpAnyH_at (i := 2) (some 83) (v := ?v2q3) rfl rfl (by kernel_rfl) (by kernel_rfl) (by kernel_rfl) (fun _ _ _ h => h) (Or.inl ⟨by rfl, ?y2q3⟩) (by assumption) ?r2q3
          case y2q3 =>
            intro w9 hSw
            (try dsimp only at hSw)
            go_simp
            all_goals with_reducible rfl
          simp only [Act.put, List.setIfInBounds_toArray, List.set_cons_zero, List.set_cons_succ]
          refine wpAnyH_at (i := 3) (some 84) (v := ?v3q4) rfl rfl (by kernel_rfl) (by kernel_rfl) (by kernel_rfl) (fun _ _ _ h => h) (Or.inl ⟨by rfl, ?y3q4⟩) (by assumption) ?r3q4
          case y3q4 =>
            intro w9 hSw
            (try dsimp only at hSw)
            go_simp
            all_goals with_reducible rfl
          simp only [Act.put, List.setIfInBounds_toArray, List.set_cons_zero, List.set_cons_succ]
          refine wpAnyH_at (i := 4) (some 85) (v := ?v4q5) rfl rfl (by kernel_rfl) (by kernel_rfl) (by kernel_rfl) (fun _ _ _ h => h) (Or.inl ⟨by rfl, ?y4q5⟩) (by assumption) ?r4q5
          case y4q5 =>
            intro w9 hSw
            (try dsimp only at hSw)
            go_simp
            all_goals with_reducible rfl
          simp only [Act.put, List.setIfInBounds_toArray, List.set_cons_zero, List.set_cons_succ]
          refine wpAnyH_at (i := 5) (some 86) (v := ?v5q6) rfl rfl (by kernel_rfl) (by kernel_rfl) (by kernel_rfl) (fun _ _ _ h => h) (Or.inl ⟨by rfl, ?y5q6⟩) (by assumption) ?r5q6
          case y5q6 =>
            intro w9 hSw
            (try dsimp only at hSw)
            go_simp
            all_goals with_reducible rfl
          simp only [Act.put, List.setIfInBounds_toArray, List.set_cons_zero, List.set_cons_succ]
          refine wpAnyH_one (i := 6) (by kernel_rfl) rfl ?_
          go_wp2_with (go_at_call 11; with_reducible refine (base_any _ _ _ hjp).mono ?_; rintro ev x7 ⟨rfl, hb7⟩)
          have hH7 := KB2.parts (KB2.step kk hb7)
          replace kk := hH7.2.2.2.2
          refine ⟨hH7, ?_⟩
          refine wpAnyH_one (i := 7) (by kernel_rfl) rfl ?_
          go_wp2_with (go_at_call 15; with_reducible refine (has_any _ _ _ _ hip hbj).mono ?_; rintro ev x8 ⟨rfl, hb8⟩)
          have hH8 := KB2.parts (KB2.step kk hb8)
          replace kk := hH8.2.2.2.2
          refine ⟨hH8, ?_⟩
          refine wpAnyH_at (i := 8) (some 89) (v := ?v8q9) rfl rfl (by kernel_rfl) (by kernel_rfl) (by kernel_rfl) (fun _ _ _ h => h) (Or.inl ⟨by rfl, ?y8q9⟩) (by assumption) ?r8q9
          case y8q9 =>
            intro w9 hSw
            (try dsimp only at hSw)
            go_simp
            all_goals with_reducible rfl
          simp only [Act.put, List.setIfInBounds_toArray, List.set_cons_zero, List.set_cons_succ]
          refine wpAnyH_at (i := 9) (some 90) (v := ?v9q10) rfl rfl (by kernel_rfl) (by kernel_rfl) (by kernel_rfl) (fun _ _ _ h => h) (Or.inl ⟨by rfl, ?y9q10⟩) (by assumption) ?r9q10
          case y9q10 =>
            intro w9 hSw
            (try dsimp only at hSw)
            go_simp
            all_goals with_reducible rfl
          simp only [Act.put, List.setIfInBounds_toArray, List.set_cons_zero, List.set_cons_succ]
          refine wpAnyH_at (i := 10) (some 91) (v := undef) rfl rfl (by kernel_rfl) (by kernel_rfl) (by kernel_rfl) (fun _ _ _ h => h) (Or.inr ⟨by rfl, rfl⟩) (by assumption) ?_
          simp only [Act.put, List.setIfInBounds_toArray, List.set_cons_zero, List.set_cons_succ]
          refine wpAnyH_at (i := 11) (some 92) (v := undef) rfl rfl (by kernel_rfl) (by kernel_rfl) (by kernel_rfl) (fun _ _ _ h => h) (Or.inr ⟨by rfl, rfl⟩) (by assumption) ?_
          simp only [Act.put, List.setIfInBounds_toArray, List.set_cons_zero, List.set_cons_succ]
          refine wpAnyH_at (i := 12) (some 93) (v := undef) rfl rfl (by kernel_rfl) (by kernel_rfl) (by kernel_rfl) (fun _ _ _ h => h) (Or.inr ⟨by rfl, rfl⟩) (by assumption) ?_
          simp only [Act.put, List.setIfInBounds_toArray, List.set_cons_zero, List.set_cons_succ]
          refine wpAnyH_at (i := 13) (some 94) (v := undef) rfl rfl (by kernel_rfl) (by kernel_rfl) (by kernel_rfl) (fun _ _ _ h => h) (Or.inr ⟨by rfl, rfl⟩) (by assumption) ?_
          simp only [Act.put, List.setIfInBounds_toArray, List.set_cons_zero, List.set_cons_succ]
          refine wpAnyH_at (i := 14) (some 95) (v := ?v14q11) rfl rfl (by kernel_rfl) (by kernel_rfl) (by kernel_rfl) (fun _ _ _ h => h) (Or.inl ⟨by rfl, ?y14q11⟩) (by assumption) ?r14q11
          case y14q11 =>
            intro w9 hSw
            (try dsimp only at hSw)
            go_simp
            all_goals with_reducible rfl
          simp only [Act.put, List.setIfInBounds_toArray, List.set_cons_zero, List.set_cons_succ]
          refine wpAnyH_at (i := 15) (some 6) (v := ?v15q12) rfl rfl (by kernel_rfl) (by kernel_rfl) (by kernel_rfl) (fun _ _ _ h => h) (Or.inl ⟨by rfl, ?y15q12⟩) (by assumption) ?r15q12
          case y15q12 =>
            intro w9 hSw
            (try dsimp only at hSw)
            go_simp
            all_goals with_reducible rfl
          simp only [Act.put, List.setIfInBounds_toArray, List.set_cons_zero, List.set_cons_succ]
          refine wpAnyH_done (by kernel_rfl) ?_ _
          go_wp2
          subst hh
          subst hg
          go_ret
          exact ⟨rfl, kk.x.below⟩
        · have H1' : hasV ip b (baseV jp c) = false := by simpa using H1
          have H2 := apart_else A' R R2 H1'
          go_wp2_with fail
          refine wp_region_held_drew (S := (fun w' => w'.cell? ⟨g, 0, none⟩ = some (.int .u32 ip) ∧ w'.cell? ⟨g, 1, none⟩ = some (.int .i64 b) ∧ w'.cell? ⟨h, 0, none⟩ = some (.int .u32 jp) ∧ w'.cell? ⟨h, 1, none⟩ = some (.int .i64 c) ∧ KB2 w g ip b h jp c w')) (by kernel_rfl) (KB2.parts (KB2.drew k)) (fun hHeld => ?_)
          have kk := KB2.drew k
          refine wpAnyH_at (i := 0) (some 81) (v := ?v0q13) rfl rfl (by kernel_rfl) (by kernel_rfl) (by kernel_rfl) (fun _ _ _ h => h) (Or.inl ⟨by rfl, ?y0q13⟩) (by assumption) ?r0q13
          case y0q13 =>
            intro w9 hSw
            (try dsimp only at hSw)
            go_simp
            all_goals with_reducible rfl
          simp only [Act.put, List.setIfInBounds_toArray, List.set_cons_zero, List.set_cons_succ]
          refine wpAnyH_one (i := 1) (by kernel_rfl) rfl ?_
          go_wp2_with (go_at_call 9; with_reducible refine (right_any _ _ _ hjp).mono ?_; rintro ev x14 ⟨rfl, hb14⟩)
          have hH14 := KB2.parts (KB2.step kk hb14)
          replace kk := hH14.2.2.2.2
          refine ⟨hH14, ?_⟩
          refine wpAnyH_at (i := 2) (some 83) (v := ?v2q15) rfl rfl (by kernel_rfl) (by kernel_rfl) (by kernel_rfl) (fun _ _ _ h => h) (Or.inl ⟨by rfl, ?y2q15⟩) (by assumption) ?r2q15
          case y2q15 =>
            intro w9 hSw
            (try dsimp only at hSw)
            go_simp
            all_goals with_reducible rfl
          simp only [Act.put, List.setIfInBounds_toArray, List.set_cons_zero, List.set_cons_succ]
          refine wpAnyH_at (i := 3) (some 84) (v := ?v3q16) rfl rfl (by kernel_rfl) (by kernel_rfl) (by kernel_rfl) (fun _ _ _ h => h) (Or.inl ⟨by rfl, ?y3q16⟩) (by assumption) ?r3q16
          case y3q16 =>
            intro w9 hSw
            (try dsimp only at hSw)
            go_simp
            all_goals with_reducible rfl
          simp only [Act.put, List.setIfInBounds_toArray, List.set_cons_zero, List.set_cons_succ]
          refine wpAnyH_at (i := 4) (some 85) (v := ?v4q17) rfl rfl (by kernel_rfl) (by kernel_rfl) (by kernel_rfl) (fun _ _ _ h => h) (Or.inl ⟨by rfl, ?y4q17⟩) (by assumption) ?r4q17
          case y4q17 =>
            intro w9 hSw
            (try dsimp only at hSw)
            go_simp
            all_goals with_reducible rfl
          simp only [Act.put, List.setIfInBounds_toArray, List.set_cons_zero, List.set_cons_succ]
          refine wpAnyH_at (i := 5) (some 86) (v := ?v5q18) rfl rfl (by kernel_rfl) (by kernel_rfl) (by kernel_rfl) (fun _ _ _ h => h) (Or.inl ⟨by rfl, ?y5q18⟩) (by assumption) ?r5q18
          case y5q18 =>
            intro w9 hSw
            (try dsimp only at hSw)
            go_simp
            all_goals with_reducible rfl
          simp only [Act.put, List.setIfInBounds_toArray, List.set_cons_zero, List.set_cons_succ]
          refine wpAnyH_one (i := 6) (by kernel_rfl) rfl ?_
          go_wp2_with (go_at_call 11; with_reducible refine (base_any _ _ _ hjp).mono ?_; rintro ev x19 ⟨rfl, hb19⟩)
          have hH19 := KB2.parts (KB2.step kk hb19)
          replace kk := hH19.2.2.2.2
          refine ⟨hH19, ?_⟩
          refine wpAnyH_one (i := 7) (by kernel_rfl) rfl ?_
          go_wp2_with (go_at_call 15; with_reducible refine (has_any _ _ _ _ hip hbj).mono ?_; rintro ev x20 ⟨rfl, hb20⟩)
          have hH20 := KB2.parts (KB2.step kk hb20)
          replace kk := hH20.2.2.2.2
          refine ⟨hH20, ?_⟩
          refine wpAnyH_at (i := 8) (some 89) (v := ?v8q21) rfl rfl (by kernel_rfl) (by kernel_rfl) (by kernel_rfl) (fun _ _ _ h => h) (Or.inl ⟨by rfl, ?y8q21⟩) (by assumption) ?r8q21
          case y8q21 =>
            intro w9 hSw
            (try dsimp only at hSw)
            go_simp
            all_goals with_reducible rfl
          simp only [Act.put, List.setIfInBounds_toArray, List.set_cons_zero, List.set_cons_succ]
          refine wpAnyH_at (i := 9) (some 90) (v := ?v9q22) rfl rfl (by kernel_rfl) (by kernel_rfl) (by kernel_rfl) (fun _ _ _ h => h) (Or.inl ⟨by rfl, ?y9q22⟩) (by assumption) ?r9q22
          case y9q22 =>
            intro w9 hSw
            (try dsimp only at hSw)
            go_simp
            all_goals with_reducible rfl
          simp only [Act.put, List.setIfInBounds_toArray, List.set_cons_zero, List.set_cons_succ]
          refine wpAnyH_at (i := 10) (some 91) (v := ?v10q23) rfl rfl (by kernel_rfl) (by kernel_rfl) (by kernel_rfl) (fun _ _ _ h => h) (Or.inl ⟨by rfl, ?y10q23⟩) (by assumption) ?r10q23
          case y10q23 =>
            intro w9 hSw
            (try dsimp only at hSw)
            go_simp
            all_goals with_reducible rfl
          simp only [Act.put, List.setIfInBounds_toArray, List.set_cons_zero, List.set_cons_succ]
          refine wpAnyH_at (i := 11) (some 92) (v := ?v11q24) rfl rfl (by kernel_rfl) (by kernel_rfl) (by kernel_rfl) (fun _ _ _ h => h) (Or.inl ⟨by rfl, ?y11q24⟩) (by assumption) ?r11q24
          case y11q24 =>
            intro w9 hSw
            (try dsimp only at hSw)
            go_simp
            all_goals with_reducible rfl
          simp only [Act.put, List.setIfInBounds_toArray, List.set_cons_zero, List.set_cons_succ]
          refine wpAnyH_one (i := 12) (by kernel_rfl) rfl ?_
          go_wp2_with (go_at_call 11; with_reducible refine (base_any _ _ _ hip).mono ?_; rintro ev x25 ⟨rfl, hb25⟩)
          have hH25 := KB2.parts (KB2.step kk hb25)
          replace kk := hH25.2.2.2.2
          refine ⟨hH25, ?_⟩
          refine wpAnyH_one (i := 13) (by kernel_rfl) rfl ?_
          go_wp2_with (go_at_call 15; with_reducible refine (has_any _ _ _ _ hjp hbi).mono ?_; rintro ev x26 ⟨rfl, hb26⟩)
          have hH26 := KB2.parts (KB2.step kk hb26)
          replace kk := hH26.2.2.2.2
          refine ⟨hH26, ?_⟩
          refine wpAnyH_at (i := 14) (some 95) (v := ?v14q27) rfl rfl (by kernel_rfl) (by kernel_rfl) (by kernel_rfl) (fun _ _ _ h => h) (Or.inl ⟨by rfl, ?y14q27⟩) (by assumption) ?r14q27
          case y14q27 =>
            intro w9 hSw
            (try dsimp only at hSw)
            go_simp
            all_goals with_reducible rfl
          simp only [Act.put, List.setIfInBounds_toArray, List.set_cons_zero, List.set_cons_succ]
          refine wpAnyH_at (i := 15) (some 6) (v := ?v15q28) rfl rfl (by kernel_rfl) (by kernel_rfl) (by kernel_rfl) (fun _ _ _ h => h) (Or.inl ⟨by rfl, ?y15q28⟩) (by assumption) ?r15q28
          case y15q28 =>
            intro w9 hSw
            (try dsimp only at hSw)
            go_simp
            all_goals with_reducible rfl
          simp only [Act.put, List.setIfInBounds_toArray, List.set_cons_zero, List.set_cons_succ]
          refine wpAnyH_done (by kernel_rfl) ?_ _
          go_wp2
          subst hh
          subst hg
          go_ret
          exact ⟨rfl, kk.x.below⟩
      · have R2' : rightV jp c = false := by simpa using R2
        go_wp2_with fail
        refine wp_region_held_drew (S := (fun w' => w'.cell? ⟨g, 0, none⟩ = some (.int .u32 ip) ∧ w'.cell? ⟨g, 1, none⟩ = some (.int .i64 b) ∧ w'.cell? ⟨h, 0, none⟩ = some (.int .u32 jp) ∧ w'.cell? ⟨h, 1, none⟩ = some (.int .i64 c) ∧ KB2 w g ip b h jp c w')) (by kernel_rfl) (KB2.parts (KB2.drew k)) (fun hHeld => ?_)
        have kk := KB2.drew k
        refine wpAnyH_at (i := 0) (some 81) (v := ?v0q29) rfl rfl (by kernel_rfl) (by kernel_rfl) (by kernel_rfl) (fun _ _ _ h => h) (Or.inl ⟨by rfl, ?y0q29⟩) (by assumption) ?r0q29
        case y0q29 =>
          intro w9 hSw
          (try dsimp only at hSw)
          go_simp
          all_goals with_reducible rfl
        simp only [Act.put, List.setIfInBounds_toArray, List.set_cons_zero, List.set_cons_succ]
        refine wpAnyH_one (i := 1) (by kernel_rfl) rfl ?_
        go_wp2_with (go_at_call 9; with_reducible refine (right_any _ _ _ hjp).mono ?_; rintro ev x30 ⟨rfl, hb30⟩)
        have hH30 := KB2.parts (KB2.step kk hb30)
        replace kk := hH30.2.2.2.2
        refine ⟨hH30, ?_⟩
        refine wpAnyH_at (i := 2) (some 83) (v := ?v2q31) rfl rfl (by kernel_rfl) (by kernel_rfl) (by kernel_rfl) (fun _ _ _ h => h) (Or.inl ⟨by rfl, ?y2q31⟩) (by assumption) ?r2q31
        case y2q31 =>
          intro w9 hSw
          (try dsimp only at hSw)
          go_simp
          all_goals with_reducible rfl
        simp only [Act.put, List.setIfInBounds_toArray, List.set_cons_zero, List.set_cons_succ]
        refine wpAnyH_at (i := 3) (some 84) (v := ?v3q32) rfl rfl (by kernel_rfl) (by kernel_rfl) (by kernel_rfl) (fun _ _ _ h => h) (Or.inl ⟨by rfl, ?y3q32⟩) (by assumption) ?r3q32
        case y3q32 =>
          intro w9 hSw
          (try dsimp only at hSw)
          go_simp
          all_goals with_reducible rfl
        simp only [Act.put, List.setIfInBounds_toArray, List.set_cons_zero, List.set_cons_succ]
        refine wpAnyH_at (i := 4) (some 85) (v := undef) rfl rfl (by kernel_rfl) (by kernel_rfl) (by kernel_rfl) (fun _ _ _ h => h) (Or.inr ⟨by rfl, rfl⟩) (by assumption) ?_
        simp only [Act.put, List.setIfInBounds_toArray, List.set_cons_zero, List.set_cons_succ]
        refine wpAnyH_at (i := 5) (some 86) (v := undef) rfl rfl (by kernel_rfl) (by kernel_rfl) (by kernel_rfl) (fun _ _ _ h => h) (Or.inr ⟨by rfl, rfl⟩) (by assumption) ?_
        simp only [Act.put, List.setIfInBounds_toArray, List.set_cons_zero, List.set_cons_succ]
        refine wpAnyH_at (i := 6) (some 87) (v := undef) rfl rfl (by kernel_rfl) (by kernel_rfl) (by kernel_rfl) (fun _ _ _ h => h) (Or.inr ⟨by rfl, rfl⟩) (by assumption) ?_
        simp only [Act.put, List.setIfInBounds_toArray, List.set_cons_zero, List.set_cons_succ]
        refine wpAnyH_at (i := 7) (some 88) (v := undef) rfl rfl (by kernel_rfl) (by kernel_rfl) (by kernel_rfl) (fun _ _ _ h => h) (Or.inr ⟨by rfl, rfl⟩) (by assumption) ?_
        simp only [Act.put, List.setIfInBounds_toArray, List.set_cons_zero, List.set_cons_succ]
        refine wpAnyH_at (i := 8) (some 89) (v := ?v8q33) rfl rfl (by kernel_rfl) (by kernel_rfl) (by kernel_rfl) (fun _ _ _ h => h) (Or.inl ⟨by rfl, ?y8q33⟩) (by assumption) ?r8q33
        case y8q33 =>
          intro w9 hSw
          (try dsimp only at hSw)
          go_simp
          all_goals with_reducible rfl
        simp only [Act.put, List.setIfInBounds_toArray, List.set_cons_zero, List.set_cons_succ]
        refine wpAnyH_at (i := 9) (some 90) (v := ?v9q34) rfl rfl (by kernel_rfl) (by kernel_rfl) (by kernel_rfl) (fun _ _ _ h => h) (Or.inl ⟨by rfl, ?y9q34⟩) (by assumption) ?r9q34
        case y9q34 =>
          intro w9 hSw
          (try dsimp only at hSw)
          go_simp
          all_goals with_reducible rfl
        simp only [Act.put, List.setIfInBounds_toArray, List.set_cons_zero, List.set_cons_succ]
        refine wpAnyH_at (i := 10) (some 91) (v := undef) rfl rfl (by kernel_rfl) (by kernel_rfl) (by kernel_rfl) (fun _ _ _ h => h) (Or.inr ⟨by rfl, rfl⟩) (by assumption) ?_
        simp only [Act.put, List.setIfInBounds_toArray, List.set_cons_zero, List.set_cons_succ]
        refine wpAnyH_at (i := 11) (some 92) (v := undef) rfl rfl (by kernel_rfl) (by kernel_rfl) (by kernel_rfl) (fun _ _ _ h => h) (Or.inr ⟨by rfl, rfl⟩) (by assumption) ?_
        simp only [Act.put, List.setIfInBounds_toArray, List.set_cons_zero, List.set_cons_succ]
        refine wpAnyH_at (i := 12) (some 93) (v := undef) rfl rfl (by kernel_rfl) (by kernel_rfl) (by kernel_rfl) (fun _ _ _ h => h) (Or.inr ⟨by rfl, rfl⟩) (by assumption) ?_
        simp only [Act.put, List.setIfInBounds_toArray, List.set_cons_zero, List.set_cons_succ]
        refine wpAnyH_at (i := 13) (some 94) (v := undef) rfl rfl (by kernel_rfl) (by kernel_rfl) (by kernel_rfl) (fun _ _ _ h => h) (Or.inr ⟨by rfl, rfl⟩) (by assumption) ?_
        simp only [Act.put, List.setIfInBounds_toArray, List.set_cons_zero, List.set_cons_succ]
        refine wpAnyH_at (i := 14) (some 95) (v := ?v14q35) rfl rfl (by kernel_rfl) (by kernel_rfl) (by kernel_rfl) (fun _ _ _ h => h) (Or.inl ⟨by rfl, ?y14q35⟩) (by assumption) ?r14q35
        case y14q35 =>
          intro w9 hSw
          (try dsimp only at hSw)
          go_simp
          all_goals with_reducible rfl
        simp only [Act.put, List.setIfInBounds_toArray, List.set_cons_zero, List.set_cons_succ]
        refine wpAnyH_at (i := 15) (some 6) (v := ?v15q36) rfl rfl (by kernel_rfl) (by kernel_rfl) (by kernel_rfl) (fun _ _ _ h => h) (Or.inl ⟨by rfl, ?y15q36⟩) (by assumption) ?r15q36
        case y15q36 =>
          intro w9 hSw
          (try dsimp only at hSw)
          go_simp
          all_goals with_reducible rfl
        simp only [Act.put, List.setIfInBounds_toArray, List.set_cons_zero, List.set_cons_succ]
        refine wpAnyH_done (by kernel_rfl) ?_ _
        go_wp2
        subst hh
        subst hg
        go_ret
        exact ⟨rfl, kk.x.below⟩
  · have R' : rightV ip b = false := by simpa using R
    have a1 : apartV ip b jp c = false := by simp [apartV, R']
    have a2 : apartV jp c ip b = false := by rw [apart_comm]; exact a1
    go_enter Tryd.func5, Tryd.ntmps5
    go_wp2_with fail
    with_reducible refine (alive_any _ kn2).mono ?_
    rintro e w1 ⟨rfl, hb1⟩
    replace k := k.step hb1
    clear hb1
    obtain ⟨c0, c1, d0, d1, -⟩ := k.parts
    go_wp2_with fail
    with_reducible refine (right_any _ _ _ hip).mono ?_
    rintro e w2 ⟨rfl, hb1⟩
    replace k := k.step hb1
    clear hb1 c0 c1 d0 d1
    obtain ⟨c0, c1, d0, d1, -⟩ := k.parts
    go_wp2_with fail
    with_reducible refine (apart_any _ _ _ _ _ hip hjp).mono ?_
    rintro e w3 ⟨rfl, hb1⟩
    replace k := k.step hb1
    clear hb1 c0 c1 d0 d1
    obtain ⟨c0, c1, d0, d1, -⟩ := k.parts
    go_wp2_with fail
    with_reducible refine (apart_any _ _ _ _ _ hjp hip).mono ?_
    rintro e w4 ⟨rfl, hb1⟩
    replace k := k.step hb1
    clear hb1 c0 c1 d0 d1
    go_wp2
    go_ret
    exact ⟨rfl, k.x.below⟩
end Go.Proofs.YtemhahfodblehaaDoor
