/-
  The law PlaceGreater, walked.
-/
import Derived.Test.YtemhahfodblehaaDoorLNets
import Derived.Test.YtemhahfodblehaaDoorApart
namespace Go.Proofs.YtemhahfodblehaaDoor
open Go.RowKit

set_option maxRecDepth 100000 in
set_option maxHeartbeats 8000000 in
/-- The last statements, from where both subnets are known to be right. -/
theorem greater_law (ip b jp c m x : Int) (w : World) (kn : Kn w) (hip : W32 ip) (hjp : W32 jp) (hm : 0 ≤ m ∧ m ≤ 255) (hx : W32 x) :
    Calls Tryd.prog 6 #[.agg #[.int .u32 ip, .int .i64 b], .agg #[.int .u32 jp, .int .i64 c], .int .u8 m, .int .u32 x] w fun e w' => e = .returned (.bool true) ∧ Below w.heap.size w w' := by
  have k := KB2.new w ip b jp c 24
  have kn2 := (kn.alloc (.cells #[.int .u32 ip, .int .i64 b] 24)).alloc (.cells #[.int .u32 jp, .int .i64 c] 24)
  by_cases R : rightV ip b = true
  · have hb := right_bnd R
    have hb8 := bnd_iff.1 hb
    go_enter Tryd.func6, Tryd.ntmps6
    go_wp2_with fail
    with_reducible refine (alive_any _ kn2).mono ?_
    rintro ev w1 ⟨rfl, hb1⟩
    replace k := k.step hb1
    clear hb1
    obtain ⟨c0, c1, d0, d1, -⟩ := k.parts
    have hbe : b ≤ b + m % 23 := by omega
    have k3 : K3 w w.heap.size ip b (w.heap.size + 1) jp c w1.heap.size ip (b + m % 23) (w1.alloc (.cells #[.int .u32 ip, .int .i64 (b + m % 23)] 24)) := ⟨k.x.alloc _, k.y.alloc _, KB.new' k.x.below ip (b + m % 23) 24⟩
    have z0 := k.x.lt
    have z1 := k.y.lt
    clear k
    go_wp2_with fail
    with_reducible refine (right_any _ _ _ hip).mono ?_
    rintro ev w2 ⟨rfl, hb1⟩
    generalize b + m % 23 = e at hbe k3 hb1 ⊢
    replace k3 := k3.step hb1
    clear hb1 c0 c1 d0 d1 z0 z1
    generalize w1.heap.size = j at k3 ⊢
    obtain ⟨c0, c1, d0, d1, e0, e1, -⟩ := k3.parts
    go_wp2_with fail
    with_reducible refine (right_any _ _ _ hip).mono ?_
    rintro ev w3 ⟨rfl, hb1⟩
    replace k3 := k3.step hb1
    clear hb1 c0 c1 d0 d1 e0 e1
    obtain ⟨c0, c1, d0, d1, e0, e1, -⟩ := k3.parts
    by_cases R2 : rightV ip e = true
    · have he := right_bnd R2
      have nb : decide (baseV ip e < baseV ip b) = false := by have := base_less (ip := ip) hb he hbe; simpa using this
      have nl : decide (lastV ip b < lastV ip e) = false := by have := last_less (ip := ip) hb he hbe; simpa using this
      have hmk := mask_and hb he hbe
      go_wp2_with fail
      generalize hg : w.heap.size = g at k3 c0 c1 d0 d1 ⊢
      generalize hh : g + 1 = h at k3 c0 c1 d0 d1 ⊢
      by_cases H : hasV ip e x = true
      case' pos =>
        have hn := has_less hb he hbe H
        go_region_held3 (fun w' => w'.cell? ⟨g, 0, none⟩ = some (.int .u32 ip) ∧ w'.cell? ⟨g, 1, none⟩ = some (.int .i64 b) ∧ w'.cell? ⟨h, 0, none⟩ = some (.int .u32 jp) ∧ w'.cell? ⟨h, 1, none⟩ = some (.int .i64 c) ∧ w'.cell? ⟨j, 0, none⟩ = some (.int .u32 ip) ∧ w'.cell? ⟨j, 1, none⟩ = some (.int .i64 e) ∧ K3 w g ip b h jp c j ip e w')
          (first
            | assumption
            | (exact K3.parts (K3.drew k3))
            | (go_split_ands; exact K3.parts (K3.step (by assumption) hb1)))
          (first
            | (go_at_call 15; go_split_ands; with_reducible refine (has_any _ _ _ _ hip hx).mono ?_; rintro ev w4 ⟨rfl, hb1⟩)
            | (go_at_call 11; go_split_ands; with_reducible refine (base_any _ _ _ hip).mono ?_; rintro ev w4 ⟨rfl, hb1⟩)
            | (go_at_call 13; go_split_ands; with_reducible refine (last_any _ _ _ hip).mono ?_; rintro ev w4 ⟨rfl, hb1⟩)
            | (go_at_call 19; go_split_ands; with_reducible refine (mask_any _ _ _).mono ?_; rintro ev w4 ⟨rfl, hb1⟩))
        go_split_ands
        have kk : K3 w g ip b h jp c j ip e w4 := by assumption
      case' neg =>
        have H' : hasV ip e x = false := by simpa using H
        refine wp_region_held_drew (S := (fun w' => w'.cell? ⟨g, 0, none⟩ = some (.int .u32 ip) ∧ w'.cell? ⟨g, 1, none⟩ = some (.int .i64 b) ∧ w'.cell? ⟨h, 0, none⟩ = some (.int .u32 jp) ∧ w'.cell? ⟨h, 1, none⟩ = some (.int .i64 c) ∧ w'.cell? ⟨j, 0, none⟩ = some (.int .u32 ip) ∧ w'.cell? ⟨j, 1, none⟩ = some (.int .i64 e) ∧ K3 w g ip b h jp c j ip e w')) (by kernel_rfl) (K3.parts (K3.drew k3)) (fun hHeld => ?_)
        have kk := K3.drew k3
        refine wpAnyH_at (i := 0) (some 29) (v := ?v0q1) rfl rfl (by kernel_rfl) (by kernel_rfl) (by kernel_rfl) (fun _ _ _ h => h) (Or.inl ⟨by rfl, ?y0q1⟩) (by assumption) ?r0q1
        case y0q1 =>
          intro w9 hSw
          (try dsimp only at hSw)
          go_simp
          all_goals with_reducible rfl
        simp only [Act.put, List.setIfInBounds_toArray, List.set_cons_zero, List.set_cons_succ]
        refine wpAnyH_at (i := 1) (some 30) (v := ?v1q2) rfl rfl (by kernel_rfl) (by kernel_rfl) (by kernel_rfl) (fun _ _ _ h => h) (Or.inl ⟨by rfl, ?y1q2⟩) (by assumption) ?r1q2
        case y1q2 =>
          intro w9 hSw
          (try dsimp only at hSw)
          go_simp
          all_goals with_reducible rfl
        simp only [Act.put, List.setIfInBounds_toArray, List.set_cons_zero, List.set_cons_succ]
        refine wpAnyH_one (i := 2) (by kernel_rfl) rfl ?_
        go_wp2_with (go_at_call 15; with_reducible refine (has_any _ _ _ _ hip hx).mono ?_; rintro ev x3 ⟨rfl, hb3⟩)
        have hH3 := K3.parts (K3.step kk hb3)
        replace kk := hH3.2.2.2.2.2.2
        refine ⟨hH3, ?_⟩
        refine wpAnyH_at (i := 3) (some 32) (v := ?v3q4) rfl rfl (by kernel_rfl) (by kernel_rfl) (by kernel_rfl) (fun _ _ _ h => h) (Or.inl ⟨by rfl, ?y3q4⟩) (by assumption) ?r3q4
        case y3q4 =>
          intro w9 hSw
          (try dsimp only at hSw)
          go_simp
          all_goals with_reducible rfl
        simp only [Act.put, List.setIfInBounds_toArray, List.set_cons_zero, List.set_cons_succ]
        refine wpAnyH_at (i := 4) (some 33) (v := undef) rfl rfl (by kernel_rfl) (by kernel_rfl) (by kernel_rfl) (fun _ _ _ h => h) (Or.inr ⟨by rfl, rfl⟩) (by assumption) ?_
        simp only [Act.put, List.setIfInBounds_toArray, List.set_cons_zero, List.set_cons_succ]
        refine wpAnyH_at (i := 5) (some 34) (v := undef) rfl rfl (by kernel_rfl) (by kernel_rfl) (by kernel_rfl) (fun _ _ _ h => h) (Or.inr ⟨by rfl, rfl⟩) (by assumption) ?_
        simp only [Act.put, List.setIfInBounds_toArray, List.set_cons_zero, List.set_cons_succ]
        refine wpAnyH_at (i := 6) (some 35) (v := undef) rfl rfl (by kernel_rfl) (by kernel_rfl) (by kernel_rfl) (fun _ _ _ h => h) (Or.inr ⟨by rfl, rfl⟩) (by assumption) ?_
        simp only [Act.put, List.setIfInBounds_toArray, List.set_cons_zero, List.set_cons_succ]
        refine wpAnyH_at (i := 7) (some 36) (v := undef) rfl rfl (by kernel_rfl) (by kernel_rfl) (by kernel_rfl) (fun _ _ _ h => h) (Or.inr ⟨by rfl, rfl⟩) (by assumption) ?_
        simp only [Act.put, List.setIfInBounds_toArray, List.set_cons_zero, List.set_cons_succ]
        refine wpAnyH_at (i := 8) (some 37) (v := ?v8q5) rfl rfl (by kernel_rfl) (by kernel_rfl) (by kernel_rfl) (fun _ _ _ h => h) (Or.inl ⟨by rfl, ?y8q5⟩) (by assumption) ?r8q5
        case y8q5 =>
          intro w9 hSw
          (try dsimp only at hSw)
          go_simp
          all_goals with_reducible rfl
        simp only [Act.put, List.setIfInBounds_toArray, List.set_cons_zero, List.set_cons_succ]
        refine wpAnyH_at (i := 9) (some 38) (v := ?v9q6) rfl rfl (by kernel_rfl) (by kernel_rfl) (by kernel_rfl) (fun _ _ _ h => h) (Or.inl ⟨by rfl, ?y9q6⟩) (by assumption) ?r9q6
        case y9q6 =>
          intro w9 hSw
          (try dsimp only at hSw)
          go_simp
          all_goals with_reducible rfl
        simp only [Act.put, List.setIfInBounds_toArray, List.set_cons_zero, List.set_cons_succ]
        refine wpAnyH_at (i := 10) (some 39) (v := ?v10q7) rfl rfl (by kernel_rfl) (by kernel_rfl) (by kernel_rfl) (fun _ _ _ h => h) (Or.inl ⟨by rfl, ?y10q7⟩) (by assumption) ?r10q7
        case y10q7 =>
          intro w9 hSw
          (try dsimp only at hSw)
          go_simp
          all_goals with_reducible rfl
        simp only [Act.put, List.setIfInBounds_toArray, List.set_cons_zero, List.set_cons_succ]
        refine wpAnyH_at (i := 12) (some 41) (v := ?v12q8) rfl rfl (by kernel_rfl) (by kernel_rfl) (by kernel_rfl) (fun _ _ _ h => h) (Or.inl ⟨by rfl, ?y12q8⟩) (by assumption) ?r12q8
        case y12q8 =>
          intro w9 hSw
          (try dsimp only at hSw)
          go_simp
          all_goals with_reducible rfl
        simp only [Act.put, List.setIfInBounds_toArray, List.set_cons_zero, List.set_cons_succ]
        refine wpAnyH_one (i := 11) (by kernel_rfl) rfl ?_
        go_wp2_with (go_at_call 11; with_reducible refine (base_any _ _ _ hip).mono ?_; rintro ev x9 ⟨rfl, hb9⟩)
        have hH9 := K3.parts (K3.step kk hb9)
        replace kk := hH9.2.2.2.2.2.2
        refine ⟨hH9, ?_⟩
        refine wpAnyH_one (i := 13) (by kernel_rfl) rfl ?_
        go_wp2_with (go_at_call 11; with_reducible refine (base_any _ _ _ hip).mono ?_; rintro ev x10 ⟨rfl, hb10⟩)
        have hH10 := K3.parts (K3.step kk hb10)
        replace kk := hH10.2.2.2.2.2.2
        refine ⟨hH10, ?_⟩
        refine wpAnyH_at (i := 14) (some 43) (v := ?v14q11) rfl rfl (by kernel_rfl) (by kernel_rfl) (by kernel_rfl) (fun _ _ _ h => h) (Or.inl ⟨by rfl, ?y14q11⟩) (by assumption) ?r14q11
        case y14q11 =>
          intro w9 hSw
          (try dsimp only at hSw)
          go_simp
          all_goals with_reducible rfl
        simp only [Act.put, List.setIfInBounds_toArray, List.set_cons_zero, List.set_cons_succ]
        refine wpAnyH_at (i := 15) (some 44) (v := ?v15q12) rfl rfl (by kernel_rfl) (by kernel_rfl) (by kernel_rfl) (fun _ _ _ h => h) (Or.inl ⟨by rfl, ?y15q12⟩) (by assumption) ?r15q12
        case y15q12 =>
          intro w9 hSw
          (try dsimp only at hSw)
          go_simp
          all_goals with_reducible rfl
        simp only [Act.put, List.setIfInBounds_toArray, List.set_cons_zero, List.set_cons_succ]
        refine wpAnyH_at (i := 16) (some 45) (v := ?v16q13) rfl rfl (by kernel_rfl) (by kernel_rfl) (by kernel_rfl) (fun _ _ _ h => h) (Or.inl ⟨by rfl, ?y16q13⟩) (by assumption) ?r16q13
        case y16q13 =>
          intro w9 hSw
          (try dsimp only at hSw)
          go_simp
          all_goals with_reducible rfl
        simp only [Act.put, List.setIfInBounds_toArray, List.set_cons_zero, List.set_cons_succ]
        refine wpAnyH_at (i := 17) (some 46) (v := ?v17q14) rfl rfl (by kernel_rfl) (by kernel_rfl) (by kernel_rfl) (fun _ _ _ h => h) (Or.inl ⟨by rfl, ?y17q14⟩) (by assumption) ?r17q14
        case y17q14 =>
          intro w9 hSw
          (try dsimp only at hSw)
          go_simp
          all_goals with_reducible rfl
        simp only [Act.put, List.setIfInBounds_toArray, List.set_cons_zero, List.set_cons_succ]
        refine wpAnyH_at (i := 19) (some 48) (v := ?v19q15) rfl rfl (by kernel_rfl) (by kernel_rfl) (by kernel_rfl) (fun _ _ _ h => h) (Or.inl ⟨by rfl, ?y19q15⟩) (by assumption) ?r19q15
        case y19q15 =>
          intro w9 hSw
          (try dsimp only at hSw)
          go_simp
          all_goals with_reducible rfl
        simp only [Act.put, List.setIfInBounds_toArray, List.set_cons_zero, List.set_cons_succ]
        refine wpAnyH_one (i := 18) (by kernel_rfl) rfl ?_
        go_wp2_with (go_at_call 13; with_reducible refine (last_any _ _ _ hip).mono ?_; rintro ev x16 ⟨rfl, hb16⟩)
        have hH16 := K3.parts (K3.step kk hb16)
        replace kk := hH16.2.2.2.2.2.2
        refine ⟨hH16, ?_⟩
        refine wpAnyH_one (i := 20) (by kernel_rfl) rfl ?_
        go_wp2_with (go_at_call 13; with_reducible refine (last_any _ _ _ hip).mono ?_; rintro ev x17 ⟨rfl, hb17⟩)
        have hH17 := K3.parts (K3.step kk hb17)
        replace kk := hH17.2.2.2.2.2.2
        refine ⟨hH17, ?_⟩
        refine wpAnyH_at (i := 21) (some 50) (v := ?v21q18) rfl rfl (by kernel_rfl) (by kernel_rfl) (by kernel_rfl) (fun _ _ _ h => h) (Or.inl ⟨by rfl, ?y21q18⟩) (by assumption) ?r21q18
        case y21q18 =>
          intro w9 hSw
          (try dsimp only at hSw)
          go_simp
          all_goals with_reducible rfl
        simp only [Act.put, List.setIfInBounds_toArray, List.set_cons_zero, List.set_cons_succ]
        refine wpAnyH_at (i := 22) (some 51) (v := ?v22q19) rfl rfl (by kernel_rfl) (by kernel_rfl) (by kernel_rfl) (fun _ _ _ h => h) (Or.inl ⟨by rfl, ?y22q19⟩) (by assumption) ?r22q19
        case y22q19 =>
          intro w9 hSw
          (try dsimp only at hSw)
          go_simp
          all_goals with_reducible rfl
        simp only [Act.put, List.setIfInBounds_toArray, List.set_cons_zero, List.set_cons_succ]
        refine wpAnyH_at (i := 23) (some 52) (v := ?v23q20) rfl rfl (by kernel_rfl) (by kernel_rfl) (by kernel_rfl) (fun _ _ _ h => h) (Or.inl ⟨by rfl, ?y23q20⟩) (by assumption) ?r23q20
        case y23q20 =>
          intro w9 hSw
          (try dsimp only at hSw)
          go_simp
          all_goals with_reducible rfl
        simp only [Act.put, List.setIfInBounds_toArray, List.set_cons_zero, List.set_cons_succ]
        refine wpAnyH_at (i := 24) (some 53) (v := ?v24q21) rfl rfl (by kernel_rfl) (by kernel_rfl) (by kernel_rfl) (fun _ _ _ h => h) (Or.inl ⟨by rfl, ?y24q21⟩) (by assumption) ?r24q21
        case y24q21 =>
          intro w9 hSw
          (try dsimp only at hSw)
          go_simp
          all_goals with_reducible rfl
        simp only [Act.put, List.setIfInBounds_toArray, List.set_cons_zero, List.set_cons_succ]
        refine wpAnyH_at (i := 26) (some 55) (v := ?v26q22) rfl rfl (by kernel_rfl) (by kernel_rfl) (by kernel_rfl) (fun _ _ _ h => h) (Or.inl ⟨by rfl, ?y26q22⟩) (by assumption) ?r26q22
        case y26q22 =>
          intro w9 hSw
          (try dsimp only at hSw)
          go_simp
          all_goals with_reducible rfl
        simp only [Act.put, List.setIfInBounds_toArray, List.set_cons_zero, List.set_cons_succ]
        refine wpAnyH_at (i := 29) (some 58) (v := ?v29q23) rfl rfl (by kernel_rfl) (by kernel_rfl) (by kernel_rfl) (fun _ _ _ h => h) (Or.inl ⟨by rfl, ?y29q23⟩) (by assumption) ?r29q23
        case y29q23 =>
          intro w9 hSw
          (try dsimp only at hSw)
          go_simp
          all_goals with_reducible rfl
        simp only [Act.put, List.setIfInBounds_toArray, List.set_cons_zero, List.set_cons_succ]
        refine wpAnyH_one (i := 25) (by kernel_rfl) rfl ?_
        go_wp2_with (go_at_call 19; with_reducible refine (mask_any _ _ _).mono ?_; rintro ev x24 ⟨rfl, hb24⟩)
        have hH24 := K3.parts (K3.step kk hb24)
        replace kk := hH24.2.2.2.2.2.2
        refine ⟨hH24, ?_⟩
        refine wpAnyH_one (i := 27) (by kernel_rfl) rfl ?_
        go_wp2_with (go_at_call 19; with_reducible refine (mask_any _ _ _).mono ?_; rintro ev x25 ⟨rfl, hb25⟩)
        have hH25 := K3.parts (K3.step kk hb25)
        replace kk := hH25.2.2.2.2.2.2
        refine ⟨hH25, ?_⟩
        refine wpAnyH_at (i := 28) (some 57) (v := ?v28q26) rfl rfl (by kernel_rfl) (by kernel_rfl) (by kernel_rfl) (fun _ _ _ h => h) (Or.inl ⟨by rfl, ?y28q26⟩) (by assumption) ?r28q26
        case y28q26 =>
          intro w9 hSw
          (try dsimp only at hSw)
          go_simp
          all_goals with_reducible rfl
        simp only [Act.put, List.setIfInBounds_toArray, List.set_cons_zero, List.set_cons_succ]
        refine wpAnyH_one (i := 30) (by kernel_rfl) rfl ?_
        go_wp2_with (go_at_call 19; with_reducible refine (mask_any _ _ _).mono ?_; rintro ev x27 ⟨rfl, hb27⟩)
        have hH27 := K3.parts (K3.step kk hb27)
        replace kk := hH27.2.2.2.2.2.2
        refine ⟨hH27, ?_⟩
        refine wpAnyH_at (i := 31) (some 60) (v := ?v31q28) rfl rfl (by kernel_rfl) (by kernel_rfl) (by kernel_rfl) (fun _ _ _ h => h) (Or.inl ⟨by rfl, ?y31q28⟩) (by assumption) ?r31q28
        case y31q28 =>
          intro w9 hSw
          (try dsimp only at hSw)
          go_simp
          all_goals with_reducible rfl
        simp only [Act.put, List.setIfInBounds_toArray, List.set_cons_zero, List.set_cons_succ]
        refine wpAnyH_at (i := 32) (some 61) (v := ?v32q29) rfl rfl (by kernel_rfl) (by kernel_rfl) (by kernel_rfl) (fun _ _ _ h => h) (Or.inl ⟨by rfl, ?y32q29⟩) (by assumption) ?r32q29
        case y32q29 =>
          intro w9 hSw
          (try dsimp only at hSw)
          go_simp
          all_goals with_reducible rfl
        simp only [Act.put, List.setIfInBounds_toArray, List.set_cons_zero, List.set_cons_succ]
        refine wpAnyH_done (by kernel_rfl) ?_ _
      all_goals
        clear k3 c0 c1 d0 d1 e0 e1
        obtain ⟨c0, c1, d0, d1, e0, e1, -⟩ := kk.parts
        go_wp2_with fail
        with_reducible refine (apart_any _ _ _ _ _ hip hjp).mono ?_
        rintro ev w5 ⟨rfl, hb5⟩
        replace kk := kk.step hb5
        clear hb5 c0 c1 d0 d1 e0 e1
        obtain ⟨c0, c1, d0, d1, e0, e1, -⟩ := kk.parts
        by_cases A : apartV ip b jp c = true
        · have A2 := apart_less hip hjp hbe R2 A
          go_wp2_with fail
          with_reducible refine (apart_any _ _ _ _ _ hip hjp).mono ?_
          rintro ev w6 ⟨rfl, hb6⟩
          replace kk := kk.step hb6
          clear hb6 c0 c1 d0 d1 e0 e1
          go_wp2
          subst hh
          subst hg
          go_ret
          exact ⟨rfl, kk.x.below⟩
        · have A' : apartV ip b jp c = false := by simpa using A
          go_wp2
          subst hh
          subst hg
          go_ret
          exact ⟨rfl, kk.x.below⟩
    · have R2' : rightV ip e = false := by simpa using R2
      go_wp2
      go_ret
      exact ⟨rfl, k3.x.below⟩
  · have R' : rightV ip b = false := by simpa using R
    go_enter Tryd.func6, Tryd.ntmps6
    go_wp2_with fail
    with_reducible refine (alive_any _ kn2).mono ?_
    rintro ev w1 ⟨rfl, hb1⟩
    replace k := k.step hb1
    clear hb1
    obtain ⟨c0, c1, d0, d1, -⟩ := k.parts
    have z0 := k.x.lt
    have z1 := k.y.lt
    go_wp2_with fail
    with_reducible refine (right_any _ _ _ hip).mono ?_
    rintro ev w2 ⟨rfl, hb1⟩
    go_wp2
    go_ret
    exact ⟨rfl, (k.x.alloc _).below.trans (hb1.mono (k.x.alloc _).below.size)⟩
end Go.Proofs.YtemhahfodblehaaDoor
