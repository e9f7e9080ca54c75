/-
  Contracts of the subnets' functions: Mask, Base, Last, Has, Host, Right, Apart (the document's).
-/
import Derived.Test.YtemhahfodblehaaDoorNets
namespace Go.Proofs.YtemhahfodblehaaDoor
open Go.RowKit

theorem refMask_any (ip b : Int) (w : World) : Calls Tryd.prog 20 #[.agg #[.int .u32 ip, .int .i64 b]] w fun e w' => e = .returned (.int .u32 (maskV b)) ∧ Below w.heap.size w w' := by
  have k := KB.new w ip b 26
  by_cases hb : bndV b = true
  · have hf := sz_fact hb
    go_enter Tryd.func20, Tryd.ntmps20
    go_wp2_with (first
      | (go_at_call 35; refine (bounds_any _ _ _).mono ?_; rintro e w1 ⟨rfl, hb1⟩; replace k := k.step hb1; have c0 := k.c0; have c1 := k.c1; clear hb1)
      | (go_at_call 36; refine (size_any _ _ _ hb).mono ?_; rintro e w2 ⟨rfl, hb1⟩; replace k := k.step hb1; clear hb1))
    go_ret
    refine ⟨ret_int ?_, k.below⟩
    simp only [maskV, hb, if_true]
    try omega
  · go_enter Tryd.func20, Tryd.ntmps20
    go_wp2_with (first
      | (go_at_call 35; refine (bounds_any _ _ _).mono ?_; rintro e w1 ⟨rfl, hb1⟩; replace k := k.step hb1; have c0 := k.c0; have c1 := k.c1; clear hb1))
    go_ret
    exact ⟨ret_int (by simp [maskV, hb]), k.below⟩
theorem base_wrap {ip b : Int} (hip : W32 ip) (hb : bndV b = true) : IntKind.u32.wrap (IntKind.u64.wrap (IntKind.u64.wrap ((IntKind.u64.wrap ip).tdiv (szV b)) * szV b)) = ip / szV b * szV b := by
  have hf := sz_fact hb
  have hp := sz_parts hb hip
  have hd : 0 ≤ ip / szV b ∧ ip / szV b ≤ ip := by
    unfold W32 at hip
    rcases sz_cases hb with h | h | h | h | h | h | h | h | h | h | h | h | h | h | h | h | h | h | h | h | h | h | h <;> rw [h] <;> omega
  unfold W32 at hip
  rw [IntKind.wrap_u64, IntKind.wrap_u64, IntKind.wrap_u64, IntKind.wrap_u32', Int.emod_eq_of_lt (a := ip) (by omega) (by omega), Int.tdiv_eq_ediv_of_nonneg (by omega), Int.emod_eq_of_lt (a := ip / szV b) (by omega) (by omega)]
  generalize ip / szV b * szV b = q at hp
  omega
theorem last_wrap {ip b : Int} (hip : W32 ip) (hb : bndV b = true) : IntKind.u32.wrap (IntKind.u64.wrap (IntKind.u64.wrap (IntKind.u64.wrap (baseV ip b) + szV b) - 1)) = lastV ip b := by
  have hf := sz_fact hb
  have hp := sz_parts hb hip
  simp only [baseV, lastV, hb, if_true]
  rw [IntKind.wrap_u64, IntKind.wrap_u64, IntKind.wrap_u64, IntKind.wrap_u32']
  generalize ip / szV b * szV b = q at hp
  omega
theorem refBase_any (ip b : Int) (w : World) (hip : W32 ip) : Calls Tryd.prog 12 #[.agg #[.int .u32 ip, .int .i64 b]] w fun e w' => e = .returned (.int .u32 (baseV ip b)) ∧ Below w.heap.size w w' := by
  have k := KB.new w ip b 26
  by_cases hb : bndV b = true
  · have hf := sz_fact hb
    have hne : ¬ szV b = 0 := by omega
    go_enter Tryd.func12, Tryd.ntmps12
    go_wp2_with (first
      | (go_at_call 35; refine (bounds_any _ _ _).mono ?_; rintro e w1 ⟨rfl, hb1⟩; replace k := k.step hb1; have c0 := k.c0; have c1 := k.c1; clear hb1))
    generalize hg : w.heap.size = g at k c0 c1 ⊢
    go_region_held3 (fun w' => w'.cell? ⟨g, 0, none⟩ = some (.int .u32 ip) ∧ w'.cell? ⟨g, 1, none⟩ = some (.int .i64 b) ∧ KB w g ip b w')
      (first
        | assumption
        | (exact KB.parts (KB.drew k))
        | (go_split_ands; exact KB.parts (KB.step (by assumption) hb2)))
      (first
        | (go_at_call 36; go_split_ands; refine (size_any _ _ _ hb).mono ?_; rintro e w2 ⟨rfl, hb2⟩))
    all_goals
      go_split_ands
      have k2 : KB w g ip b w2 := by assumption
      have hbe := k2.below
      subst hg
      go_wp2
      go_ret
      refine ⟨ret_int ?_, hbe⟩
      simp only [baseV, hb, if_true]
      exact base_wrap hip hb
  · go_enter Tryd.func12, Tryd.ntmps12
    go_wp2_with (first
      | (go_at_call 35; refine (bounds_any _ _ _).mono ?_; rintro e w1 ⟨rfl, hb1⟩; replace k := k.step hb1; have c0 := k.c0; have c1 := k.c1; clear hb1))
    go_ret
    exact ⟨ret_int (by simp [baseV, hb]), k.below⟩
theorem refLast_any (ip b : Int) (w : World) (hip : W32 ip) : Calls Tryd.prog 14 #[.agg #[.int .u32 ip, .int .i64 b]] w fun e w' => e = .returned (.int .u32 (lastV ip b)) ∧ Below w.heap.size w w' := by
  have k := KB.new w ip b 26
  by_cases hb : bndV b = true
  · have hlw := last_wrap hip hb
    go_enter Tryd.func14, Tryd.ntmps14
    go_wp2_with (first
      | (go_at_call 35; refine (bounds_any _ _ _).mono ?_; rintro e w1 ⟨rfl, hb1⟩; replace k := k.step hb1; have c0 := k.c0; have c1 := k.c1; clear hb1))
    generalize hg : w.heap.size = g at k c0 c1 ⊢
    go_region_held3 (fun w' => w'.cell? ⟨g, 0, none⟩ = some (.int .u32 ip) ∧ w'.cell? ⟨g, 1, none⟩ = some (.int .i64 b) ∧ KB w g ip b w')
      (first
        | assumption
        | (exact KB.parts (KB.drew k))
        | (go_split_ands; exact KB.parts (KB.step (by assumption) hb2))
        | (go_split_ands; exact KB.parts (KB.step (by assumption) hb3)))
      (first
        | (go_at_call 36; go_split_ands; refine (size_any _ _ _ hb).mono ?_; rintro e w2 ⟨rfl, hb2⟩)
        | (go_at_call 12; go_split_ands; refine (refBase_any _ _ _ hip).mono ?_; rintro e w3 ⟨rfl, hb3⟩))
    all_goals
      go_split_ands
      subst hg
      go_wp2
      go_ret
      exact ⟨rfl, (show KB w w.heap.size ip b _ by assumption).below⟩
  · go_enter Tryd.func14, Tryd.ntmps14
    go_wp2_with (first
      | (go_at_call 35; refine (bounds_any _ _ _).mono ?_; rintro e w1 ⟨rfl, hb1⟩; replace k := k.step hb1; have c0 := k.c0; have c1 := k.c1; clear hb1))
    go_ret
    exact ⟨ret_int (by simp [lastV, hb]), k.below⟩
theorem refHas_any (ip b x : Int) (w : World) (hip : W32 ip) : Calls Tryd.prog 16 #[.agg #[.int .u32 ip, .int .i64 b], .int .u32 x] w fun e w' => e = .returned (.bool (hasV ip b x)) ∧ Below w.heap.size w w' := by
  have k := KB.new w ip b 26
  have he : bndV b = true → _ := fun h => has_ends (ip := ip) (x := x) h
  go_enter Tryd.func16, Tryd.ntmps16
  go_wp2_with (first
    | (go_at_call 35; refine (bounds_any _ _ _).mono ?_; rintro e w1 ⟨rfl, hb1⟩; replace k := k.step hb1; have c0 := k.c0; have c1 := k.c1; clear hb1)
    | (go_at_call 12; refine (refBase_any _ _ _ hip).mono ?_; rintro e w2 ⟨rfl, hb1⟩; replace k := k.step hb1; have c0 := k.c0; have c1 := k.c1; clear hb1)
    | (go_at_call 14; refine (refLast_any _ _ _ hip).mono ?_; rintro e w3 ⟨rfl, hb1⟩; replace k := k.step hb1; have c0 := k.c0; have c1 := k.c1; clear hb1))
  all_goals
    go_ret
    refine ⟨ret_bool ?_, k.below⟩
    simp only [hasV]
    first
      | (rw [he (by assumption)]; simp [*]; done)
      | (simp [*]; done)
      | (rw [he (by assumption), Bool.eq_iff_iff]; simp [*]; omega)
theorem refHost_any (ip b x : Int) (w : World) (hip : W32 ip) : Calls Tryd.prog 18 #[.agg #[.int .u32 ip, .int .i64 b], .int .u32 x] w fun e w' => e = .returned (.bool (hostV ip b x)) ∧ Below w.heap.size w w' := by
  have k := KB.new w ip b 26
  go_enter Tryd.func18, Tryd.ntmps18
  go_wp2_with (first
    | (go_at_call 16; refine (refHas_any _ _ _ _ hip).mono ?_; rintro e w1 ⟨rfl, hb1⟩; replace k := k.step hb1; have c0 := k.c0; have c1 := k.c1; clear hb1)
    | (go_at_call 12; refine (refBase_any _ _ _ hip).mono ?_; rintro e w2 ⟨rfl, hb1⟩; replace k := k.step hb1; have c0 := k.c0; have c1 := k.c1; clear hb1)
    | (go_at_call 14; refine (refLast_any _ _ _ hip).mono ?_; rintro e w3 ⟨rfl, hb1⟩; replace k := k.step hb1; have c0 := k.c0; have c1 := k.c1; clear hb1))
  all_goals
    go_ret
    refine ⟨ret_bool ?_, k.below⟩
    simp only [hostV, *]
    try simp
    try rfl
theorem refRight_any (ip b : Int) (w : World) (hip : W32 ip) : Calls Tryd.prog 10 #[.agg #[.int .u32 ip, .int .i64 b]] w fun e w' => e = .returned (.bool (rightV ip b)) ∧ Below w.heap.size w w' := by
  have k := KB.new w ip b 26
  have hn : bndV b = false → hostV ip b ip = false := fun h => by simp [hostV, hasV, h]
  go_enter Tryd.func10, Tryd.ntmps10
  go_wp2_with (first
    | (go_at_call 35; refine (bounds_any _ _ _).mono ?_; rintro e w1 ⟨rfl, hb1⟩; replace k := k.step hb1; have c0 := k.c0; have c1 := k.c1; clear hb1)
    | (go_at_call 18; refine (refHost_any _ _ _ _ hip).mono ?_; rintro e w2 ⟨rfl, hb1⟩; replace k := k.step hb1; have c0 := k.c0; have c1 := k.c1; clear hb1)
    | (go_at_call 24; refine (refSingle_any _ _ hip).mono ?_; rintro e w1 ⟨rfl, rfl⟩))
  all_goals
    go_ret
    refine ⟨ret_bool ?_, k.below⟩
    simp only [rightV]
    first
      | (simp [*]; done)
      | (rw [hn (by simpa using ‹¬ bndV b = true›)]; simp; done)
      | go_show

/-- Two subnets are apart as the document has it: one ends ahead of the other. -/
theorem refApart_eq {ip b jp c : Int} (hip : W32 ip) (hjp : W32 jp) : apartV ip b jp c = (rightV ip b && (rightV jp c && (decide (lastV ip b < baseV jp c) || decide (lastV jp c < baseV ip b)))) := by
  by_cases h1 : rightV ip b = true
  · by_cases h2 : rightV jp c = true
    · have b1 : bndV b = true := by simp only [rightV, hostV, hasV, Bool.and_eq_true] at h1; exact h1.1.1.1.1
      have b2 : bndV c = true := by simp only [rightV, hostV, hasV, Bool.and_eq_true] at h2; exact h2.1.1.1.1
      have p1 := sz_parts b1 hip
      have p2 := sz_parts b2 hjp
      have f1 := sz_fact b1
      have f2 := sz_fact b2
      have e1 := has_ends (ip := ip) (x := baseV jp c) b1
      have e2 := has_ends (ip := jp) (x := baseV ip b) b2
      simp only [apartV, h1, h2, hasV, b1, b2, Bool.true_and, e1, e2]
      simp only [baseV, lastV, b1, b2, if_true]
      generalize ip / szV b * szV b = x at *
      generalize jp / szV c * szV c = y at *
      rw [Bool.eq_iff_iff]
      simp
      omega
    · simp [apartV, h2]
  · simp [apartV, h1]
set_option maxRecDepth 100000 in
set_option maxHeartbeats 2000000 in
theorem refApart_any (ip b jp c : Int) (w : World) (hip : W32 ip) (hjp : W32 jp) : Calls Tryd.prog 22 #[.agg #[.int .u32 ip, .int .i64 b], .agg #[.int .u32 jp, .int .i64 c]] w fun e w' => e = .returned (.bool (apartV ip b jp c)) ∧ Below w.heap.size w w' := by
  have k := KB2.new w ip b jp c 26
  by_cases h1 : rightV ip b = true
  · by_cases h2 : rightV jp c = true
    · by_cases h3 : lastV ip b < baseV jp c
      · go_enter Tryd.func22, Tryd.ntmps22
        go_wp2_with fail
        refine wp_region_any (by kernel_rfl) ?_
        change wpAny _ _ _ _ _ _ _ (World.drew _)
        refine wpAny_stretch 0 7 14 (by kernel_rfl) (by kernel_rfl) (by kernel_rfl) ?_
        simp only [List.take_succ_cons, List.take_zero, List.drop_zero]
        replace k := k.drew
        go_wp2_with fail
        with_reducible refine (refRight_any _ _ _ hip).mono ?_
        rintro e w1 ⟨rfl, hb1⟩
        replace k := k.step hb1
        clear hb1
        obtain ⟨c0, c1, d0, d1, -⟩ := k.parts
        go_wp2_with fail
        with_reducible refine (refRight_any _ _ _ hjp).mono ?_
        rintro e w2 ⟨rfl, hb1⟩
        replace k := k.step hb1
        clear hb1 c0 c1 d0 d1
        go_wp2_with fail
        refine wpAny_of_held (S := (fun w' => w'.cell? ⟨w.heap.size, 0, none⟩ = some (.int .u32 ip) ∧ w'.cell? ⟨w.heap.size, 1, none⟩ = some (.int .i64 b) ∧ w'.cell? ⟨w.heap.size + 1, 0, none⟩ = some (.int .u32 jp) ∧ w'.cell? ⟨w.heap.size + 1, 1, none⟩ = some (.int .i64 c) ∧ KB2 w w.heap.size ip b (w.heap.size + 1) jp c w')) _ _ _ _ ?_
        have hHeld := k.parts
        refine wpAnyH_at (i := 7) (some 12) (v := ?v7u1) rfl rfl (by kernel_rfl) (by kernel_rfl) (by kernel_rfl) (fun _ _ _ h => h) (Or.inl ⟨by rfl, ?y7u1⟩) (by assumption) ?r7u1
        case y7u1 =>
          intro w9 hSw
          (try dsimp only at hSw)
          go_simp
          all_goals with_reducible rfl
        simp only [Act.put, List.setIfInBounds_toArray, List.set_cons_zero, List.set_cons_succ]
        refine wpAnyH_at (i := 9) (some 14) (v := ?v9u2) rfl rfl (by kernel_rfl) (by kernel_rfl) (by kernel_rfl) (fun _ _ _ h => h) (Or.inl ⟨by rfl, ?y9u2⟩) (by assumption) ?r9u2
        case y9u2 =>
          intro w9 hSw
          (try dsimp only at hSw)
          go_simp
          all_goals with_reducible rfl
        simp only [Act.put, List.setIfInBounds_toArray, List.set_cons_zero, List.set_cons_succ]
        refine wpAnyH_one (i := 8) (by kernel_rfl) rfl ?_
        go_wp2_with (go_at_call 14; with_reducible refine (refLast_any _ _ _ hip).mono ?_; rintro e w3 ⟨rfl, hb3⟩)
        have hH3 := KB2.parts (KB2.step (show KB2 w w.heap.size ip b (w.heap.size + 1) jp c _ by assumption) hb3)
        have kk3 := hH3.2.2.2.2
        refine ⟨hH3, ?_⟩
        (try clear hHeld)
        refine wpAnyH_one (i := 10) (by kernel_rfl) rfl ?_
        go_wp2_with (go_at_call 12; with_reducible refine (refBase_any _ _ _ hjp).mono ?_; rintro e w4 ⟨rfl, hb4⟩)
        have hH4 := KB2.parts (KB2.step (show KB2 w w.heap.size ip b (w.heap.size + 1) jp c _ by assumption) hb4)
        have kk4 := hH4.2.2.2.2
        refine ⟨hH4, ?_⟩
        (try clear hHeld)
        refine wpAnyH_at (i := 11) (some 16) (v := ?v11u3) rfl rfl (by kernel_rfl) (by kernel_rfl) (by kernel_rfl) (fun _ _ _ h => h) (Or.inl ⟨by rfl, ?y11u3⟩) (by assumption) ?r11u3
        case y11u3 =>
          intro w9 hSw
          (try dsimp only at hSw)
          go_simp
          all_goals with_reducible rfl
        simp only [Act.put, List.setIfInBounds_toArray, List.set_cons_zero, List.set_cons_succ]
        refine wpAnyH_at (i := 12) (some 17) (v := ?v12u4) rfl rfl (by kernel_rfl) (by kernel_rfl) (by kernel_rfl) (fun _ _ _ h => h) (Or.inl ⟨by rfl, ?y12u4⟩) (by assumption) ?r12u4
        case y12u4 =>
          intro w9 hSw
          (try dsimp only at hSw)
          go_simp
          all_goals with_reducible rfl
        simp only [Act.put, List.setIfInBounds_toArray, List.set_cons_zero, List.set_cons_succ]
        refine wpAnyH_at (i := 13) (some 18) (v := undef) rfl rfl (by kernel_rfl) (by kernel_rfl) (by kernel_rfl) (fun _ _ _ h => h) (Or.inr ⟨by rfl, rfl⟩) (by assumption) ?_
        simp only [Act.put, List.setIfInBounds_toArray, List.set_cons_zero, List.set_cons_succ]
        refine wpAnyH_at (i := 14) (some 19) (v := undef) rfl rfl (by kernel_rfl) (by kernel_rfl) (by kernel_rfl) (fun _ _ _ h => h) (Or.inr ⟨by rfl, rfl⟩) (by assumption) ?_
        simp only [Act.put, List.setIfInBounds_toArray, List.set_cons_zero, List.set_cons_succ]
        refine wpAnyH_at (i := 15) (some 20) (v := undef) rfl rfl (by kernel_rfl) (by kernel_rfl) (by kernel_rfl) (fun _ _ _ h => h) (Or.inr ⟨by rfl, rfl⟩) (by assumption) ?_
        simp only [Act.put, List.setIfInBounds_toArray, List.set_cons_zero, List.set_cons_succ]
        refine wpAnyH_at (i := 16) (some 21) (v := undef) rfl rfl (by kernel_rfl) (by kernel_rfl) (by kernel_rfl) (fun _ _ _ h => h) (Or.inr ⟨by rfl, rfl⟩) (by assumption) ?_
        simp only [Act.put, List.setIfInBounds_toArray, List.set_cons_zero, List.set_cons_succ]
        refine wpAnyH_at (i := 17) (some 22) (v := undef) rfl rfl (by kernel_rfl) (by kernel_rfl) (by kernel_rfl) (fun _ _ _ h => h) (Or.inr ⟨by rfl, rfl⟩) (by assumption) ?_
        simp only [Act.put, List.setIfInBounds_toArray, List.set_cons_zero, List.set_cons_succ]
        refine wpAnyH_at (i := 18) (some 23) (v := ?v18u5) rfl rfl (by kernel_rfl) (by kernel_rfl) (by kernel_rfl) (fun _ _ _ h => h) (Or.inl ⟨by rfl, ?y18u5⟩) (by assumption) ?r18u5
        case y18u5 =>
          intro w9 hSw
          (try dsimp only at hSw)
          go_simp
          all_goals with_reducible rfl
        simp only [Act.put, List.setIfInBounds_toArray, List.set_cons_zero, List.set_cons_succ]
        refine wpAnyH_at (i := 19) (some 24) (v := ?v19u6) rfl rfl (by kernel_rfl) (by kernel_rfl) (by kernel_rfl) (fun _ _ _ h => h) (Or.inl ⟨by rfl, ?y19u6⟩) (by assumption) ?r19u6
        case y19u6 =>
          intro w9 hSw
          (try dsimp only at hSw)
          go_simp
          all_goals with_reducible rfl
        simp only [Act.put, List.setIfInBounds_toArray, List.set_cons_zero, List.set_cons_succ]
        refine wpAnyH_at (i := 20) (some 4) (v := ?v20u7) rfl rfl (by kernel_rfl) (by kernel_rfl) (by kernel_rfl) (fun _ _ _ h => h) (Or.inl ⟨by rfl, ?y20u7⟩) (by assumption) ?r20u7
        case y20u7 =>
          intro w9 hSw
          (try dsimp only at hSw)
          go_simp
          all_goals with_reducible rfl
        simp only [Act.put, List.setIfInBounds_toArray, List.set_cons_zero, List.set_cons_succ]
        refine wpAnyH_done (by kernel_rfl) ?_ _
        go_wp2
        go_ret
        refine ⟨ret_bool ?_, (show KB2 w w.heap.size ip b (w.heap.size + 1) jp c _ by assumption).x.below⟩
        rw [refApart_eq hip hjp]
        simp [h1, h2, h3]
      · go_enter Tryd.func22, Tryd.ntmps22
        go_wp2_with fail
        have hd : decide (lastV ip b < baseV jp c) = false := by simpa using h3
        generalize hW : (w.alloc (.cells #[.int .u32 ip, .int .i64 b] 26)).alloc (.cells #[.int .u32 jp, .int .i64 c] 26) = W at k ⊢
        generalize hg : w.heap.size = g at k ⊢
        generalize hh : g + 1 = h at k ⊢
        go_region_held3 (fun w' => w'.cell? ⟨g, 0, none⟩ = some (.int .u32 ip) ∧ w'.cell? ⟨g, 1, none⟩ = some (.int .i64 b) ∧ w'.cell? ⟨h, 0, none⟩ = some (.int .u32 jp) ∧ w'.cell? ⟨h, 1, none⟩ = some (.int .i64 c) ∧ KB2 w g ip b h jp c w')
          (first
            | assumption
            | (exact KB2.parts (KB2.drew k))
            | (go_split_ands; exact KB2.parts (KB2.step (by assumption) hb1))
            | (go_split_ands; exact KB2.parts (KB2.step (by assumption) hb2))
            | (go_split_ands; exact KB2.parts (KB2.step (by assumption) hb3)))
          (first
            | (go_at_call 10; go_split_ands; with_reducible refine (refRight_any _ _ _ (by first | exact hip | exact hjp)).mono ?_; rintro e w1 ⟨rfl, hb1⟩)
            | (go_at_call 14; go_split_ands; with_reducible refine (refLast_any _ _ _ (by first | exact hip | exact hjp)).mono ?_; rintro e w2 ⟨rfl, hb2⟩)
            | (go_at_call 12; go_split_ands; with_reducible refine (refBase_any _ _ _ (by first | exact hip | exact hjp)).mono ?_; rintro e w3 ⟨rfl, hb3⟩))
        all_goals
          go_split_ands
          subst hh
          subst hg
          go_wp2
          go_ret
          refine ⟨ret_bool ?_, (show KB2 w w.heap.size ip b (w.heap.size + 1) jp c _ by assumption).x.below⟩
          rw [refApart_eq hip hjp]
          simp [h1, h2, hd]
    · go_enter Tryd.func22, Tryd.ntmps22
      go_wp2_with fail
      refine wp_region_any (by kernel_rfl) ?_
      change wpAny _ _ _ _ _ _ _ (World.drew _)
      refine wpAny_stretch 0 7 14 (by kernel_rfl) (by kernel_rfl) (by kernel_rfl) ?_
      simp only [List.take_succ_cons, List.take_zero, List.drop_zero]
      replace k := k.drew
      go_wp2_with fail
      with_reducible refine (refRight_any _ _ _ hip).mono ?_
      rintro e w1 ⟨rfl, hb1⟩
      replace k := k.step hb1
      clear hb1
      obtain ⟨c0, c1, d0, d1, -⟩ := k.parts
      go_wp2_with fail
      with_reducible refine (refRight_any _ _ _ hjp).mono ?_
      rintro e w2 ⟨rfl, hb1⟩
      replace k := k.step hb1
      clear hb1 c0 c1 d0 d1
      go_wp2_with fail
      refine wpAny_at (i := 7) (some 12) (v := undef) rfl rfl (by kernel_rfl) (by kernel_rfl) (by kernel_rfl) (fun _ _ _ h => h) (Or.inr ⟨by rfl, rfl⟩) ?_
      simp only [Act.put, List.setIfInBounds_toArray, List.set_cons_zero, List.set_cons_succ]
      refine wpAny_at (i := 8) (some 13) (v := undef) rfl rfl (by kernel_rfl) (by kernel_rfl) (by kernel_rfl) (fun _ _ _ h => h) (Or.inr ⟨by rfl, rfl⟩) ?_
      simp only [Act.put, List.setIfInBounds_toArray, List.set_cons_zero, List.set_cons_succ]
      refine wpAny_at (i := 9) (some 14) (v := undef) rfl rfl (by kernel_rfl) (by kernel_rfl) (by kernel_rfl) (fun _ _ _ h => h) (Or.inr ⟨by rfl, rfl⟩) ?_
      simp only [Act.put, List.setIfInBounds_toArray, List.set_cons_zero, List.set_cons_succ]
      refine wpAny_at (i := 10) (some 15) (v := undef) rfl rfl (by kernel_rfl) (by kernel_rfl) (by kernel_rfl) (fun _ _ _ h => h) (Or.inr ⟨by rfl, rfl⟩) ?_
      simp only [Act.put, List.setIfInBounds_toArray, List.set_cons_zero, List.set_cons_succ]
      refine wpAny_at (i := 11) (some 16) (v := undef) rfl rfl (by kernel_rfl) (by kernel_rfl) (by kernel_rfl) (fun _ _ _ h => h) (Or.inr ⟨by rfl, rfl⟩) ?_
      simp only [Act.put, List.setIfInBounds_toArray, List.set_cons_zero, List.set_cons_succ]
      refine wpAny_at (i := 12) (some 17) (v := undef) rfl rfl (by kernel_rfl) (by kernel_rfl) (by kernel_rfl) (fun _ _ _ h => h) (Or.inr ⟨by rfl, rfl⟩) ?_
      simp only [Act.put, List.setIfInBounds_toArray, List.set_cons_zero, List.set_cons_succ]
      refine wpAny_at (i := 13) (some 18) (v := undef) rfl rfl (by kernel_rfl) (by kernel_rfl) (by kernel_rfl) (fun _ _ _ h => h) (Or.inr ⟨by rfl, rfl⟩) ?_
      simp only [Act.put, List.setIfInBounds_toArray, List.set_cons_zero, List.set_cons_succ]
      refine wpAny_at (i := 14) (some 19) (v := undef) rfl rfl (by kernel_rfl) (by kernel_rfl) (by kernel_rfl) (fun _ _ _ h => h) (Or.inr ⟨by rfl, rfl⟩) ?_
      simp only [Act.put, List.setIfInBounds_toArray, List.set_cons_zero, List.set_cons_succ]
      refine wpAny_at (i := 15) (some 20) (v := undef) rfl rfl (by kernel_rfl) (by kernel_rfl) (by kernel_rfl) (fun _ _ _ h => h) (Or.inr ⟨by rfl, rfl⟩) ?_
      simp only [Act.put, List.setIfInBounds_toArray, List.set_cons_zero, List.set_cons_succ]
      refine wpAny_at (i := 16) (some 21) (v := undef) rfl rfl (by kernel_rfl) (by kernel_rfl) (by kernel_rfl) (fun _ _ _ h => h) (Or.inr ⟨by rfl, rfl⟩) ?_
      simp only [Act.put, List.setIfInBounds_toArray, List.set_cons_zero, List.set_cons_succ]
      refine wpAny_at (i := 17) (some 22) (v := undef) rfl rfl (by kernel_rfl) (by kernel_rfl) (by kernel_rfl) (fun _ _ _ h => h) (Or.inr ⟨by rfl, rfl⟩) ?_
      simp only [Act.put, List.setIfInBounds_toArray, List.set_cons_zero, List.set_cons_succ]
      refine wpAny_at (i := 18) (some 23) (v := undef) rfl rfl (by kernel_rfl) (by kernel_rfl) (by kernel_rfl) (fun _ _ _ h => h) (Or.inr ⟨by rfl, rfl⟩) ?_
      simp only [Act.put, List.setIfInBounds_toArray, List.set_cons_zero, List.set_cons_succ]
      refine wpAny_stretch 19 2 0 (by kernel_rfl) (by kernel_rfl) (by kernel_rfl) ?_
      simp only [List.take_succ_cons, List.take_zero, List.drop_succ_cons, List.drop_zero]
      go_wp2
      refine wpAny_done (by kernel_rfl) ?_ _
      go_wp2
      go_ret
      refine ⟨ret_bool ?_, k.x.below⟩
      rw [refApart_eq hip hjp]
      simp [h2]
  · go_enter Tryd.func22, Tryd.ntmps22
    go_wp2_with fail
    refine wp_region_any (by kernel_rfl) ?_
    change wpAny _ _ _ _ _ _ _ (World.drew _)
    refine wpAny_stretch 0 7 14 (by kernel_rfl) (by kernel_rfl) (by kernel_rfl) ?_
    simp only [List.take_succ_cons, List.take_zero, List.drop_zero]
    replace k := k.drew
    go_wp2_with fail
    with_reducible refine (refRight_any _ _ _ hip).mono ?_
    rintro e w1 ⟨rfl, hb1⟩
    replace k := k.step hb1
    clear hb1
    obtain ⟨c0, c1, d0, d1, -⟩ := k.parts
    go_wp2_with fail
    refine wpAny_at (i := 7) (some 12) (v := undef) rfl rfl (by kernel_rfl) (by kernel_rfl) (by kernel_rfl) (fun _ _ _ h => h) (Or.inr ⟨by rfl, rfl⟩) ?_
    simp only [Act.put, List.setIfInBounds_toArray, List.set_cons_zero, List.set_cons_succ]
    refine wpAny_at (i := 8) (some 13) (v := undef) rfl rfl (by kernel_rfl) (by kernel_rfl) (by kernel_rfl) (fun _ _ _ h => h) (Or.inr ⟨by rfl, rfl⟩) ?_
    simp only [Act.put, List.setIfInBounds_toArray, List.set_cons_zero, List.set_cons_succ]
    refine wpAny_at (i := 9) (some 14) (v := undef) rfl rfl (by kernel_rfl) (by kernel_rfl) (by kernel_rfl) (fun _ _ _ h => h) (Or.inr ⟨by rfl, rfl⟩) ?_
    simp only [Act.put, List.setIfInBounds_toArray, List.set_cons_zero, List.set_cons_succ]
    refine wpAny_at (i := 10) (some 15) (v := undef) rfl rfl (by kernel_rfl) (by kernel_rfl) (by kernel_rfl) (fun _ _ _ h => h) (Or.inr ⟨by rfl, rfl⟩) ?_
    simp only [Act.put, List.setIfInBounds_toArray, List.set_cons_zero, List.set_cons_succ]
    refine wpAny_at (i := 11) (some 16) (v := undef) rfl rfl (by kernel_rfl) (by kernel_rfl) (by kernel_rfl) (fun _ _ _ h => h) (Or.inr ⟨by rfl, rfl⟩) ?_
    simp only [Act.put, List.setIfInBounds_toArray, List.set_cons_zero, List.set_cons_succ]
    refine wpAny_at (i := 12) (some 17) (v := undef) rfl rfl (by kernel_rfl) (by kernel_rfl) (by kernel_rfl) (fun _ _ _ h => h) (Or.inr ⟨by rfl, rfl⟩) ?_
    simp only [Act.put, List.setIfInBounds_toArray, List.set_cons_zero, List.set_cons_succ]
    refine wpAny_at (i := 13) (some 18) (v := undef) rfl rfl (by kernel_rfl) (by kernel_rfl) (by kernel_rfl) (fun _ _ _ h => h) (Or.inr ⟨by rfl, rfl⟩) ?_
    simp only [Act.put, List.setIfInBounds_toArray, List.set_cons_zero, List.set_cons_succ]
    refine wpAny_at (i := 14) (some 19) (v := undef) rfl rfl (by kernel_rfl) (by kernel_rfl) (by kernel_rfl) (fun _ _ _ h => h) (Or.inr ⟨by rfl, rfl⟩) ?_
    simp only [Act.put, List.setIfInBounds_toArray, List.set_cons_zero, List.set_cons_succ]
    refine wpAny_at (i := 15) (some 20) (v := undef) rfl rfl (by kernel_rfl) (by kernel_rfl) (by kernel_rfl) (fun _ _ _ h => h) (Or.inr ⟨by rfl, rfl⟩) ?_
    simp only [Act.put, List.setIfInBounds_toArray, List.set_cons_zero, List.set_cons_succ]
    refine wpAny_at (i := 16) (some 21) (v := undef) rfl rfl (by kernel_rfl) (by kernel_rfl) (by kernel_rfl) (fun _ _ _ h => h) (Or.inr ⟨by rfl, rfl⟩) ?_
    simp only [Act.put, List.setIfInBounds_toArray, List.set_cons_zero, List.set_cons_succ]
    refine wpAny_at (i := 17) (some 22) (v := undef) rfl rfl (by kernel_rfl) (by kernel_rfl) (by kernel_rfl) (fun _ _ _ h => h) (Or.inr ⟨by rfl, rfl⟩) ?_
    simp only [Act.put, List.setIfInBounds_toArray, List.set_cons_zero, List.set_cons_succ]
    refine wpAny_at (i := 18) (some 23) (v := undef) rfl rfl (by kernel_rfl) (by kernel_rfl) (by kernel_rfl) (fun _ _ _ h => h) (Or.inr ⟨by rfl, rfl⟩) ?_
    simp only [Act.put, List.setIfInBounds_toArray, List.set_cons_zero, List.set_cons_succ]
    refine wpAny_stretch 19 2 0 (by kernel_rfl) (by kernel_rfl) (by kernel_rfl) ?_
    simp only [List.take_succ_cons, List.take_zero, List.drop_succ_cons, List.drop_zero]
    go_wp2
    refine wpAny_done (by kernel_rfl) ?_ _
    go_wp2
    go_ret
    refine ⟨ret_bool ?_, k.x.below⟩
    rw [refApart_eq hip hjp]
    simp [h1]
end Go.Proofs.YtemhahfodblehaaDoor
