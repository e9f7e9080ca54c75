/-
  Contracts of the subnets' functions: Base, Last, Has, Host, Right, Apart (the program's).
-/
import Derived.Test.YtemhahfodblehaaDoorLeaf
import Derived.Test.YtemhahfodblehaaDoorForce
import Derived.Deep.RegionHeld3
namespace Go.Proofs.YtemhahfodblehaaDoor
open Go.RowKit

theorem and_maskV {x b : Int} (hx : W32 x) : bits .and .u32 x (maskV b) = baseV x b := by
  unfold maskV baseV
  split
  · rename_i hb
    exact and_mask hx hb
  · unfold W32 at hx
    rw [u32_and _ _ (by omega) (by omega) (by omega) (by omega)]
    simp
theorem nat_flip (x : Nat) (hx : x < 2 ^ 32) : (2 ^ 32 - 1) ^^^ x = 2 ^ 32 - 1 - x := by
  apply Nat.eq_of_testBit_eq
  intro j
  rw [Nat.testBit_xor, Nat.testBit_two_pow_sub_one]
  have h := Nat.testBit_two_pow_sub_succ hx j
  have e : 2 ^ 32 - (x + 1) = 2 ^ 32 - 1 - x := by omega
  rw [e] at h
  rw [h]
  by_cases hj : j < 32
  · simp [hj]
  · have : x.testBit j = false := Nat.testBit_lt_two_pow (Nat.lt_of_lt_of_le hx (Nat.pow_le_pow_right (by omega) (by omega)))
    simp [hj, this]
theorem flip_eq {x : Int} (hx : W32 x) : bits .xor .u32 IntKind.u32.max x = 4294967295 - x := by
  unfold W32 at hx
  have e : IntKind.u32.max = 4294967295 := by decide
  rw [e, u32_xor _ _ (by omega) (by omega) (by omega) (by omega)]
  obtain ⟨n, rfl⟩ := Int.eq_ofNat_of_zero_le hx.1
  have := nat_flip n (by omega)
  rw [Int.toNat_natCast]
  have e2 : (4294967295 : Int).toNat = 2 ^ 32 - 1 := by decide
  rw [e2, this]
  omega
theorem or_maskV {x b : Int} (hx : W32 x) (hb : bndV b = true) : bits .or .u32 x (4294967295 - maskV b) = lastV x b := by
  have e : 4294967295 - maskV b = szV b - 1 := by simp only [maskV, hb, if_true]; omega
  rw [e, or_mask hx hb]
  simp [lastV, hb]
theorem or_flip {x b : Int} (hx : W32 x) (hb : bndV b = true) : bits .or .u32 x (bits .xor .u32 IntKind.u32.max (maskV b)) = lastV x b := by
  have e : bits .xor .u32 IntKind.u32.max (maskV b) = 4294967295 - maskV b := flip_eq (mask_bd b)
  rw [e]
  exact or_maskV hx hb
theorem base_any (ip b : Int) (w : World) (hip : W32 ip) : Calls Tryd.prog 11 #[.agg #[.int .u32 ip, .int .i64 b]] w fun e w' => e = .returned (.int .u32 (baseV ip b)) ∧ Below w.heap.size w w' := by
  have k := KB.new w ip b 24
  go_enter Tryd.func11, Tryd.ntmps11
  go_wp2_with fail
  generalize hW : w.alloc (.cells #[.int .u32 ip, .int .i64 b] 24) = W at k ⊢
  generalize hg : w.heap.size = g at k ⊢
  go_region_held3 (fun w' => w'.cell? ⟨g, 0, none⟩ = some (.int .u32 ip) ∧ w'.cell? ⟨g, 1, none⟩ = some (.int .i64 b) ∧ KB w g ip b w')
    (first
      | assumption
      | (exact KB.parts (KB.drew k))
      | (go_split_ands; exact KB.parts (KB.step (by assumption) hb1)))
    (first
      | (go_at_call 19; go_split_ands; refine (mask_any _ _ _).mono ?_; rintro e w1 ⟨rfl, hb1⟩))
  go_split_ands
  have k1 : KB w g ip b w1 := by assumption
  go_wp2
  go_ret
  exact ⟨ret_int (and_maskV hip), k1.below⟩
theorem last_any (ip b : Int) (w : World) (hip : W32 ip) : Calls Tryd.prog 13 #[.agg #[.int .u32 ip, .int .i64 b]] w fun e w' => e = .returned (.int .u32 (lastV ip b)) ∧ Below w.heap.size w w' := by
  have k := KB.new w ip b 24
  by_cases hb : bndV b = true
  · go_enter Tryd.func13, Tryd.ntmps13
    go_wp2_with (go_at_call 37; refine (bounded_any _ _ _).mono ?_; rintro e w1 ⟨rfl, hb1⟩; replace k := k.step hb1; have c0 := k.c0; have c1 := k.c1; clear hb1)
    generalize hg : w.heap.size = g at k c0 c1 ⊢
    go_region_held3 (fun w' => w'.cell? ⟨g, 0, none⟩ = some (.int .u32 ip) ∧ w'.cell? ⟨g, 1, none⟩ = some (.int .i64 b) ∧ KB w g ip b w')
      (first
        | assumption
        | (exact KB.parts (KB.drew k))
        | (go_split_ands; exact KB.parts (KB.step (by assumption) hb2)))
      (first
        | (go_at_call 19; go_split_ands; refine (mask_any _ _ _).mono ?_; rintro e w2 ⟨rfl, hb2⟩))
    go_split_ands
    have k2 : KB w g ip b w2 := by assumption
    subst hg
    have hor := or_flip hip hb
    go_wp2
    all_goals
      first
        | (exfalso; revert ‹IntKind.u32.signed = true›; decide)
        | (go_ret; exact ⟨rfl, k2.below⟩)
  · go_enter Tryd.func13, Tryd.ntmps13
    go_wp2_with (go_at_call 37; refine (bounded_any _ _ _).mono ?_; rintro e w1 ⟨rfl, hb1⟩; replace k := k.step hb1; have c0 := k.c0; have c1 := k.c1; clear hb1)
    go_ret
    exact ⟨ret_int (by simp [lastV, hb]), k.below⟩
theorem has_eq {ip b x : Int} (hb : bndV b = true) : decide (baseV x b = baseV ip b) = hasV ip b x := by
  simp only [hasV, baseV, hb, if_true, Bool.true_and]
  exact (has_mask hb).symm
theorem has_any (ip b x : Int) (w : World) (hip : W32 ip) (hx : W32 x) : Calls Tryd.prog 15 #[.agg #[.int .u32 ip, .int .i64 b], .int .u32 x] w fun e w' => e = .returned (.bool (hasV ip b x)) ∧ Below w.heap.size w w' := by
  have k := KB.new w ip b 24
  have hm := and_maskV (b := b) hx
  by_cases hb : bndV b = true
  · have he := has_eq (ip := ip) (x := x) hb
    go_enter Tryd.func15, Tryd.ntmps15
    go_wp2_with fail
    generalize hW : w.alloc (.cells #[.int .u32 ip, .int .i64 b] 24) = W at k ⊢
    generalize hg : w.heap.size = g at k ⊢
    go_region_held3 (fun w' => w'.cell? ⟨g, 0, none⟩ = some (.int .u32 ip) ∧ w'.cell? ⟨g, 1, none⟩ = some (.int .i64 b) ∧ KB w g ip b w')
      (first
        | assumption
        | (exact KB.parts (KB.drew k))
        | (go_split_ands; exact KB.parts (KB.step (by assumption) hb1))
        | (go_split_ands; exact KB.parts (KB.step (by assumption) hb2))
        | (go_split_ands; exact KB.parts (KB.step (by assumption) hb3)))
      (first
        | (go_at_call 37; go_split_ands; refine (bounded_any _ _ _).mono ?_; rintro e w1 ⟨rfl, hb1⟩)
        | (go_at_call 19; go_split_ands; refine (mask_any _ _ _).mono ?_; rintro e w2 ⟨rfl, hb2⟩)
        | (go_at_call 11; go_split_ands; refine (base_any _ _ _ hip).mono ?_; rintro e w3 ⟨rfl, hb3⟩))
    go_split_ands
    have k3 : KB w g ip b w3 := by assumption
    go_wp2
    go_ret
    exact ⟨ret_bool he, k3.below⟩
  · replace hb : bndV b = false := by simpa using hb
    go_enter Tryd.func15, Tryd.ntmps15
    go_wp2_with fail
    refine wp_region_any (by kernel_rfl) ?_
    change wpAny _ _ _ _ _ _ _ (World.drew _)
    refine wpAny_stretch 0 3 9 (by kernel_rfl) (by kernel_rfl) (by kernel_rfl) ?_
    simp only [List.take_succ_cons, List.take_zero, List.drop_zero]
    replace k := k.drew
    go_wp2_with (go_at_call 37; with_reducible refine (bounded_any _ _ _).mono ?_; rintro e w1 ⟨rfl, hb1⟩; replace k := k.step hb1; clear hb1)
    refine wpAny_take (i := 3) (v := undef) rfl (by kernel_rfl) (by kernel_rfl) (by kernel_rfl) (fun _ _ _ h => h) (Or.inr ⟨by rfl, rfl⟩) ?_
    refine wpAny_take (i := 4) (v := undef) rfl (by kernel_rfl) (by kernel_rfl) (by kernel_rfl) (fun _ _ _ h => h) (Or.inr ⟨by rfl, rfl⟩) ?_
    refine wpAny_take (i := 5) (v := undef) rfl (by kernel_rfl) (by kernel_rfl) (by kernel_rfl) (fun _ _ _ h => h) (Or.inr ⟨by rfl, rfl⟩) ?_
    refine wpAny_take (i := 6) (v := undef) rfl (by kernel_rfl) (by kernel_rfl) (by kernel_rfl) (fun _ _ _ h => h) (Or.inr ⟨by rfl, rfl⟩) ?_
    refine wpAny_take (i := 7) (v := undef) rfl (by kernel_rfl) (by kernel_rfl) (by kernel_rfl) (fun _ _ _ h => h) (Or.inr ⟨by rfl, rfl⟩) ?_
    refine wpAny_take (i := 8) (v := undef) rfl (by kernel_rfl) (by kernel_rfl) (by kernel_rfl) (fun _ _ _ h => h) (Or.inr ⟨by rfl, rfl⟩) ?_
    refine wpAny_take (i := 9) (v := undef) rfl (by kernel_rfl) (by kernel_rfl) (by kernel_rfl) (fun _ _ _ h => h) (Or.inr ⟨by rfl, rfl⟩) ?_
    refine wpAny_stretch 10 2 0 (by kernel_rfl) (by kernel_rfl) (by kernel_rfl) ?_
    simp only [List.take_succ_cons, List.take_zero, List.drop_succ_cons, List.drop_zero]
    go_wp2
    refine wpAny_done (by kernel_rfl) ?_ _
    go_wp2
    go_ret
    exact ⟨ret_bool (by simp [hasV, hb]), k.below⟩
/-- What a walk does behind a call that leaves the box as it is. -/
theorem host_any (ip b x : Int) (w : World) (hip : W32 ip) (hx : W32 x) : Calls Tryd.prog 17 #[.agg #[.int .u32 ip, .int .i64 b], .int .u32 x] w fun e w' => e = .returned (.bool (hostV ip b x)) ∧ Below w.heap.size w w' := by
  have k := KB.new w ip b 24
  go_enter Tryd.func17, Tryd.ntmps17
  go_wp2_with (first
    | (go_at_call 15; refine (has_any _ _ _ _ hip hx).mono ?_; rintro e w1 ⟨rfl, hb1⟩; replace k := k.step hb1; have c0 := k.c0; have c1 := k.c1; clear hb1)
    | (go_at_call 11; refine (base_any _ _ _ hip).mono ?_; rintro e w2 ⟨rfl, hb1⟩; replace k := k.step hb1; have c0 := k.c0; have c1 := k.c1; clear hb1)
    | (go_at_call 13; refine (last_any _ _ _ hip).mono ?_; rintro e w3 ⟨rfl, hb1⟩; replace k := k.step hb1; have c0 := k.c0; have c1 := k.c1; clear hb1))
  all_goals
    go_ret
    refine ⟨ret_bool ?_, k.below⟩
    simp only [hostV, *]
    try simp
    try rfl
theorem right_any (ip b : Int) (w : World) (hip : W32 ip) : Calls Tryd.prog 9 #[.agg #[.int .u32 ip, .int .i64 b]] w fun e w' => e = .returned (.bool (rightV ip b)) ∧ Below w.heap.size w w' := by
  have k := KB.new w ip b 24
  go_enter Tryd.func9, Tryd.ntmps9
  go_wp2_with (first
    | (go_at_call 17; refine (host_any _ _ _ _ hip hip).mono ?_; rintro e w1 ⟨rfl, hb1⟩; replace k := k.step hb1; have c0 := k.c0; have c1 := k.c1; clear hb1)
    | (go_at_call 23; refine (single_any _ _).mono ?_; rintro e w1 ⟨rfl, rfl⟩))
  all_goals
    go_ret
    refine ⟨ret_bool ?_, k.below⟩
    simp only [rightV, *]
    try simp
    try rfl

/-- Two boxes. -/
structure KB2 (w : World) (g : Nat) (ip b : Int) (h : Nat) (jp c : Int) (W : World) : Prop where
  x : KB w g ip b W
  y : KB w h jp c W
section
variable {w W V : World} {g h : Nat} {ip b jp c : Int}
theorem KB2.new (w : World) (ip b jp c : Int) (t : TypeId) : KB2 w w.heap.size ip b (w.heap.size + 1) jp c ((w.alloc (.cells #[.int .u32 ip, .int .i64 b] t)).alloc (.cells #[.int .u32 jp, .int .i64 c] t)) := by
  have k := KB.new (w.alloc (.cells #[.int .u32 ip, .int .i64 b] t)) jp c t
  rw [World.size_alloc] at k
  exact ⟨(KB.new w ip b t).alloc _, k.c0, k.c1, k.lt, ((KB.new w ip b t).alloc _).below⟩
theorem KB2.step (k : KB2 w g ip b h jp c W) (hb : Below W.heap.size W V) : KB2 w g ip b h jp c V := ⟨k.x.step hb, k.y.step hb⟩
theorem KB2.drew (k : KB2 w g ip b h jp c W) : KB2 w g ip b h jp c W.drew := ⟨k.x.drew, k.y.drew⟩
theorem KB2.parts (k : KB2 w g ip b h jp c W) : W.cell? ⟨g, 0, none⟩ = some (.int .u32 ip) ∧ W.cell? ⟨g, 1, none⟩ = some (.int .i64 b) ∧ W.cell? ⟨h, 0, none⟩ = some (.int .u32 jp) ∧ W.cell? ⟨h, 1, none⟩ = some (.int .i64 c) ∧ KB2 w g ip b h jp c W := ⟨k.x.c0, k.x.c1, k.y.c0, k.y.c1, k⟩
end
set_option maxHeartbeats 1000000 in
theorem apart_any (ip b jp c : Int) (w : World) (hip : W32 ip) (hjp : W32 jp) : Calls Tryd.prog 21 #[.agg #[.int .u32 ip, .int .i64 b], .agg #[.int .u32 jp, .int .i64 c]] w fun e w' => e = .returned (.bool (apartV ip b jp c)) ∧ Below w.heap.size w w' := by
  have k := KB2.new w ip b jp c 24
  have hbi := base_bd (b := b) hip
  have hbj := base_bd (b := c) hjp
  by_cases h1 : rightV ip b = true
  · by_cases h2 : rightV jp c = true
    · go_enter Tryd.func21, Tryd.ntmps21
      go_wp2_with fail
      with_reducible refine (right_any _ _ _ hip).mono ?_
      rintro e w1 ⟨rfl, hb1⟩
      replace k := k.step hb1
      obtain ⟨c0, c1, d0, d1, -⟩ := k.parts
      clear hb1
      go_wp2_with fail
      with_reducible refine (right_any _ _ _ hjp).mono ?_
      rintro e w2 ⟨rfl, hb1⟩
      replace k := k.step hb1
      clear hb1 c0 c1 d0 d1
      obtain ⟨c0, c1, d0, d1, -⟩ := k.parts
      go_wp2_with fail
      generalize hg : w.heap.size = g at k c0 c1 d0 d1 ⊢
      generalize hh : g + 1 = h at k c0 c1 d0 d1 ⊢
      by_cases h3 : hasV ip b (baseV jp c) = true
      · refine wp_region_held_drew (S := (fun w' => w'.cell? ⟨g, 0, none⟩ = some (.int .u32 ip) ∧ w'.cell? ⟨g, 1, none⟩ = some (.int .i64 b) ∧ w'.cell? ⟨h, 0, none⟩ = some (.int .u32 jp) ∧ w'.cell? ⟨h, 1, none⟩ = some (.int .i64 c) ∧ KB2 w g ip b h jp c w')) (by kernel_rfl) (KB2.parts (KB2.drew k)) (fun hHeld => ?_)
        refine wpAnyH_at (i := 0) (some 13) (v := ?v0) rfl rfl (by kernel_rfl) (by kernel_rfl) (by kernel_rfl) (fun _ _ _ h => h) (Or.inl ⟨by rfl, ?y0⟩) (by assumption) ?r0
        case y0 =>
          intro w9 hSw
          (try dsimp only at hSw)
          go_simp
          all_goals with_reducible rfl
        simp only [Act.put, List.setIfInBounds_toArray, List.set_cons_zero, List.set_cons_succ]
        refine wpAnyH_at (i := 1) (some 14) (v := ?v1) rfl rfl (by kernel_rfl) (by kernel_rfl) (by kernel_rfl) (fun _ _ _ h => h) (Or.inl ⟨by rfl, ?y1⟩) (by assumption) ?r1
        case y1 =>
          intro w9 hSw
          (try dsimp only at hSw)
          go_simp
          all_goals with_reducible rfl
        simp only [Act.put, List.setIfInBounds_toArray, List.set_cons_zero, List.set_cons_succ]
        refine wpAnyH_one (i := 2) (by kernel_rfl) rfl ?_
        go_wp2_with (go_at_call 11; with_reducible refine (base_any _ _ _ hjp).mono ?_; rintro e w3 ⟨rfl, hb1⟩)
        have hH3 := KB2.parts (hHeld.2.2.2.2.step hb1)
        refine ⟨hH3, ?_⟩
        refine wpAnyH_one (i := 3) (by kernel_rfl) rfl ?_
        go_wp2_with (go_at_call 15; with_reducible refine (has_any _ _ _ _ hip hbj).mono ?_; rintro e w4 ⟨rfl, hb2⟩)
        have hH4 := KB2.parts (hH3.2.2.2.2.step hb2)
        refine ⟨hH4, ?_⟩
        refine wpAnyH_at (i := 4) (some 17) (v := ?v4) rfl rfl (by kernel_rfl) (by kernel_rfl) (by kernel_rfl) (fun _ _ _ h => h) (Or.inl ⟨by rfl, ?y4⟩) (by assumption) ?r4
        case y4 =>
          intro w9 hSw
          (try dsimp only at hSw)
          go_simp
          all_goals with_reducible rfl
        simp only [Act.put, List.setIfInBounds_toArray, List.set_cons_zero, List.set_cons_succ]
        refine wpAnyH_at (i := 5) (some 18) (v := ?v5) rfl rfl (by kernel_rfl) (by kernel_rfl) (by kernel_rfl) (fun _ _ _ h => h) (Or.inl ⟨by rfl, ?y5⟩) (by assumption) ?r5
        case y5 =>
          intro w9 hSw
          (try dsimp only at hSw)
          go_simp
          all_goals with_reducible rfl
        simp only [Act.put, List.setIfInBounds_toArray, List.set_cons_zero, List.set_cons_succ]
        refine wpAnyH_at (i := 6) (some 19) (v := undef) rfl rfl (by kernel_rfl) (by kernel_rfl) (by kernel_rfl) (fun _ _ _ h => h) (Or.inr ⟨by rfl, rfl⟩) (by assumption) ?_
        simp only [Act.put, List.setIfInBounds_toArray, List.set_cons_zero, List.set_cons_succ]
        refine wpAnyH_at (i := 7) (some 20) (v := undef) rfl rfl (by kernel_rfl) (by kernel_rfl) (by kernel_rfl) (fun _ _ _ h => h) (Or.inr ⟨by rfl, rfl⟩) (by assumption) ?_
        simp only [Act.put, List.setIfInBounds_toArray, List.set_cons_zero, List.set_cons_succ]
        refine wpAnyH_at (i := 8) (some 21) (v := undef) rfl rfl (by kernel_rfl) (by kernel_rfl) (by kernel_rfl) (fun _ _ _ h => h) (Or.inr ⟨by rfl, rfl⟩) (by assumption) ?_
        simp only [Act.put, List.setIfInBounds_toArray, List.set_cons_zero, List.set_cons_succ]
        refine wpAnyH_at (i := 9) (some 22) (v := undef) rfl rfl (by kernel_rfl) (by kernel_rfl) (by kernel_rfl) (fun _ _ _ h => h) (Or.inr ⟨by rfl, rfl⟩) (by assumption) ?_
        simp only [Act.put, List.setIfInBounds_toArray, List.set_cons_zero, List.set_cons_succ]
        refine wpAnyH_at (i := 10) (some 23) (v := undef) rfl rfl (by kernel_rfl) (by kernel_rfl) (by kernel_rfl) (fun _ _ _ h => h) (Or.inr ⟨by rfl, rfl⟩) (by assumption) ?_
        simp only [Act.put, List.setIfInBounds_toArray, List.set_cons_zero, List.set_cons_succ]
        refine wpAnyH_at (i := 11) (some 24) (v := ?v11) rfl rfl (by kernel_rfl) (by kernel_rfl) (by kernel_rfl) (fun _ _ _ h => h) (Or.inl ⟨by rfl, ?y11⟩) (by assumption) ?r11
        case y11 =>
          intro w9 hSw
          (try dsimp only at hSw)
          go_simp
          all_goals with_reducible rfl
        simp only [Act.put, List.setIfInBounds_toArray, List.set_cons_zero, List.set_cons_succ]
        refine wpAnyH_at (i := 12) (some 4) (v := ?v12) rfl rfl (by kernel_rfl) (by kernel_rfl) (by kernel_rfl) (fun _ _ _ h => h) (Or.inl ⟨by rfl, ?y12⟩) (by assumption) ?r12
        case y12 =>
          intro w9 hSw
          (try dsimp only at hSw)
          go_simp
          all_goals with_reducible rfl
        simp only [Act.put, List.setIfInBounds_toArray, List.set_cons_zero, List.set_cons_succ]
        refine wpAnyH_done (by kernel_rfl) ?_ _
        go_wp2
        go_ret
        have hbe := hH4.2.2.2.2.x.below
        subst hg
        refine ⟨ret_bool ?_, hbe⟩
        simp [apartV, h1, h2, h3]
      · go_region_held3 (fun w' => w'.cell? ⟨g, 0, none⟩ = some (.int .u32 ip) ∧ w'.cell? ⟨g, 1, none⟩ = some (.int .i64 b) ∧ w'.cell? ⟨h, 0, none⟩ = some (.int .u32 jp) ∧ w'.cell? ⟨h, 1, none⟩ = some (.int .i64 c) ∧ KB2 w g ip b h jp c w')
          (first
            | assumption
            | (exact KB2.parts (KB2.drew k))
            | (go_split_ands; exact KB2.parts (KB2.step (by assumption) hb1))
            | (go_split_ands; exact KB2.parts (KB2.step (by assumption) hb2)))
          (first
            | (go_at_call 11; go_split_ands; with_reducible refine (base_any _ _ _ (by first | exact hip | exact hjp)).mono ?_; rintro e w3 ⟨rfl, hb1⟩)
            | (go_at_call 15; go_split_ands; with_reducible refine (has_any _ _ _ _ (by first | exact hip | exact hjp) (by first | exact hbi | exact hbj)).mono ?_; rintro e w4 ⟨rfl, hb2⟩))
        all_goals
          go_split_ands
          have k4 : KB2 w g ip b h jp c w4 := by assumption
          go_wp2
          go_ret
          have hbe := k4.x.below
          subst hg
          refine ⟨ret_bool ?_, hbe⟩
          simp [apartV, h1, h2, h3]
    · go_enter Tryd.func21, Tryd.ntmps21
      go_wp2_with fail
      with_reducible refine (right_any _ _ _ hip).mono ?_
      rintro e w1 ⟨rfl, hb1⟩
      replace k := k.step hb1
      obtain ⟨c0, c1, d0, d1, -⟩ := k.parts
      clear hb1
      go_wp2_with fail
      with_reducible refine (right_any _ _ _ hjp).mono ?_
      rintro e w2 ⟨rfl, hb1⟩
      replace k := k.step hb1
      clear hb1 c0 c1 d0 d1
      go_wp2
      go_ret
      exact ⟨ret_bool (by simp [apartV, h2]), k.x.below⟩
  · go_enter Tryd.func21, Tryd.ntmps21
    go_wp2_with fail
    with_reducible refine (right_any _ _ _ hip).mono ?_
    rintro e w1 ⟨rfl, hb1⟩
    replace k := k.step hb1
    go_wp2
    go_ret
    exact ⟨ret_bool (by simp [apartV, h1]), k.x.below⟩
end Go.Proofs.YtemhahfodblehaaDoor
