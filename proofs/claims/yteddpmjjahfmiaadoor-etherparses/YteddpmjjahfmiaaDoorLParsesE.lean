/-
  The law EtherParses, where Parse answers an error.
-/
import Derived.Test.YteddpmjjahfmiaaDoorPKnow
namespace Go.Proofs.YteddpmjjahfmiaaDoor
open Go.RowKit
set_option linter.unusedVariables false

set_option maxRecDepth 100000 in
set_option maxHeartbeats 8000000 in
theorem parses_err (A : Option Addr) (n c : Nat) (xs : List Int) (m : Mac6) (e : Int) (w : World) (hg : Laid w) (hr : Rd .u8 w w.heap.size A n c xs) (hn : n ≤ 3000) (he : ¬ e = 0)
    (cp : ∀ (W : World) (A' : Option Addr) (c' : Nat), Rd .u8 W W.heap.size A' n c' xs → Calls Tryd.prog 9 #[.slice A' n c'] W fun ev w' => ev = .returned (.tuple #[frV az az 0 none 0 0, errV e]) ∧ Below W.heap.size W w')
    (cr : ∀ (W : World), Rd .u8 W W.heap.size A n c xs → Calls Tryd.prog 10 #[.slice A n c] W (GivesRE W (frV az az 0 none 0 0) e)) :
    Calls Tryd.prog 3 #[.slice A n c, m.v] w fun ev w' => ev = .returned (.bool true) ∧ Below w.heap.size w w' := by
  have mc0 := McAt.new w 24 m
  have kn0 := (Kn.start hg).alloc (.cells #[.int .u8 m.a, .int .u8 m.b, .int .u8 m.c, .int .u8 m.d, .int .u8 m.e, .int .u8 m.f] 24)
  have rd0 : Rd .u8 (w.alloc (.cells #[.int .u8 m.a, .int .u8 m.b, .int .u8 m.c, .int .u8 m.d, .int .u8 m.e, .int .u8 m.f] 24)) w.heap.size A n c xs := hr.below (alloc_below _ _) (Nat.le_refl _)
  have sz0 : w.heap.size + 1 ≤ (w.alloc (.cells #[.int .u8 m.a, .int .u8 m.b, .int .u8 m.c, .int .u8 m.d, .int .u8 m.e, .int .u8 m.f] 24)).heap.size := by simp
  have hcap := hr.cap
  have hmax := hr.max
  have q1 := eql24
  have HL := Lib.hid hr.len
  clear hg hr
  go_enter Tryd.func3, Tryd.ntmps3
  go_wp2_with fail
  refine (alive_any _ kn0.laid).mono ?_
  rintro ev w1 ⟨rfl, hb⟩
  replace mc0 := mc0.step hb
  replace kn0 := kn0.step hb
  replace rd0 := rd0.below hb (by omega)
  replace sz0 := Nat.le_trans sz0 hb.size
  clear hb
  go_wp2_with fail
  refine (own_any A n c w.heap.size xs _ rd0 (by omega) (by omega)).mono ?_
  rintro ev w2 ⟨A', n', c', rfl, ho, hb⟩
  obtain rfl : n = n' := by rw [← ho.len]; exact HL.out.symm
  have kp : KP w A n c A' c' xs w2 := ⟨rd0.below hb (by omega), ho.rebase (by omega), Nat.le_trans sz0 hb.size⟩
  replace mc0 := mc0.step hb
  replace kn0 := kn0.step hb
  clear hb ho rd0 sz0
  go_wp2_with fail
  refine (cp _ A' c' (kp.own.rd)).mono ?_
  rintro ev w3 ⟨rfl, hb⟩
  replace mc0 := mc0.step hb
  replace kn0 := kn0.step hb
  replace kp := kp.step hb
  clear hb
  replace mc0 := mc0.step (alloc_below w3 (.cells (frC az az 0 none 0 0) 29))
  replace kn0 := kn0.alloc (.cells (frC az az 0 none 0 0) 29)
  replace kp := kp.step (alloc_below w3 (.cells (frC az az 0 none 0 0) 29))
  have fx := FrAt.new w3 29 az az 0 none 0 0
  go_wp2_with fail
  refine (cr _ (kp.rd.more (by have := kp.sz; omega))).mono ?_
  rintro ev w4 ⟨Ah, nh, ch, rfl, r3, hb⟩
  have k8 : K8 w m az az 0 none 0 0 none 0 0 Ah nh ch e w3.heap.size w4.heap.size (w4.heap.size + 1) [] [1] ((w4.alloc (.cells (frC az az 0 none 0 0) 35)).alloc (.cells (flC Ah nh ch e) 39)) := by
    have b2 : Below w4.heap.size w4 ((w4.alloc (.cells (frC az az 0 none 0 0) 35)).alloc (.cells (flC Ah nh ch e) 39)) := (alloc_below w4 _).alloc (by simp) _
    exact ⟨(fx.step hb).step b2, (FrAt.new w4 35 az az 0 none 0 0).step (alloc_below _ _), by simpa using heap_alloc_new (w4.alloc (.cells (frC az az 0 none 0 0) 35)) (.cells (flC Ah nh ch e) 39), (mc0.step hb).step b2, Rd.nil, Rd.nil, (r3.below b2 (Nat.le_refl _)).more b2.size, (kn0.step hb).step b2⟩
  replace kp := (kp.step hb).step ((alloc_below w4 (.cells (frC az az 0 none 0 0) 35)).alloc (by simp) (.cells (flC Ah nh ch e) 39))
  clear hb fx mc0 kn0 r3
  go_wp2_with fail
  generalize w3.heap.size = gf at *
  replace k8 := k8.step (below_drew _)
  replace kp := kp.step (below_drew _)
  go_cut [56] from 30 to 56 (fun x wc => x = .bool false ∧ K8 w m az az 0 none 0 0 none 0 0 Ah nh ch e gf w4.heap.size (w4.heap.size + 1) [] [1] wc ∧ KP w A n c A' c' xs wc)
  case first =>
    refine wp_region_held_drew (S := fun w' => K8 w m az az 0 none 0 0 none 0 0 Ah nh ch e gf w4.heap.size (w4.heap.size + 1) [] [1] w' ∧ KP w A n c A' c' xs w') (by kernel_rfl) ⟨k8, kp⟩ (fun hHeld => ?_)
    change wpAnyH _ _ _ _ _ _ _ _ ((w4.alloc (.cells (frC az az 0 none 0 0) 35)).alloc (.cells (flC Ah nh ch e) 39)).drew
    clear hHeld
    generalize ((w4.alloc (.cells (frC az az 0 none 0 0) 35)).alloc (.cells (flC Ah nh ch e) 39)).drew = W5 at *
    generalize w4.heap.size = gg at *
    have hHeld := And.intro k8 kp
    refine wpAnyH_at (i := 0) (some 30) (v := ?v0z1) rfl rfl (by kernel_rfl) (by kernel_rfl) (by kernel_rfl) (fun _ _ _ h => h) (Or.inl ⟨by rfl, ?y0z1⟩) (by assumption) ?r0z1
    case y0z1 =>
      intro w9 hSw
      clear hSw
      go_simp
      all_goals with_reducible rfl
    simp only [Act.put, List.setIfInBounds_toArray, List.set_cons_zero, List.set_cons_succ]
    refine wpAnyH_at (i := 1) (some 31) (v := ?v1z2) rfl rfl (by kernel_rfl) (by kernel_rfl) (by kernel_rfl) (fun _ _ _ h => h) (Or.inl ⟨by rfl, ?y1z2⟩) (by assumption) ?r1z2
    case y1z2 =>
      intro w9 hSw
      (obtain ⟨h0, h1⟩ := hSw.1.fault); clear hSw
      go_simp
      all_goals with_reducible rfl
    simp only [Act.put, List.setIfInBounds_toArray, List.set_cons_zero, List.set_cons_succ]
    refine wpAnyH_one (i := 2) (by kernel_rfl) rfl ?_
    go_wp2_with (go_at_call 11; refine (is_err Ah nh ch e _ k8.kn.laid k8.r3 he).mono ?_; rintro ev y1 ⟨rfl, hb⟩)
    replace k8 := k8.step hb
    replace kp := kp.step hb
    clear hb
    replace hHeld := And.intro k8 kp
    refine ⟨hHeld, ?_⟩
    refine wpAnyH_at (i := 3) (some 33) (v := ?v3z3) rfl rfl (by kernel_rfl) (by kernel_rfl) (by kernel_rfl) (fun _ _ _ h => h) (Or.inl ⟨by rfl, ?y3z3⟩) (by assumption) ?r3z3
    case y3z3 =>
      intro w9 hSw
      clear hSw
      go_simp
      all_goals with_reducible rfl
    simp only [Act.put, List.setIfInBounds_toArray, List.set_cons_zero, List.set_cons_succ]
    refine wpAnyH_at (i := 4) (some 34) (v := ?v4z4) rfl rfl (by kernel_rfl) (by kernel_rfl) (by kernel_rfl) (fun _ _ _ h => h) (Or.inl ⟨by rfl, ?y4z4⟩) (by assumption) ?r4z4
    case y4z4 =>
      intro w9 hSw
      clear hSw
      go_simp
      all_goals with_reducible rfl
    simp only [Act.put, List.setIfInBounds_toArray, List.set_cons_zero, List.set_cons_succ]
    refine wpAnyH_at (i := 5) (some 35) (v := ?v5z5) rfl rfl (by kernel_rfl) (by kernel_rfl) (by kernel_rfl) (fun _ _ _ h => h) (Or.inl ⟨by rfl, ?y5z5⟩) (by assumption) ?r5z5
    case y5z5 =>
      intro w9 hSw
      (obtain ⟨a0, a1, a2, a3, a4, a5, a6, a7, a8, a9, a10, a11, a12, a13⟩ := hSw.1.fx.cells); clear hSw
      go_simp
      all_goals with_reducible rfl
    simp only [Act.put, List.setIfInBounds_toArray, List.set_cons_zero, List.set_cons_succ]
    refine wpAnyH_at (i := 7) (some 37) (v := ?v7z6) rfl rfl (by kernel_rfl) (by kernel_rfl) (by kernel_rfl) (fun _ _ _ h => h) (Or.inl ⟨by rfl, ?y7z6⟩) (by assumption) ?r7z6
    case y7z6 =>
      intro w9 hSw
      (obtain ⟨a0, a1, a2, a3, a4, a5, a6, a7, a8, a9, a10, a11, a12, a13⟩ := hSw.1.gx.cells); clear hSw
      go_simp
      all_goals with_reducible rfl
    simp only [Act.put, List.setIfInBounds_toArray, List.set_cons_zero, List.set_cons_succ]
    refine wpAnyH_one (i := 6) (by kernel_rfl) rfl ?_
    go_wp2_with (go_at_call 13; refine (of_frame (az) (az) (0) (none) (0) (0) ([]) _ k8.r1 (by omega)).mono ?_; rintro ev y2 ⟨Ao, no, co, rfl, ho, hb⟩)
    replace k8 := k8.step hb
    replace kp := kp.step hb
    clear hb
    replace hHeld := And.intro k8 kp
    refine ⟨hHeld, ?_⟩
    refine wpAnyH_one (i := 8) (by kernel_rfl) rfl ?_
    go_wp2_with (go_at_call 12; refine (refSame_self (az) (az) (0) Ao no co (none) (0) (0) ([]) _ ho.rd k8.r2).mono ?_; rintro ev y3 ⟨rfl, hb⟩)
    replace k8 := k8.step hb
    replace kp := kp.step hb
    clear hb
    replace hHeld := And.intro k8 kp
    refine ⟨hHeld, ?_⟩
    clear ho
    refine wpAnyH_at (i := 9) (some 39) (v := ?v9z7) rfl rfl (by kernel_rfl) (by kernel_rfl) (by kernel_rfl) (fun _ _ _ h => h) (Or.inl ⟨by rfl, ?y9z7⟩) (by assumption) ?r9z7
    case y9z7 =>
      intro w9 hSw
      clear hSw
      go_simp
      all_goals with_reducible rfl
    simp only [Act.put, List.setIfInBounds_toArray, List.set_cons_zero, List.set_cons_succ]
    refine wpAnyH_at (i := 10) (some 40) (v := ?v10z8) rfl rfl (by kernel_rfl) (by kernel_rfl) (by kernel_rfl) (fun _ _ _ h => h) (Or.inl ⟨by rfl, ?y10z8⟩) (by assumption) ?r10z8
    case y10z8 =>
      intro w9 hSw
      clear hSw
      go_simp
      all_goals with_reducible rfl
    simp only [Act.put, List.setIfInBounds_toArray, List.set_cons_zero, List.set_cons_succ]
    refine wpAnyH_at (i := 11) (some 41) (v := ?v11z9) rfl rfl (by kernel_rfl) (by kernel_rfl) (by kernel_rfl) (fun _ _ _ h => h) (Or.inl ⟨by rfl, ?y11z9⟩) (by assumption) ?r11z9
    case y11z9 =>
      intro w9 hSw
      clear hSw
      go_simp
      all_goals with_reducible rfl
    simp only [Act.put, List.setIfInBounds_toArray, List.set_cons_zero, List.set_cons_succ]
    refine wpAnyH_at (i := 12) (some 42) (v := ?v12z10) rfl rfl (by kernel_rfl) (by kernel_rfl) (by kernel_rfl) (fun _ _ _ h => h) (Or.inl ⟨by rfl, ?y12z10⟩) (by assumption) ?r12z10
    case y12z10 =>
      intro w9 hSw
      (obtain ⟨a0, a1, a2, a3, a4, a5, a6, a7, a8, a9, a10, a11, a12, a13⟩ := hSw.1.fx.cells); clear hSw
      go_simp
      all_goals with_reducible rfl
    simp only [Act.put, List.setIfInBounds_toArray, List.set_cons_zero, List.set_cons_succ]
    refine wpAnyH_at (i := 13) (some 43) (v := ?v13z11) rfl rfl (by kernel_rfl) (by kernel_rfl) (by kernel_rfl) (fun _ _ _ h => h) (Or.inl ⟨by rfl, ?y13z11⟩) (by assumption) ?r13z11
    case y13z11 =>
      intro w9 hSw
      (obtain ⟨b0, b1, b2, b3, b4, b5⟩ := hSw.1.mc.cells); clear hSw
      go_simp
      all_goals with_reducible rfl
    simp only [Act.put, List.setIfInBounds_toArray, List.set_cons_zero, List.set_cons_succ]
    refine wpAnyH_at (i := 15) (some 45) (v := ?v15z12) rfl rfl (by kernel_rfl) (by kernel_rfl) (by kernel_rfl) (fun _ _ _ h => h) (Or.inl ⟨by rfl, ?y15z12⟩) (by assumption) ?r15z12
    case y15z12 =>
      intro w9 hSw
      clear hSw
      go_simp
      all_goals with_reducible rfl
    simp only [Act.put, List.setIfInBounds_toArray, List.set_cons_zero, List.set_cons_succ]
    refine wpAnyH_at (i := 16) (some 46) (v := ?v16z13) rfl rfl (by kernel_rfl) (by kernel_rfl) (by kernel_rfl) (fun _ _ _ h => h) (Or.inl ⟨by rfl, ?y16z13⟩) (by assumption) ?r16z13
    case y16z13 =>
      intro w9 hSw
      (obtain ⟨a0, a1, a2, a3, a4, a5, a6, a7, a8, a9, a10, a11, a12, a13⟩ := hSw.1.fx.cells); clear hSw
      go_simp
      all_goals with_reducible rfl
    simp only [Act.put, List.setIfInBounds_toArray, List.set_cons_zero, List.set_cons_succ]
    refine wpAnyH_at (i := 17) (some 47) (v := ?v17z14) rfl rfl (by kernel_rfl) (by kernel_rfl) (by kernel_rfl) (fun _ _ _ h => h) (Or.inl ⟨by rfl, ?y17z14⟩) (by assumption) ?r17z14
    case y17z14 =>
      intro w9 hSw
      (obtain ⟨b0, b1, b2, b3, b4, b5⟩ := hSw.1.mc.cells); clear hSw
      go_simp
      all_goals with_reducible rfl
    simp only [Act.put, List.setIfInBounds_toArray, List.set_cons_zero, List.set_cons_succ]
    by_cases hm : mEq (az) m = true
    · have hb1 : mB 0 0 0 0 0 0 m.a m.b m.c m.d m.e m.f = true := hm
      have hv := forV_eq hm
      refine wpAnyH_at (i := 18) (some 48) (v := ?v18z15) rfl rfl (by kernel_rfl) (by kernel_rfl) (by kernel_rfl) (fun _ _ _ h => h) (Or.inl ⟨by rfl, ?y18z15⟩) (by assumption) ?r18z15
      case y18z15 =>
        intro w9 hSw
        clear hSw
        go_simp
        all_goals with_reducible rfl
      simp only [Act.put, List.setIfInBounds_toArray, List.set_cons_zero, List.set_cons_succ]
      refine wpAnyH_one (i := 14) (by kernel_rfl) rfl ?_
      go_wp2_with (go_at_call 14; refine (for_any az az 0 none 0 0 m _).mono ?_; rintro ev y4 ⟨rfl, hb⟩)
      replace k8 := k8.step hb
      replace kp := kp.step hb
      clear hb
      replace hHeld := And.intro k8 kp
      refine ⟨hHeld, ?_⟩
      refine wpAnyH_at (i := 19) (some 49) (v := ?v19z16) rfl rfl (by kernel_rfl) (by kernel_rfl) (by kernel_rfl) (fun _ _ _ h => h) (Or.inl ⟨by rfl, ?y19z16⟩) (by assumption) ?r19z16
      case y19z16 =>
        intro w9 hSw
        clear hSw
        go_simp
        all_goals with_reducible rfl
      simp only [Act.put, List.setIfInBounds_toArray, List.set_cons_zero, List.set_cons_succ]
      refine wpAnyH_at (i := 20) (some 50) (v := undef) rfl rfl (by kernel_rfl) (by kernel_rfl) (by kernel_rfl) (fun _ _ _ h => h) (Or.inr ⟨by rfl, rfl⟩) (by assumption) ?_
      simp only [Act.put, List.setIfInBounds_toArray, List.set_cons_zero, List.set_cons_succ]
      refine wpAnyH_at (i := 21) (some 51) (v := undef) rfl rfl (by kernel_rfl) (by kernel_rfl) (by kernel_rfl) (fun _ _ _ h => h) (Or.inr ⟨by rfl, rfl⟩) (by assumption) ?_
      simp only [Act.put, List.setIfInBounds_toArray, List.set_cons_zero, List.set_cons_succ]
      refine wpAnyH_at (i := 22) (some 52) (v := undef) rfl rfl (by kernel_rfl) (by kernel_rfl) (by kernel_rfl) (fun _ _ _ h => h) (Or.inr ⟨by rfl, rfl⟩) (by assumption) ?_
      simp only [Act.put, List.setIfInBounds_toArray, List.set_cons_zero, List.set_cons_succ]
      refine wpAnyH_at (i := 23) (some 53) (v := undef) rfl rfl (by kernel_rfl) (by kernel_rfl) (by kernel_rfl) (fun _ _ _ h => h) (Or.inr ⟨by rfl, rfl⟩) (by assumption) ?_
      simp only [Act.put, List.setIfInBounds_toArray, List.set_cons_zero, List.set_cons_succ]
      refine wpAnyH_at (i := 24) (some 54) (v := ?v24z23) rfl rfl (by kernel_rfl) (by kernel_rfl) (by kernel_rfl) (fun _ _ _ h => h) (Or.inl ⟨by rfl, ?y24z23⟩) (by assumption) ?r24z23
      case y24z23 =>
        intro w9 hSw
        clear hSw
        go_simp
        all_goals with_reducible rfl
      simp only [Act.put, List.setIfInBounds_toArray, List.set_cons_zero, List.set_cons_succ]
      refine wpAnyH_at (i := 25) (some 55) (v := ?v25z24) rfl rfl (by kernel_rfl) (by kernel_rfl) (by kernel_rfl) (fun _ _ _ h => h) (Or.inl ⟨by rfl, ?y25z24⟩) (by assumption) ?r25z24
      case y25z24 =>
        intro w9 hSw
        clear hSw
        go_simp
        all_goals with_reducible rfl
      simp only [Act.put, List.setIfInBounds_toArray, List.set_cons_zero, List.set_cons_succ]
      refine wpAnyH_at (i := 26) (some 56) (v := ?v26z25) rfl rfl (by kernel_rfl) (by kernel_rfl) (by kernel_rfl) (fun _ _ _ h => h) (Or.inl ⟨by rfl, ?y26z25⟩) (by assumption) ?r26z25
      case y26z25 =>
        intro w9 hSw
        clear hSw
        go_simp
        all_goals with_reducible rfl
      simp only [Act.put, List.setIfInBounds_toArray, List.set_cons_zero, List.set_cons_succ]
      refine wpAnyH_done (by kernel_rfl) ?_ _
      go_wp2_with fail
      go_meet
      case rel => exact ⟨rfl, k8, kp⟩
    · have hm : mEq (az) m = false := by simpa using hm
      have hb1 : mB 0 0 0 0 0 0 m.a m.b m.c m.d m.e m.f = false := hm
      have hv := forV_ne hm
      have hv2 : mEq (az) all6 = mB 0 0 0 0 0 0 255 255 255 255 255 255 := rfl
      rw [hv2] at hv
      refine wpAnyH_at (i := 18) (some 48) (v := ?v18z17) rfl rfl (by kernel_rfl) (by kernel_rfl) (by kernel_rfl) (fun _ _ _ h => h) (Or.inl ⟨by rfl, ?y18z17⟩) (by assumption) ?r18z17
      case y18z17 =>
        intro w9 hSw
        clear hSw
        go_simp
        all_goals with_reducible rfl
      simp only [Act.put, List.setIfInBounds_toArray, List.set_cons_zero, List.set_cons_succ]
      refine wpAnyH_one (i := 14) (by kernel_rfl) rfl ?_
      go_wp2_with (go_at_call 14; refine (for_any az az 0 none 0 0 m _).mono ?_; rintro ev y5 ⟨rfl, hb⟩)
      replace k8 := k8.step hb
      replace kp := kp.step hb
      clear hb
      replace hHeld := And.intro k8 kp
      refine ⟨hHeld, ?_⟩
      refine wpAnyH_at (i := 19) (some 49) (v := ?v19z18) rfl rfl (by kernel_rfl) (by kernel_rfl) (by kernel_rfl) (fun _ _ _ h => h) (Or.inl ⟨by rfl, ?y19z18⟩) (by assumption) ?r19z18
      case y19z18 =>
        intro w9 hSw
        clear hSw
        go_simp
        all_goals with_reducible rfl
      simp only [Act.put, List.setIfInBounds_toArray, List.set_cons_zero, List.set_cons_succ]
      refine wpAnyH_at (i := 20) (some 50) (v := ?v20z19) rfl rfl (by kernel_rfl) (by kernel_rfl) (by kernel_rfl) (fun _ _ _ h => h) (Or.inl ⟨by rfl, ?y20z19⟩) (by assumption) ?r20z19
      case y20z19 =>
        intro w9 hSw
        clear hSw
        go_simp
        all_goals with_reducible rfl
      simp only [Act.put, List.setIfInBounds_toArray, List.set_cons_zero, List.set_cons_succ]
      refine wpAnyH_at (i := 21) (some 51) (v := ?v21z20) rfl rfl (by kernel_rfl) (by kernel_rfl) (by kernel_rfl) (fun _ _ _ h => h) (Or.inl ⟨by rfl, ?y21z20⟩) (by assumption) ?r21z20
      case y21z20 =>
        intro w9 hSw
        (obtain ⟨a0, a1, a2, a3, a4, a5, a6, a7, a8, a9, a10, a11, a12, a13⟩ := hSw.1.fx.cells); clear hSw
        go_simp
        all_goals with_reducible rfl
      simp only [Act.put, List.setIfInBounds_toArray, List.set_cons_zero, List.set_cons_succ]
      refine wpAnyH_at (i := 22) (some 52) (v := ?v22z21) rfl rfl (by kernel_rfl) (by kernel_rfl) (by kernel_rfl) (fun _ _ _ h => h) (Or.inl ⟨by rfl, ?y22z21⟩) (by assumption) ?r22z21
      case y22z21 =>
        intro w9 hSw
        clear hSw
        go_simp
        all_goals with_reducible rfl
      simp only [Act.put, List.setIfInBounds_toArray, List.set_cons_zero, List.set_cons_succ]
      refine wpAnyH_at (i := 23) (some 53) (v := ?v23z22) rfl rfl (by kernel_rfl) (by kernel_rfl) (by kernel_rfl) (fun _ _ _ h => h) (Or.inl ⟨by rfl, ?y23z22⟩) (by assumption) ?r23z22
      case y23z22 =>
        intro w9 hSw
        clear hSw
        go_simp
        all_goals with_reducible rfl
      simp only [Act.put, List.setIfInBounds_toArray, List.set_cons_zero, List.set_cons_succ]
      refine wpAnyH_at (i := 24) (some 54) (v := ?v24z26) rfl rfl (by kernel_rfl) (by kernel_rfl) (by kernel_rfl) (fun _ _ _ h => h) (Or.inl ⟨by rfl, ?y24z26⟩) (by assumption) ?r24z26
      case y24z26 =>
        intro w9 hSw
        clear hSw
        go_simp
        all_goals with_reducible rfl
      simp only [Act.put, List.setIfInBounds_toArray, List.set_cons_zero, List.set_cons_succ]
      refine wpAnyH_at (i := 25) (some 55) (v := ?v25z27) rfl rfl (by kernel_rfl) (by kernel_rfl) (by kernel_rfl) (fun _ _ _ h => h) (Or.inl ⟨by rfl, ?y25z27⟩) (by assumption) ?r25z27
      case y25z27 =>
        intro w9 hSw
        clear hSw
        go_simp
        all_goals with_reducible rfl
      simp only [Act.put, List.setIfInBounds_toArray, List.set_cons_zero, List.set_cons_succ]
      refine wpAnyH_at (i := 26) (some 56) (v := ?v26z28) rfl rfl (by kernel_rfl) (by kernel_rfl) (by kernel_rfl) (fun _ _ _ h => h) (Or.inl ⟨by rfl, ?y26z28⟩) (by assumption) ?r26z28
      case y26z28 =>
        intro w9 hSw
        clear hSw
        go_simp
        all_goals with_reducible rfl
      simp only [Act.put, List.setIfInBounds_toArray, List.set_cons_zero, List.set_cons_succ]
      refine wpAnyH_done (by kernel_rfl) ?_ _
      go_wp2_with fail
      go_meet
      case rel => exact ⟨rfl, k8, kp⟩
  case rest =>
    obtain ⟨rfl, k8, kp⟩ := hcut
    obtain ⟨a0, a1, a2, a3, a4, a5, a6, a7, a8, a9, a10, a11, a12, a13⟩ := k8.fx.cells
    go_wp2_with fail
    refine wp_loop_rounds 1 ?_
    rw [rounds_succ]
    go_wp2_with fail
    refine (same_any _ _ _ _ _ _ xs _ _ _ kp.own.rd kp.rd).mono ?_
    rintro ev w6 ⟨rfl, hb⟩
    replace k8 := k8.step hb
    go_wp2
    go_ret
    exact ⟨rfl, k8.kn.below⟩
theorem parses_far (A : Option Addr) (n c : Nat) (xs : List Int) (m : Mac6) (w : World) (hg : Laid w) (hr : Rd .u8 w w.heap.size A n c xs) (hn : 3000 < n) :
    Calls Tryd.prog 3 #[.slice A n c, m.v] w fun ev w' => ev = .returned (.bool true) ∧ Below w.heap.size w w' := by
  have mc0 := McAt.new w 24 m
  have kn0 := (Kn.start hg).alloc (.cells #[.int .u8 m.a, .int .u8 m.b, .int .u8 m.c, .int .u8 m.d, .int .u8 m.e, .int .u8 m.f] 24)
  have rd0 : Rd .u8 (w.alloc (.cells #[.int .u8 m.a, .int .u8 m.b, .int .u8 m.c, .int .u8 m.d, .int .u8 m.e, .int .u8 m.f] 24)) w.heap.size A n c xs := hr.below (alloc_below _ _) (Nat.le_refl _)
  have sz0 : w.heap.size + 1 ≤ (w.alloc (.cells #[.int .u8 m.a, .int .u8 m.b, .int .u8 m.c, .int .u8 m.d, .int .u8 m.e, .int .u8 m.f] 24)).heap.size := by simp
  have hcap := hr.cap
  have hmax := hr.max
  have q1 := eql24
  have HL := Lib.hid hr.len
  clear hg hr
  go_enter Tryd.func3, Tryd.ntmps3
  go_wp2_with fail
  refine (alive_any _ kn0.laid).mono ?_
  rintro ev w1 ⟨rfl, hb⟩
  replace mc0 := mc0.step hb
  replace kn0 := kn0.step hb
  replace rd0 := rd0.below hb (by omega)
  replace sz0 := Nat.le_trans sz0 hb.size
  clear hb
  go_wp2
  go_ret
  exact ⟨rfl, kn0.below⟩
end Go.Proofs.YteddpmjjahfmiaaDoor
