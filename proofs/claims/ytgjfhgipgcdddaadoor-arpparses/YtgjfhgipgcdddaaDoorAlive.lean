/-
  alive answers true.
-/
import Derived.Test.YtgjfhgipgcdddaaDoorRParse
import Derived.Test.YtgjfhgipgcdddaaDoorIsL
namespace Go.Proofs.YtgjfhgipgcdddaaDoor
open Go.RowKit

@[reducible] def am6 : Mac6 := ⟨2, 0, 0, 0, 0, 0⟩
@[reducible] def bm6 : Mac6 := ⟨4, 0, 0, 0, 0, 0⟩
def aB : List Int := [0, 1, 8, 0, 6, 4, 0, 1, 2, 0, 0, 0, 0, 0, 10, 0, 0, 1, 0, 0, 0, 0, 0, 0, 10, 0, 0, 2]
theorem aB_wf : ∀ x ∈ aB, (Lit.int .u8 x).wf = true := by decide
theorem aB_eq : pkB 1 am6 167772161 zero6 167772162 = aB := by decide
theorem aB_good : pE aB = (0, 0) := by decide
theorem aB_op : opOf aB = 1 := by decide
theorem aB_ip : num4 (aB.drop 14) = 167772161 := by decide
theorem aB_ti : num4 (aB.drop 24) = 167772162 := by decide
theorem aZ_bad : pE (List.replicate 28 0) = (16, 14) := by decide
theorem aBytes (W : World) : Calls Tryd.prog 14 #[pkV 1 am6 167772161 zero6 167772162] W (GivesRow W aB 28) := by
  rw [← aB_eq]
  exact bytes_any 1 am6 167772161 zero6 167772162 W (by unfold Mac6.ok; decide) (by decide) (by unfold Mac6.ok; decide) (by decide)
theorem aParse {W : World} {g : Nat} (h : Row W g aB) : Calls Tryd.prog 9 #[.slice (some ⟨g, 0, none⟩) 28 28] W fun ev w' => ev = .returned (.tuple #[pkV 1 am6 167772161 zero6 167772162, .nilIface]) ∧ Below W.heap.size W w' := by
  refine (parse_any _ 28 28 aB W (h.rdAll rfl (by omega) aB_wf)).mono ?_
  rintro ev w' ⟨hb, ⟨h1, _⟩ | ⟨_, rfl⟩⟩
  · rw [aB_good] at h1
    exact absurd rfl h1
  · refine ⟨?_, hb⟩
    rw [pkOf, aB_op, aB_ip, aB_ti]
    rfl
theorem aZero {W : World} {g : Nat} (h : Row W g (List.replicate 28 0)) : Calls Tryd.prog 9 #[.slice (some ⟨g, 0, none⟩) 28 28] W fun ev w' => ev = .returned (.tuple #[zeroP, errV 16 14]) ∧ Below W.heap.size W w' := by
  refine (parse_any _ 28 28 (List.replicate 28 0) W (h.rdAll rfl (by omega) (by decide))).mono ?_
  rintro ev w' ⟨hb, ⟨_, rfl⟩ | ⟨h1, _⟩⟩
  · rw [aZ_bad]
    exact ⟨rfl, hb⟩
  · rw [aZ_bad] at h1
    exact absurd h1 (by decide)
/-- What alive's walk knows. -/
structure KA (w : World) (gp gq : Nat) (W : World) : Prop where
  kn : Kn w W
  p : PkAt W gp 29 1 am6 167772161 zero6 167772162
  q : PkAt W gq 29 1 am6 167772161 zero6 167772162
theorem KA.step {w W V : World} {gp gq : Nat} (h : KA w gp gq W) (hb : Below W.heap.size W V) : KA w gp gq V := ⟨h.kn.step hb, h.p.step hb, h.q.step hb⟩
theorem KA.only {w W V : World} {gp gq g4 : Nat} (h : KA w gp gq W) (hl : Laid w) (hz : w.heap.size ≤ g4) (fz : PkAt W g4 29 0 zero6 0 zero6 0) (ho : Only g4 W V) : KA w gp gq V := by
  have hb : Below w.heap.size w V := h.kn.below.trans (ho.below.mono hz)
  have hne : ∀ g, PkAt W g 29 1 am6 167772161 zero6 167772162 → g ≠ g4 := by
    rintro g h1 rfl
    have h2 := h1.cells.1
    rw [fz.cells.1] at h2
    simp at h2
  exact ⟨⟨hl.below hb, hb⟩, (ho.other _ (hne gp h.p)).trans h.p, (ho.other _ (hne gq h.q)).trans h.q⟩
set_option maxRecDepth 100000 in
set_option maxHeartbeats 4000000 in
theorem alive_any (w : World) (hg : Laid w) : Calls Tryd.prog 7 #[] w fun e w' => e = .returned (.bool true) ∧ Below w.heap.size w w' := by
  have k0 := Kn.start hg
  go_enter Tryd.func7, Tryd.ntmps7
  go_wp2_with fail
  refine (ask_any am6 167772161 167772162 _).mono ?_
  rintro ev w1 ⟨rfl, hb⟩
  replace k0 := k0.step hb
  have p1 := PkAt.new w1 29 1 am6 167772161 zero6 167772162
  replace k0 := k0.alloc (.cells (pkC 1 am6 167772161 zero6 167772162) 29)
  clear hb
  obtain ⟨a0, a1, a2, a3, a4, a5, a6, a7, a8, a9, a10, a11, a12, a13, a14⟩ := p1.cells
  go_wp2_with fail
  refine (aBytes _).mono ?_
  rintro ev w2 ⟨g2, rfl, row2, -, hb⟩
  replace k0 := k0.step hb
  replace p1 := p1.step hb
  clear a0 a1 a2 a3 a4 a5 a6 a7 a8 a9 a10 a11 a12 a13 a14
  clear hb
  go_wp2_with fail
  refine (aParse row2).mono ?_
  rintro ev w3 ⟨rfl, hb⟩
  have k : KA w w1.heap.size w3.heap.size (w3.alloc (.cells (pkC 1 am6 167772161 zero6 167772162) 29)) := ⟨(k0.step hb).alloc _, (p1.step hb).step (alloc_below _ _), PkAt.new w3 29 1 am6 167772161 zero6 167772162⟩
  clear k0 p1 hb row2
  generalize w1.heap.size = gp at k ⊢
  go_wp2_with fail
  replace k := k.step (below_drew _)
  go_cut [4, 5] from 17 to 27 (fun _x4 x5 wc => x5 = errV 1 12 ∧ KA w gp w3.heap.size wc)
  case first =>
    refine wp_region_held_drew (S := fun w' => KA w gp w3.heap.size w') (by as_aux_lemma => kernel_rfl) k (fun hHeld => ?_)
    change wpAnyH _ _ _ _ _ _ _ _ (w3.alloc (.cells (pkC 1 am6 167772161 zero6 167772162) 29)).drew
    clear hHeld
    generalize w3.heap.size = gq at *
    generalize (w3.alloc (.cells (pkC 1 am6 167772161 zero6 167772162) 29)).drew = W1 at *
    have hHeld := k
    refine wpAnyH_at (i := 0) (some 18) (v := ?v0z1) rfl rfl (by as_aux_lemma => kernel_rfl) (by as_aux_lemma => kernel_rfl) (by as_aux_lemma => kernel_rfl) (fun _ _ _ h => h) (Or.inl ⟨by rfl, ?y0z1⟩) (by assumption) ?r0z1
    case y0z1 =>
      intro w9 hSw
      (obtain ⟨a0, a1, a2, a3, a4, a5, a6, a7, a8, a9, a10, a11, a12, a13, a14⟩ := (show KA w gp gq w9 from hSw).p.cells); clear hSw
      go_simp
      all_goals with_reducible rfl
    simp only [Act.put, List.setIfInBounds_toArray, List.set_cons_zero, List.set_cons_succ]
    refine wpAnyH_at (i := 2) (some 20) (v := ?v2z2) rfl rfl (by as_aux_lemma => kernel_rfl) (by as_aux_lemma => kernel_rfl) (by as_aux_lemma => kernel_rfl) (fun _ _ _ h => h) (Or.inl ⟨by rfl, ?y2z2⟩) (by assumption) ?r2z2
    case y2z2 =>
      intro w9 hSw
      (obtain ⟨a0, a1, a2, a3, a4, a5, a6, a7, a8, a9, a10, a11, a12, a13, a14⟩ := (show KA w gp gq w9 from hSw).p.cells); clear hSw
      go_simp
      all_goals with_reducible rfl
    simp only [Act.put, List.setIfInBounds_toArray, List.set_cons_zero, List.set_cons_succ]
    refine wpAnyH_two (i := 1) (j := 11) (by as_aux_lemma => kernel_rfl) rfl rfl ?_ ?_
    · go_wp2_with (go_at_call 14; refine (aBytes _).mono ?_; rintro e V1 ⟨gV1, rfl, -, -, hb9⟩)
      replace k := k.step hb9
      clear hb9 hHeld
      have hHeld := k
      refine ⟨hHeld, ?_⟩
      try simp only [Act.put, List.setIfInBounds_toArray, List.set_cons_zero, List.set_cons_succ]
      refine wpAnyH_two (i := 3) (j := 11) (by as_aux_lemma => kernel_rfl) rfl rfl ?_ ?_
      · go_wp2_with (go_at_call 14; refine (aBytes _).mono ?_; rintro e V2 ⟨gV2, rfl, -, -, hb9⟩)
        replace k := k.step hb9
        clear hb9 hHeld
        have hHeld := k
        refine ⟨hHeld, ?_⟩
        try simp only [Act.put, List.setIfInBounds_toArray, List.set_cons_zero, List.set_cons_succ]
        refine wpAnyH_at (i := 4) (some 22) (v := ?v4z3) rfl rfl (by as_aux_lemma => kernel_rfl) (by as_aux_lemma => kernel_rfl) (by as_aux_lemma => kernel_rfl) (fun _ _ _ h => h) (Or.inl ⟨by rfl, ?y4z3⟩) (by assumption) ?r4z3
        case y4z3 =>
          intro w9 hSw
          clear hSw
          go_simp
          all_goals with_reducible rfl
        simp only [Act.put, List.setIfInBounds_toArray, List.set_cons_zero, List.set_cons_succ]
        refine wpAnyH_at (i := 5) (some 23) (v := ?v5z4) rfl rfl (by as_aux_lemma => kernel_rfl) (by as_aux_lemma => kernel_rfl) (by as_aux_lemma => kernel_rfl) (fun _ _ _ h => h) (Or.inl ⟨by rfl, ?y5z4⟩) (by assumption) ?r5z4
        case y5z4 =>
          intro w9 hSw
          clear hSw
          go_simp
          all_goals with_reducible rfl
        simp only [Act.put, List.setIfInBounds_toArray, List.set_cons_zero, List.set_cons_succ]
        refine wpAnyH_at (i := 6) (some 24) (v := ?v6z5) rfl rfl (by as_aux_lemma => kernel_rfl) (by as_aux_lemma => kernel_rfl) (by as_aux_lemma => kernel_rfl) (fun _ _ _ h => h) (Or.inl ⟨by rfl, ?y6z5⟩) (by assumption) ?r6z5
        case y6z5 =>
          intro w9 hSw
          clear hSw
          go_simp
          all_goals with_reducible rfl
        simp only [Act.put, List.setIfInBounds_toArray, List.set_cons_zero, List.set_cons_succ]
        refine wpAnyH_two (i := 7) (j := 11) (by as_aux_lemma => kernel_rfl) rfl rfl ?_ ?_
        · go_wp2_with (go_at_call 9; refine (parse_short _ 27 28 _ (by omega)).mono ?_; rintro e V3 ⟨rfl, hb9⟩)
          replace k := k.step hb9
          clear hb9 hHeld
          have hHeld := k
          refine ⟨hHeld, ?_⟩
          try simp only [Act.put, List.setIfInBounds_toArray, List.set_cons_zero, List.set_cons_succ]
          refine wpAnyH_at (i := 8) (some 17) (v := ?v8z6) rfl rfl (by as_aux_lemma => kernel_rfl) (by as_aux_lemma => kernel_rfl) (by as_aux_lemma => kernel_rfl) (fun _ _ _ h => h) (Or.inl ⟨by rfl, ?y8z6⟩) (by assumption) ?r8z6
          case y8z6 =>
            intro w9 hSw
            clear hSw
            go_simp
            all_goals with_reducible rfl
          simp only [Act.put, List.setIfInBounds_toArray, List.set_cons_zero, List.set_cons_succ]
          refine wpAnyH_at (i := 9) (some 26) (v := ?v9z7) rfl rfl (by as_aux_lemma => kernel_rfl) (by as_aux_lemma => kernel_rfl) (by as_aux_lemma => kernel_rfl) (fun _ _ _ h => h) (Or.inl ⟨by rfl, ?y9z7⟩) (by assumption) ?r9z7
          case y9z7 =>
            intro w9 hSw
            clear hSw
            go_simp
            all_goals with_reducible rfl
          simp only [Act.put, List.setIfInBounds_toArray, List.set_cons_zero, List.set_cons_succ]
          refine wpAnyH_at (i := 10) (some 27) (v := ?v10z8) rfl rfl (by as_aux_lemma => kernel_rfl) (by as_aux_lemma => kernel_rfl) (by as_aux_lemma => kernel_rfl) (fun _ _ _ h => h) (Or.inl ⟨by rfl, ?y10z8⟩) (by assumption) ?r10z8
          case y10z8 =>
            intro w9 hSw
            clear hSw
            go_simp
            all_goals with_reducible rfl
          simp only [Act.put, List.setIfInBounds_toArray, List.set_cons_zero, List.set_cons_succ]
          refine wpAnyH_one (i := 11) (by as_aux_lemma => kernel_rfl) rfl ?_
          have fz := PkAt.new V3 29 0 zero6 0 zero6 0
          have hz := k.kn.below.size
          replace k := k.step (alloc_below V3 (.cells (pkC 0 zero6 0 zero6 0) 29))
          clear hHeld
          have hHeld := k
          go_wp2
          refine ⟨hHeld, ?_⟩
          change wpAnyH _ _ _ _ _ _ _ _ (V3.alloc (.cells (pkC 0 zero6 0 zero6 0) 29))
          generalize (V3.alloc (.cells (pkC 0 zero6 0 zero6 0) 29)) = V4 at *
          generalize V3.heap.size = g4 at *
          try simp only [Act.put, List.setIfInBounds_toArray, List.set_cons_zero, List.set_cons_succ]
          refine wpAnyH_one (i := 12) (by as_aux_lemma => kernel_rfl) rfl ?_
          refine wpList_stF rfl rfl 29 _ _ rfl g4 (pkC 0 zero6 0 zero6 0) rfl rfl 29 _ fz (by as_aux_lemma => kernel_rfl) rfl (pkC_one ..) ?_
          intro w4 f4 hb4 ho4 hs4
          replace k := k.only hg hz fz ⟨hb4, ho4, hs4⟩
          clear f4
          clear hHeld
          have hHeld := k
          go_wp2
          refine ⟨hHeld, ?_⟩
          refine wpAnyH_at (i := 13) (some 5) (v := ?v13z9) rfl rfl (by as_aux_lemma => kernel_rfl) (by as_aux_lemma => kernel_rfl) (by as_aux_lemma => kernel_rfl) (fun _ _ _ h => h) (Or.inl ⟨by rfl, ?y13z9⟩) (by assumption) ?r13z9
          case y13z9 =>
            intro w9 hSw
            clear hSw
            go_simp
            all_goals with_reducible rfl
          simp only [Act.put, List.setIfInBounds_toArray, List.set_cons_zero, List.set_cons_succ]
          refine wpAnyH_done (by as_aux_lemma => kernel_rfl) ?_ _
          go_wp2_with fail
          go_meet
          case rel => exact ⟨rfl, k⟩
        · have fz := PkAt.new V2 29 0 zero6 0 zero6 0
          have hz := k.kn.below.size
          replace k := k.step (alloc_below V2 (.cells (pkC 0 zero6 0 zero6 0) 29))
          clear hHeld
          have hHeld := k
          go_wp2
          refine ⟨hHeld, ?_⟩
          change wpAnyH _ _ _ _ _ _ _ _ (V2.alloc (.cells (pkC 0 zero6 0 zero6 0) 29))
          generalize (V2.alloc (.cells (pkC 0 zero6 0 zero6 0) 29)) = V3 at *
          generalize V2.heap.size = g4 at *
          try simp only [Act.put, List.setIfInBounds_toArray, List.set_cons_zero, List.set_cons_succ]
          refine wpAnyH_one (i := 7) (by as_aux_lemma => kernel_rfl) rfl ?_
          go_wp2_with (go_at_call 9; refine (parse_short _ 27 28 _ (by omega)).mono ?_; rintro e V4 ⟨rfl, hb9⟩)
          replace k := k.step hb9
          replace fz := fz.step hb9
          clear hb9 hHeld
          have hHeld := k
          refine ⟨hHeld, ?_⟩
          try simp only [Act.put, List.setIfInBounds_toArray, List.set_cons_zero, List.set_cons_succ]
          refine wpAnyH_at (i := 8) (some 17) (v := ?v8z10) rfl rfl (by as_aux_lemma => kernel_rfl) (by as_aux_lemma => kernel_rfl) (by as_aux_lemma => kernel_rfl) (fun _ _ _ h => h) (Or.inl ⟨by rfl, ?y8z10⟩) (by assumption) ?r8z10
          case y8z10 =>
            intro w9 hSw
            clear hSw
            go_simp
            all_goals with_reducible rfl
          simp only [Act.put, List.setIfInBounds_toArray, List.set_cons_zero, List.set_cons_succ]
          refine wpAnyH_at (i := 9) (some 26) (v := ?v9z11) rfl rfl (by as_aux_lemma => kernel_rfl) (by as_aux_lemma => kernel_rfl) (by as_aux_lemma => kernel_rfl) (fun _ _ _ h => h) (Or.inl ⟨by rfl, ?y9z11⟩) (by assumption) ?r9z11
          case y9z11 =>
            intro w9 hSw
            clear hSw
            go_simp
            all_goals with_reducible rfl
          simp only [Act.put, List.setIfInBounds_toArray, List.set_cons_zero, List.set_cons_succ]
          refine wpAnyH_at (i := 10) (some 27) (v := ?v10z12) rfl rfl (by as_aux_lemma => kernel_rfl) (by as_aux_lemma => kernel_rfl) (by as_aux_lemma => kernel_rfl) (fun _ _ _ h => h) (Or.inl ⟨by rfl, ?y10z12⟩) (by assumption) ?r10z12
          case y10z12 =>
            intro w9 hSw
            clear hSw
            go_simp
            all_goals with_reducible rfl
          simp only [Act.put, List.setIfInBounds_toArray, List.set_cons_zero, List.set_cons_succ]
          refine wpAnyH_one (i := 12) (by as_aux_lemma => kernel_rfl) rfl ?_
          refine wpList_stF rfl rfl 29 _ _ rfl g4 (pkC 0 zero6 0 zero6 0) rfl rfl 29 _ fz (by as_aux_lemma => kernel_rfl) rfl (pkC_one ..) ?_
          intro w4 f4 hb4 ho4 hs4
          replace k := k.only hg hz fz ⟨hb4, ho4, hs4⟩
          clear f4
          clear hHeld
          have hHeld := k
          go_wp2
          refine ⟨hHeld, ?_⟩
          refine wpAnyH_at (i := 13) (some 5) (v := ?v13z13) rfl rfl (by as_aux_lemma => kernel_rfl) (by as_aux_lemma => kernel_rfl) (by as_aux_lemma => kernel_rfl) (fun _ _ _ h => h) (Or.inl ⟨by rfl, ?y13z13⟩) (by assumption) ?r13z13
          case y13z13 =>
            intro w9 hSw
            clear hSw
            go_simp
            all_goals with_reducible rfl
          simp only [Act.put, List.setIfInBounds_toArray, List.set_cons_zero, List.set_cons_succ]
          refine wpAnyH_done (by as_aux_lemma => kernel_rfl) ?_ _
          go_wp2_with fail
          go_meet
          case rel => exact ⟨rfl, k⟩
      · have fz := PkAt.new V1 29 0 zero6 0 zero6 0
        have hz := k.kn.below.size
        replace k := k.step (alloc_below V1 (.cells (pkC 0 zero6 0 zero6 0) 29))
        clear hHeld
        have hHeld := k
        go_wp2
        refine ⟨hHeld, ?_⟩
        change wpAnyH _ _ _ _ _ _ _ _ (V1.alloc (.cells (pkC 0 zero6 0 zero6 0) 29))
        generalize (V1.alloc (.cells (pkC 0 zero6 0 zero6 0) 29)) = V2 at *
        generalize V1.heap.size = g4 at *
        try simp only [Act.put, List.setIfInBounds_toArray, List.set_cons_zero, List.set_cons_succ]
        refine wpAnyH_one (i := 3) (by as_aux_lemma => kernel_rfl) rfl ?_
        go_wp2_with (go_at_call 14; refine (aBytes _).mono ?_; rintro e V3 ⟨gV3, rfl, -, -, hb9⟩)
        replace k := k.step hb9
        replace fz := fz.step hb9
        clear hb9 hHeld
        have hHeld := k
        refine ⟨hHeld, ?_⟩
        try simp only [Act.put, List.setIfInBounds_toArray, List.set_cons_zero, List.set_cons_succ]
        refine wpAnyH_at (i := 4) (some 22) (v := ?v4z14) rfl rfl (by as_aux_lemma => kernel_rfl) (by as_aux_lemma => kernel_rfl) (by as_aux_lemma => kernel_rfl) (fun _ _ _ h => h) (Or.inl ⟨by rfl, ?y4z14⟩) (by assumption) ?r4z14
        case y4z14 =>
          intro w9 hSw
          clear hSw
          go_simp
          all_goals with_reducible rfl
        simp only [Act.put, List.setIfInBounds_toArray, List.set_cons_zero, List.set_cons_succ]
        refine wpAnyH_at (i := 5) (some 23) (v := ?v5z15) rfl rfl (by as_aux_lemma => kernel_rfl) (by as_aux_lemma => kernel_rfl) (by as_aux_lemma => kernel_rfl) (fun _ _ _ h => h) (Or.inl ⟨by rfl, ?y5z15⟩) (by assumption) ?r5z15
        case y5z15 =>
          intro w9 hSw
          clear hSw
          go_simp
          all_goals with_reducible rfl
        simp only [Act.put, List.setIfInBounds_toArray, List.set_cons_zero, List.set_cons_succ]
        refine wpAnyH_at (i := 6) (some 24) (v := ?v6z16) rfl rfl (by as_aux_lemma => kernel_rfl) (by as_aux_lemma => kernel_rfl) (by as_aux_lemma => kernel_rfl) (fun _ _ _ h => h) (Or.inl ⟨by rfl, ?y6z16⟩) (by assumption) ?r6z16
        case y6z16 =>
          intro w9 hSw
          clear hSw
          go_simp
          all_goals with_reducible rfl
        simp only [Act.put, List.setIfInBounds_toArray, List.set_cons_zero, List.set_cons_succ]
        refine wpAnyH_one (i := 7) (by as_aux_lemma => kernel_rfl) rfl ?_
        go_wp2_with (go_at_call 9; refine (parse_short _ 27 28 _ (by omega)).mono ?_; rintro e V4 ⟨rfl, hb9⟩)
        replace k := k.step hb9
        replace fz := fz.step hb9
        clear hb9 hHeld
        have hHeld := k
        refine ⟨hHeld, ?_⟩
        try simp only [Act.put, List.setIfInBounds_toArray, List.set_cons_zero, List.set_cons_succ]
        refine wpAnyH_at (i := 8) (some 17) (v := ?v8z17) rfl rfl (by as_aux_lemma => kernel_rfl) (by as_aux_lemma => kernel_rfl) (by as_aux_lemma => kernel_rfl) (fun _ _ _ h => h) (Or.inl ⟨by rfl, ?y8z17⟩) (by assumption) ?r8z17
        case y8z17 =>
          intro w9 hSw
          clear hSw
          go_simp
          all_goals with_reducible rfl
        simp only [Act.put, List.setIfInBounds_toArray, List.set_cons_zero, List.set_cons_succ]
        refine wpAnyH_at (i := 9) (some 26) (v := ?v9z18) rfl rfl (by as_aux_lemma => kernel_rfl) (by as_aux_lemma => kernel_rfl) (by as_aux_lemma => kernel_rfl) (fun _ _ _ h => h) (Or.inl ⟨by rfl, ?y9z18⟩) (by assumption) ?r9z18
        case y9z18 =>
          intro w9 hSw
          clear hSw
          go_simp
          all_goals with_reducible rfl
        simp only [Act.put, List.setIfInBounds_toArray, List.set_cons_zero, List.set_cons_succ]
        refine wpAnyH_at (i := 10) (some 27) (v := ?v10z19) rfl rfl (by as_aux_lemma => kernel_rfl) (by as_aux_lemma => kernel_rfl) (by as_aux_lemma => kernel_rfl) (fun _ _ _ h => h) (Or.inl ⟨by rfl, ?y10z19⟩) (by assumption) ?r10z19
        case y10z19 =>
          intro w9 hSw
          clear hSw
          go_simp
          all_goals with_reducible rfl
        simp only [Act.put, List.setIfInBounds_toArray, List.set_cons_zero, List.set_cons_succ]
        refine wpAnyH_one (i := 12) (by as_aux_lemma => kernel_rfl) rfl ?_
        refine wpList_stF rfl rfl 29 _ _ rfl g4 (pkC 0 zero6 0 zero6 0) rfl rfl 29 _ fz (by as_aux_lemma => kernel_rfl) rfl (pkC_one ..) ?_
        intro w4 f4 hb4 ho4 hs4
        replace k := k.only hg hz fz ⟨hb4, ho4, hs4⟩
        clear f4
        clear hHeld
        have hHeld := k
        go_wp2
        refine ⟨hHeld, ?_⟩
        refine wpAnyH_at (i := 13) (some 5) (v := ?v13z20) rfl rfl (by as_aux_lemma => kernel_rfl) (by as_aux_lemma => kernel_rfl) (by as_aux_lemma => kernel_rfl) (fun _ _ _ h => h) (Or.inl ⟨by rfl, ?y13z20⟩) (by assumption) ?r13z20
        case y13z20 =>
          intro w9 hSw
          clear hSw
          go_simp
          all_goals with_reducible rfl
        simp only [Act.put, List.setIfInBounds_toArray, List.set_cons_zero, List.set_cons_succ]
        refine wpAnyH_done (by as_aux_lemma => kernel_rfl) ?_ _
        go_wp2_with fail
        go_meet
        case rel => exact ⟨rfl, k⟩
    · have fz := PkAt.new W1 29 0 zero6 0 zero6 0
      have hz := k.kn.below.size
      replace k := k.step (alloc_below W1 (.cells (pkC 0 zero6 0 zero6 0) 29))
      clear hHeld
      have hHeld := k
      go_wp2
      refine ⟨hHeld, ?_⟩
      change wpAnyH _ _ _ _ _ _ _ _ (W1.alloc (.cells (pkC 0 zero6 0 zero6 0) 29))
      generalize (W1.alloc (.cells (pkC 0 zero6 0 zero6 0) 29)) = V1 at *
      generalize W1.heap.size = g4 at *
      try simp only [Act.put, List.setIfInBounds_toArray, List.set_cons_zero, List.set_cons_succ]
      refine wpAnyH_one (i := 1) (by as_aux_lemma => kernel_rfl) rfl ?_
      go_wp2_with (go_at_call 14; refine (aBytes _).mono ?_; rintro e V2 ⟨gV2, rfl, -, -, hb9⟩)
      replace k := k.step hb9
      replace fz := fz.step hb9
      clear hb9 hHeld
      have hHeld := k
      refine ⟨hHeld, ?_⟩
      try simp only [Act.put, List.setIfInBounds_toArray, List.set_cons_zero, List.set_cons_succ]
      refine wpAnyH_one (i := 3) (by as_aux_lemma => kernel_rfl) rfl ?_
      go_wp2_with (go_at_call 14; refine (aBytes _).mono ?_; rintro e V3 ⟨gV3, rfl, -, -, hb9⟩)
      replace k := k.step hb9
      replace fz := fz.step hb9
      clear hb9 hHeld
      have hHeld := k
      refine ⟨hHeld, ?_⟩
      try simp only [Act.put, List.setIfInBounds_toArray, List.set_cons_zero, List.set_cons_succ]
      refine wpAnyH_at (i := 4) (some 22) (v := ?v4z21) rfl rfl (by as_aux_lemma => kernel_rfl) (by as_aux_lemma => kernel_rfl) (by as_aux_lemma => kernel_rfl) (fun _ _ _ h => h) (Or.inl ⟨by rfl, ?y4z21⟩) (by assumption) ?r4z21
      case y4z21 =>
        intro w9 hSw
        clear hSw
        go_simp
        all_goals with_reducible rfl
      simp only [Act.put, List.setIfInBounds_toArray, List.set_cons_zero, List.set_cons_succ]
      refine wpAnyH_at (i := 5) (some 23) (v := ?v5z22) rfl rfl (by as_aux_lemma => kernel_rfl) (by as_aux_lemma => kernel_rfl) (by as_aux_lemma => kernel_rfl) (fun _ _ _ h => h) (Or.inl ⟨by rfl, ?y5z22⟩) (by assumption) ?r5z22
      case y5z22 =>
        intro w9 hSw
        clear hSw
        go_simp
        all_goals with_reducible rfl
      simp only [Act.put, List.setIfInBounds_toArray, List.set_cons_zero, List.set_cons_succ]
      refine wpAnyH_at (i := 6) (some 24) (v := ?v6z23) rfl rfl (by as_aux_lemma => kernel_rfl) (by as_aux_lemma => kernel_rfl) (by as_aux_lemma => kernel_rfl) (fun _ _ _ h => h) (Or.inl ⟨by rfl, ?y6z23⟩) (by assumption) ?r6z23
      case y6z23 =>
        intro w9 hSw
        clear hSw
        go_simp
        all_goals with_reducible rfl
      simp only [Act.put, List.setIfInBounds_toArray, List.set_cons_zero, List.set_cons_succ]
      refine wpAnyH_one (i := 7) (by as_aux_lemma => kernel_rfl) rfl ?_
      go_wp2_with (go_at_call 9; refine (parse_short _ 27 28 _ (by omega)).mono ?_; rintro e V4 ⟨rfl, hb9⟩)
      replace k := k.step hb9
      replace fz := fz.step hb9
      clear hb9 hHeld
      have hHeld := k
      refine ⟨hHeld, ?_⟩
      try simp only [Act.put, List.setIfInBounds_toArray, List.set_cons_zero, List.set_cons_succ]
      refine wpAnyH_at (i := 8) (some 17) (v := ?v8z24) rfl rfl (by as_aux_lemma => kernel_rfl) (by as_aux_lemma => kernel_rfl) (by as_aux_lemma => kernel_rfl) (fun _ _ _ h => h) (Or.inl ⟨by rfl, ?y8z24⟩) (by assumption) ?r8z24
      case y8z24 =>
        intro w9 hSw
        clear hSw
        go_simp
        all_goals with_reducible rfl
      simp only [Act.put, List.setIfInBounds_toArray, List.set_cons_zero, List.set_cons_succ]
      refine wpAnyH_at (i := 9) (some 26) (v := ?v9z25) rfl rfl (by as_aux_lemma => kernel_rfl) (by as_aux_lemma => kernel_rfl) (by as_aux_lemma => kernel_rfl) (fun _ _ _ h => h) (Or.inl ⟨by rfl, ?y9z25⟩) (by assumption) ?r9z25
      case y9z25 =>
        intro w9 hSw
        clear hSw
        go_simp
        all_goals with_reducible rfl
      simp only [Act.put, List.setIfInBounds_toArray, List.set_cons_zero, List.set_cons_succ]
      refine wpAnyH_at (i := 10) (some 27) (v := ?v10z26) rfl rfl (by as_aux_lemma => kernel_rfl) (by as_aux_lemma => kernel_rfl) (by as_aux_lemma => kernel_rfl) (fun _ _ _ h => h) (Or.inl ⟨by rfl, ?y10z26⟩) (by assumption) ?r10z26
      case y10z26 =>
        intro w9 hSw
        clear hSw
        go_simp
        all_goals with_reducible rfl
      simp only [Act.put, List.setIfInBounds_toArray, List.set_cons_zero, List.set_cons_succ]
      refine wpAnyH_one (i := 12) (by as_aux_lemma => kernel_rfl) rfl ?_
      refine wpList_stF rfl rfl 29 _ _ rfl g4 (pkC 0 zero6 0 zero6 0) rfl rfl 29 _ fz (by as_aux_lemma => kernel_rfl) rfl (pkC_one ..) ?_
      intro w4 f4 hb4 ho4 hs4
      replace k := k.only hg hz fz ⟨hb4, ho4, hs4⟩
      clear f4
      clear hHeld
      have hHeld := k
      go_wp2
      refine ⟨hHeld, ?_⟩
      refine wpAnyH_at (i := 13) (some 5) (v := ?v13z27) rfl rfl (by as_aux_lemma => kernel_rfl) (by as_aux_lemma => kernel_rfl) (by as_aux_lemma => kernel_rfl) (fun _ _ _ h => h) (Or.inl ⟨by rfl, ?y13z27⟩) (by assumption) ?r13z27
      case y13z27 =>
        intro w9 hSw
        clear hSw
        go_simp
        all_goals with_reducible rfl
      simp only [Act.put, List.setIfInBounds_toArray, List.set_cons_zero, List.set_cons_succ]
      refine wpAnyH_done (by as_aux_lemma => kernel_rfl) ?_ _
      go_wp2_with fail
      go_meet
      case rel => exact ⟨rfl, k⟩
  case rest =>
    as_aux_lemma =>
      obtain ⟨rfl, k'⟩ := hcut
      clear k
      rename KA w gp w3.heap.size wc => k
      generalize w3.heap.size = gq at k ⊢
      go_wp2_with (at_make; refine wpList_mk (some 29) rfl rfl _ _ 22 rfl Tryd.underlying22 info5 28 _ _ rfl rfl rfl rfl (by omega) ?_; intro w4 r4 hs4 hb4; replace k := k.step hb4; clear hs4 hb4)
      refine (aZero r4).mono ?_
      rintro ev w5 ⟨rfl, hb⟩
      replace k := (k.step hb).step (alloc_below w5 (.cells (pkC 0 zero6 0 zero6 0) 29))
      clear hb r4
      obtain ⟨a0, a1, a2, a3, a4, a5, a6, a7, a8, a9, a10, a11, a12, a13, a14⟩ := k.p.cells
      go_wp2_with fail
      refine (tell_any 1 am6 167772161 zero6 167772162 bm6 _).mono ?_
      rintro ev w6 ⟨rfl, hb⟩
      replace k := (k.step hb).step (alloc_below w6 (.cells (pkC 2 bm6 167772162 am6 167772161) 29))
      have tt := PkAt.new w6 29 2 bm6 167772162 am6 167772161
      clear hb
      clear a0 a1 a2 a3 a4 a5 a6 a7 a8 a9 a10 a11 a12 a13 a14
      have q1 := eq26'
      have q2 := eq26
      obtain ⟨a0, a1, a2, a3, a4, a5, a6, a7, a8, a9, a10, a11, a12, a13, a14⟩ := k.p.cells
      obtain ⟨b0, b1, b2, b3, b4, b5, b6, b7, b8, b9, b10, b11, b12, b13, b14⟩ := k.q.cells
      go_wp2_with fail
      refine (whyIs_err 1 12 12 _).mono ?_
      rintro ev w7 ⟨rfl, hb⟩
      replace k := k.step hb
      replace tt := tt.step hb
      clear a0 a1 a2 a3 a4 a5 a6 a7 a8 a9 a10 a11 a12 a13 a14
      clear b0 b1 b2 b3 b4 b5 b6 b7 b8 b9 b10 b11 b12 b13 b14
      clear hb
      go_wp2_with fail
      refine (whyIs_err 16 14 14 _).mono ?_
      rintro ev w8 ⟨rfl, hb⟩
      replace k := k.step hb
      replace tt := tt.step hb
      clear hb
      go_wp2_with fail
      refine (reason_err 16 14 _ k.kn.laid).mono ?_
      rintro ev w9 ⟨rfl, hb⟩
      replace k := k.step hb
      replace tt := tt.step hb
      clear hb
      obtain ⟨a0, a1, a2, a3, a4, a5, a6, a7, a8, a9, a10, a11, a12, a13, a14⟩ := tt.cells
      go_wp2
      go_ret
      exact ⟨rfl, k.kn.below⟩
end Go.Proofs.YtgjfhgipgcdddaaDoor
