/-
  The contract of Agree: pools that are alike agree.
-/
import Derived.Test.YtjaiagocbldbgaaRefs2
namespace Go.Proofs.Ytjaiagocbldbgaa
open Go.RowKit
set_option linter.unusedVariables false

/-- What the walk's region reads of the document's pool. -/
structure KC (r gr n cr k : Nat) (o : Int) (A : Option Addr) (m c : Nat) (W : World) : Prop where
  c0 : W.cell? ⟨r, 0, none⟩ = some (.slice (some ⟨gr, 0, none⟩) n cr)
  c1 : W.cell? ⟨gr, k * 2, none⟩ = some (.int .i64 o)
  c2 : W.cell? ⟨gr, k * 2 + 1, none⟩ = some (.slice A m c)
theorem KC.step {r gr n cr k : Nat} {o : Int} {A : Option Addr} {m c : Nat} {W V : World} (h : KC r gr n cr k o A m c W) (hb : Below W.heap.size W V) : KC r gr n cr k o A m c V :=
  ⟨(hb.cell (World.block_lt_of_cell? W _ h.c0)).trans h.c0, (hb.cell (World.block_lt_of_cell? W _ h.c1)).trans h.c1, (hb.cell (World.block_lt_of_cell? W _ h.c2)).trans h.c2⟩
theorem leftAt_yes {L : Slots} {k : Nat} (h : ow L k = 0) : ((heldAt L 0 (k + 1)).length : Int) = (heldAt L 0 k).length + 1 := by rw [heldAt_succ_yes h]; simp
theorem leftAt_no {L : Slots} {k : Nat} (h : ¬ ow L k = 0) : ((heldAt L 0 (k + 1)).length : Int) = (heldAt L 0 k).length := by rw [heldAt_succ_no h]

set_option maxRecDepth 100000 in
set_option maxHeartbeats 4000000 in
theorem agree_any (p g cp r gr cr : Nat) (L : Slots) (F F' : Nat → Prop) (w : World) (hp : Pp w p g cp L F) (hr : Rp w r gr cr L F') (hL : 0 < L.length) :
    Calls Try.prog 39 #[ptr p, ptr r] w fun e w' => e = .returned (.bool true) ∧ Below w.heap.size w w' := by
  obtain ⟨n, hn⟩ : ∃ n, L.length = n := ⟨_, rfl⟩
  have hn0 : 0 < n := by omega
  have hnl : n ≤ 1024 := by have := hp.len; omega
  have HN := Lib.hid hn
  have HL : Hid (left L = (heldAt L 0 n).length) := Lib.hid (by unfold left held; rw [hn])
  have lz : Hid (((heldAt L 0 0).length : Int) = 0) := Lib.hid rfl
  clear hn hL
  go_enter Try.func39, Try.ntmps39
  go_wp2
  go_loopw [5, 6] (fun l i wr => ∃ k : Nat, k ≤ n ∧ l = .int .i64 ((heldAt L 0 k).length : Int) ∧ i = .int .i64 k ∧ Below w.heap.size w wr) (fun _ i _ => n - (intOf i).toNat)
  case atStart => exact ⟨0, Nat.zero_le _, by rw [lz.out], rfl, Below.refl _ _⟩
  case round =>
    obtain ⟨k, hk, rfl, rfl, hb⟩ := hrel
    have hp2 := hp.below hb
    have hr2 := hr.below hb
    have x0 := hr2.ptr0 HN.out hn0
    have hlen := heldAt_len L 0 k
    by_cases hkn : k < n
    · have hkL : k < L.length := by rw [HN.out]; exact hkn
      have hkL2 := Lib.hid hkL
      have x1 := hr2.cell0 hkL
      obtain ⟨A2, m2, c2, x2, o2, -⟩ := hr2.cell1 hkL
      have hG := hp.good
      have cO := Lib.hid (fun W q => (by have := owner_any p g cp L F (k : Int) W q; rwa [owV_yes hkL] at this : Calls Try.prog 33 #[ptr p, .int .i64 (k : Int)] W fun e w' => e = .returned (.int .i64 (ow L k)) ∧ W = w'))

      clear hr2
      by_cases he : ow L k = 0
      · have ct := Lib.hid (fun W q => bytes_any p g cp L F (k : Int) W q)
        rw [takenB_free he] at ct
        have Ha := Lib.hid (leftAt_yes he)
        rw [he] at x1 cO
        have q : KC r gr n cr k 0 A2 m2 c2 wr := ⟨x0, x1, x2⟩
        clear x1 x2 he hkL hG
        go_wp2_with fail
        refine (ct.out _ hp2).mono ?_
        rintro ev w1 ⟨A1, m1, c1, xs, rfl, o1, hb1, hxs⟩
        obtain rfl := hxs k rfl hkL2.out
        replace hp2 := hp2.below hb1
        replace q := q.step hb1
        replace hb := hb.trans (hb1.mono hb.size)
        replace o2 := o2.below hb1 (Nat.le_refl _)
        have r1 := o1.rd
        clear hb1 o1 hxs ct x0
        go_wp2
        refine wp_region_held_drew (S := fun w' => KC r gr n cr k 0 A2 m2 c2 w') (by kernel_rfl) (q.step (below_drew _)) (fun hHeld => ?_)
        replace hp2 := hp2.below (below_drew _)
        replace hb := hb.trans ((below_drew _).mono hb.size)
        replace o2 := o2.below (below_drew _) (Nat.le_refl _)
        replace q := q.step (below_drew _)
        replace r1 := (r1.below (below_drew _) (Nat.le_refl _))
        change wpAnyH _ _ _ _ _ _ _ _ (World.drew _)
        generalize hW2 : World.drew w1 = W2 at *
        have hsz : w1.heap.size = W2.heap.size := by rw [← hW2]; rfl
        rw [hsz] at r1
        clear hsz hW2
        refine wpAnyH_at (i := 0) (some 24) (v := ?v0z1) rfl rfl (by kernel_rfl) (by kernel_rfl) (by kernel_rfl) (fun _ _ _ h => h) (Or.inl ⟨by rfl, ?y0z1⟩) (by assumption) ?r0z1
        case y0z1 =>
          intro w9 hSw
          clear hSw
          go_simp
          all_goals with_reducible rfl
        simp only [Act.put, List.setIfInBounds_toArray, List.set_cons_zero, List.set_cons_succ]
        refine wpAnyH_at (i := 1) (some 25) (v := ?v1z2) rfl rfl (by kernel_rfl) (by kernel_rfl) (by kernel_rfl) (fun _ _ _ h => h) (Or.inl ⟨by rfl, ?y1z2⟩) (by assumption) ?r1z2
        case y1z2 =>
          intro w9 hSw
          clear hSw
          go_simp
          all_goals with_reducible rfl
        simp only [Act.put, List.setIfInBounds_toArray, List.set_cons_zero, List.set_cons_succ]
        refine wpAnyH_at (i := 3) (some 27) (v := ?v3z3) rfl rfl (by kernel_rfl) (by kernel_rfl) (by kernel_rfl) (fun _ _ _ h => h) (Or.inl ⟨by rfl, ?y3z3⟩) (by assumption) ?r3z3
        case y3z3 =>
          intro w9 hSw
          clear hSw
          go_simp
          all_goals with_reducible rfl
        simp only [Act.put, List.setIfInBounds_toArray, List.set_cons_zero, List.set_cons_succ]
        refine wpAnyH_at (i := 4) (some 28) (v := ?v4z4) rfl rfl (by kernel_rfl) (by kernel_rfl) (by kernel_rfl) (fun _ _ _ h => h) (Or.inl ⟨by rfl, ?y4z4⟩) (by assumption) ?r4z4
        case y4z4 =>
          intro w9 hSw
          clear hSw
          go_simp
          all_goals with_reducible rfl
        simp only [Act.put, List.setIfInBounds_toArray, List.set_cons_zero, List.set_cons_succ]
        refine wpAnyH_at (i := 5) (some 29) (v := ?v5z5) rfl rfl (by kernel_rfl) (by kernel_rfl) (by kernel_rfl) (fun _ _ _ h => h) (Or.inl ⟨by rfl, ?y5z5⟩) (by assumption) ?r5z5
        case y5z5 =>
          intro w9 hSw
          clear hSw
          go_simp
          all_goals with_reducible rfl
        simp only [Act.put, List.setIfInBounds_toArray, List.set_cons_zero, List.set_cons_succ]
        refine wpAnyH_at (i := 6) (some 30) (v := ?v6z6) rfl rfl (by kernel_rfl) (by kernel_rfl) (by kernel_rfl) (fun _ _ _ h => h) (Or.inl ⟨by rfl, ?y6z6⟩) (by assumption) ?r6z6
        case y6z6 =>
          intro w9 hSw
          have y0 := (show KC r gr n cr k 0 A2 m2 c2 w9 from hSw).c0; have y1 := (show KC r gr n cr k 0 A2 m2 c2 w9 from hSw).c1; have y2 := (show KC r gr n cr k 0 A2 m2 c2 w9 from hSw).c2; clear hSw
          go_simp
          all_goals with_reducible rfl
        simp only [Act.put, List.setIfInBounds_toArray, List.set_cons_zero, List.set_cons_succ]
        refine wpAnyH_at (i := 7) (some 31) (v := ?v7z7) rfl rfl (by kernel_rfl) (by kernel_rfl) (by kernel_rfl) (fun _ _ _ h => h) (Or.inl ⟨by rfl, ?y7z7⟩) (by assumption) ?r7z7
        case y7z7 =>
          intro w9 hSw
          clear hSw
          go_simp
          all_goals with_reducible rfl
        simp only [Act.put, List.setIfInBounds_toArray, List.set_cons_zero, List.set_cons_succ]
        refine wpAnyH_at (i := 8) (some 32) (v := ?v8z8) rfl rfl (by kernel_rfl) (by kernel_rfl) (by kernel_rfl) (fun _ _ _ h => h) (Or.inl ⟨by rfl, ?y8z8⟩) (by assumption) ?r8z8
        case y8z8 =>
          intro w9 hSw
          have y0 := (show KC r gr n cr k 0 A2 m2 c2 w9 from hSw).c0; have y1 := (show KC r gr n cr k 0 A2 m2 c2 w9 from hSw).c1; have y2 := (show KC r gr n cr k 0 A2 m2 c2 w9 from hSw).c2; clear hSw
          go_simp
          all_goals with_reducible rfl
        simp only [Act.put, List.setIfInBounds_toArray, List.set_cons_zero, List.set_cons_succ]
        refine wpAnyH_at (i := 9) (some 33) (v := ?v9z9) rfl rfl (by kernel_rfl) (by kernel_rfl) (by kernel_rfl) (fun _ _ _ h => h) (Or.inl ⟨by rfl, ?y9z9⟩) (by assumption) ?r9z9
        case y9z9 =>
          intro w9 hSw
          have y0 := (show KC r gr n cr k 0 A2 m2 c2 w9 from hSw).c0; have y1 := (show KC r gr n cr k 0 A2 m2 c2 w9 from hSw).c1; have y2 := (show KC r gr n cr k 0 A2 m2 c2 w9 from hSw).c2; clear hSw
          go_simp
          all_goals with_reducible rfl
        simp only [Act.put, List.setIfInBounds_toArray, List.set_cons_zero, List.set_cons_succ]
        refine wpAnyH_at (i := 10) (some 34) (v := ?v10z10) rfl rfl (by kernel_rfl) (by kernel_rfl) (by kernel_rfl) (fun _ _ _ h => h) (Or.inl ⟨by rfl, ?y10z10⟩) (by assumption) ?r10z10
        case y10z10 =>
          intro w9 hSw
          have y0 := (show KC r gr n cr k 0 A2 m2 c2 w9 from hSw).c0; have y1 := (show KC r gr n cr k 0 A2 m2 c2 w9 from hSw).c1; have y2 := (show KC r gr n cr k 0 A2 m2 c2 w9 from hSw).c2; clear hSw
          go_simp
          all_goals with_reducible rfl
        simp only [Act.put, List.setIfInBounds_toArray, List.set_cons_zero, List.set_cons_succ]
        refine wpAnyH_one (i := 2) (by kernel_rfl) rfl ?_
        go_wp2_with fail
        refine (cO.out _ hp2).mono ?_
        rintro ev w3 ⟨rfl, rfl⟩
        go_wp2
        refine ⟨hHeld, ?_⟩
        try simp only [Act.put, List.setIfInBounds_toArray, List.set_cons_zero, List.set_cons_succ]
        refine wpAnyH_at (i := 11) (some 35) (v := ?v11z11) rfl rfl (by kernel_rfl) (by kernel_rfl) (by kernel_rfl) (fun _ _ _ h => h) (Or.inl ⟨by rfl, ?y11z11⟩) (by assumption) ?r11z11
        case y11z11 =>
          intro w9 hSw
          clear hSw
          go_simp
          all_goals with_reducible rfl
        simp only [Act.put, List.setIfInBounds_toArray, List.set_cons_zero, List.set_cons_succ]
        refine wpAnyH_at (i := 12) (some 36) (v := ?v12z12) rfl rfl (by kernel_rfl) (by kernel_rfl) (by kernel_rfl) (fun _ _ _ h => h) (Or.inl ⟨by rfl, ?y12z12⟩) (by assumption) ?r12z12
        case y12z12 =>
          intro w9 hSw
          clear hSw
          go_simp
          all_goals with_reducible rfl
        simp only [Act.put, List.setIfInBounds_toArray, List.set_cons_zero, List.set_cons_succ]
        refine wpAnyH_at (i := 13) (some 37) (v := ?v13z13) rfl rfl (by kernel_rfl) (by kernel_rfl) (by kernel_rfl) (fun _ _ _ h => h) (Or.inl ⟨by rfl, ?y13z13⟩) (by assumption) ?r13z13
        case y13z13 =>
          intro w9 hSw
          clear hSw
          go_simp
          all_goals with_reducible rfl
        simp only [Act.put, List.setIfInBounds_toArray, List.set_cons_zero, List.set_cons_succ]
        refine wpAnyH_at (i := 14) (some 38) (v := ?v14z14) rfl rfl (by kernel_rfl) (by kernel_rfl) (by kernel_rfl) (fun _ _ _ h => h) (Or.inl ⟨by rfl, ?y14z14⟩) (by assumption) ?r14z14
        case y14z14 =>
          intro w9 hSw
          clear hSw
          go_simp
          all_goals with_reducible rfl
        simp only [Act.put, List.setIfInBounds_toArray, List.set_cons_zero, List.set_cons_succ]
        refine wpAnyH_at (i := 15) (some 39) (v := ?v15z15) rfl rfl (by kernel_rfl) (by kernel_rfl) (by kernel_rfl) (fun _ _ _ h => h) (Or.inl ⟨by rfl, ?y15z15⟩) (by assumption) ?r15z15
        case y15z15 =>
          intro w9 hSw
          clear hSw
          go_simp
          all_goals with_reducible rfl
        simp only [Act.put, List.setIfInBounds_toArray, List.set_cons_zero, List.set_cons_succ]
        refine wpAnyH_at (i := 16) (some 40) (v := ?v16z16) rfl rfl (by kernel_rfl) (by kernel_rfl) (by kernel_rfl) (fun _ _ _ h => h) (Or.inl ⟨by rfl, ?y16z16⟩) (by assumption) ?r16z16
        case y16z16 =>
          intro w9 hSw
          clear hSw
          go_simp
          all_goals with_reducible rfl
        simp only [Act.put, List.setIfInBounds_toArray, List.set_cons_zero, List.set_cons_succ]
        refine wpAnyH_at (i := 17) (some 41) (v := ?v17z17) rfl rfl (by kernel_rfl) (by kernel_rfl) (by kernel_rfl) (fun _ _ _ h => h) (Or.inl ⟨by rfl, ?y17z17⟩) (by assumption) ?r17z17
        case y17z17 =>
          intro w9 hSw
          have y0 := (show KC r gr n cr k 0 A2 m2 c2 w9 from hSw).c0; have y1 := (show KC r gr n cr k 0 A2 m2 c2 w9 from hSw).c1; have y2 := (show KC r gr n cr k 0 A2 m2 c2 w9 from hSw).c2; clear hSw
          go_simp
          all_goals with_reducible rfl
        simp only [Act.put, List.setIfInBounds_toArray, List.set_cons_zero, List.set_cons_succ]
        refine wpAnyH_at (i := 18) (some 42) (v := ?v18z18) rfl rfl (by kernel_rfl) (by kernel_rfl) (by kernel_rfl) (fun _ _ _ h => h) (Or.inl ⟨by rfl, ?y18z18⟩) (by assumption) ?r18z18
        case y18z18 =>
          intro w9 hSw
          have y0 := (show KC r gr n cr k 0 A2 m2 c2 w9 from hSw).c0; have y1 := (show KC r gr n cr k 0 A2 m2 c2 w9 from hSw).c1; have y2 := (show KC r gr n cr k 0 A2 m2 c2 w9 from hSw).c2; clear hSw
          go_simp
          all_goals with_reducible rfl
        simp only [Act.put, List.setIfInBounds_toArray, List.set_cons_zero, List.set_cons_succ]
        refine wpAnyH_at (i := 19) (some 43) (v := ?v19z19) rfl rfl (by kernel_rfl) (by kernel_rfl) (by kernel_rfl) (fun _ _ _ h => h) (Or.inl ⟨by rfl, ?y19z19⟩) (by assumption) ?r19z19
        case y19z19 =>
          intro w9 hSw
          have y0 := (show KC r gr n cr k 0 A2 m2 c2 w9 from hSw).c0; have y1 := (show KC r gr n cr k 0 A2 m2 c2 w9 from hSw).c1; have y2 := (show KC r gr n cr k 0 A2 m2 c2 w9 from hSw).c2; clear hSw
          go_simp
          all_goals with_reducible rfl
        simp only [Act.put, List.setIfInBounds_toArray, List.set_cons_zero, List.set_cons_succ]
        refine wpAnyH_at (i := 20) (some 44) (v := ?v20z20) rfl rfl (by kernel_rfl) (by kernel_rfl) (by kernel_rfl) (fun _ _ _ h => h) (Or.inl ⟨by rfl, ?y20z20⟩) (by assumption) ?r20z20
        case y20z20 =>
          intro w9 hSw
          have y0 := (show KC r gr n cr k 0 A2 m2 c2 w9 from hSw).c0; have y1 := (show KC r gr n cr k 0 A2 m2 c2 w9 from hSw).c1; have y2 := (show KC r gr n cr k 0 A2 m2 c2 w9 from hSw).c2; clear hSw
          go_simp
          all_goals with_reducible rfl
        simp only [Act.put, List.setIfInBounds_toArray, List.set_cons_zero, List.set_cons_succ]
        refine wpAnyH_at (i := 21) (some 45) (v := ?v21z21) rfl rfl (by kernel_rfl) (by kernel_rfl) (by kernel_rfl) (fun _ _ _ h => h) (Or.inl ⟨by rfl, ?y21z21⟩) (by assumption) ?r21z21
        case y21z21 =>
          intro w9 hSw
          have y0 := (show KC r gr n cr k 0 A2 m2 c2 w9 from hSw).c0; have y1 := (show KC r gr n cr k 0 A2 m2 c2 w9 from hSw).c1; have y2 := (show KC r gr n cr k 0 A2 m2 c2 w9 from hSw).c2; clear hSw
          go_simp
          all_goals with_reducible rfl
        simp only [Act.put, List.setIfInBounds_toArray, List.set_cons_zero, List.set_cons_succ]
        refine wpAnyH_at (i := 22) (some 46) (v := ?v22z22) rfl rfl (by kernel_rfl) (by kernel_rfl) (by kernel_rfl) (fun _ _ _ h => h) (Or.inl ⟨by rfl, ?y22z22⟩) (by assumption) ?r22z22
        case y22z22 =>
          intro w9 hSw
          clear hSw
          go_simp
          all_goals with_reducible rfl
        simp only [Act.put, List.setIfInBounds_toArray, List.set_cons_zero, List.set_cons_succ]
        refine wpAnyH_at (i := 23) (some 47) (v := ?v23z23) rfl rfl (by kernel_rfl) (by kernel_rfl) (by kernel_rfl) (fun _ _ _ h => h) (Or.inl ⟨by rfl, ?y23z23⟩) (by assumption) ?r23z23
        case y23z23 =>
          intro w9 hSw
          clear hSw
          go_simp
          all_goals with_reducible rfl
        simp only [Act.put, List.setIfInBounds_toArray, List.set_cons_zero, List.set_cons_succ]
        refine wpAnyH_at (i := 24) (some 48) (v := ?v24z24) rfl rfl (by kernel_rfl) (by kernel_rfl) (by kernel_rfl) (fun _ _ _ h => h) (Or.inl ⟨by rfl, ?y24z24⟩) (by assumption) ?r24z24
        case y24z24 =>
          intro w9 hSw
          clear hSw
          go_simp
          all_goals with_reducible rfl
        simp only [Act.put, List.setIfInBounds_toArray, List.set_cons_zero, List.set_cons_succ]
        refine wpAnyH_at (i := 25) (some 49) (v := ?v25z25) rfl rfl (by kernel_rfl) (by kernel_rfl) (by kernel_rfl) (fun _ _ _ h => h) (Or.inl ⟨by rfl, ?y25z25⟩) (by assumption) ?r25z25
        case y25z25 =>
          intro w9 hSw
          clear hSw
          go_simp
          all_goals with_reducible rfl
        simp only [Act.put, List.setIfInBounds_toArray, List.set_cons_zero, List.set_cons_succ]
        refine wpAnyH_at (i := 26) (some 50) (v := ?v26z26) rfl rfl (by kernel_rfl) (by kernel_rfl) (by kernel_rfl) (fun _ _ _ h => h) (Or.inl ⟨by rfl, ?y26z26⟩) (by assumption) ?r26z26
        case y26z26 =>
          intro w9 hSw
          clear hSw
          go_simp
          all_goals with_reducible rfl
        simp only [Act.put, List.setIfInBounds_toArray, List.set_cons_zero, List.set_cons_succ]
        refine wpAnyH_at (i := 27) (some 51) (v := ?v27z27) rfl rfl (by kernel_rfl) (by kernel_rfl) (by kernel_rfl) (fun _ _ _ h => h) (Or.inl ⟨by rfl, ?y27z27⟩) (by assumption) ?r27z27
        case y27z27 =>
          intro w9 hSw
          clear hSw
          go_simp
          all_goals with_reducible rfl
        simp only [Act.put, List.setIfInBounds_toArray, List.set_cons_zero, List.set_cons_succ]
        refine wpAnyH_at (i := 28) (some 52) (v := ?v28z28) rfl rfl (by kernel_rfl) (by kernel_rfl) (by kernel_rfl) (fun _ _ _ h => h) (Or.inl ⟨by rfl, ?y28z28⟩) (by assumption) ?r28z28
        case y28z28 =>
          intro w9 hSw
          clear hSw
          go_simp
          all_goals with_reducible rfl
        simp only [Act.put, List.setIfInBounds_toArray, List.set_cons_zero, List.set_cons_succ]
        refine wpAnyH_at (i := 29) (some 53) (v := ?v29z29) rfl rfl (by kernel_rfl) (by kernel_rfl) (by kernel_rfl) (fun _ _ _ h => h) (Or.inl ⟨by rfl, ?y29z29⟩) (by assumption) ?r29z29
        case y29z29 =>
          intro w9 hSw
          clear hSw
          go_simp
          all_goals with_reducible rfl
        simp only [Act.put, List.setIfInBounds_toArray, List.set_cons_zero, List.set_cons_succ]
        refine wpAnyH_at (i := 30) (some 54) (v := ?v30z30) rfl rfl (by kernel_rfl) (by kernel_rfl) (by kernel_rfl) (fun _ _ _ h => h) (Or.inl ⟨by rfl, ?y30z30⟩) (by assumption) ?r30z30
        case y30z30 =>
          intro w9 hSw
          have y0 := (show KC r gr n cr k 0 A2 m2 c2 w9 from hSw).c0; have y1 := (show KC r gr n cr k 0 A2 m2 c2 w9 from hSw).c1; have y2 := (show KC r gr n cr k 0 A2 m2 c2 w9 from hSw).c2; clear hSw
          go_simp
          all_goals with_reducible rfl
        simp only [Act.put, List.setIfInBounds_toArray, List.set_cons_zero, List.set_cons_succ]
        refine wpAnyH_at (i := 31) (some 55) (v := ?v31z31) rfl rfl (by kernel_rfl) (by kernel_rfl) (by kernel_rfl) (fun _ _ _ h => h) (Or.inl ⟨by rfl, ?y31z31⟩) (by assumption) ?r31z31
        case y31z31 =>
          intro w9 hSw
          have y0 := (show KC r gr n cr k 0 A2 m2 c2 w9 from hSw).c0; have y1 := (show KC r gr n cr k 0 A2 m2 c2 w9 from hSw).c1; have y2 := (show KC r gr n cr k 0 A2 m2 c2 w9 from hSw).c2; clear hSw
          go_simp
          all_goals with_reducible rfl
        simp only [Act.put, List.setIfInBounds_toArray, List.set_cons_zero, List.set_cons_succ]
        refine wpAnyH_at (i := 32) (some 56) (v := ?v32z32) rfl rfl (by kernel_rfl) (by kernel_rfl) (by kernel_rfl) (fun _ _ _ h => h) (Or.inl ⟨by rfl, ?y32z32⟩) (by assumption) ?r32z32
        case y32z32 =>
          intro w9 hSw
          have y0 := (show KC r gr n cr k 0 A2 m2 c2 w9 from hSw).c0; have y1 := (show KC r gr n cr k 0 A2 m2 c2 w9 from hSw).c1; have y2 := (show KC r gr n cr k 0 A2 m2 c2 w9 from hSw).c2; clear hSw
          go_simp
          all_goals with_reducible rfl
        simp only [Act.put, List.setIfInBounds_toArray, List.set_cons_zero, List.set_cons_succ]
        refine wpAnyH_at (i := 33) (some 57) (v := ?v33z33) rfl rfl (by kernel_rfl) (by kernel_rfl) (by kernel_rfl) (fun _ _ _ h => h) (Or.inl ⟨by rfl, ?y33z33⟩) (by assumption) ?r33z33
        case y33z33 =>
          intro w9 hSw
          have y0 := (show KC r gr n cr k 0 A2 m2 c2 w9 from hSw).c0; have y1 := (show KC r gr n cr k 0 A2 m2 c2 w9 from hSw).c1; have y2 := (show KC r gr n cr k 0 A2 m2 c2 w9 from hSw).c2; clear hSw
          go_simp
          all_goals with_reducible rfl
        simp only [Act.put, List.setIfInBounds_toArray, List.set_cons_zero, List.set_cons_succ]
        refine wpAnyH_at (i := 34) (some 58) (v := ?v34z34) rfl rfl (by kernel_rfl) (by kernel_rfl) (by kernel_rfl) (fun _ _ _ h => h) (Or.inl ⟨by rfl, ?y34z34⟩) (by assumption) ?r34z34
        case y34z34 =>
          intro w9 hSw
          have y0 := (show KC r gr n cr k 0 A2 m2 c2 w9 from hSw).c0; have y1 := (show KC r gr n cr k 0 A2 m2 c2 w9 from hSw).c1; have y2 := (show KC r gr n cr k 0 A2 m2 c2 w9 from hSw).c2; clear hSw
          go_simp
          all_goals with_reducible rfl
        simp only [Act.put, List.setIfInBounds_toArray, List.set_cons_zero, List.set_cons_succ]
        refine wpAnyH_one (i := 35) (by kernel_rfl) rfl ?_
        go_wp2_with fail
        refine (same_any _ _ _ _ _ _ _ _ _ _ r1 o2.rd).mono ?_
        rintro ev w4 ⟨rfl, hb4⟩
        go_wp2
        replace hp2 := hp2.below hb4
        replace q := q.step hb4
        replace hb := hb.trans (hb4.mono hb.size)
        clear hb4 r1 o2 hHeld
        have hHeld := q
        refine ⟨hHeld, ?_⟩
        try simp only [Act.put, List.setIfInBounds_toArray, List.set_cons_zero, List.set_cons_succ]
        refine wpAnyH_at (i := 36) (some 60) (v := ?v36z35) rfl rfl (by kernel_rfl) (by kernel_rfl) (by kernel_rfl) (fun _ _ _ h => h) (Or.inl ⟨by rfl, ?y36z35⟩) (by assumption) ?r36z35
        case y36z35 =>
          intro w9 hSw
          clear hSw
          go_simp
          all_goals with_reducible rfl
        simp only [Act.put, List.setIfInBounds_toArray, List.set_cons_zero, List.set_cons_succ]
        refine wpAnyH_at (i := 37) (some 61) (v := ?v37z36) rfl rfl (by kernel_rfl) (by kernel_rfl) (by kernel_rfl) (fun _ _ _ h => h) (Or.inl ⟨by rfl, ?y37z36⟩) (by assumption) ?r37z36
        case y37z36 =>
          intro w9 hSw
          clear hSw
          go_simp
          all_goals with_reducible rfl
        simp only [Act.put, List.setIfInBounds_toArray, List.set_cons_zero, List.set_cons_succ]
        refine wpAnyH_done (by kernel_rfl) ?_ _
        go_wp2
        go_roundw
        case rel => exact ⟨k + 1, by omega, by first | rfl | (rw [Ha.out]; go_num) | (rw [Ha.out]), by go_num, hb⟩
        case measure => simp [intOf]; omega
      · have ct := Lib.hid (fun W q => bytes_any p g cp L F (k : Int) W q)
        rw [takenB_yes hkL he] at ct
        have Ha := Lib.hid (leftAt_no he)
        have hpos : 0 < ow L k := by have := (hG.2 k).1; omega
        generalize ow L k = o' at *
        have q : KC r gr n cr k o' A2 m2 c2 wr := ⟨x0, x1, x2⟩
        clear x1 x2 he hkL hG
        go_wp2_with fail
        refine (ct.out _ hp2).mono ?_
        rintro ev w1 ⟨A1, m1, c1, xs, rfl, o1, hb1, hxs⟩
        obtain rfl := hxs k rfl hkL2.out
        replace hp2 := hp2.below hb1
        replace q := q.step hb1
        replace hb := hb.trans (hb1.mono hb.size)
        replace o2 := o2.below hb1 (Nat.le_refl _)
        have r1 := o1.rd
        clear hb1 o1 hxs ct x0
        go_wp2
        refine wp_region_held_drew (S := fun w' => KC r gr n cr k o' A2 m2 c2 w') (by kernel_rfl) (q.step (below_drew _)) (fun hHeld => ?_)
        replace hp2 := hp2.below (below_drew _)
        replace hb := hb.trans ((below_drew _).mono hb.size)
        replace o2 := o2.below (below_drew _) (Nat.le_refl _)
        replace q := q.step (below_drew _)
        replace r1 := (r1.below (below_drew _) (Nat.le_refl _))
        change wpAnyH _ _ _ _ _ _ _ _ (World.drew _)
        generalize hW2 : World.drew w1 = W2 at *
        have hsz : w1.heap.size = W2.heap.size := by rw [← hW2]; rfl
        rw [hsz] at r1
        clear hsz hW2
        refine wpAnyH_at (i := 0) (some 24) (v := ?v0z37) rfl rfl (by kernel_rfl) (by kernel_rfl) (by kernel_rfl) (fun _ _ _ h => h) (Or.inl ⟨by rfl, ?y0z37⟩) (by assumption) ?r0z37
        case y0z37 =>
          intro w9 hSw
          clear hSw
          go_simp
          all_goals with_reducible rfl
        simp only [Act.put, List.setIfInBounds_toArray, List.set_cons_zero, List.set_cons_succ]
        refine wpAnyH_at (i := 1) (some 25) (v := ?v1z38) rfl rfl (by kernel_rfl) (by kernel_rfl) (by kernel_rfl) (fun _ _ _ h => h) (Or.inl ⟨by rfl, ?y1z38⟩) (by assumption) ?r1z38
        case y1z38 =>
          intro w9 hSw
          clear hSw
          go_simp
          all_goals with_reducible rfl
        simp only [Act.put, List.setIfInBounds_toArray, List.set_cons_zero, List.set_cons_succ]
        refine wpAnyH_at (i := 3) (some 27) (v := ?v3z39) rfl rfl (by kernel_rfl) (by kernel_rfl) (by kernel_rfl) (fun _ _ _ h => h) (Or.inl ⟨by rfl, ?y3z39⟩) (by assumption) ?r3z39
        case y3z39 =>
          intro w9 hSw
          clear hSw
          go_simp
          all_goals with_reducible rfl
        simp only [Act.put, List.setIfInBounds_toArray, List.set_cons_zero, List.set_cons_succ]
        refine wpAnyH_at (i := 4) (some 28) (v := ?v4z40) rfl rfl (by kernel_rfl) (by kernel_rfl) (by kernel_rfl) (fun _ _ _ h => h) (Or.inl ⟨by rfl, ?y4z40⟩) (by assumption) ?r4z40
        case y4z40 =>
          intro w9 hSw
          clear hSw
          go_simp
          all_goals with_reducible rfl
        simp only [Act.put, List.setIfInBounds_toArray, List.set_cons_zero, List.set_cons_succ]
        refine wpAnyH_at (i := 5) (some 29) (v := ?v5z41) rfl rfl (by kernel_rfl) (by kernel_rfl) (by kernel_rfl) (fun _ _ _ h => h) (Or.inl ⟨by rfl, ?y5z41⟩) (by assumption) ?r5z41
        case y5z41 =>
          intro w9 hSw
          clear hSw
          go_simp
          all_goals with_reducible rfl
        simp only [Act.put, List.setIfInBounds_toArray, List.set_cons_zero, List.set_cons_succ]
        refine wpAnyH_at (i := 6) (some 30) (v := ?v6z42) rfl rfl (by kernel_rfl) (by kernel_rfl) (by kernel_rfl) (fun _ _ _ h => h) (Or.inl ⟨by rfl, ?y6z42⟩) (by assumption) ?r6z42
        case y6z42 =>
          intro w9 hSw
          have y0 := (show KC r gr n cr k o' A2 m2 c2 w9 from hSw).c0; have y1 := (show KC r gr n cr k o' A2 m2 c2 w9 from hSw).c1; have y2 := (show KC r gr n cr k o' A2 m2 c2 w9 from hSw).c2; clear hSw
          go_simp
          all_goals with_reducible rfl
        simp only [Act.put, List.setIfInBounds_toArray, List.set_cons_zero, List.set_cons_succ]
        refine wpAnyH_at (i := 7) (some 31) (v := ?v7z43) rfl rfl (by kernel_rfl) (by kernel_rfl) (by kernel_rfl) (fun _ _ _ h => h) (Or.inl ⟨by rfl, ?y7z43⟩) (by assumption) ?r7z43
        case y7z43 =>
          intro w9 hSw
          clear hSw
          go_simp
          all_goals with_reducible rfl
        simp only [Act.put, List.setIfInBounds_toArray, List.set_cons_zero, List.set_cons_succ]
        refine wpAnyH_at (i := 8) (some 32) (v := ?v8z44) rfl rfl (by kernel_rfl) (by kernel_rfl) (by kernel_rfl) (fun _ _ _ h => h) (Or.inl ⟨by rfl, ?y8z44⟩) (by assumption) ?r8z44
        case y8z44 =>
          intro w9 hSw
          have y0 := (show KC r gr n cr k o' A2 m2 c2 w9 from hSw).c0; have y1 := (show KC r gr n cr k o' A2 m2 c2 w9 from hSw).c1; have y2 := (show KC r gr n cr k o' A2 m2 c2 w9 from hSw).c2; clear hSw
          go_simp
          all_goals with_reducible rfl
        simp only [Act.put, List.setIfInBounds_toArray, List.set_cons_zero, List.set_cons_succ]
        refine wpAnyH_at (i := 9) (some 33) (v := ?v9z45) rfl rfl (by kernel_rfl) (by kernel_rfl) (by kernel_rfl) (fun _ _ _ h => h) (Or.inl ⟨by rfl, ?y9z45⟩) (by assumption) ?r9z45
        case y9z45 =>
          intro w9 hSw
          have y0 := (show KC r gr n cr k o' A2 m2 c2 w9 from hSw).c0; have y1 := (show KC r gr n cr k o' A2 m2 c2 w9 from hSw).c1; have y2 := (show KC r gr n cr k o' A2 m2 c2 w9 from hSw).c2; clear hSw
          go_simp
          all_goals with_reducible rfl
        simp only [Act.put, List.setIfInBounds_toArray, List.set_cons_zero, List.set_cons_succ]
        refine wpAnyH_at (i := 10) (some 34) (v := ?v10z46) rfl rfl (by kernel_rfl) (by kernel_rfl) (by kernel_rfl) (fun _ _ _ h => h) (Or.inl ⟨by rfl, ?y10z46⟩) (by assumption) ?r10z46
        case y10z46 =>
          intro w9 hSw
          have y0 := (show KC r gr n cr k o' A2 m2 c2 w9 from hSw).c0; have y1 := (show KC r gr n cr k o' A2 m2 c2 w9 from hSw).c1; have y2 := (show KC r gr n cr k o' A2 m2 c2 w9 from hSw).c2; clear hSw
          go_simp
          all_goals with_reducible rfl
        simp only [Act.put, List.setIfInBounds_toArray, List.set_cons_zero, List.set_cons_succ]
        refine wpAnyH_one (i := 2) (by kernel_rfl) rfl ?_
        go_wp2_with fail
        refine (cO.out _ hp2).mono ?_
        rintro ev w3 ⟨rfl, rfl⟩
        go_wp2
        refine ⟨hHeld, ?_⟩
        try simp only [Act.put, List.setIfInBounds_toArray, List.set_cons_zero, List.set_cons_succ]
        refine wpAnyH_at (i := 11) (some 35) (v := ?v11z47) rfl rfl (by kernel_rfl) (by kernel_rfl) (by kernel_rfl) (fun _ _ _ h => h) (Or.inl ⟨by rfl, ?y11z47⟩) (by assumption) ?r11z47
        case y11z47 =>
          intro w9 hSw
          clear hSw
          go_simp
          all_goals with_reducible rfl
        simp only [Act.put, List.setIfInBounds_toArray, List.set_cons_zero, List.set_cons_succ]
        refine wpAnyH_at (i := 12) (some 36) (v := ?v12z48) rfl rfl (by kernel_rfl) (by kernel_rfl) (by kernel_rfl) (fun _ _ _ h => h) (Or.inl ⟨by rfl, ?y12z48⟩) (by assumption) ?r12z48
        case y12z48 =>
          intro w9 hSw
          clear hSw
          go_simp
          all_goals with_reducible rfl
        simp only [Act.put, List.setIfInBounds_toArray, List.set_cons_zero, List.set_cons_succ]
        refine wpAnyH_at (i := 13) (some 37) (v := ?v13z49) rfl rfl (by kernel_rfl) (by kernel_rfl) (by kernel_rfl) (fun _ _ _ h => h) (Or.inl ⟨by rfl, ?y13z49⟩) (by assumption) ?r13z49
        case y13z49 =>
          intro w9 hSw
          clear hSw
          go_simp
          all_goals with_reducible rfl
        simp only [Act.put, List.setIfInBounds_toArray, List.set_cons_zero, List.set_cons_succ]
        refine wpAnyH_at (i := 14) (some 38) (v := ?v14z50) rfl rfl (by kernel_rfl) (by kernel_rfl) (by kernel_rfl) (fun _ _ _ h => h) (Or.inl ⟨by rfl, ?y14z50⟩) (by assumption) ?r14z50
        case y14z50 =>
          intro w9 hSw
          clear hSw
          go_simp
          all_goals with_reducible rfl
        simp only [Act.put, List.setIfInBounds_toArray, List.set_cons_zero, List.set_cons_succ]
        refine wpAnyH_at (i := 15) (some 39) (v := ?v15z51) rfl rfl (by kernel_rfl) (by kernel_rfl) (by kernel_rfl) (fun _ _ _ h => h) (Or.inl ⟨by rfl, ?y15z51⟩) (by assumption) ?r15z51
        case y15z51 =>
          intro w9 hSw
          clear hSw
          go_simp
          all_goals with_reducible rfl
        simp only [Act.put, List.setIfInBounds_toArray, List.set_cons_zero, List.set_cons_succ]
        refine wpAnyH_at (i := 16) (some 40) (v := ?v16z52) rfl rfl (by kernel_rfl) (by kernel_rfl) (by kernel_rfl) (fun _ _ _ h => h) (Or.inl ⟨by rfl, ?y16z52⟩) (by assumption) ?r16z52
        case y16z52 =>
          intro w9 hSw
          clear hSw
          go_simp
          all_goals with_reducible rfl
        simp only [Act.put, List.setIfInBounds_toArray, List.set_cons_zero, List.set_cons_succ]
        refine wpAnyH_at (i := 17) (some 41) (v := ?v17z53) rfl rfl (by kernel_rfl) (by kernel_rfl) (by kernel_rfl) (fun _ _ _ h => h) (Or.inl ⟨by rfl, ?y17z53⟩) (by assumption) ?r17z53
        case y17z53 =>
          intro w9 hSw
          have y0 := (show KC r gr n cr k o' A2 m2 c2 w9 from hSw).c0; have y1 := (show KC r gr n cr k o' A2 m2 c2 w9 from hSw).c1; have y2 := (show KC r gr n cr k o' A2 m2 c2 w9 from hSw).c2; clear hSw
          go_simp
          all_goals with_reducible rfl
        simp only [Act.put, List.setIfInBounds_toArray, List.set_cons_zero, List.set_cons_succ]
        refine wpAnyH_at (i := 18) (some 42) (v := ?v18z54) rfl rfl (by kernel_rfl) (by kernel_rfl) (by kernel_rfl) (fun _ _ _ h => h) (Or.inl ⟨by rfl, ?y18z54⟩) (by assumption) ?r18z54
        case y18z54 =>
          intro w9 hSw
          have y0 := (show KC r gr n cr k o' A2 m2 c2 w9 from hSw).c0; have y1 := (show KC r gr n cr k o' A2 m2 c2 w9 from hSw).c1; have y2 := (show KC r gr n cr k o' A2 m2 c2 w9 from hSw).c2; clear hSw
          go_simp
          all_goals with_reducible rfl
        simp only [Act.put, List.setIfInBounds_toArray, List.set_cons_zero, List.set_cons_succ]
        refine wpAnyH_at (i := 19) (some 43) (v := ?v19z55) rfl rfl (by kernel_rfl) (by kernel_rfl) (by kernel_rfl) (fun _ _ _ h => h) (Or.inl ⟨by rfl, ?y19z55⟩) (by assumption) ?r19z55
        case y19z55 =>
          intro w9 hSw
          have y0 := (show KC r gr n cr k o' A2 m2 c2 w9 from hSw).c0; have y1 := (show KC r gr n cr k o' A2 m2 c2 w9 from hSw).c1; have y2 := (show KC r gr n cr k o' A2 m2 c2 w9 from hSw).c2; clear hSw
          go_simp
          all_goals with_reducible rfl
        simp only [Act.put, List.setIfInBounds_toArray, List.set_cons_zero, List.set_cons_succ]
        refine wpAnyH_at (i := 20) (some 44) (v := ?v20z56) rfl rfl (by kernel_rfl) (by kernel_rfl) (by kernel_rfl) (fun _ _ _ h => h) (Or.inl ⟨by rfl, ?y20z56⟩) (by assumption) ?r20z56
        case y20z56 =>
          intro w9 hSw
          have y0 := (show KC r gr n cr k o' A2 m2 c2 w9 from hSw).c0; have y1 := (show KC r gr n cr k o' A2 m2 c2 w9 from hSw).c1; have y2 := (show KC r gr n cr k o' A2 m2 c2 w9 from hSw).c2; clear hSw
          go_simp
          all_goals with_reducible rfl
        simp only [Act.put, List.setIfInBounds_toArray, List.set_cons_zero, List.set_cons_succ]
        refine wpAnyH_at (i := 21) (some 45) (v := ?v21z57) rfl rfl (by kernel_rfl) (by kernel_rfl) (by kernel_rfl) (fun _ _ _ h => h) (Or.inl ⟨by rfl, ?y21z57⟩) (by assumption) ?r21z57
        case y21z57 =>
          intro w9 hSw
          have y0 := (show KC r gr n cr k o' A2 m2 c2 w9 from hSw).c0; have y1 := (show KC r gr n cr k o' A2 m2 c2 w9 from hSw).c1; have y2 := (show KC r gr n cr k o' A2 m2 c2 w9 from hSw).c2; clear hSw
          go_simp
          all_goals with_reducible rfl
        simp only [Act.put, List.setIfInBounds_toArray, List.set_cons_zero, List.set_cons_succ]
        refine wpAnyH_at (i := 22) (some 46) (v := ?v22z58) rfl rfl (by kernel_rfl) (by kernel_rfl) (by kernel_rfl) (fun _ _ _ h => h) (Or.inl ⟨by rfl, ?y22z58⟩) (by assumption) ?r22z58
        case y22z58 =>
          intro w9 hSw
          clear hSw
          go_simp
          all_goals with_reducible rfl
        simp only [Act.put, List.setIfInBounds_toArray, List.set_cons_zero, List.set_cons_succ]
        refine wpAnyH_at (i := 23) (some 47) (v := ?v23z59) rfl rfl (by kernel_rfl) (by kernel_rfl) (by kernel_rfl) (fun _ _ _ h => h) (Or.inl ⟨by rfl, ?y23z59⟩) (by assumption) ?r23z59
        case y23z59 =>
          intro w9 hSw
          clear hSw
          go_simp
          all_goals with_reducible rfl
        simp only [Act.put, List.setIfInBounds_toArray, List.set_cons_zero, List.set_cons_succ]
        refine wpAnyH_at (i := 24) (some 48) (v := ?v24z60) rfl rfl (by kernel_rfl) (by kernel_rfl) (by kernel_rfl) (fun _ _ _ h => h) (Or.inl ⟨by rfl, ?y24z60⟩) (by assumption) ?r24z60
        case y24z60 =>
          intro w9 hSw
          clear hSw
          go_simp
          all_goals with_reducible rfl
        simp only [Act.put, List.setIfInBounds_toArray, List.set_cons_zero, List.set_cons_succ]
        refine wpAnyH_at (i := 25) (some 49) (v := ?v25z61) rfl rfl (by kernel_rfl) (by kernel_rfl) (by kernel_rfl) (fun _ _ _ h => h) (Or.inl ⟨by rfl, ?y25z61⟩) (by assumption) ?r25z61
        case y25z61 =>
          intro w9 hSw
          clear hSw
          go_simp
          all_goals with_reducible rfl
        simp only [Act.put, List.setIfInBounds_toArray, List.set_cons_zero, List.set_cons_succ]
        refine wpAnyH_at (i := 26) (some 50) (v := ?v26z62) rfl rfl (by kernel_rfl) (by kernel_rfl) (by kernel_rfl) (fun _ _ _ h => h) (Or.inl ⟨by rfl, ?y26z62⟩) (by assumption) ?r26z62
        case y26z62 =>
          intro w9 hSw
          clear hSw
          go_simp
          all_goals with_reducible rfl
        simp only [Act.put, List.setIfInBounds_toArray, List.set_cons_zero, List.set_cons_succ]
        refine wpAnyH_at (i := 27) (some 51) (v := ?v27z63) rfl rfl (by kernel_rfl) (by kernel_rfl) (by kernel_rfl) (fun _ _ _ h => h) (Or.inl ⟨by rfl, ?y27z63⟩) (by assumption) ?r27z63
        case y27z63 =>
          intro w9 hSw
          clear hSw
          go_simp
          all_goals with_reducible rfl
        simp only [Act.put, List.setIfInBounds_toArray, List.set_cons_zero, List.set_cons_succ]
        refine wpAnyH_at (i := 28) (some 52) (v := ?v28z64) rfl rfl (by kernel_rfl) (by kernel_rfl) (by kernel_rfl) (fun _ _ _ h => h) (Or.inl ⟨by rfl, ?y28z64⟩) (by assumption) ?r28z64
        case y28z64 =>
          intro w9 hSw
          clear hSw
          go_simp
          all_goals with_reducible rfl
        simp only [Act.put, List.setIfInBounds_toArray, List.set_cons_zero, List.set_cons_succ]
        refine wpAnyH_at (i := 29) (some 53) (v := ?v29z65) rfl rfl (by kernel_rfl) (by kernel_rfl) (by kernel_rfl) (fun _ _ _ h => h) (Or.inl ⟨by rfl, ?y29z65⟩) (by assumption) ?r29z65
        case y29z65 =>
          intro w9 hSw
          clear hSw
          go_simp
          all_goals with_reducible rfl
        simp only [Act.put, List.setIfInBounds_toArray, List.set_cons_zero, List.set_cons_succ]
        refine wpAnyH_at (i := 30) (some 54) (v := ?v30z66) rfl rfl (by kernel_rfl) (by kernel_rfl) (by kernel_rfl) (fun _ _ _ h => h) (Or.inl ⟨by rfl, ?y30z66⟩) (by assumption) ?r30z66
        case y30z66 =>
          intro w9 hSw
          have y0 := (show KC r gr n cr k o' A2 m2 c2 w9 from hSw).c0; have y1 := (show KC r gr n cr k o' A2 m2 c2 w9 from hSw).c1; have y2 := (show KC r gr n cr k o' A2 m2 c2 w9 from hSw).c2; clear hSw
          go_simp
          all_goals with_reducible rfl
        simp only [Act.put, List.setIfInBounds_toArray, List.set_cons_zero, List.set_cons_succ]
        refine wpAnyH_at (i := 31) (some 55) (v := ?v31z67) rfl rfl (by kernel_rfl) (by kernel_rfl) (by kernel_rfl) (fun _ _ _ h => h) (Or.inl ⟨by rfl, ?y31z67⟩) (by assumption) ?r31z67
        case y31z67 =>
          intro w9 hSw
          have y0 := (show KC r gr n cr k o' A2 m2 c2 w9 from hSw).c0; have y1 := (show KC r gr n cr k o' A2 m2 c2 w9 from hSw).c1; have y2 := (show KC r gr n cr k o' A2 m2 c2 w9 from hSw).c2; clear hSw
          go_simp
          all_goals with_reducible rfl
        simp only [Act.put, List.setIfInBounds_toArray, List.set_cons_zero, List.set_cons_succ]
        refine wpAnyH_at (i := 32) (some 56) (v := ?v32z68) rfl rfl (by kernel_rfl) (by kernel_rfl) (by kernel_rfl) (fun _ _ _ h => h) (Or.inl ⟨by rfl, ?y32z68⟩) (by assumption) ?r32z68
        case y32z68 =>
          intro w9 hSw
          have y0 := (show KC r gr n cr k o' A2 m2 c2 w9 from hSw).c0; have y1 := (show KC r gr n cr k o' A2 m2 c2 w9 from hSw).c1; have y2 := (show KC r gr n cr k o' A2 m2 c2 w9 from hSw).c2; clear hSw
          go_simp
          all_goals with_reducible rfl
        simp only [Act.put, List.setIfInBounds_toArray, List.set_cons_zero, List.set_cons_succ]
        refine wpAnyH_at (i := 33) (some 57) (v := ?v33z69) rfl rfl (by kernel_rfl) (by kernel_rfl) (by kernel_rfl) (fun _ _ _ h => h) (Or.inl ⟨by rfl, ?y33z69⟩) (by assumption) ?r33z69
        case y33z69 =>
          intro w9 hSw
          have y0 := (show KC r gr n cr k o' A2 m2 c2 w9 from hSw).c0; have y1 := (show KC r gr n cr k o' A2 m2 c2 w9 from hSw).c1; have y2 := (show KC r gr n cr k o' A2 m2 c2 w9 from hSw).c2; clear hSw
          go_simp
          all_goals with_reducible rfl
        simp only [Act.put, List.setIfInBounds_toArray, List.set_cons_zero, List.set_cons_succ]
        refine wpAnyH_at (i := 34) (some 58) (v := ?v34z70) rfl rfl (by kernel_rfl) (by kernel_rfl) (by kernel_rfl) (fun _ _ _ h => h) (Or.inl ⟨by rfl, ?y34z70⟩) (by assumption) ?r34z70
        case y34z70 =>
          intro w9 hSw
          have y0 := (show KC r gr n cr k o' A2 m2 c2 w9 from hSw).c0; have y1 := (show KC r gr n cr k o' A2 m2 c2 w9 from hSw).c1; have y2 := (show KC r gr n cr k o' A2 m2 c2 w9 from hSw).c2; clear hSw
          go_simp
          all_goals with_reducible rfl
        simp only [Act.put, List.setIfInBounds_toArray, List.set_cons_zero, List.set_cons_succ]
        refine wpAnyH_one (i := 35) (by kernel_rfl) rfl ?_
        go_wp2_with fail
        refine (same_any _ _ _ _ _ _ _ _ _ _ r1 o2.rd).mono ?_
        rintro ev w4 ⟨rfl, hb4⟩
        go_wp2
        replace hp2 := hp2.below hb4
        replace q := q.step hb4
        replace hb := hb.trans (hb4.mono hb.size)
        clear hb4 r1 o2 hHeld
        have hHeld := q
        refine ⟨hHeld, ?_⟩
        try simp only [Act.put, List.setIfInBounds_toArray, List.set_cons_zero, List.set_cons_succ]
        refine wpAnyH_at (i := 36) (some 60) (v := ?v36z71) rfl rfl (by kernel_rfl) (by kernel_rfl) (by kernel_rfl) (fun _ _ _ h => h) (Or.inl ⟨by rfl, ?y36z71⟩) (by assumption) ?r36z71
        case y36z71 =>
          intro w9 hSw
          clear hSw
          go_simp
          all_goals with_reducible rfl
        simp only [Act.put, List.setIfInBounds_toArray, List.set_cons_zero, List.set_cons_succ]
        refine wpAnyH_at (i := 37) (some 61) (v := ?v37z72) rfl rfl (by kernel_rfl) (by kernel_rfl) (by kernel_rfl) (fun _ _ _ h => h) (Or.inl ⟨by rfl, ?y37z72⟩) (by assumption) ?r37z72
        case y37z72 =>
          intro w9 hSw
          clear hSw
          go_simp
          all_goals with_reducible rfl
        simp only [Act.put, List.setIfInBounds_toArray, List.set_cons_zero, List.set_cons_succ]
        refine wpAnyH_done (by kernel_rfl) ?_ _
        go_wp2
        go_roundw
        case rel => exact ⟨k + 1, by omega, by first | rfl | (rw [Ha.out]; go_num) | (rw [Ha.out]), by go_num, hb⟩
        case measure => simp [intOf]; omega
    · obtain rfl : k = n := by omega
      have cL := Lib.hid (fun W q => (by have := left_any p g cp L F W q; rwa [HL.out] at this : Calls Try.prog 25 #[ptr p] W fun e w' => e = .returned (.int .i64 ((heldAt L 0 k).length : Int)) ∧ Below W.heap.size W w'))
      have cM := Lib.hid (fun W q => (by have := many_any p g cp L F W q; rwa [HN.out] at this : Calls Try.prog 57 #[ptr p] W fun e w' => e = .returned (.int .i64 (k : Int)) ∧ W = w'))
      have cO := Lib.hid (fun W b q hb => (by have := owner_any p g cp L F b W q; rwa [owV_no hb] at this : Calls Try.prog 33 #[ptr p, .int .i64 b] W fun e w' => e = .returned (.int .i64 (-1)) ∧ W = w'))
      have hko : Hid ((-1 : Int) < 0 ∨ (L.length : Int) ≤ -1) := Lib.hid (.inl (by omega))
      have hkk : Hid ((k : Int) < 0 ∨ (L.length : Int) ≤ (k : Int)) := Lib.hid (.inr (by rw [HN.out]; omega))
      generalize (heldAt L 0 k).length = lf at *
      clear HL HN hlen lz
      go_wp2
      refine wp_region_held_drew (S := fun w' => w'.cell? ⟨r, 0, none⟩ = some (.slice (some ⟨gr, 0, none⟩) k cr)) (by kernel_rfl) x0 (fun hHeld => ?_)
      replace hp2 := hp2.below (below_drew _)
      replace hb := hb.trans ((below_drew _).mono hb.size)
      have hrl := hr2.lt.1
      clear x0 hr2
      change wpAnyH _ _ _ _ _ _ _ _ (World.drew _)
      replace hHeld : (World.drew wr).cell? ⟨r, 0, none⟩ = some (.slice (some ⟨gr, 0, none⟩) k cr) := hHeld
      replace hrl : r < (World.drew wr).heap.size := hrl
      generalize World.drew _ = W2 at *
      refine wpAnyH_at (i := 0) (some 66) (v := ?v0z73) rfl rfl (by kernel_rfl) (by kernel_rfl) (by kernel_rfl) (fun _ _ _ h => h) (Or.inl ⟨by rfl, ?y0z73⟩) (by assumption) ?r0z73
      case y0z73 =>
        intro w9 hSw
        clear hSw
        go_simp
        all_goals with_reducible rfl
      simp only [Act.put, List.setIfInBounds_toArray, List.set_cons_zero, List.set_cons_succ]
      refine wpAnyH_at (i := 2) (some 68) (v := ?v2z74) rfl rfl (by kernel_rfl) (by kernel_rfl) (by kernel_rfl) (fun _ _ _ h => h) (Or.inl ⟨by rfl, ?y2z74⟩) (by assumption) ?r2z74
      case y2z74 =>
        intro w9 hSw
        clear hSw
        go_simp
        all_goals with_reducible rfl
      simp only [Act.put, List.setIfInBounds_toArray, List.set_cons_zero, List.set_cons_succ]
      refine wpAnyH_one (i := 1) (by kernel_rfl) rfl ?_
      go_wp2_with fail
      refine (cL.out _ hp2).mono ?_
      rintro ev W3 ⟨rfl, hb3⟩
      go_wp2
      replace hHeld := (hb3.cell (p := ⟨r, 0, none⟩) hrl).trans hHeld
      replace hrl := Nat.lt_of_lt_of_le hrl hb3.size
      replace hp2 := hp2.below hb3
      replace hb := hb.trans (hb3.mono hb.size)
      clear hb3
      refine ⟨hHeld, ?_⟩
      try simp only [Act.put, List.setIfInBounds_toArray, List.set_cons_zero, List.set_cons_succ]
      refine wpAnyH_at (i := 3) (some 69) (v := ?v3z75) rfl rfl (by kernel_rfl) (by kernel_rfl) (by kernel_rfl) (fun _ _ _ h => h) (Or.inl ⟨by rfl, ?y3z75⟩) (by assumption) ?r3z75
      case y3z75 =>
        intro w9 hSw
        clear hSw
        go_simp
        all_goals with_reducible rfl
      simp only [Act.put, List.setIfInBounds_toArray, List.set_cons_zero, List.set_cons_succ]
      refine wpAnyH_at (i := 4) (some 70) (v := ?v4z76) rfl rfl (by kernel_rfl) (by kernel_rfl) (by kernel_rfl) (fun _ _ _ h => h) (Or.inl ⟨by rfl, ?y4z76⟩) (by assumption) ?r4z76
      case y4z76 =>
        intro w9 hSw
        clear hSw
        go_simp
        all_goals with_reducible rfl
      simp only [Act.put, List.setIfInBounds_toArray, List.set_cons_zero, List.set_cons_succ]
      refine wpAnyH_at (i := 5) (some 71) (v := ?v5z77) rfl rfl (by kernel_rfl) (by kernel_rfl) (by kernel_rfl) (fun _ _ _ h => h) (Or.inl ⟨by rfl, ?y5z77⟩) (by assumption) ?r5z77
      case y5z77 =>
        intro w9 hSw
        clear hSw
        go_simp
        all_goals with_reducible rfl
      simp only [Act.put, List.setIfInBounds_toArray, List.set_cons_zero, List.set_cons_succ]
      refine wpAnyH_at (i := 7) (some 73) (v := ?v7z78) rfl rfl (by kernel_rfl) (by kernel_rfl) (by kernel_rfl) (fun _ _ _ h => h) (Or.inl ⟨by rfl, ?y7z78⟩) (by assumption) ?r7z78
      case y7z78 =>
        intro w9 hSw
        clear hSw
        go_simp
        all_goals with_reducible rfl
      simp only [Act.put, List.setIfInBounds_toArray, List.set_cons_zero, List.set_cons_succ]
      refine wpAnyH_at (i := 8) (some 74) (v := ?v8z79) rfl rfl (by kernel_rfl) (by kernel_rfl) (by kernel_rfl) (fun _ _ _ h => h) (Or.inl ⟨by rfl, ?y8z79⟩) (by assumption) ?r8z79
      case y8z79 =>
        intro w9 hSw
        clear hSw
        go_simp
        all_goals with_reducible rfl
      simp only [Act.put, List.setIfInBounds_toArray, List.set_cons_zero, List.set_cons_succ]
      refine wpAnyH_at (i := 9) (some 75) (v := ?v9z80) rfl rfl (by kernel_rfl) (by kernel_rfl) (by kernel_rfl) (fun _ _ _ h => h) (Or.inl ⟨by rfl, ?y9z80⟩) (by assumption) ?r9z80
      case y9z80 =>
        intro w9 hSw
        clear hSw
        go_simp
        all_goals with_reducible rfl
      simp only [Act.put, List.setIfInBounds_toArray, List.set_cons_zero, List.set_cons_succ]
      refine wpAnyH_at (i := 10) (some 76) (v := ?v10z81) rfl rfl (by kernel_rfl) (by kernel_rfl) (by kernel_rfl) (fun _ _ _ h => h) (Or.inl ⟨by rfl, ?y10z81⟩) (by assumption) ?r10z81
      case y10z81 =>
        intro w9 hSw
        have y0 : w9.cell? ⟨r, 0, none⟩ = some (.slice (some ⟨gr, 0, none⟩) k cr) := hSw; clear hSw
        go_simp
        all_goals with_reducible rfl
      simp only [Act.put, List.setIfInBounds_toArray, List.set_cons_zero, List.set_cons_succ]
      refine wpAnyH_at (i := 11) (some 77) (v := ?v11z82) rfl rfl (by kernel_rfl) (by kernel_rfl) (by kernel_rfl) (fun _ _ _ h => h) (Or.inl ⟨by rfl, ?y11z82⟩) (by assumption) ?r11z82
      case y11z82 =>
        intro w9 hSw
        clear hSw
        go_simp
        all_goals with_reducible rfl
      simp only [Act.put, List.setIfInBounds_toArray, List.set_cons_zero, List.set_cons_succ]
      refine wpAnyH_one (i := 6) (by kernel_rfl) rfl ?_
      go_wp2_with fail
      refine (cM.out _ hp2).mono ?_
      rintro ev W3 ⟨rfl, rfl⟩
      go_wp2
      refine ⟨hHeld, ?_⟩
      try simp only [Act.put, List.setIfInBounds_toArray, List.set_cons_zero, List.set_cons_succ]
      refine wpAnyH_at (i := 12) (some 78) (v := ?v12z83) rfl rfl (by kernel_rfl) (by kernel_rfl) (by kernel_rfl) (fun _ _ _ h => h) (Or.inl ⟨by rfl, ?y12z83⟩) (by assumption) ?r12z83
      case y12z83 =>
        intro w9 hSw
        clear hSw
        go_simp
        all_goals with_reducible rfl
      simp only [Act.put, List.setIfInBounds_toArray, List.set_cons_zero, List.set_cons_succ]
      refine wpAnyH_at (i := 13) (some 79) (v := ?v13z84) rfl rfl (by kernel_rfl) (by kernel_rfl) (by kernel_rfl) (fun _ _ _ h => h) (Or.inl ⟨by rfl, ?y13z84⟩) (by assumption) ?r13z84
      case y13z84 =>
        intro w9 hSw
        clear hSw
        go_simp
        all_goals with_reducible rfl
      simp only [Act.put, List.setIfInBounds_toArray, List.set_cons_zero, List.set_cons_succ]
      refine wpAnyH_at (i := 14) (some 80) (v := ?v14z85) rfl rfl (by kernel_rfl) (by kernel_rfl) (by kernel_rfl) (fun _ _ _ h => h) (Or.inl ⟨by rfl, ?y14z85⟩) (by assumption) ?r14z85
      case y14z85 =>
        intro w9 hSw
        clear hSw
        go_simp
        all_goals with_reducible rfl
      simp only [Act.put, List.setIfInBounds_toArray, List.set_cons_zero, List.set_cons_succ]
      refine wpAnyH_at (i := 15) (some 81) (v := ?v15z86) rfl rfl (by kernel_rfl) (by kernel_rfl) (by kernel_rfl) (fun _ _ _ h => h) (Or.inl ⟨by rfl, ?y15z86⟩) (by assumption) ?r15z86
      case y15z86 =>
        intro w9 hSw
        clear hSw
        go_simp
        all_goals with_reducible rfl
      simp only [Act.put, List.setIfInBounds_toArray, List.set_cons_zero, List.set_cons_succ]
      refine wpAnyH_one (i := 16) (by kernel_rfl) rfl ?_
      go_wp2_with fail
      refine (cO.out _ (-1) hp2 hko.out).mono ?_
      rintro ev W3 ⟨rfl, rfl⟩
      go_wp2
      refine ⟨hHeld, ?_⟩
      try simp only [Act.put, List.setIfInBounds_toArray, List.set_cons_zero, List.set_cons_succ]
      refine wpAnyH_at (i := 17) (some 83) (v := ?v17z87) rfl rfl (by kernel_rfl) (by kernel_rfl) (by kernel_rfl) (fun _ _ _ h => h) (Or.inl ⟨by rfl, ?y17z87⟩) (by assumption) ?r17z87
      case y17z87 =>
        intro w9 hSw
        clear hSw
        go_simp
        all_goals with_reducible rfl
      simp only [Act.put, List.setIfInBounds_toArray, List.set_cons_zero, List.set_cons_succ]
      refine wpAnyH_at (i := 18) (some 84) (v := ?v18z88) rfl rfl (by kernel_rfl) (by kernel_rfl) (by kernel_rfl) (fun _ _ _ h => h) (Or.inl ⟨by rfl, ?y18z88⟩) (by assumption) ?r18z88
      case y18z88 =>
        intro w9 hSw
        clear hSw
        go_simp
        all_goals with_reducible rfl
      simp only [Act.put, List.setIfInBounds_toArray, List.set_cons_zero, List.set_cons_succ]
      refine wpAnyH_at (i := 19) (some 85) (v := ?v19z89) rfl rfl (by kernel_rfl) (by kernel_rfl) (by kernel_rfl) (fun _ _ _ h => h) (Or.inl ⟨by rfl, ?y19z89⟩) (by assumption) ?r19z89
      case y19z89 =>
        intro w9 hSw
        clear hSw
        go_simp
        all_goals with_reducible rfl
      simp only [Act.put, List.setIfInBounds_toArray, List.set_cons_zero, List.set_cons_succ]
      refine wpAnyH_at (i := 20) (some 86) (v := ?v20z90) rfl rfl (by kernel_rfl) (by kernel_rfl) (by kernel_rfl) (fun _ _ _ h => h) (Or.inl ⟨by rfl, ?y20z90⟩) (by assumption) ?r20z90
      case y20z90 =>
        intro w9 hSw
        clear hSw
        go_simp
        all_goals with_reducible rfl
      simp only [Act.put, List.setIfInBounds_toArray, List.set_cons_zero, List.set_cons_succ]
      refine wpAnyH_at (i := 21) (some 87) (v := ?v21z91) rfl rfl (by kernel_rfl) (by kernel_rfl) (by kernel_rfl) (fun _ _ _ h => h) (Or.inl ⟨by rfl, ?y21z91⟩) (by assumption) ?r21z91
      case y21z91 =>
        intro w9 hSw
        clear hSw
        go_simp
        all_goals with_reducible rfl
      simp only [Act.put, List.setIfInBounds_toArray, List.set_cons_zero, List.set_cons_succ]
      refine wpAnyH_at (i := 22) (some 88) (v := ?v22z92) rfl rfl (by kernel_rfl) (by kernel_rfl) (by kernel_rfl) (fun _ _ _ h => h) (Or.inl ⟨by rfl, ?y22z92⟩) (by assumption) ?r22z92
      case y22z92 =>
        intro w9 hSw
        clear hSw
        go_simp
        all_goals with_reducible rfl
      simp only [Act.put, List.setIfInBounds_toArray, List.set_cons_zero, List.set_cons_succ]
      refine wpAnyH_at (i := 23) (some 89) (v := ?v23z93) rfl rfl (by kernel_rfl) (by kernel_rfl) (by kernel_rfl) (fun _ _ _ h => h) (Or.inl ⟨by rfl, ?y23z93⟩) (by assumption) ?r23z93
      case y23z93 =>
        intro w9 hSw
        clear hSw
        go_simp
        all_goals with_reducible rfl
      simp only [Act.put, List.setIfInBounds_toArray, List.set_cons_zero, List.set_cons_succ]
      refine wpAnyH_at (i := 24) (some 90) (v := ?v24z94) rfl rfl (by kernel_rfl) (by kernel_rfl) (by kernel_rfl) (fun _ _ _ h => h) (Or.inl ⟨by rfl, ?y24z94⟩) (by assumption) ?r24z94
      case y24z94 =>
        intro w9 hSw
        have y0 : w9.cell? ⟨r, 0, none⟩ = some (.slice (some ⟨gr, 0, none⟩) k cr) := hSw; clear hSw
        go_simp
        all_goals with_reducible rfl
      simp only [Act.put, List.setIfInBounds_toArray, List.set_cons_zero, List.set_cons_succ]
      refine wpAnyH_at (i := 25) (some 91) (v := ?v25z95) rfl rfl (by kernel_rfl) (by kernel_rfl) (by kernel_rfl) (fun _ _ _ h => h) (Or.inl ⟨by rfl, ?y25z95⟩) (by assumption) ?r25z95
      case y25z95 =>
        intro w9 hSw
        clear hSw
        go_simp
        all_goals with_reducible rfl
      simp only [Act.put, List.setIfInBounds_toArray, List.set_cons_zero, List.set_cons_succ]
      refine wpAnyH_one (i := 26) (by kernel_rfl) rfl ?_
      go_wp2_with fail
      refine (cO.out _ _ hp2 hkk.out).mono ?_
      rintro ev W3 ⟨rfl, rfl⟩
      go_wp2
      refine ⟨hHeld, ?_⟩
      try simp only [Act.put, List.setIfInBounds_toArray, List.set_cons_zero, List.set_cons_succ]
      refine wpAnyH_at (i := 27) (some 93) (v := ?v27z96) rfl rfl (by kernel_rfl) (by kernel_rfl) (by kernel_rfl) (fun _ _ _ h => h) (Or.inl ⟨by rfl, ?y27z96⟩) (by assumption) ?r27z96
      case y27z96 =>
        intro w9 hSw
        clear hSw
        go_simp
        all_goals with_reducible rfl
      simp only [Act.put, List.setIfInBounds_toArray, List.set_cons_zero, List.set_cons_succ]
      refine wpAnyH_at (i := 28) (some 94) (v := ?v28z97) rfl rfl (by kernel_rfl) (by kernel_rfl) (by kernel_rfl) (fun _ _ _ h => h) (Or.inl ⟨by rfl, ?y28z97⟩) (by assumption) ?r28z97
      case y28z97 =>
        intro w9 hSw
        clear hSw
        go_simp
        all_goals with_reducible rfl
      simp only [Act.put, List.setIfInBounds_toArray, List.set_cons_zero, List.set_cons_succ]
      refine wpAnyH_at (i := 29) (some 4) (v := ?v29z98) rfl rfl (by kernel_rfl) (by kernel_rfl) (by kernel_rfl) (fun _ _ _ h => h) (Or.inl ⟨by rfl, ?y29z98⟩) (by assumption) ?r29z98
      case y29z98 =>
        intro w9 hSw
        clear hSw
        go_simp
        all_goals with_reducible rfl
      simp only [Act.put, List.setIfInBounds_toArray, List.set_cons_zero, List.set_cons_succ]
      refine wpAnyH_done (by kernel_rfl) ?_ _
      go_wp2
      go_ret
      exact ⟨rfl, hb⟩
end Go.Proofs.Ytjaiagocbldbgaa
