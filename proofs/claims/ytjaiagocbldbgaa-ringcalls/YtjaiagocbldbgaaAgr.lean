/-
  The contract of agree.
-/
import Derived.Test.YtjaiagocbldbgaaTwo
import Derived.Test.YtjaiagocbldbgaaForce
namespace Go.Proofs.Ytjaiagocbldbgaa
open Go.RowKit
set_option linter.unusedVariables false

set_option maxRecDepth 100000 in
set_option maxHeartbeats 4000000 in
theorem agr_any (B p g cp q s r h cr t b z : Nat) (o : Int) (L : Slots) (R : List Nat) (d : Nat) (F : Nat → Prop) (w : World) (k : Two B p g cp q s r h cr t b z o L R d L R d F w) (hR : ∀ x ∈ R, x < L.length) :
    Calls Try.prog 14 #[ptr p, ptr q, ptr r, ptr t] w fun e w' => e = .returned (.bool true) ∧ Below w.heap.size w w' := by
  obtain ⟨A0, n, c0', hq⟩ := k.rr
  obtain rfl : R.length = n := hq.len
  have FA := Lib.hid (fun W (y : Below w.heap.size w W) => hq.cells.below y)
  obtain ⟨f, c1', ys, hg⟩ := k.rg
  have c1 := Lib.hid (fun W (y : Below w.heap.size w W) => len_any q p s f c1' R.length z o d W (hg.cells.below y))
  have c10 := Lib.hid (fun W (y : Below w.heap.size w W) => size_any q p s f c1' R.length z o d W (hg.cells.below y))
  have c19 := Lib.hid (fun W (y : Below w.heap.size w W) => dropped_any q p s f c1' R.length z o d W (hg.cells.below y))
  have c28 := Lib.hid (fun W (y : Below w.heap.size w W) => all_any q p s z o R d g cp L F W (k.rg.below y) (k.pp.below y) hR)
  have c30 := Lib.hid (fun W (y : Below w.heap.size w W) => rall_any t r b z o R d h cr L F W (k.rr.below y) (k.rp.below y) hR)
  have c36 := Lib.hid (fun W (y : Below w.heap.size w W) => agree_any p g cp r h cr L F F W (k.pp.below y) (k.rp.below y) k.hL.1)
  obtain ⟨N, hN⟩ : ∃ N, R.length = N := ⟨_, rfl⟩
  rw [hN] at FA c1 c28 c30
  clear hq hg k hN
  go_enter Try.func14, Try.ntmps14
  go_wp2
  refine wp_region_held_drew (S := fun W => Below w.heap.size w W) (by kernel_rfl) (below_drew _) (fun hHeld => ?_)
  have y := below_drew w
  change wpAnyH _ _ _ _ _ _ _ _ (World.drew _)
  generalize World.drew w = W0 at *
  refine wpAnyH_at (i := 0) (some 9) (v := ?v0z1) rfl rfl (by kernel_rfl) (by kernel_rfl) (by kernel_rfl) (fun _ _ _ h => h) (Or.inl ⟨by rfl, ?y0z1⟩) (by assumption) ?r0z1
  case y0z1 =>
    intro w9 hSw
    clear hSw
    go_simp
    all_goals with_reducible rfl
  simp only [Act.put, List.setIfInBounds_toArray, List.set_cons_zero, List.set_cons_succ]
  refine wpAnyH_at (i := 2) (some 11) (v := ?v2z2) rfl rfl (by kernel_rfl) (by kernel_rfl) (by kernel_rfl) (fun _ _ _ h => h) (Or.inl ⟨by rfl, ?y2z2⟩) (by assumption) ?r2z2
  case y2z2 =>
    intro w9 hSw
    obtain ⟨c0, c1, c2, c3, c4, ff, lt1⟩ := FA.out _ hSw; clear hSw
    go_simp
    all_goals with_reducible rfl
  simp only [Act.put, List.setIfInBounds_toArray, List.set_cons_zero, List.set_cons_succ]
  refine wpAnyH_at (i := 3) (some 12) (v := ?v3z3) rfl rfl (by kernel_rfl) (by kernel_rfl) (by kernel_rfl) (fun _ _ _ h => h) (Or.inl ⟨by rfl, ?y3z3⟩) (by assumption) ?r3z3
  case y3z3 =>
    intro w9 hSw
    obtain ⟨c0, c1, c2, c3, c4, ff, lt1⟩ := FA.out _ hSw; clear hSw
    go_simp
    all_goals with_reducible rfl
  simp only [Act.put, List.setIfInBounds_toArray, List.set_cons_zero, List.set_cons_succ]
  refine wpAnyH_at (i := 4) (some 13) (v := ?v4z4) rfl rfl (by kernel_rfl) (by kernel_rfl) (by kernel_rfl) (fun _ _ _ h => h) (Or.inl ⟨by rfl, ?y4z4⟩) (by assumption) ?r4z4
  case y4z4 =>
    intro w9 hSw
    obtain ⟨c0, c1, c2, c3, c4, ff, lt1⟩ := FA.out _ hSw; clear hSw
    go_simp
    all_goals with_reducible rfl
  simp only [Act.put, List.setIfInBounds_toArray, List.set_cons_zero, List.set_cons_succ]
  refine wpAnyH_at (i := 5) (some 14) (v := ?v5z5) rfl rfl (by kernel_rfl) (by kernel_rfl) (by kernel_rfl) (fun _ _ _ h => h) (Or.inl ⟨by rfl, ?y5z5⟩) (by assumption) ?r5z5
  case y5z5 =>
    intro w9 hSw
    obtain ⟨c0, c1, c2, c3, c4, ff, lt1⟩ := FA.out _ hSw; clear hSw
    go_simp
    all_goals with_reducible rfl
  simp only [Act.put, List.setIfInBounds_toArray, List.set_cons_zero, List.set_cons_succ]
  refine wpAnyH_at (i := 6) (some 15) (v := ?v6z6) rfl rfl (by kernel_rfl) (by kernel_rfl) (by kernel_rfl) (fun _ _ _ h => h) (Or.inl ⟨by rfl, ?y6z6⟩) (by assumption) ?r6z6
  case y6z6 =>
    intro w9 hSw
    obtain ⟨c0, c1, c2, c3, c4, ff, lt1⟩ := FA.out _ hSw; clear hSw
    go_simp
    all_goals with_reducible rfl
  simp only [Act.put, List.setIfInBounds_toArray, List.set_cons_zero, List.set_cons_succ]
  refine wpAnyH_one (i := 1) (by kernel_rfl) rfl ?_
  go_wp2_with fail
  refine (c1.out _ y).mono ?_
  rintro ev w1 ⟨rfl, rfl⟩
  go_wp2
  clear hHeld
  have hHeld := y
  refine ⟨hHeld, ?_⟩
  try simp only [Act.put, List.setIfInBounds_toArray, List.set_cons_zero, List.set_cons_succ]
  refine wpAnyH_at (i := 7) (some 16) (v := ?v7z7) rfl rfl (by kernel_rfl) (by kernel_rfl) (by kernel_rfl) (fun _ _ _ h => h) (Or.inl ⟨by rfl, ?y7z7⟩) (by assumption) ?r7z7
  case y7z7 =>
    intro w9 hSw
    obtain ⟨c0, c1, c2, c3, c4, ff, lt1⟩ := FA.out _ hSw; clear hSw
    go_simp
    all_goals with_reducible rfl
  simp only [Act.put, List.setIfInBounds_toArray, List.set_cons_zero, List.set_cons_succ]
  refine wpAnyH_at (i := 8) (some 17) (v := ?v8z8) rfl rfl (by kernel_rfl) (by kernel_rfl) (by kernel_rfl) (fun _ _ _ h => h) (Or.inl ⟨by rfl, ?y8z8⟩) (by assumption) ?r8z8
  case y8z8 =>
    intro w9 hSw
    clear hSw
    go_simp
    all_goals with_reducible rfl
  simp only [Act.put, List.setIfInBounds_toArray, List.set_cons_zero, List.set_cons_succ]
  refine wpAnyH_at (i := 9) (some 18) (v := ?v9z9) rfl rfl (by kernel_rfl) (by kernel_rfl) (by kernel_rfl) (fun _ _ _ h => h) (Or.inl ⟨by rfl, ?y9z9⟩) (by assumption) ?r9z9
  case y9z9 =>
    intro w9 hSw
    clear hSw
    go_simp
    all_goals with_reducible rfl
  simp only [Act.put, List.setIfInBounds_toArray, List.set_cons_zero, List.set_cons_succ]
  refine wpAnyH_at (i := 11) (some 20) (v := ?v11z10) rfl rfl (by kernel_rfl) (by kernel_rfl) (by kernel_rfl) (fun _ _ _ h => h) (Or.inl ⟨by rfl, ?y11z10⟩) (by assumption) ?r11z10
  case y11z10 =>
    intro w9 hSw
    clear hSw
    go_simp
    all_goals with_reducible rfl
  simp only [Act.put, List.setIfInBounds_toArray, List.set_cons_zero, List.set_cons_succ]
  refine wpAnyH_at (i := 12) (some 21) (v := ?v12z11) rfl rfl (by kernel_rfl) (by kernel_rfl) (by kernel_rfl) (fun _ _ _ h => h) (Or.inl ⟨by rfl, ?y12z11⟩) (by assumption) ?r12z11
  case y12z11 =>
    intro w9 hSw
    obtain ⟨c0, c1, c2, c3, c4, ff, lt1⟩ := FA.out _ hSw; clear hSw
    go_simp
    all_goals with_reducible rfl
  simp only [Act.put, List.setIfInBounds_toArray, List.set_cons_zero, List.set_cons_succ]
  refine wpAnyH_at (i := 13) (some 22) (v := ?v13z12) rfl rfl (by kernel_rfl) (by kernel_rfl) (by kernel_rfl) (fun _ _ _ h => h) (Or.inl ⟨by rfl, ?y13z12⟩) (by assumption) ?r13z12
  case y13z12 =>
    intro w9 hSw
    obtain ⟨c0, c1, c2, c3, c4, ff, lt1⟩ := FA.out _ hSw; clear hSw
    go_simp
    all_goals with_reducible rfl
  simp only [Act.put, List.setIfInBounds_toArray, List.set_cons_zero, List.set_cons_succ]
  refine wpAnyH_at (i := 14) (some 23) (v := ?v14z13) rfl rfl (by kernel_rfl) (by kernel_rfl) (by kernel_rfl) (fun _ _ _ h => h) (Or.inl ⟨by rfl, ?y14z13⟩) (by assumption) ?r14z13
  case y14z13 =>
    intro w9 hSw
    obtain ⟨c0, c1, c2, c3, c4, ff, lt1⟩ := FA.out _ hSw; clear hSw
    go_simp
    all_goals with_reducible rfl
  simp only [Act.put, List.setIfInBounds_toArray, List.set_cons_zero, List.set_cons_succ]
  refine wpAnyH_one (i := 10) (by kernel_rfl) rfl ?_
  go_wp2_with fail
  refine (c10.out _ y).mono ?_
  rintro ev w2 ⟨rfl, rfl⟩
  go_wp2
  clear hHeld
  have hHeld := y
  refine ⟨hHeld, ?_⟩
  try simp only [Act.put, List.setIfInBounds_toArray, List.set_cons_zero, List.set_cons_succ]
  refine wpAnyH_at (i := 15) (some 24) (v := ?v15z14) rfl rfl (by kernel_rfl) (by kernel_rfl) (by kernel_rfl) (fun _ _ _ h => h) (Or.inl ⟨by rfl, ?y15z14⟩) (by assumption) ?r15z14
  case y15z14 =>
    intro w9 hSw
    obtain ⟨c0, c1, c2, c3, c4, ff, lt1⟩ := FA.out _ hSw; clear hSw
    go_simp
    all_goals with_reducible rfl
  simp only [Act.put, List.setIfInBounds_toArray, List.set_cons_zero, List.set_cons_succ]
  refine wpAnyH_at (i := 16) (some 25) (v := ?v16z15) rfl rfl (by kernel_rfl) (by kernel_rfl) (by kernel_rfl) (fun _ _ _ h => h) (Or.inl ⟨by rfl, ?y16z15⟩) (by assumption) ?r16z15
  case y16z15 =>
    intro w9 hSw
    clear hSw
    go_simp
    all_goals with_reducible rfl
  simp only [Act.put, List.setIfInBounds_toArray, List.set_cons_zero, List.set_cons_succ]
  refine wpAnyH_at (i := 17) (some 26) (v := ?v17z16) rfl rfl (by kernel_rfl) (by kernel_rfl) (by kernel_rfl) (fun _ _ _ h => h) (Or.inl ⟨by rfl, ?y17z16⟩) (by assumption) ?r17z16
  case y17z16 =>
    intro w9 hSw
    clear hSw
    go_simp
    all_goals with_reducible rfl
  simp only [Act.put, List.setIfInBounds_toArray, List.set_cons_zero, List.set_cons_succ]
  refine wpAnyH_at (i := 18) (some 27) (v := ?v18z17) rfl rfl (by kernel_rfl) (by kernel_rfl) (by kernel_rfl) (fun _ _ _ h => h) (Or.inl ⟨by rfl, ?y18z17⟩) (by assumption) ?r18z17
  case y18z17 =>
    intro w9 hSw
    clear hSw
    go_simp
    all_goals with_reducible rfl
  simp only [Act.put, List.setIfInBounds_toArray, List.set_cons_zero, List.set_cons_succ]
  refine wpAnyH_at (i := 20) (some 29) (v := ?v20z18) rfl rfl (by kernel_rfl) (by kernel_rfl) (by kernel_rfl) (fun _ _ _ h => h) (Or.inl ⟨by rfl, ?y20z18⟩) (by assumption) ?r20z18
  case y20z18 =>
    intro w9 hSw
    clear hSw
    go_simp
    all_goals with_reducible rfl
  simp only [Act.put, List.setIfInBounds_toArray, List.set_cons_zero, List.set_cons_succ]
  refine wpAnyH_at (i := 21) (some 30) (v := ?v21z19) rfl rfl (by kernel_rfl) (by kernel_rfl) (by kernel_rfl) (fun _ _ _ h => h) (Or.inl ⟨by rfl, ?y21z19⟩) (by assumption) ?r21z19
  case y21z19 =>
    intro w9 hSw
    obtain ⟨c0, c1, c2, c3, c4, ff, lt1⟩ := FA.out _ hSw; clear hSw
    go_simp
    all_goals with_reducible rfl
  simp only [Act.put, List.setIfInBounds_toArray, List.set_cons_zero, List.set_cons_succ]
  refine wpAnyH_at (i := 22) (some 31) (v := ?v22z20) rfl rfl (by kernel_rfl) (by kernel_rfl) (by kernel_rfl) (fun _ _ _ h => h) (Or.inl ⟨by rfl, ?y22z20⟩) (by assumption) ?r22z20
  case y22z20 =>
    intro w9 hSw
    obtain ⟨c0, c1, c2, c3, c4, ff, lt1⟩ := FA.out _ hSw; clear hSw
    go_simp
    all_goals with_reducible rfl
  simp only [Act.put, List.setIfInBounds_toArray, List.set_cons_zero, List.set_cons_succ]
  refine wpAnyH_at (i := 23) (some 32) (v := ?v23z21) rfl rfl (by kernel_rfl) (by kernel_rfl) (by kernel_rfl) (fun _ _ _ h => h) (Or.inl ⟨by rfl, ?y23z21⟩) (by assumption) ?r23z21
  case y23z21 =>
    intro w9 hSw
    obtain ⟨c0, c1, c2, c3, c4, ff, lt1⟩ := FA.out _ hSw; clear hSw
    go_simp
    all_goals with_reducible rfl
  simp only [Act.put, List.setIfInBounds_toArray, List.set_cons_zero, List.set_cons_succ]
  refine wpAnyH_one (i := 19) (by kernel_rfl) rfl ?_
  go_wp2_with fail
  refine (c19.out _ y).mono ?_
  rintro ev w3 ⟨rfl, rfl⟩
  go_wp2
  clear hHeld
  have hHeld := y
  refine ⟨hHeld, ?_⟩
  try simp only [Act.put, List.setIfInBounds_toArray, List.set_cons_zero, List.set_cons_succ]
  refine wpAnyH_at (i := 24) (some 33) (v := ?v24z22) rfl rfl (by kernel_rfl) (by kernel_rfl) (by kernel_rfl) (fun _ _ _ h => h) (Or.inl ⟨by rfl, ?y24z22⟩) (by assumption) ?r24z22
  case y24z22 =>
    intro w9 hSw
    obtain ⟨c0, c1, c2, c3, c4, ff, lt1⟩ := FA.out _ hSw; clear hSw
    go_simp
    all_goals with_reducible rfl
  simp only [Act.put, List.setIfInBounds_toArray, List.set_cons_zero, List.set_cons_succ]
  refine wpAnyH_at (i := 25) (some 34) (v := ?v25z23) rfl rfl (by kernel_rfl) (by kernel_rfl) (by kernel_rfl) (fun _ _ _ h => h) (Or.inl ⟨by rfl, ?y25z23⟩) (by assumption) ?r25z23
  case y25z23 =>
    intro w9 hSw
    clear hSw
    go_simp
    all_goals with_reducible rfl
  simp only [Act.put, List.setIfInBounds_toArray, List.set_cons_zero, List.set_cons_succ]
  refine wpAnyH_at (i := 26) (some 35) (v := ?v26z24) rfl rfl (by kernel_rfl) (by kernel_rfl) (by kernel_rfl) (fun _ _ _ h => h) (Or.inl ⟨by rfl, ?y26z24⟩) (by assumption) ?r26z24
  case y26z24 =>
    intro w9 hSw
    clear hSw
    go_simp
    all_goals with_reducible rfl
  simp only [Act.put, List.setIfInBounds_toArray, List.set_cons_zero, List.set_cons_succ]
  refine wpAnyH_at (i := 27) (some 36) (v := ?v27z25) rfl rfl (by kernel_rfl) (by kernel_rfl) (by kernel_rfl) (fun _ _ _ h => h) (Or.inl ⟨by rfl, ?y27z25⟩) (by assumption) ?r27z25
  case y27z25 =>
    intro w9 hSw
    clear hSw
    go_simp
    all_goals with_reducible rfl
  simp only [Act.put, List.setIfInBounds_toArray, List.set_cons_zero, List.set_cons_succ]
  refine wpAnyH_at (i := 29) (some 38) (v := ?v29z26) rfl rfl (by kernel_rfl) (by kernel_rfl) (by kernel_rfl) (fun _ _ _ h => h) (Or.inl ⟨by rfl, ?y29z26⟩) (by assumption) ?r29z26
  case y29z26 =>
    intro w9 hSw
    clear hSw
    go_simp
    all_goals with_reducible rfl
  simp only [Act.put, List.setIfInBounds_toArray, List.set_cons_zero, List.set_cons_succ]
  refine wpAnyH_one (i := 28) (by kernel_rfl) rfl ?_
  go_wp2_with fail
  refine (c28.out _ y).mono ?_
  rintro ev w4 ⟨A4, c4, rfl, o4, hb4⟩
  replace y := y.trans (hb4.mono y.size)
  clear hb4
  go_wp2
  clear hHeld
  have hHeld := y
  refine ⟨hHeld, ?_⟩
  try simp only [Act.put, List.setIfInBounds_toArray, List.set_cons_zero, List.set_cons_succ]
  refine wpAnyH_one (i := 30) (by kernel_rfl) rfl ?_
  go_wp2_with fail
  refine (c30.out _ y).mono ?_
  rintro ev w5 ⟨A5, c5, rfl, o5, hb5⟩
  replace o4 := (o4.below hb5 (Nat.le_refl _)).more hb5.size
  replace y := y.trans (hb5.mono y.size)
  clear hb5
  go_wp2
  clear hHeld
  have hHeld := y
  refine ⟨hHeld, ?_⟩
  try simp only [Act.put, List.setIfInBounds_toArray, List.set_cons_zero, List.set_cons_succ]
  refine wpAnyH_one (i := 31) (by kernel_rfl) rfl ?_
  go_wp2_with fail
  refine (sameRows_any A4 A5 N c4 c5 (bytsOf L R) _ _ w5 o4 o5 (Nat.le_refl _) (Nat.le_refl _)).mono ?_
  rintro ev w6 ⟨rfl, hb6⟩
  replace y := y.trans (hb6.mono y.size)
  clear hb6 o4 o5
  go_wp2
  clear hHeld
  have hHeld := y
  refine ⟨hHeld, ?_⟩
  try simp only [Act.put, List.setIfInBounds_toArray, List.set_cons_zero, List.set_cons_succ]
  refine wpAnyH_at (i := 32) (some 41) (v := ?v32z27) rfl rfl (by kernel_rfl) (by kernel_rfl) (by kernel_rfl) (fun _ _ _ h => h) (Or.inl ⟨by rfl, ?y32z27⟩) (by assumption) ?r32z27
  case y32z27 =>
    intro w9 hSw
    clear hSw
    go_simp
    all_goals with_reducible rfl
  simp only [Act.put, List.setIfInBounds_toArray, List.set_cons_zero, List.set_cons_succ]
  refine wpAnyH_at (i := 33) (some 42) (v := ?v33z28) rfl rfl (by kernel_rfl) (by kernel_rfl) (by kernel_rfl) (fun _ _ _ h => h) (Or.inl ⟨by rfl, ?y33z28⟩) (by assumption) ?r33z28
  case y33z28 =>
    intro w9 hSw
    clear hSw
    go_simp
    all_goals with_reducible rfl
  simp only [Act.put, List.setIfInBounds_toArray, List.set_cons_zero, List.set_cons_succ]
  refine wpAnyH_at (i := 34) (some 43) (v := ?v34z29) rfl rfl (by kernel_rfl) (by kernel_rfl) (by kernel_rfl) (fun _ _ _ h => h) (Or.inl ⟨by rfl, ?y34z29⟩) (by assumption) ?r34z29
  case y34z29 =>
    intro w9 hSw
    clear hSw
    go_simp
    all_goals with_reducible rfl
  simp only [Act.put, List.setIfInBounds_toArray, List.set_cons_zero, List.set_cons_succ]
  refine wpAnyH_at (i := 35) (some 44) (v := ?v35z30) rfl rfl (by kernel_rfl) (by kernel_rfl) (by kernel_rfl) (fun _ _ _ h => h) (Or.inl ⟨by rfl, ?y35z30⟩) (by assumption) ?r35z30
  case y35z30 =>
    intro w9 hSw
    clear hSw
    go_simp
    all_goals with_reducible rfl
  simp only [Act.put, List.setIfInBounds_toArray, List.set_cons_zero, List.set_cons_succ]
  refine wpAnyH_one (i := 36) (by kernel_rfl) rfl ?_
  go_wp2_with fail
  refine (c36.out _ y).mono ?_
  rintro ev w7 ⟨rfl, hb7⟩
  replace y := y.trans (hb7.mono y.size)
  clear hb7
  go_wp2
  clear hHeld
  have hHeld := y
  refine ⟨hHeld, ?_⟩
  try simp only [Act.put, List.setIfInBounds_toArray, List.set_cons_zero, List.set_cons_succ]
  refine wpAnyH_at (i := 37) (some 46) (v := ?v37z31) rfl rfl (by kernel_rfl) (by kernel_rfl) (by kernel_rfl) (fun _ _ _ h => h) (Or.inl ⟨by rfl, ?y37z31⟩) (by assumption) ?r37z31
  case y37z31 =>
    intro w9 hSw
    clear hSw
    go_simp
    all_goals with_reducible rfl
  simp only [Act.put, List.setIfInBounds_toArray, List.set_cons_zero, List.set_cons_succ]
  refine wpAnyH_at (i := 38) (some 8) (v := ?v38z32) rfl rfl (by kernel_rfl) (by kernel_rfl) (by kernel_rfl) (fun _ _ _ h => h) (Or.inl ⟨by rfl, ?y38z32⟩) (by assumption) ?r38z32
  case y38z32 =>
    intro w9 hSw
    clear hSw
    go_simp
    all_goals with_reducible rfl
  simp only [Act.put, List.setIfInBounds_toArray, List.set_cons_zero, List.set_cons_succ]
  refine wpAnyH_done (by kernel_rfl) ?_ _
  go_wp2
  go_ret
  exact ⟨rfl, y⟩
end Go.Proofs.Ytjaiagocbldbgaa
