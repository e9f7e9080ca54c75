/-
  The law EtherFor, walked.
-/
import Derived.Test.YteddpmjjahfmiaaDoorAlive
namespace Go.Proofs.YteddpmjjahfmiaaDoor
open Go.RowKit

theorem for_self (t f : Mac6) (k : Int) (A : Option Addr) (n c : Nat) (w : World) : Calls Tryd.prog 14 #[frV t f k A n c, t.v] w fun e w' => e = .returned (.bool true) ∧ Below w.heap.size w w' := by
  have := for_any t f k A n c t w
  rwa [forV_eq (mEq_self t)] at this
theorem for_wide (f : Mac6) (k : Int) (A : Option Addr) (n c : Nat) (m : Mac6) (w : World) : Calls Tryd.prog 14 #[frV at6 f k A n c, m.v] w fun e w' => e = .returned (.bool true) ∧ Below w.heap.size w w' := by
  have := for_any at6 f k A n c m w
  rwa [show forV at6 m = true by simp [forV, show mEq at6 all6 = true by decide]] at this
theorem for_lit (w : World) : Calls Tryd.prog 14 #[frV ⟨2, 1, 0, 0, 0, 0⟩ az 0 none 0 0, (⟨2, 2, 0, 0, 0, 0⟩ : Mac6).v] w fun e w' => e = .returned (.bool false) ∧ Below w.heap.size w w' := for_any ⟨2, 1, 0, 0, 0, 0⟩ az 0 none 0 0 ⟨2, 2, 0, 0, 0, 0⟩ w
/-- What the law's walk knows. -/
structure KE (w : World) (t f : Mac6) (k : Int) (A : Option Addr) (n c : Nat) (m : Mac6) (kd : Int) (B : Option Addr) (nb cb : Nat) (go gw : Nat) (W : World) : Prop where
  fr : FrAt W w.heap.size 29 t f k A n c
  mc : McAt W (w.heap.size + 1) 24 m
  o : FrAt W go 29 t m kd B nb cb
  wd : FrAt W gw 29 at6 az kd none 0 0
  below : Below w.heap.size w W
theorem KE.step {w W V : World} {t f : Mac6} {k : Int} {A : Option Addr} {n c : Nat} {m : Mac6} {kd : Int} {B : Option Addr} {nb cb go gw : Nat} (h : KE w t f k A n c m kd B nb cb go gw W) (hb : Below W.heap.size W V) : KE w t f k A n c m kd B nb cb go gw V :=
  ⟨h.fr.step hb, h.mc.step hb, h.o.step hb, h.wd.step hb, h.below.trans (hb.mono h.below.size)⟩
set_option maxRecDepth 100000 in
set_option maxHeartbeats 8000000 in
theorem for_law (t f : Mac6) (k : Int) (A : Option Addr) (n c : Nat) (m : Mac6) (kd : Int) (B : Option Addr) (nb cb : Nat) (w : World) (hg : Laid w) :
    Calls Tryd.prog 6 #[frV t f k A n c, m.v, .int .u16 kd, .slice B nb cb] w fun e w' => e = .returned (.bool true) ∧ Below w.heap.size w w' := by
  have K0 := KFor.new w t f m k A n c
  have kn := ((Kn.start hg).alloc (.cells (frC t f k A n c) 29)).alloc (.cells #[.int .u8 m.a, .int .u8 m.b, .int .u8 m.c, .int .u8 m.d, .int .u8 m.e, .int .u8 m.f] 24)
  have q1 := eql24
  clear hg
  go_enter Tryd.func6, Tryd.ntmps6
  go_wp2_with fail
  refine (alive_any _ kn.laid).mono ?_
  rintro ev w1 ⟨rfl, hb⟩
  replace K0 := K0.step hb
  clear hb kn
  obtain ⟨a0, a1, a2, a3, a4, a5, b0, b1, b2, b3, b4, b5, -⟩ := K0.parts
  go_wp2_with fail
  refine (all_any _).mono ?_
  rintro ev w2 ⟨rfl, hb⟩
  have k2 : KE w t f k A n c m kd B nb cb w1.heap.size w2.heap.size (w2.alloc (.cells (frC at6 az kd none 0 0) 29)) := by
    have K1 := (K0.step (alloc_below w1 (.cells (frC t m kd B nb cb) 29))).step hb
    have o1 := (FrAt.new w1 29 t m kd B nb cb).step hb
    exact ⟨K1.fr.step (alloc_below _ _), K1.mc.step (alloc_below _ _), o1.step (alloc_below _ _), FrAt.new w2 29 at6 az kd none 0 0, K1.below.trans ((alloc_below _ _).mono K1.below.size)⟩
  clear K0 hb a0 a1 a2 a3 a4 a5 b0 b1 b2 b3 b4 b5
  have k3 := k2.step (below_drew _)
  go_wp2_with fail
  clear k2
  generalize w1.heap.size = go at *
  generalize w2.heap.size = gw at *
  refine wp_region_held_drew (S := fun w' => KE w t f k A n c m kd B nb cb go gw w') (by kernel_rfl) k3 (fun hHeld => ?_)
  change wpAnyH _ _ _ _ _ _ _ _ (w2.alloc (.cells (frC at6 az kd none 0 0) 29)).drew
  clear hHeld
  generalize (w2.alloc (.cells (frC at6 az kd none 0 0) 29)).drew = W1 at *
  refine wpAnyH_at (i := 0) (some 22) (v := ?v0z1) rfl rfl (by kernel_rfl) (by kernel_rfl) (by kernel_rfl) (fun _ _ _ h => h) (Or.inl ⟨by rfl, ?y0z1⟩) (by assumption) ?r0z1
  case y0z1 =>
    intro w9 hSw
    (obtain ⟨a0, a1, a2, a3, a4, a5, a6, a7, a8, a9, a10, a11, a12, a13⟩ := hSw.fr.cells); clear hSw
    go_simp
    all_goals with_reducible rfl
  simp only [Act.put, List.setIfInBounds_toArray, List.set_cons_zero, List.set_cons_succ]
  refine wpAnyH_at (i := 1) (some 23) (v := ?v1z2) rfl rfl (by kernel_rfl) (by kernel_rfl) (by kernel_rfl) (fun _ _ _ h => h) (Or.inl ⟨by rfl, ?y1z2⟩) (by assumption) ?r1z2
  case y1z2 =>
    intro w9 hSw
    (obtain ⟨b0, b1, b2, b3, b4, b5⟩ := hSw.mc.cells); clear hSw
    go_simp
    all_goals with_reducible rfl
  simp only [Act.put, List.setIfInBounds_toArray, List.set_cons_zero, List.set_cons_succ]
  refine wpAnyH_at (i := 3) (some 25) (v := ?v3z3) rfl rfl (by kernel_rfl) (by kernel_rfl) (by kernel_rfl) (fun _ _ _ h => h) (Or.inl ⟨by rfl, ?y3z3⟩) (by assumption) ?r3z3
  case y3z3 =>
    intro w9 hSw
    (obtain ⟨a0, a1, a2, a3, a4, a5, a6, a7, a8, a9, a10, a11, a12, a13⟩ := hSw.o.cells); clear hSw
    go_simp
    all_goals with_reducible rfl
  simp only [Act.put, List.setIfInBounds_toArray, List.set_cons_zero, List.set_cons_succ]
  refine wpAnyH_at (i := 4) (some 26) (v := ?v4z4) rfl rfl (by kernel_rfl) (by kernel_rfl) (by kernel_rfl) (fun _ _ _ h => h) (Or.inl ⟨by rfl, ?y4z4⟩) (by assumption) ?r4z4
  case y4z4 =>
    intro w9 hSw
    (obtain ⟨b0, b1, b2, b3, b4, b5⟩ := hSw.mc.cells); clear hSw
    go_simp
    all_goals with_reducible rfl
  simp only [Act.put, List.setIfInBounds_toArray, List.set_cons_zero, List.set_cons_succ]
  refine wpAnyH_one (i := 2) (by kernel_rfl) rfl ?_
  go_wp2_with (go_at_call 14; with_reducible refine (for_any t f k A n c m _).mono ?_; rintro ev x1 ⟨rfl, hb⟩)
  replace k3 := k3.step hb
  clear hb
  refine ⟨k3, ?_⟩
  refine wpAnyH_one (i := 5) (by kernel_rfl) rfl ?_
  go_wp2_with (go_at_call 14; with_reducible refine (for_any t m kd B nb cb m _).mono ?_; rintro ev x2 ⟨rfl, hb⟩)
  replace k3 := k3.step hb
  clear hb
  refine ⟨k3, ?_⟩
  refine wpAnyH_at (i := 6) (some 28) (v := ?v6z5) rfl rfl (by kernel_rfl) (by kernel_rfl) (by kernel_rfl) (fun _ _ _ h => h) (Or.inl ⟨by rfl, ?y6z5⟩) (by assumption) ?r6z5
  case y6z5 =>
    intro w9 hSw
    clear hSw
    go_simp
    all_goals with_reducible rfl
  simp only [Act.put, List.setIfInBounds_toArray, List.set_cons_zero, List.set_cons_succ]
  refine wpAnyH_at (i := 7) (some 29) (v := ?v7z6) rfl rfl (by kernel_rfl) (by kernel_rfl) (by kernel_rfl) (fun _ _ _ h => h) (Or.inl ⟨by rfl, ?y7z6⟩) (by assumption) ?r7z6
  case y7z6 =>
    intro w9 hSw
    clear hSw
    go_simp
    all_goals with_reducible rfl
  simp only [Act.put, List.setIfInBounds_toArray, List.set_cons_zero, List.set_cons_succ]
  refine wpAnyH_at (i := 8) (some 30) (v := ?v8z7) rfl rfl (by kernel_rfl) (by kernel_rfl) (by kernel_rfl) (fun _ _ _ h => h) (Or.inl ⟨by rfl, ?y8z7⟩) (by assumption) ?r8z7
  case y8z7 =>
    intro w9 hSw
    (obtain ⟨a0, a1, a2, a3, a4, a5, a6, a7, a8, a9, a10, a11, a12, a13⟩ := hSw.fr.cells); clear hSw
    go_simp
    all_goals with_reducible rfl
  simp only [Act.put, List.setIfInBounds_toArray, List.set_cons_zero, List.set_cons_succ]
  refine wpAnyH_at (i := 9) (some 31) (v := ?v9z8) rfl rfl (by kernel_rfl) (by kernel_rfl) (by kernel_rfl) (fun _ _ _ h => h) (Or.inl ⟨by rfl, ?y9z8⟩) (by assumption) ?r9z8
  case y9z8 =>
    intro w9 hSw
    clear hSw
    go_simp
    all_goals with_reducible rfl
  simp only [Act.put, List.setIfInBounds_toArray, List.set_cons_zero, List.set_cons_succ]
  refine wpAnyH_at (i := 10) (some 32) (v := ?v10z9) rfl rfl (by kernel_rfl) (by kernel_rfl) (by kernel_rfl) (fun _ _ _ h => h) (Or.inl ⟨by rfl, ?y10z9⟩) (by assumption) ?r10z9
  case y10z9 =>
    intro w9 hSw
    (obtain ⟨a0, a1, a2, a3, a4, a5, a6, a7, a8, a9, a10, a11, a12, a13⟩ := hSw.fr.cells); clear hSw
    go_simp
    all_goals with_reducible rfl
  simp only [Act.put, List.setIfInBounds_toArray, List.set_cons_zero, List.set_cons_succ]
  refine wpAnyH_one (i := 11) (by kernel_rfl) rfl ?_
  go_wp2_with (go_at_call 14; with_reducible refine (for_self t f k A n c _).mono ?_; rintro ev x3 ⟨rfl, hb⟩)
  replace k3 := k3.step hb
  clear hb
  refine ⟨k3, ?_⟩
  refine wpAnyH_at (i := 12) (some 34) (v := ?v12z10) rfl rfl (by kernel_rfl) (by kernel_rfl) (by kernel_rfl) (fun _ _ _ h => h) (Or.inl ⟨by rfl, ?y12z10⟩) (by assumption) ?r12z10
  case y12z10 =>
    intro w9 hSw
    clear hSw
    go_simp
    all_goals with_reducible rfl
  simp only [Act.put, List.setIfInBounds_toArray, List.set_cons_zero, List.set_cons_succ]
  refine wpAnyH_at (i := 13) (some 35) (v := ?v13z11) rfl rfl (by kernel_rfl) (by kernel_rfl) (by kernel_rfl) (fun _ _ _ h => h) (Or.inl ⟨by rfl, ?y13z11⟩) (by assumption) ?r13z11
  case y13z11 =>
    intro w9 hSw
    clear hSw
    go_simp
    all_goals with_reducible rfl
  simp only [Act.put, List.setIfInBounds_toArray, List.set_cons_zero, List.set_cons_succ]
  refine wpAnyH_at (i := 14) (some 36) (v := ?v14z12) rfl rfl (by kernel_rfl) (by kernel_rfl) (by kernel_rfl) (fun _ _ _ h => h) (Or.inl ⟨by rfl, ?y14z12⟩) (by assumption) ?r14z12
  case y14z12 =>
    intro w9 hSw
    (obtain ⟨a0, a1, a2, a3, a4, a5, a6, a7, a8, a9, a10, a11, a12, a13⟩ := hSw.wd.cells); clear hSw
    go_simp
    all_goals with_reducible rfl
  simp only [Act.put, List.setIfInBounds_toArray, List.set_cons_zero, List.set_cons_succ]
  refine wpAnyH_at (i := 15) (some 37) (v := ?v15z13) rfl rfl (by kernel_rfl) (by kernel_rfl) (by kernel_rfl) (fun _ _ _ h => h) (Or.inl ⟨by rfl, ?y15z13⟩) (by assumption) ?r15z13
  case y15z13 =>
    intro w9 hSw
    (obtain ⟨b0, b1, b2, b3, b4, b5⟩ := hSw.mc.cells); clear hSw
    go_simp
    all_goals with_reducible rfl
  simp only [Act.put, List.setIfInBounds_toArray, List.set_cons_zero, List.set_cons_succ]
  refine wpAnyH_one (i := 16) (by kernel_rfl) rfl ?_
  go_wp2_with (go_at_call 14; with_reducible refine (for_wide az kd none 0 0 m _).mono ?_; rintro ev x4 ⟨rfl, hb⟩)
  replace k3 := k3.step hb
  clear hb
  refine ⟨k3, ?_⟩
  refine wpAnyH_at (i := 17) (some 39) (v := ?v17z14) rfl rfl (by kernel_rfl) (by kernel_rfl) (by kernel_rfl) (fun _ _ _ h => h) (Or.inl ⟨by rfl, ?y17z14⟩) (by assumption) ?r17z14
  case y17z14 =>
    intro w9 hSw
    clear hSw
    go_simp
    all_goals with_reducible rfl
  simp only [Act.put, List.setIfInBounds_toArray, List.set_cons_zero, List.set_cons_succ]
  refine wpAnyH_at (i := 18) (some 40) (v := ?v18z15) rfl rfl (by kernel_rfl) (by kernel_rfl) (by kernel_rfl) (fun _ _ _ h => h) (Or.inl ⟨by rfl, ?y18z15⟩) (by assumption) ?r18z15
  case y18z15 =>
    intro w9 hSw
    clear hSw
    go_simp
    all_goals with_reducible rfl
  simp only [Act.put, List.setIfInBounds_toArray, List.set_cons_zero, List.set_cons_succ]
  refine wpAnyH_at (i := 19) (some 41) (v := ?v19z16) rfl rfl (by kernel_rfl) (by kernel_rfl) (by kernel_rfl) (fun _ _ _ h => h) (Or.inl ⟨by rfl, ?y19z16⟩) (by assumption) ?r19z16
  case y19z16 =>
    intro w9 hSw
    clear hSw
    go_simp
    all_goals with_reducible rfl
  simp only [Act.put, List.setIfInBounds_toArray, List.set_cons_zero, List.set_cons_succ]
  refine wpAnyH_at (i := 20) (some 42) (v := ?v20z17) rfl rfl (by kernel_rfl) (by kernel_rfl) (by kernel_rfl) (fun _ _ _ h => h) (Or.inl ⟨by rfl, ?y20z17⟩) (by assumption) ?r20z17
  case y20z17 =>
    intro w9 hSw
    (obtain ⟨a0, a1, a2, a3, a4, a5, a6, a7, a8, a9, a10, a11, a12, a13⟩ := hSw.fr.cells); clear hSw
    go_simp
    all_goals with_reducible rfl
  simp only [Act.put, List.setIfInBounds_toArray, List.set_cons_zero, List.set_cons_succ]
  refine wpAnyH_one (i := 21) (by kernel_rfl) rfl ?_
  go_wp2_with (go_at_call 21; with_reducible refine (all_any _).mono ?_; rintro ev x5 ⟨rfl, hb⟩)
  replace k3 := k3.step hb
  clear hb
  refine ⟨k3, ?_⟩
  have ha := allB t
  by_cases hall : mEq t all6 = true
  · rw [hall] at ha
    refine wpAnyH_at (i := 22) (some 44) (v := ?v22z18) rfl rfl (by kernel_rfl) (by kernel_rfl) (by kernel_rfl) (fun _ _ _ h => h) (Or.inl ⟨by rfl, ?y22z18⟩) (by assumption) ?r22z18
    case y22z18 =>
      intro w9 hSw
      clear hSw
      go_simp
      all_goals with_reducible rfl
    simp only [Act.put, List.setIfInBounds_toArray, List.set_cons_zero, List.set_cons_succ]
    refine wpAnyH_at (i := 23) (some 45) (v := ?v23z19) rfl rfl (by kernel_rfl) (by kernel_rfl) (by kernel_rfl) (fun _ _ _ h => h) (Or.inl ⟨by rfl, ?y23z19⟩) (by assumption) ?r23z19
    case y23z19 =>
      intro w9 hSw
      clear hSw
      go_simp
      all_goals with_reducible rfl
    simp only [Act.put, List.setIfInBounds_toArray, List.set_cons_zero, List.set_cons_succ]
    refine wpAnyH_at (i := 24) (some 46) (v := undef) rfl rfl (by kernel_rfl) (by kernel_rfl) (by kernel_rfl) (fun _ _ _ h => h) (Or.inr ⟨by rfl, rfl⟩) (by assumption) ?_
    simp only [Act.put, List.setIfInBounds_toArray, List.set_cons_zero, List.set_cons_succ]
    refine wpAnyH_at (i := 25) (some 47) (v := undef) rfl rfl (by kernel_rfl) (by kernel_rfl) (by kernel_rfl) (fun _ _ _ h => h) (Or.inr ⟨by rfl, rfl⟩) (by assumption) ?_
    simp only [Act.put, List.setIfInBounds_toArray, List.set_cons_zero, List.set_cons_succ]
    refine wpAnyH_at (i := 26) (some 48) (v := undef) rfl rfl (by kernel_rfl) (by kernel_rfl) (by kernel_rfl) (fun _ _ _ h => h) (Or.inr ⟨by rfl, rfl⟩) (by assumption) ?_
    simp only [Act.put, List.setIfInBounds_toArray, List.set_cons_zero, List.set_cons_succ]
    refine wpAnyH_at (i := 27) (some 49) (v := undef) rfl rfl (by kernel_rfl) (by kernel_rfl) (by kernel_rfl) (fun _ _ _ h => h) (Or.inr ⟨by rfl, rfl⟩) (by assumption) ?_
    simp only [Act.put, List.setIfInBounds_toArray, List.set_cons_zero, List.set_cons_succ]
    refine wpAnyH_at (i := 28) (some 50) (v := undef) rfl rfl (by kernel_rfl) (by kernel_rfl) (by kernel_rfl) (fun _ _ _ h => h) (Or.inr ⟨by rfl, rfl⟩) (by assumption) ?_
    simp only [Act.put, List.setIfInBounds_toArray, List.set_cons_zero, List.set_cons_succ]
    refine wpAnyH_at (i := 29) (some 51) (v := undef) rfl rfl (by kernel_rfl) (by kernel_rfl) (by kernel_rfl) (fun _ _ _ h => h) (Or.inr ⟨by rfl, rfl⟩) (by assumption) ?_
    simp only [Act.put, List.setIfInBounds_toArray, List.set_cons_zero, List.set_cons_succ]
    refine wpAnyH_at (i := 30) (some 52) (v := undef) rfl rfl (by kernel_rfl) (by kernel_rfl) (by kernel_rfl) (fun _ _ _ h => h) (Or.inr ⟨by rfl, rfl⟩) (by assumption) ?_
    simp only [Act.put, List.setIfInBounds_toArray, List.set_cons_zero, List.set_cons_succ]
    refine wpAnyH_at (i := 31) (some 53) (v := undef) rfl rfl (by kernel_rfl) (by kernel_rfl) (by kernel_rfl) (fun _ _ _ h => h) (Or.inr ⟨by rfl, rfl⟩) (by assumption) ?_
    simp only [Act.put, List.setIfInBounds_toArray, List.set_cons_zero, List.set_cons_succ]
    refine wpAnyH_at (i := 32) (some 54) (v := ?v32z20) rfl rfl (by kernel_rfl) (by kernel_rfl) (by kernel_rfl) (fun _ _ _ h => h) (Or.inl ⟨by rfl, ?y32z20⟩) (by assumption) ?r32z20
    case y32z20 =>
      intro w9 hSw
      clear hSw
      go_simp
      all_goals with_reducible rfl
    simp only [Act.put, List.setIfInBounds_toArray, List.set_cons_zero, List.set_cons_succ]
    refine wpAnyH_at (i := 33) (some 55) (v := ?v33z21) rfl rfl (by kernel_rfl) (by kernel_rfl) (by kernel_rfl) (fun _ _ _ h => h) (Or.inl ⟨by rfl, ?y33z21⟩) (by assumption) ?r33z21
    case y33z21 =>
      intro w9 hSw
      clear hSw
      go_simp
      all_goals with_reducible rfl
    simp only [Act.put, List.setIfInBounds_toArray, List.set_cons_zero, List.set_cons_succ]
    refine wpAnyH_at (i := 34) (some 56) (v := ?v34z22) rfl rfl (by kernel_rfl) (by kernel_rfl) (by kernel_rfl) (fun _ _ _ h => h) (Or.inl ⟨by rfl, ?y34z22⟩) (by assumption) ?r34z22
    case y34z22 =>
      intro w9 hSw
      clear hSw
      go_simp
      all_goals with_reducible rfl
    simp only [Act.put, List.setIfInBounds_toArray, List.set_cons_zero, List.set_cons_succ]
    refine wpAnyH_at (i := 35) (some 57) (v := ?v35z23) rfl rfl (by kernel_rfl) (by kernel_rfl) (by kernel_rfl) (fun _ _ _ h => h) (Or.inl ⟨by rfl, ?y35z23⟩) (by assumption) ?r35z23
    case y35z23 =>
      intro w9 hSw
      clear hSw
      go_simp
      all_goals with_reducible rfl
    simp only [Act.put, List.setIfInBounds_toArray, List.set_cons_zero, List.set_cons_succ]
    refine wpAnyH_at (i := 36) (some 58) (v := ?v36z24) rfl rfl (by kernel_rfl) (by kernel_rfl) (by kernel_rfl) (fun _ _ _ h => h) (Or.inl ⟨by rfl, ?y36z24⟩) (by assumption) ?r36z24
    case y36z24 =>
      intro w9 hSw
      clear hSw
      go_simp
      all_goals with_reducible rfl
    simp only [Act.put, List.setIfInBounds_toArray, List.set_cons_zero, List.set_cons_succ]
    refine wpAnyH_at (i := 37) (some 59) (v := ?v37z25) rfl rfl (by kernel_rfl) (by kernel_rfl) (by kernel_rfl) (fun _ _ _ h => h) (Or.inl ⟨by rfl, ?y37z25⟩) (by assumption) ?r37z25
    case y37z25 =>
      intro w9 hSw
      clear hSw
      go_simp
      all_goals with_reducible rfl
    simp only [Act.put, List.setIfInBounds_toArray, List.set_cons_zero, List.set_cons_succ]
    refine wpAnyH_one (i := 38) (by kernel_rfl) rfl ?_
    go_wp2_with (go_at_call 14; with_reducible refine (for_lit _).mono ?_; rintro ev x6 ⟨rfl, hb⟩)
    replace k3 := k3.step hb
    clear hb
    refine ⟨k3, ?_⟩
    refine wpAnyH_at (i := 39) (some 61) (v := ?v39z26) rfl rfl (by kernel_rfl) (by kernel_rfl) (by kernel_rfl) (fun _ _ _ h => h) (Or.inl ⟨by rfl, ?y39z26⟩) (by assumption) ?r39z26
    case y39z26 =>
      intro w9 hSw
      clear hSw
      go_simp
      all_goals with_reducible rfl
    simp only [Act.put, List.setIfInBounds_toArray, List.set_cons_zero, List.set_cons_succ]
    refine wpAnyH_at (i := 40) (some 62) (v := ?v40z27) rfl rfl (by kernel_rfl) (by kernel_rfl) (by kernel_rfl) (fun _ _ _ h => h) (Or.inl ⟨by rfl, ?y40z27⟩) (by assumption) ?r40z27
    case y40z27 =>
      intro w9 hSw
      clear hSw
      go_simp
      all_goals with_reducible rfl
    simp only [Act.put, List.setIfInBounds_toArray, List.set_cons_zero, List.set_cons_succ]
    refine wpAnyH_one (i := 41) (by kernel_rfl) rfl ?_
    go_wp2
    refine ⟨k3, ?_⟩
    refine wpAnyH_done (by kernel_rfl) ?_ _
    go_wp2
    go_ret
    exact ⟨rfl, k3.below⟩
  · have hall : mEq t all6 = false := by simpa using hall
    rw [hall] at ha
    have f3 : (forV t m == mB t.a t.b t.c t.d t.e t.f m.a m.b m.c m.d m.e m.f) = true := by
      have e : forV t m = mB t.a t.b t.c t.d t.e t.f m.a m.b m.c m.d m.e m.f := by unfold forV; rw [hall, Bool.or_false]; rfl
      rw [e]; simp
    refine wpAnyH_at (i := 22) (some 44) (v := ?v22z28) rfl rfl (by kernel_rfl) (by kernel_rfl) (by kernel_rfl) (fun _ _ _ h => h) (Or.inl ⟨by rfl, ?y22z28⟩) (by assumption) ?r22z28
    case y22z28 =>
      intro w9 hSw
      clear hSw
      go_simp
      all_goals with_reducible rfl
    simp only [Act.put, List.setIfInBounds_toArray, List.set_cons_zero, List.set_cons_succ]
    refine wpAnyH_at (i := 23) (some 45) (v := ?v23z29) rfl rfl (by kernel_rfl) (by kernel_rfl) (by kernel_rfl) (fun _ _ _ h => h) (Or.inl ⟨by rfl, ?y23z29⟩) (by assumption) ?r23z29
    case y23z29 =>
      intro w9 hSw
      clear hSw
      go_simp
      all_goals with_reducible rfl
    simp only [Act.put, List.setIfInBounds_toArray, List.set_cons_zero, List.set_cons_succ]
    refine wpAnyH_at (i := 24) (some 46) (v := ?v24z30) rfl rfl (by kernel_rfl) (by kernel_rfl) (by kernel_rfl) (fun _ _ _ h => h) (Or.inl ⟨by rfl, ?y24z30⟩) (by assumption) ?r24z30
    case y24z30 =>
      intro w9 hSw
      (obtain ⟨a0, a1, a2, a3, a4, a5, a6, a7, a8, a9, a10, a11, a12, a13⟩ := hSw.fr.cells); clear hSw
      go_simp
      all_goals with_reducible rfl
    simp only [Act.put, List.setIfInBounds_toArray, List.set_cons_zero, List.set_cons_succ]
    refine wpAnyH_at (i := 25) (some 47) (v := ?v25z31) rfl rfl (by kernel_rfl) (by kernel_rfl) (by kernel_rfl) (fun _ _ _ h => h) (Or.inl ⟨by rfl, ?y25z31⟩) (by assumption) ?r25z31
    case y25z31 =>
      intro w9 hSw
      (obtain ⟨b0, b1, b2, b3, b4, b5⟩ := hSw.mc.cells); clear hSw
      go_simp
      all_goals with_reducible rfl
    simp only [Act.put, List.setIfInBounds_toArray, List.set_cons_zero, List.set_cons_succ]
    refine wpAnyH_at (i := 27) (some 49) (v := ?v27z32) rfl rfl (by kernel_rfl) (by kernel_rfl) (by kernel_rfl) (fun _ _ _ h => h) (Or.inl ⟨by rfl, ?y27z32⟩) (by assumption) ?r27z32
    case y27z32 =>
      intro w9 hSw
      clear hSw
      go_simp
      all_goals with_reducible rfl
    simp only [Act.put, List.setIfInBounds_toArray, List.set_cons_zero, List.set_cons_succ]
    refine wpAnyH_at (i := 28) (some 50) (v := ?v28z33) rfl rfl (by kernel_rfl) (by kernel_rfl) (by kernel_rfl) (fun _ _ _ h => h) (Or.inl ⟨by rfl, ?y28z33⟩) (by assumption) ?r28z33
    case y28z33 =>
      intro w9 hSw
      (obtain ⟨a0, a1, a2, a3, a4, a5, a6, a7, a8, a9, a10, a11, a12, a13⟩ := hSw.fr.cells); clear hSw
      go_simp
      all_goals with_reducible rfl
    simp only [Act.put, List.setIfInBounds_toArray, List.set_cons_zero, List.set_cons_succ]
    refine wpAnyH_at (i := 29) (some 51) (v := ?v29z34) rfl rfl (by kernel_rfl) (by kernel_rfl) (by kernel_rfl) (fun _ _ _ h => h) (Or.inl ⟨by rfl, ?y29z34⟩) (by assumption) ?r29z34
    case y29z34 =>
      intro w9 hSw
      (obtain ⟨b0, b1, b2, b3, b4, b5⟩ := hSw.mc.cells); clear hSw
      go_simp
      all_goals with_reducible rfl
    simp only [Act.put, List.setIfInBounds_toArray, List.set_cons_zero, List.set_cons_succ]
    refine wpAnyH_at (i := 30) (some 52) (v := ?v30z35) rfl rfl (by kernel_rfl) (by kernel_rfl) (by kernel_rfl) (fun _ _ _ h => h) (Or.inl ⟨by rfl, ?y30z35⟩) (by assumption) ?r30z35
    case y30z35 =>
      intro w9 hSw
      clear hSw
      go_simp
      all_goals with_reducible rfl
    simp only [Act.put, List.setIfInBounds_toArray, List.set_cons_zero, List.set_cons_succ]
    refine wpAnyH_one (i := 26) (by kernel_rfl) rfl ?_
    go_wp2_with (go_at_call 14; with_reducible refine (for_any t f k A n c m _).mono ?_; rintro ev x7 ⟨rfl, hb⟩)
    replace k3 := k3.step hb
    clear hb
    refine ⟨k3, ?_⟩
    refine wpAnyH_at (i := 31) (some 53) (v := ?v31z36) rfl rfl (by kernel_rfl) (by kernel_rfl) (by kernel_rfl) (fun _ _ _ h => h) (Or.inl ⟨by rfl, ?y31z36⟩) (by assumption) ?r31z36
    case y31z36 =>
      intro w9 hSw
      clear hSw
      go_simp
      all_goals with_reducible rfl
    simp only [Act.put, List.setIfInBounds_toArray, List.set_cons_zero, List.set_cons_succ]
    refine wpAnyH_at (i := 32) (some 54) (v := ?v32z37) rfl rfl (by kernel_rfl) (by kernel_rfl) (by kernel_rfl) (fun _ _ _ h => h) (Or.inl ⟨by rfl, ?y32z37⟩) (by assumption) ?r32z37
    case y32z37 =>
      intro w9 hSw
      clear hSw
      go_simp
      all_goals with_reducible rfl
    simp only [Act.put, List.setIfInBounds_toArray, List.set_cons_zero, List.set_cons_succ]
    refine wpAnyH_at (i := 33) (some 55) (v := ?v33z38) rfl rfl (by kernel_rfl) (by kernel_rfl) (by kernel_rfl) (fun _ _ _ h => h) (Or.inl ⟨by rfl, ?y33z38⟩) (by assumption) ?r33z38
    case y33z38 =>
      intro w9 hSw
      clear hSw
      go_simp
      all_goals with_reducible rfl
    simp only [Act.put, List.setIfInBounds_toArray, List.set_cons_zero, List.set_cons_succ]
    refine wpAnyH_at (i := 34) (some 56) (v := ?v34z39) rfl rfl (by kernel_rfl) (by kernel_rfl) (by kernel_rfl) (fun _ _ _ h => h) (Or.inl ⟨by rfl, ?y34z39⟩) (by assumption) ?r34z39
    case y34z39 =>
      intro w9 hSw
      clear hSw
      go_simp
      all_goals with_reducible rfl
    simp only [Act.put, List.setIfInBounds_toArray, List.set_cons_zero, List.set_cons_succ]
    refine wpAnyH_at (i := 35) (some 57) (v := ?v35z40) rfl rfl (by kernel_rfl) (by kernel_rfl) (by kernel_rfl) (fun _ _ _ h => h) (Or.inl ⟨by rfl, ?y35z40⟩) (by assumption) ?r35z40
    case y35z40 =>
      intro w9 hSw
      clear hSw
      go_simp
      all_goals with_reducible rfl
    simp only [Act.put, List.setIfInBounds_toArray, List.set_cons_zero, List.set_cons_succ]
    refine wpAnyH_at (i := 36) (some 58) (v := ?v36z41) rfl rfl (by kernel_rfl) (by kernel_rfl) (by kernel_rfl) (fun _ _ _ h => h) (Or.inl ⟨by rfl, ?y36z41⟩) (by assumption) ?r36z41
    case y36z41 =>
      intro w9 hSw
      clear hSw
      go_simp
      all_goals with_reducible rfl
    simp only [Act.put, List.setIfInBounds_toArray, List.set_cons_zero, List.set_cons_succ]
    refine wpAnyH_at (i := 37) (some 59) (v := ?v37z42) rfl rfl (by kernel_rfl) (by kernel_rfl) (by kernel_rfl) (fun _ _ _ h => h) (Or.inl ⟨by rfl, ?y37z42⟩) (by assumption) ?r37z42
    case y37z42 =>
      intro w9 hSw
      clear hSw
      go_simp
      all_goals with_reducible rfl
    simp only [Act.put, List.setIfInBounds_toArray, List.set_cons_zero, List.set_cons_succ]
    refine wpAnyH_one (i := 38) (by kernel_rfl) rfl ?_
    go_wp2_with (go_at_call 14; with_reducible refine (for_lit _).mono ?_; rintro ev x8 ⟨rfl, hb⟩)
    replace k3 := k3.step hb
    clear hb
    refine ⟨k3, ?_⟩
    refine wpAnyH_at (i := 39) (some 61) (v := ?v39z43) rfl rfl (by kernel_rfl) (by kernel_rfl) (by kernel_rfl) (fun _ _ _ h => h) (Or.inl ⟨by rfl, ?y39z43⟩) (by assumption) ?r39z43
    case y39z43 =>
      intro w9 hSw
      clear hSw
      go_simp
      all_goals with_reducible rfl
    simp only [Act.put, List.setIfInBounds_toArray, List.set_cons_zero, List.set_cons_succ]
    refine wpAnyH_at (i := 40) (some 62) (v := ?v40z44) rfl rfl (by kernel_rfl) (by kernel_rfl) (by kernel_rfl) (fun _ _ _ h => h) (Or.inl ⟨by rfl, ?y40z44⟩) (by assumption) ?r40z44
    case y40z44 =>
      intro w9 hSw
      clear hSw
      go_simp
      all_goals with_reducible rfl
    simp only [Act.put, List.setIfInBounds_toArray, List.set_cons_zero, List.set_cons_succ]
    refine wpAnyH_one (i := 41) (by kernel_rfl) rfl ?_
    go_wp2
    refine ⟨k3, ?_⟩
    refine wpAnyH_done (by kernel_rfl) ?_ _
    go_wp2
    go_ret
    exact ⟨rfl, k3.below⟩
end Go.Proofs.YteddpmjjahfmiaaDoor
