/-
  The contract of the program's wheel's lay.
-/
import Derived.Test.YtalojeblemhihaaSmall
namespace Go.Proofs.Ytalojeblemhihaa
open Go.RowKit
set_option linter.unusedVariables false

section
variable {w : World} {p lo hi now : Nat} {R : List Tm} {V : Nat → List Int} {bd : Nat} {g : Nat → Nat}
theorem WhB.drewW (h : WhB w p lo hi now R V bd g) (m : Nat) : WhB (w.drewN m) p lo hi now R V bd g := h.new (below_drewN (Below.refl _ _) m)
theorem WhB.drew1 (h : WhB w p lo hi now R V bd g) : WhB w.drew p lo hi now R V bd g := h.new (below_drew w)
/-- What a call that turns the wheel's own blocks alone leaves. -/
def OnlyW (lo hi : Nat) (w w' : World) : Prop := Kept (fun k => lo ≤ k ∧ k < hi) w w'
set_option maxRecDepth 100000 in
set_option maxHeartbeats 2000000 in
theorem lay_any (h : WhB w p lo hi now R V bd g) (t : Int) (hR : hasT t R = true) (i : Nat) (hi64 : i < 64) (hlv : lv now (dueT t R) = i) :
    Calls Try.prog 29 #[ptr p, .int .i64 t] w fun e w' => e = .returned (.tuple #[]) ∧ WhB w' p lo hi now R (updV V i (addL t (V i))) bd g ∧ OnlyW lo hi w w' := by
  have hw := h.wf hR
  go_enter Try.func29, Try.ntmps29
  go_wp2
  refine wp_region_held_drew (S := fun W => ∃ V, WhB W p lo hi now R V bd g) (by kernel_rfl) ⟨V, h.drew1⟩ (fun hHeld => ?_)
  have h0 := h.drew1
  have kb : OnlyW lo hi w (World.drew w) := Kept.of_below (below_drew w)
  change wpAnyH _ _ _ _ _ _ _ _ (World.drew _)
  generalize World.drew w = W0 at *
  have T := level_any h0 (dueT t R) (h0.ok.due_le t)
  rw [hlv] at T
  obtain ⟨w', hr, hL, ht⟩ := (h0.lev i hi64).put hw (by have := h0.vlen hi64; omega)
  have G : Hid (WhB w' p lo hi now R (updV V i (addL t (V i))) bd g ∧ OnlyW lo hi w w') := Lib.hid ⟨h0.turnL hi64 ht hL (fun s hs => by
    rcases mem_addL.1 hs with h1 | rfl
    · exact h0.sub i hi64 s h1
    · exact hR), kb.trans (kept_turned ht (h0.ing i hi64))⟩
  have hii : (i : Int) < 64 := by omega
  have h1 : ∃ V, WhB w' p lo hi now R V bd g := ⟨_, G.out.1⟩
  have D1 : ∀ W V, WhB W p lo hi now R V bd g → (Instr.lookup 56 (.map (some bd)) (.int .i64 t) false).run Try.prog W = .ok (.int .u64 (dueT t R : Nat)) W := fun W V hW => hW.dues.look1 hW.ok hw
  clear h hL ht kb hlv h0
  generalize dueT t R = d at *
  refine wpAnyH_at (i := 0) (some 4) (v := ?v0z1) rfl rfl (by kernel_rfl) (by kernel_rfl) (by kernel_rfl) (fun _ _ _ h => h) (Or.inl ⟨by rfl, ?y0z1⟩) (by assumption) ?r0z1
  case y0z1 =>
    intro w9 hSw
    obtain ⟨V9, hSw⟩ := hSw; have c0 := hSw.c0; have c1 := hSw.c1; have cl := hSw.cl hi64; have L1 := D1 _ _ hSw; clear hSw
    go_simp
    all_goals with_reducible rfl
  simp only [Act.put, List.setIfInBounds_toArray, List.set_cons_zero, List.set_cons_succ]
  refine wpAnyH_at (i := 1) (some 5) (v := ?v1z2) rfl rfl (by kernel_rfl) (by kernel_rfl) (by kernel_rfl) (fun _ _ _ h => h) (Or.inl ⟨by rfl, ?y1z2⟩) (by assumption) ?r1z2
  case y1z2 =>
    intro w9 hSw
    obtain ⟨V9, hSw⟩ := hSw; have c0 := hSw.c0; have c1 := hSw.c1; have cl := hSw.cl hi64; have L1 := D1 _ _ hSw; clear hSw
    go_simp
    all_goals with_reducible rfl
  simp only [Act.put, List.setIfInBounds_toArray, List.set_cons_zero, List.set_cons_succ]
  refine wpAnyH_at (i := 2) (some 6) (v := ?v2z3) rfl rfl (by kernel_rfl) (by kernel_rfl) (by kernel_rfl) (fun _ _ _ h => h) (Or.inl ⟨by rfl, ?y2z3⟩) (by assumption) ?r2z3
  case y2z3 =>
    intro w9 hSw
    obtain ⟨V9, hSw⟩ := hSw; have c0 := hSw.c0; have c1 := hSw.c1; have cl := hSw.cl hi64; have L1 := D1 _ _ hSw; clear hSw
    go_simp
    all_goals with_reducible rfl
  simp only [Act.put, List.setIfInBounds_toArray, List.set_cons_zero, List.set_cons_succ]
  refine wpAnyH_at (i := 3) (some 7) (v := ?v3z4) rfl rfl (by kernel_rfl) (by kernel_rfl) (by kernel_rfl) (fun _ _ _ h => h) (Or.inl ⟨by rfl, ?y3z4⟩) (by assumption) ?r3z4
  case y3z4 =>
    intro w9 hSw
    obtain ⟨V9, hSw⟩ := hSw; have c0 := hSw.c0; have c1 := hSw.c1; have cl := hSw.cl hi64; have L1 := D1 _ _ hSw; clear hSw
    go_simp
    all_goals with_reducible rfl
  simp only [Act.put, List.setIfInBounds_toArray, List.set_cons_zero, List.set_cons_succ]
  refine wpAnyH_at (i := 4) (some 8) (v := ?v4z5) rfl rfl (by kernel_rfl) (by kernel_rfl) (by kernel_rfl) (fun _ _ _ h => h) (Or.inl ⟨by rfl, ?y4z5⟩) (by assumption) ?r4z5
  case y4z5 =>
    intro w9 hSw
    obtain ⟨V9, hSw⟩ := hSw; have c0 := hSw.c0; have c1 := hSw.c1; have cl := hSw.cl hi64; have L1 := D1 _ _ hSw; clear hSw
    go_simp
    all_goals with_reducible rfl
  simp only [Act.put, List.setIfInBounds_toArray, List.set_cons_zero, List.set_cons_succ]
  refine wpAnyH_at (i := 5) (some 9) (v := ?v5z6) rfl rfl (by kernel_rfl) (by kernel_rfl) (by kernel_rfl) (fun _ _ _ h => h) (Or.inl ⟨by rfl, ?y5z6⟩) (by assumption) ?r5z6
  case y5z6 =>
    intro w9 hSw
    obtain ⟨V9, hSw⟩ := hSw; have c0 := hSw.c0; have c1 := hSw.c1; have cl := hSw.cl hi64; have L1 := D1 _ _ hSw; clear hSw
    go_simp
    all_goals with_reducible rfl
  simp only [Act.put, List.setIfInBounds_toArray, List.set_cons_zero, List.set_cons_succ]
  refine wpAnyH_at (i := 6) (some 10) (v := ?v6z7) rfl rfl (by kernel_rfl) (by kernel_rfl) (by kernel_rfl) (fun _ _ _ h => h) (Or.inl ⟨by rfl, ?y6z7⟩) (by assumption) ?r6z7
  case y6z7 =>
    intro w9 hSw
    obtain ⟨V9, hSw⟩ := hSw; have c0 := hSw.c0; have c1 := hSw.c1; have cl := hSw.cl hi64; have L1 := D1 _ _ hSw; clear hSw
    go_simp
    all_goals with_reducible rfl
  simp only [Act.put, List.setIfInBounds_toArray, List.set_cons_zero, List.set_cons_succ]
  refine wpAnyH_at (i := 7) (some 11) (v := ?v7z8) rfl rfl (by kernel_rfl) (by kernel_rfl) (by kernel_rfl) (fun _ _ _ h => h) (Or.inl ⟨by rfl, ?y7z8⟩) (by assumption) ?r7z8
  case y7z8 =>
    intro w9 hSw
    obtain ⟨V9, hSw⟩ := hSw; have c0 := hSw.c0; have c1 := hSw.c1; have cl := hSw.cl hi64; have L1 := D1 _ _ hSw; clear hSw
    go_simp
    all_goals with_reducible rfl
  simp only [Act.put, List.setIfInBounds_toArray, List.set_cons_zero, List.set_cons_succ]
  refine wpAnyH_at (i := 9) (some 13) (v := ?v9z9) rfl rfl (by kernel_rfl) (by kernel_rfl) (by kernel_rfl) (fun _ _ _ h => h) (Or.inl ⟨by rfl, ?y9z9⟩) (by assumption) ?r9z9
  case y9z9 =>
    intro w9 hSw
    obtain ⟨V9, hSw⟩ := hSw; have c0 := hSw.c0; have c1 := hSw.c1; have cl := hSw.cl hi64; have L1 := D1 _ _ hSw; clear hSw
    go_simp
    all_goals with_reducible rfl
  simp only [Act.put, List.setIfInBounds_toArray, List.set_cons_zero, List.set_cons_succ]
  refine wpAnyH_at (i := 10) (some 14) (v := ?v10z10) rfl rfl (by kernel_rfl) (by kernel_rfl) (by kernel_rfl) (fun _ _ _ h => h) (Or.inl ⟨by rfl, ?y10z10⟩) (by assumption) ?r10z10
  case y10z10 =>
    intro w9 hSw
    obtain ⟨V9, hSw⟩ := hSw; have c0 := hSw.c0; have c1 := hSw.c1; have cl := hSw.cl hi64; have L1 := D1 _ _ hSw; clear hSw
    go_simp
    all_goals with_reducible rfl
  simp only [Act.put, List.setIfInBounds_toArray, List.set_cons_zero, List.set_cons_succ]
  refine wpAnyH_at (i := 13) (some 17) (v := ?v13z11) rfl rfl (by kernel_rfl) (by kernel_rfl) (by kernel_rfl) (fun _ _ _ h => h) (Or.inl ⟨by rfl, ?y13z11⟩) (by assumption) ?r13z11
  case y13z11 =>
    intro w9 hSw
    obtain ⟨V9, hSw⟩ := hSw; have c0 := hSw.c0; have c1 := hSw.c1; have cl := hSw.cl hi64; have L1 := D1 _ _ hSw; clear hSw
    go_simp
    all_goals with_reducible rfl
  simp only [Act.put, List.setIfInBounds_toArray, List.set_cons_zero, List.set_cons_succ]
  refine wpAnyH_at (i := 14) (some 18) (v := ?v14z12) rfl rfl (by kernel_rfl) (by kernel_rfl) (by kernel_rfl) (fun _ _ _ h => h) (Or.inl ⟨by rfl, ?y14z12⟩) (by assumption) ?r14z12
  case y14z12 =>
    intro w9 hSw
    obtain ⟨V9, hSw⟩ := hSw; have c0 := hSw.c0; have c1 := hSw.c1; have cl := hSw.cl hi64; have L1 := D1 _ _ hSw; clear hSw
    go_simp
    all_goals with_reducible rfl
  simp only [Act.put, List.setIfInBounds_toArray, List.set_cons_zero, List.set_cons_succ]
  refine wpAnyH_one (i := 8) (by kernel_rfl) rfl ?_
  go_wp2_with fail
  refine T.mono ?_
  rintro ev w2 ⟨rfl, rfl⟩
  go_wp2
  refine ⟨hHeld, ?_⟩
  try simp only [Act.put, List.setIfInBounds_toArray, List.set_cons_zero, List.set_cons_succ]
  refine wpAnyH_at (i := 11) (some 15) (v := ?v11z13) rfl rfl (by kernel_rfl) (by kernel_rfl) (by kernel_rfl) (fun _ _ _ h => h) (Or.inl ⟨by rfl, ?y11z13⟩) (by assumption) ?r11z13
  case y11z13 =>
    intro w9 hSw
    obtain ⟨V9, hSw⟩ := hSw; have c0 := hSw.c0; have c1 := hSw.c1; have cl := hSw.cl hi64; have L1 := D1 _ _ hSw; clear hSw
    go_simp
    all_goals with_reducible rfl
  simp only [Act.put, List.setIfInBounds_toArray, List.set_cons_zero, List.set_cons_succ]
  refine wpAnyH_at (i := 12) (some 16) (v := ?v12z14) rfl rfl (by kernel_rfl) (by kernel_rfl) (by kernel_rfl) (fun _ _ _ h => h) (Or.inl ⟨by rfl, ?y12z14⟩) (by assumption) ?r12z14
  case y12z14 =>
    intro w9 hSw
    obtain ⟨V9, hSw⟩ := hSw; have c0 := hSw.c0; have c1 := hSw.c1; have cl := hSw.cl hi64; have L1 := D1 _ _ hSw; clear hSw
    go_simp
    all_goals with_reducible rfl
  simp only [Act.put, List.setIfInBounds_toArray, List.set_cons_zero, List.set_cons_succ]
  refine wpAnyH_one (i := 15) (by kernel_rfl) rfl ?_
  go_wp2
  refine ⟨h1, ?_⟩
  try simp only [Act.put, List.setIfInBounds_toArray, List.set_cons_zero, List.set_cons_succ]
  refine wpAnyH_done (by kernel_rfl) ?_ _
  go_end0
  exact ⟨rfl, G.out⟩
end
end Go.Proofs.Ytalojeblemhihaa
