/-
  The law TcpFlags, a made segment without a body.
-/
import Derived.Test.YtggnkmllbpgfoaaLBits
namespace Go.Proofs.Ytggnkmllbpgfoaa
open Go.RowKit
set_option linter.unusedVariables false

set_option maxRecDepth 100000 in
set_option maxHeartbeats 4000000 in
theorem flags_none_tt (fl a b : Int) (A : Option Addr) (n c : Nat) (xs : List Int) (f t : Int) (w : World) (hr : Rd .u8 w w.heap.size A n c xs) (hf : Ip f) (ht : Ip t) (b0 : 0 ≤ fl ∧ fl ≤ 255) (b1 : 0 ≤ a ∧ a ≤ 255) (b2 : 0 ≤ b ∧ b ≤ 255) (hn : n ≤ 1460) (h0n : n = 0) (hP : hasB fl a = true) (hQ : hasB fl b = true) :
    Calls Try.prog 4 #[.int .u8 fl, .int .u8 a, .int .u8 b, .slice A n c, .int .u32 f, .int .u32 t] w fun e w' => e = .returned (.bool true) ∧ Below w.heap.size w w' := by
  subst h0n
  obtain rfl : xs = [] := List.eq_nil_of_length_eq_zero hr.len
  have hcap := hr.cap
  have hmax := hr.max
  have hk : (⟨1, 2, fl⟩ : Hd).ok := ⟨show (0 : Int) ≤ 1 ∧ (1 : Int) ≤ 65535 by omega, show (0 : Int) ≤ 2 ∧ (2 : Int) ≤ 65535 by omega, b0⟩
  obtain ⟨ys, hy⟩ : ∃ ys, mkR ⟨1, 2, fl⟩ f t [] = ys := ⟨_, rfl⟩
  have hxl := hr.len
  have hxw := hr.2.2.2.1
  have Hw : Hid (∀ x ∈ ys, (Lit.int .u8 x).wf = true) := Lib.hid (by rw [← hy]; exact mkR_wf hk hf ht hxw (by omega))
  have Hm : Hid (ys.length = 20) := Lib.hid (by rw [← hy, mkR_size]; omega)
  have hd := mkR_drop ⟨1, 2, fl⟩ f t []
  have c10 := Lib.hid (fun W (q : Rd .u8 W W.heap.size A 0 c []) => make_ok ⟨1, 2, fl⟩ A 0 c [] f t W hk q hf ht (by omega))
  rw [hy] at c10 hd
  have c8 : Hid (∀ W g, Row W g ys → Rd .u8 W W.heap.size A 0 c [] → Calls Try.prog 8 #[.slice (some ⟨g, 0, none⟩) 0 0, .slice A 0 c] W fun e w' => e = .returned (.bool true) ∧ Below W.heap.size W w') := Lib.hid (fun W g row r => by
    have q := (row.rdW Hm.out (by omega) Hw.out).cutFrom 20 (by omega)
    rw [hd] at q
    exact same_any _ _ _ _ _ _ [] _ _ _ q r)
  have eo := has_or b0 b1 b2
  have en := has_andNot b0 b1
  have ez := has_zero b0
  have es := has_self b0
  rw [hP, hQ] at eo
  rw [hP] at en
  have c11 := fun A n c x W => has_any ⟨1, 2, fl⟩ A n c x W
  dsimp only at c11
  have ca : ∀ A n c W, Calls Try.prog 11 #[pkV ⟨1, 2, fl⟩ A n c, .int .u8 a] W fun e w' => e = .returned (.bool true) ∧ Below W.heap.size W w' := fun A n c W => by
    have := c11 A n c a W
    rwa [hP] at this
  have cb : ∀ A n c W, Calls Try.prog 11 #[pkV ⟨1, 2, fl⟩ A n c, .int .u8 b] W fun e w' => e = .returned (.bool true) ∧ Below W.heap.size W w' := fun A n c W => by
    have := c11 A n c b W
    rwa [hQ] at this
  have co : ∀ A n c W, Calls Try.prog 11 #[pkV ⟨1, 2, fl⟩ A n c, .int .u8 (bits .or .u8 a b)] W fun e w' => e = .returned (.bool true) ∧ Below W.heap.size W w' := fun A n c W => by
    have := c11 A n c (bits .or .u8 a b) W
    rwa [eo] at this
  have cz : ∀ A n c W, Calls Try.prog 11 #[pkV ⟨1, 2, fl⟩ A n c, .int .u8 0] W fun e w' => e = .returned (.bool true) ∧ Below W.heap.size W w' := fun A n c W => by
    have := c11 A n c 0 W
    rwa [ez] at this
  have cf : ∀ A n c W, Calls Try.prog 11 #[pkV ⟨1, 2, fl⟩ A n c, .int .u8 fl] W fun e w' => e = .returned (.bool true) ∧ Below W.heap.size W w' := fun A n c W => by
    have := c11 A n c fl W
    rwa [es] at this
  clear c11 eo ez es hP hQ hd hy hxl hxw hf ht hk
  go_enter Try.func4, Try.ntmps4
  go_wp2_with fail
  refine (alive_any _).mono ?_
  rintro ev w1 ⟨rfl, hb⟩
  have r1 := (hr.below hb (Nat.le_refl _)).more hb.size
  go_wp2_with fail
  refine (c10.out _ r1).mono ?_
  rintro ev w2 ⟨g, rfl, row, -, hb2⟩
  have ba := alloc_below w2 (.cells (pkC ⟨1, 2, fl⟩ (some ⟨g, 0, none⟩) 20 20) 27)
  have k : KF w w2.heap.size ⟨1, 2, fl⟩ g 20 (w2.alloc (.cells (pkC ⟨1, 2, fl⟩ (some ⟨g, 0, none⟩) 20 20) 27)) := ⟨(hb.trans (hb2.mono hb.size)).trans (ba.mono (Nat.le_trans hb.size hb2.size)), PkAt.new w2 27 ⟨1, 2, fl⟩ (some ⟨g, 0, none⟩) 20 20⟩
  replace row := row.below ba row.lt
  have r2 := ((r1.below hb2 (Nat.le_refl _)).below ba hb2.size).more (Nat.le_trans hb2.size ba.size)
  clear hr r1 hb hb2 ba c10
  obtain ⟨a0, a1, a2, a3⟩ := k.s.cells
  go_wp2_with fail
  change Calls _ _ _ (w2.alloc (.cells (pkC ⟨1, 2, fl⟩ (some ⟨g, 0, none⟩) 20 20) 27)) _
  generalize w2.alloc (.cells (pkC ⟨1, 2, fl⟩ (some ⟨g, 0, none⟩) 20 20) 27) = W2 at *
  generalize w2.heap.size = gs at *
  refine (c8.out _ _ row r2).mono ?_
  rintro ev w3 ⟨rfl, hb⟩
  replace k := k.step hb
  clear hb row r2 c8 a0 a1 a2 a3
  go_wp2_with fail
  refine wp_region_held_drew (S := fun w' => KF w gs ⟨1, 2, fl⟩ g 20 w') (by kernel_rfl) (k.step (below_drew _)) (fun hHeld => ?_)
  change wpAnyH _ _ _ _ _ _ _ _ (World.drew _)
  generalize World.drew _ = W4 at *
  clear k
  refine wpAnyH_at (i := 0) (some 47) (v := ?v0z1) rfl rfl (by kernel_rfl) (by kernel_rfl) (by kernel_rfl) (fun _ _ _ h => h) (Or.inl ⟨by rfl, ?y0z1⟩) (by assumption) ?r0z1
  case y0z1 =>
    intro w9 hSw
    (obtain ⟨a0, a1, a2, a3⟩ := (show KF w gs ⟨1, 2, fl⟩ g 20 w9 from hSw).s.cells); clear hSw
    go_simp
    all_goals with_reducible rfl
  simp only [Act.put, List.setIfInBounds_toArray, List.set_cons_zero, List.set_cons_succ]
  refine wpAnyH_at (i := 1) (some 48) (v := ?v1z2) rfl rfl (by kernel_rfl) (by kernel_rfl) (by kernel_rfl) (fun _ _ _ h => h) (Or.inl ⟨by rfl, ?y1z2⟩) (by assumption) ?r1z2
  case y1z2 =>
    intro w9 hSw
    clear hSw
    go_simp
    all_goals with_reducible rfl
  simp only [Act.put, List.setIfInBounds_toArray, List.set_cons_zero, List.set_cons_succ]
  refine wpAnyH_at (i := 2) (some 49) (v := ?v2z3) rfl rfl (by kernel_rfl) (by kernel_rfl) (by kernel_rfl) (fun _ _ _ h => h) (Or.inl ⟨by rfl, ?y2z3⟩) (by assumption) ?r2z3
  case y2z3 =>
    intro w9 hSw
    clear hSw
    go_simp
    all_goals with_reducible rfl
  simp only [Act.put, List.setIfInBounds_toArray, List.set_cons_zero, List.set_cons_succ]
  refine wpAnyH_at (i := 3) (some 50) (v := ?v3z4) rfl rfl (by kernel_rfl) (by kernel_rfl) (by kernel_rfl) (fun _ _ _ h => h) (Or.inl ⟨by rfl, ?y3z4⟩) (by assumption) ?r3z4
  case y3z4 =>
    intro w9 hSw
    clear hSw
    go_simp
    all_goals with_reducible rfl
  simp only [Act.put, List.setIfInBounds_toArray, List.set_cons_zero, List.set_cons_succ]
  refine wpAnyH_at (i := 5) (some 52) (v := ?v5z5) rfl rfl (by kernel_rfl) (by kernel_rfl) (by kernel_rfl) (fun _ _ _ h => h) (Or.inl ⟨by rfl, ?y5z5⟩) (by assumption) ?r5z5
  case y5z5 =>
    intro w9 hSw
    (obtain ⟨a0, a1, a2, a3⟩ := (show KF w gs ⟨1, 2, fl⟩ g 20 w9 from hSw).s.cells); clear hSw
    go_simp
    all_goals with_reducible rfl
  simp only [Act.put, List.setIfInBounds_toArray, List.set_cons_zero, List.set_cons_succ]
  refine wpAnyH_at (i := 6) (some 53) (v := ?v6z6) rfl rfl (by kernel_rfl) (by kernel_rfl) (by kernel_rfl) (fun _ _ _ h => h) (Or.inl ⟨by rfl, ?y6z6⟩) (by assumption) ?r6z6
  case y6z6 =>
    intro w9 hSw
    clear hSw
    go_simp
    all_goals with_reducible rfl
  simp only [Act.put, List.setIfInBounds_toArray, List.set_cons_zero, List.set_cons_succ]
  refine wpAnyH_one (i := 4) (by kernel_rfl) rfl ?_
  go_wp2_with (go_at_call 11; refine (co _ _ _ _).mono ?_; rintro ev V5 ⟨rfl, hb⟩)
  replace hHeld := hHeld.step hb
  clear hb
  refine ⟨hHeld, ?_⟩
  try simp only [Act.put, List.setIfInBounds_toArray, List.set_cons_zero, List.set_cons_succ]
  refine wpAnyH_one (i := 7) (by kernel_rfl) rfl ?_
  go_wp2_with (go_at_call 11; refine (ca _ _ _ _).mono ?_; rintro ev V6 ⟨rfl, hb⟩)
  replace hHeld := hHeld.step hb
  clear hb
  refine ⟨hHeld, ?_⟩
  try simp only [Act.put, List.setIfInBounds_toArray, List.set_cons_zero, List.set_cons_succ]
  refine wpAnyH_at (i := 8) (some 55) (v := ?v8z7) rfl rfl (by kernel_rfl) (by kernel_rfl) (by kernel_rfl) (fun _ _ _ h => h) (Or.inl ⟨by rfl, ?y8z7⟩) (by assumption) ?r8z7
  case y8z7 =>
    intro w9 hSw
    clear hSw
    go_simp
    all_goals with_reducible rfl
  simp only [Act.put, List.setIfInBounds_toArray, List.set_cons_zero, List.set_cons_succ]
  refine wpAnyH_at (i := 9) (some 56) (v := ?v9z8) rfl rfl (by kernel_rfl) (by kernel_rfl) (by kernel_rfl) (fun _ _ _ h => h) (Or.inl ⟨by rfl, ?y9z8⟩) (by assumption) ?r9z8
  case y9z8 =>
    intro w9 hSw
    (obtain ⟨a0, a1, a2, a3⟩ := (show KF w gs ⟨1, 2, fl⟩ g 20 w9 from hSw).s.cells); clear hSw
    go_simp
    all_goals with_reducible rfl
  simp only [Act.put, List.setIfInBounds_toArray, List.set_cons_zero, List.set_cons_succ]
  refine wpAnyH_at (i := 10) (some 57) (v := ?v10z9) rfl rfl (by kernel_rfl) (by kernel_rfl) (by kernel_rfl) (fun _ _ _ h => h) (Or.inl ⟨by rfl, ?y10z9⟩) (by assumption) ?r10z9
  case y10z9 =>
    intro w9 hSw
    clear hSw
    go_simp
    all_goals with_reducible rfl
  simp only [Act.put, List.setIfInBounds_toArray, List.set_cons_zero, List.set_cons_succ]
  refine wpAnyH_one (i := 11) (by kernel_rfl) rfl ?_
  go_wp2_with (go_at_call 11; refine (cb _ _ _ _).mono ?_; rintro ev V7 ⟨rfl, hb⟩)
  replace hHeld := hHeld.step hb
  clear hb
  refine ⟨hHeld, ?_⟩
  try simp only [Act.put, List.setIfInBounds_toArray, List.set_cons_zero, List.set_cons_succ]
  refine wpAnyH_at (i := 12) (some 59) (v := ?v12z10) rfl rfl (by kernel_rfl) (by kernel_rfl) (by kernel_rfl) (fun _ _ _ h => h) (Or.inl ⟨by rfl, ?y12z10⟩) (by assumption) ?r12z10
  case y12z10 =>
    intro w9 hSw
    clear hSw
    go_simp
    all_goals with_reducible rfl
  simp only [Act.put, List.setIfInBounds_toArray, List.set_cons_zero, List.set_cons_succ]
  refine wpAnyH_at (i := 13) (some 60) (v := ?v13z11) rfl rfl (by kernel_rfl) (by kernel_rfl) (by kernel_rfl) (fun _ _ _ h => h) (Or.inl ⟨by rfl, ?y13z11⟩) (by assumption) ?r13z11
  case y13z11 =>
    intro w9 hSw
    clear hSw
    go_simp
    all_goals with_reducible rfl
  simp only [Act.put, List.setIfInBounds_toArray, List.set_cons_zero, List.set_cons_succ]
  refine wpAnyH_at (i := 14) (some 61) (v := ?v14z12) rfl rfl (by kernel_rfl) (by kernel_rfl) (by kernel_rfl) (fun _ _ _ h => h) (Or.inl ⟨by rfl, ?y14z12⟩) (by assumption) ?r14z12
  case y14z12 =>
    intro w9 hSw
    clear hSw
    go_simp
    all_goals with_reducible rfl
  simp only [Act.put, List.setIfInBounds_toArray, List.set_cons_zero, List.set_cons_succ]
  refine wpAnyH_at (i := 15) (some 62) (v := ?v15z13) rfl rfl (by kernel_rfl) (by kernel_rfl) (by kernel_rfl) (fun _ _ _ h => h) (Or.inl ⟨by rfl, ?y15z13⟩) (by assumption) ?r15z13
  case y15z13 =>
    intro w9 hSw
    (obtain ⟨a0, a1, a2, a3⟩ := (show KF w gs ⟨1, 2, fl⟩ g 20 w9 from hSw).s.cells); clear hSw
    go_simp
    all_goals with_reducible rfl
  simp only [Act.put, List.setIfInBounds_toArray, List.set_cons_zero, List.set_cons_succ]
  refine wpAnyH_one (i := 16) (by kernel_rfl) rfl ?_
  go_wp2_with (go_at_call 11; refine (cz _ _ _ _).mono ?_; rintro ev V8 ⟨rfl, hb⟩)
  replace hHeld := hHeld.step hb
  clear hb
  refine ⟨hHeld, ?_⟩
  try simp only [Act.put, List.setIfInBounds_toArray, List.set_cons_zero, List.set_cons_succ]
  refine wpAnyH_at (i := 17) (some 64) (v := ?v17z14) rfl rfl (by kernel_rfl) (by kernel_rfl) (by kernel_rfl) (fun _ _ _ h => h) (Or.inl ⟨by rfl, ?y17z14⟩) (by assumption) ?r17z14
  case y17z14 =>
    intro w9 hSw
    clear hSw
    go_simp
    all_goals with_reducible rfl
  simp only [Act.put, List.setIfInBounds_toArray, List.set_cons_zero, List.set_cons_succ]
  refine wpAnyH_at (i := 18) (some 65) (v := ?v18z15) rfl rfl (by kernel_rfl) (by kernel_rfl) (by kernel_rfl) (fun _ _ _ h => h) (Or.inl ⟨by rfl, ?y18z15⟩) (by assumption) ?r18z15
  case y18z15 =>
    intro w9 hSw
    clear hSw
    go_simp
    all_goals with_reducible rfl
  simp only [Act.put, List.setIfInBounds_toArray, List.set_cons_zero, List.set_cons_succ]
  refine wpAnyH_at (i := 19) (some 66) (v := ?v19z16) rfl rfl (by kernel_rfl) (by kernel_rfl) (by kernel_rfl) (fun _ _ _ h => h) (Or.inl ⟨by rfl, ?y19z16⟩) (by assumption) ?r19z16
  case y19z16 =>
    intro w9 hSw
    (obtain ⟨a0, a1, a2, a3⟩ := (show KF w gs ⟨1, 2, fl⟩ g 20 w9 from hSw).s.cells); clear hSw
    go_simp
    all_goals with_reducible rfl
  simp only [Act.put, List.setIfInBounds_toArray, List.set_cons_zero, List.set_cons_succ]
  refine wpAnyH_at (i := 20) (some 67) (v := ?v20z17) rfl rfl (by kernel_rfl) (by kernel_rfl) (by kernel_rfl) (fun _ _ _ h => h) (Or.inl ⟨by rfl, ?y20z17⟩) (by assumption) ?r20z17
  case y20z17 =>
    intro w9 hSw
    clear hSw
    go_simp
    all_goals with_reducible rfl
  simp only [Act.put, List.setIfInBounds_toArray, List.set_cons_zero, List.set_cons_succ]
  refine wpAnyH_one (i := 21) (by kernel_rfl) rfl ?_
  go_wp2_with (go_at_call 11; refine (cf _ _ _ _).mono ?_; rintro ev V9 ⟨rfl, hb⟩)
  replace hHeld := hHeld.step hb
  clear hb
  refine ⟨hHeld, ?_⟩
  try simp only [Act.put, List.setIfInBounds_toArray, List.set_cons_zero, List.set_cons_succ]
  refine wpAnyH_at (i := 22) (some 69) (v := ?v22z18) rfl rfl (by kernel_rfl) (by kernel_rfl) (by kernel_rfl) (fun _ _ _ h => h) (Or.inl ⟨by rfl, ?y22z18⟩) (by assumption) ?r22z18
  case y22z18 =>
    intro w9 hSw
    clear hSw
    go_simp
    all_goals with_reducible rfl
  simp only [Act.put, List.setIfInBounds_toArray, List.set_cons_zero, List.set_cons_succ]
  refine wpAnyH_at (i := 23) (some 70) (v := ?v23z19) rfl rfl (by kernel_rfl) (by kernel_rfl) (by kernel_rfl) (fun _ _ _ h => h) (Or.inl ⟨by rfl, ?y23z19⟩) (by assumption) ?r23z19
  case y23z19 =>
    intro w9 hSw
    clear hSw
    go_simp
    all_goals with_reducible rfl
  simp only [Act.put, List.setIfInBounds_toArray, List.set_cons_zero, List.set_cons_succ]
  refine wpAnyH_at (i := 24) (some 71) (v := ?v24z20) rfl rfl (by kernel_rfl) (by kernel_rfl) (by kernel_rfl) (fun _ _ _ h => h) (Or.inl ⟨by rfl, ?y24z20⟩) (by assumption) ?r24z20
  case y24z20 =>
    intro w9 hSw
    (obtain ⟨a0, a1, a2, a3⟩ := (show KF w gs ⟨1, 2, fl⟩ g 20 w9 from hSw).s.cells); clear hSw
    go_simp
    all_goals with_reducible rfl
  simp only [Act.put, List.setIfInBounds_toArray, List.set_cons_zero, List.set_cons_succ]
  refine wpAnyH_at (i := 25) (some 72) (v := ?v25z21) rfl rfl (by kernel_rfl) (by kernel_rfl) (by kernel_rfl) (fun _ _ _ h => h) (Or.inl ⟨by rfl, ?y25z21⟩) (by assumption) ?r25z21
  case y25z21 =>
    intro w9 hSw
    clear hSw
    go_simp
    all_goals with_reducible rfl
  simp only [Act.put, List.setIfInBounds_toArray, List.set_cons_zero, List.set_cons_succ]
  refine wpAnyH_at (i := 27) (some 74) (v := ?v27z22) rfl rfl (by kernel_rfl) (by kernel_rfl) (by kernel_rfl) (fun _ _ _ h => h) (Or.inl ⟨by rfl, ?y27z22⟩) (by assumption) ?r27z22
  case y27z22 =>
    intro w9 hSw
    clear hSw
    go_simp
    all_goals with_reducible rfl
  simp only [Act.put, List.setIfInBounds_toArray, List.set_cons_zero, List.set_cons_succ]
  refine wpAnyH_at (i := 28) (some 75) (v := ?v28z23) rfl rfl (by kernel_rfl) (by kernel_rfl) (by kernel_rfl) (fun _ _ _ h => h) (Or.inl ⟨by rfl, ?y28z23⟩) (by assumption) ?r28z23
  case y28z23 =>
    intro w9 hSw
    clear hSw
    go_simp
    all_goals with_reducible rfl
  simp only [Act.put, List.setIfInBounds_toArray, List.set_cons_zero, List.set_cons_succ]
  refine wpAnyH_at (i := 29) (some 76) (v := ?v29z24) rfl rfl (by kernel_rfl) (by kernel_rfl) (by kernel_rfl) (fun _ _ _ h => h) (Or.inl ⟨by rfl, ?y29z24⟩) (by assumption) ?r29z24
  case y29z24 =>
    intro w9 hSw
    clear hSw
    go_simp
    all_goals with_reducible rfl
  simp only [Act.put, List.setIfInBounds_toArray, List.set_cons_zero, List.set_cons_succ]
  refine wpAnyH_at (i := 30) (some 77) (v := ?v30z25) rfl rfl (by kernel_rfl) (by kernel_rfl) (by kernel_rfl) (fun _ _ _ h => h) (Or.inl ⟨by rfl, ?y30z25⟩) (by assumption) ?r30z25
  case y30z25 =>
    intro w9 hSw
    clear hSw
    go_simp
    all_goals with_reducible rfl
  simp only [Act.put, List.setIfInBounds_toArray, List.set_cons_zero, List.set_cons_succ]
  refine wpAnyH_one (i := 26) (by kernel_rfl) rfl ?_
  go_wp2_with (go_at_call 11; refine (ca _ _ _ _).mono ?_; rintro ev V10 ⟨rfl, hb⟩)
  replace hHeld := hHeld.step hb
  clear hb
  refine ⟨hHeld, ?_⟩
  try simp only [Act.put, List.setIfInBounds_toArray, List.set_cons_zero, List.set_cons_succ]
  refine wpAnyH_at (i := 31) (some 78) (v := ?v31z26) rfl rfl (by kernel_rfl) (by kernel_rfl) (by kernel_rfl) (fun _ _ _ h => h) (Or.inl ⟨by rfl, ?y31z26⟩) (by assumption) ?r31z26
  case y31z26 =>
    intro w9 hSw
    clear hSw
    go_simp
    all_goals with_reducible rfl
  simp only [Act.put, List.setIfInBounds_toArray, List.set_cons_zero, List.set_cons_succ]
  refine wpAnyH_at (i := 32) (some 79) (v := ?v32z27) rfl rfl (by kernel_rfl) (by kernel_rfl) (by kernel_rfl) (fun _ _ _ h => h) (Or.inl ⟨by rfl, ?y32z27⟩) (by assumption) ?r32z27
  case y32z27 =>
    intro w9 hSw
    clear hSw
    go_simp
    all_goals with_reducible rfl
  simp only [Act.put, List.setIfInBounds_toArray, List.set_cons_zero, List.set_cons_succ]
  refine wpAnyH_at (i := 33) (some 80) (v := ?v33z28) rfl rfl (by kernel_rfl) (by kernel_rfl) (by kernel_rfl) (fun _ _ _ h => h) (Or.inl ⟨by rfl, ?y33z28⟩) (by assumption) ?r33z28
  case y33z28 =>
    intro w9 hSw
    clear hSw
    go_simp
    all_goals with_reducible rfl
  simp only [Act.put, List.setIfInBounds_toArray, List.set_cons_zero, List.set_cons_succ]
  refine wpAnyH_at (i := 34) (some 81) (v := ?v34z29) rfl rfl (by kernel_rfl) (by kernel_rfl) (by kernel_rfl) (fun _ _ _ h => h) (Or.inl ⟨by rfl, ?y34z29⟩) (by assumption) ?r34z29
  case y34z29 =>
    intro w9 hSw
    clear hSw
    go_simp
    all_goals with_reducible rfl
  simp only [Act.put, List.setIfInBounds_toArray, List.set_cons_zero, List.set_cons_succ]
  refine wpAnyH_at (i := 35) (some 82) (v := ?v35z30) rfl rfl (by kernel_rfl) (by kernel_rfl) (by kernel_rfl) (fun _ _ _ h => h) (Or.inl ⟨by rfl, ?y35z30⟩) (by assumption) ?r35z30
  case y35z30 =>
    intro w9 hSw
    (obtain ⟨a0, a1, a2, a3⟩ := (show KF w gs ⟨1, 2, fl⟩ g 20 w9 from hSw).s.cells); clear hSw
    go_simp
    all_goals with_reducible rfl
  simp only [Act.put, List.setIfInBounds_toArray, List.set_cons_zero, List.set_cons_succ]
  refine wpAnyH_at (i := 36) (some 83) (v := ?v36z31) rfl rfl (by kernel_rfl) (by kernel_rfl) (by kernel_rfl) (fun _ _ _ h => h) (Or.inl ⟨by rfl, ?y36z31⟩) (by assumption) ?r36z31
  case y36z31 =>
    intro w9 hSw
    clear hSw
    go_simp
    all_goals with_reducible rfl
  simp only [Act.put, List.setIfInBounds_toArray, List.set_cons_zero, List.set_cons_succ]
  refine wpAnyH_at (i := 37) (some 84) (v := ?v37z32) rfl rfl (by kernel_rfl) (by kernel_rfl) (by kernel_rfl) (fun _ _ _ h => h) (Or.inl ⟨by rfl, ?y37z32⟩) (by assumption) ?r37z32
  case y37z32 =>
    intro w9 hSw
    clear hSw
    go_simp
    all_goals with_reducible rfl
  simp only [Act.put, List.setIfInBounds_toArray, List.set_cons_zero, List.set_cons_succ]
  refine wpAnyH_at (i := 38) (some 85) (v := ?v38z33) rfl rfl (by kernel_rfl) (by kernel_rfl) (by kernel_rfl) (fun _ _ _ h => h) (Or.inl ⟨by rfl, ?y38z33⟩) (by assumption) ?r38z33
  case y38z33 =>
    intro w9 hSw
    clear hSw
    go_simp
    all_goals with_reducible rfl
  simp only [Act.put, List.setIfInBounds_toArray, List.set_cons_zero, List.set_cons_succ]
  refine wpAnyH_at (i := 39) (some 12) (v := ?v39z34) rfl rfl (by kernel_rfl) (by kernel_rfl) (by kernel_rfl) (fun _ _ _ h => h) (Or.inl ⟨by rfl, ?y39z34⟩) (by assumption) ?r39z34
  case y39z34 =>
    intro w9 hSw
    clear hSw
    go_simp
    all_goals with_reducible rfl
  simp only [Act.put, List.setIfInBounds_toArray, List.set_cons_zero, List.set_cons_succ]
  refine wpAnyH_done (by kernel_rfl) ?_ _
  go_wp2
  go_ret
  exact ⟨rfl, hHeld.below⟩
set_option maxRecDepth 100000 in
set_option maxHeartbeats 4000000 in
theorem flags_none_tf (fl a b : Int) (A : Option Addr) (n c : Nat) (xs : List Int) (f t : Int) (w : World) (hr : Rd .u8 w w.heap.size A n c xs) (hf : Ip f) (ht : Ip t) (b0 : 0 ≤ fl ∧ fl ≤ 255) (b1 : 0 ≤ a ∧ a ≤ 255) (b2 : 0 ≤ b ∧ b ≤ 255) (hn : n ≤ 1460) (h0n : n = 0) (hP : hasB fl a = true) (hQ : hasB fl b = false) :
    Calls Try.prog 4 #[.int .u8 fl, .int .u8 a, .int .u8 b, .slice A n c, .int .u32 f, .int .u32 t] w fun e w' => e = .returned (.bool true) ∧ Below w.heap.size w w' := by
  subst h0n
  obtain rfl : xs = [] := List.eq_nil_of_length_eq_zero hr.len
  have hcap := hr.cap
  have hmax := hr.max
  have hk : (⟨1, 2, fl⟩ : Hd).ok := ⟨show (0 : Int) ≤ 1 ∧ (1 : Int) ≤ 65535 by omega, show (0 : Int) ≤ 2 ∧ (2 : Int) ≤ 65535 by omega, b0⟩
  obtain ⟨ys, hy⟩ : ∃ ys, mkR ⟨1, 2, fl⟩ f t [] = ys := ⟨_, rfl⟩
  have hxl := hr.len
  have hxw := hr.2.2.2.1
  have Hw : Hid (∀ x ∈ ys, (Lit.int .u8 x).wf = true) := Lib.hid (by rw [← hy]; exact mkR_wf hk hf ht hxw (by omega))
  have Hm : Hid (ys.length = 20) := Lib.hid (by rw [← hy, mkR_size]; omega)
  have hd := mkR_drop ⟨1, 2, fl⟩ f t []
  have c10 := Lib.hid (fun W (q : Rd .u8 W W.heap.size A 0 c []) => make_ok ⟨1, 2, fl⟩ A 0 c [] f t W hk q hf ht (by omega))
  rw [hy] at c10 hd
  have c8 : Hid (∀ W g, Row W g ys → Rd .u8 W W.heap.size A 0 c [] → Calls Try.prog 8 #[.slice (some ⟨g, 0, none⟩) 0 0, .slice A 0 c] W fun e w' => e = .returned (.bool true) ∧ Below W.heap.size W w') := Lib.hid (fun W g row r => by
    have q := (row.rdW Hm.out (by omega) Hw.out).cutFrom 20 (by omega)
    rw [hd] at q
    exact same_any _ _ _ _ _ _ [] _ _ _ q r)
  have eo := has_or b0 b1 b2
  have en := has_andNot b0 b1
  have ez := has_zero b0
  have es := has_self b0
  rw [hP, hQ] at eo
  rw [hP] at en
  have c11 := fun A n c x W => has_any ⟨1, 2, fl⟩ A n c x W
  dsimp only at c11
  have ca : ∀ A n c W, Calls Try.prog 11 #[pkV ⟨1, 2, fl⟩ A n c, .int .u8 a] W fun e w' => e = .returned (.bool true) ∧ Below W.heap.size W w' := fun A n c W => by
    have := c11 A n c a W
    rwa [hP] at this
  have cb : ∀ A n c W, Calls Try.prog 11 #[pkV ⟨1, 2, fl⟩ A n c, .int .u8 b] W fun e w' => e = .returned (.bool false) ∧ Below W.heap.size W w' := fun A n c W => by
    have := c11 A n c b W
    rwa [hQ] at this
  have co : ∀ A n c W, Calls Try.prog 11 #[pkV ⟨1, 2, fl⟩ A n c, .int .u8 (bits .or .u8 a b)] W fun e w' => e = .returned (.bool false) ∧ Below W.heap.size W w' := fun A n c W => by
    have := c11 A n c (bits .or .u8 a b) W
    rwa [eo] at this
  have cz : ∀ A n c W, Calls Try.prog 11 #[pkV ⟨1, 2, fl⟩ A n c, .int .u8 0] W fun e w' => e = .returned (.bool true) ∧ Below W.heap.size W w' := fun A n c W => by
    have := c11 A n c 0 W
    rwa [ez] at this
  have cf : ∀ A n c W, Calls Try.prog 11 #[pkV ⟨1, 2, fl⟩ A n c, .int .u8 fl] W fun e w' => e = .returned (.bool true) ∧ Below W.heap.size W w' := fun A n c W => by
    have := c11 A n c fl W
    rwa [es] at this
  clear c11 eo ez es hP hQ hd hy hxl hxw hf ht hk
  go_enter Try.func4, Try.ntmps4
  go_wp2_with fail
  refine (alive_any _).mono ?_
  rintro ev w1 ⟨rfl, hb⟩
  have r1 := (hr.below hb (Nat.le_refl _)).more hb.size
  go_wp2_with fail
  refine (c10.out _ r1).mono ?_
  rintro ev w2 ⟨g, rfl, row, -, hb2⟩
  have ba := alloc_below w2 (.cells (pkC ⟨1, 2, fl⟩ (some ⟨g, 0, none⟩) 20 20) 27)
  have k : KF w w2.heap.size ⟨1, 2, fl⟩ g 20 (w2.alloc (.cells (pkC ⟨1, 2, fl⟩ (some ⟨g, 0, none⟩) 20 20) 27)) := ⟨(hb.trans (hb2.mono hb.size)).trans (ba.mono (Nat.le_trans hb.size hb2.size)), PkAt.new w2 27 ⟨1, 2, fl⟩ (some ⟨g, 0, none⟩) 20 20⟩
  replace row := row.below ba row.lt
  have r2 := ((r1.below hb2 (Nat.le_refl _)).below ba hb2.size).more (Nat.le_trans hb2.size ba.size)
  clear hr r1 hb hb2 ba c10
  obtain ⟨a0, a1, a2, a3⟩ := k.s.cells
  go_wp2_with fail
  change Calls _ _ _ (w2.alloc (.cells (pkC ⟨1, 2, fl⟩ (some ⟨g, 0, none⟩) 20 20) 27)) _
  generalize w2.alloc (.cells (pkC ⟨1, 2, fl⟩ (some ⟨g, 0, none⟩) 20 20) 27) = W2 at *
  generalize w2.heap.size = gs at *
  refine (c8.out _ _ row r2).mono ?_
  rintro ev w3 ⟨rfl, hb⟩
  replace k := k.step hb
  clear hb row r2 c8 a0 a1 a2 a3
  go_wp2_with fail
  refine wp_region_held_drew (S := fun w' => KF w gs ⟨1, 2, fl⟩ g 20 w') (by kernel_rfl) (k.step (below_drew _)) (fun hHeld => ?_)
  change wpAnyH _ _ _ _ _ _ _ _ (World.drew _)
  generalize World.drew _ = W4 at *
  clear k
  refine wpAnyH_at (i := 0) (some 47) (v := ?v0z35) rfl rfl (by kernel_rfl) (by kernel_rfl) (by kernel_rfl) (fun _ _ _ h => h) (Or.inl ⟨by rfl, ?y0z35⟩) (by assumption) ?r0z35
  case y0z35 =>
    intro w9 hSw
    (obtain ⟨a0, a1, a2, a3⟩ := (show KF w gs ⟨1, 2, fl⟩ g 20 w9 from hSw).s.cells); clear hSw
    go_simp
    all_goals with_reducible rfl
  simp only [Act.put, List.setIfInBounds_toArray, List.set_cons_zero, List.set_cons_succ]
  refine wpAnyH_at (i := 1) (some 48) (v := ?v1z36) rfl rfl (by kernel_rfl) (by kernel_rfl) (by kernel_rfl) (fun _ _ _ h => h) (Or.inl ⟨by rfl, ?y1z36⟩) (by assumption) ?r1z36
  case y1z36 =>
    intro w9 hSw
    clear hSw
    go_simp
    all_goals with_reducible rfl
  simp only [Act.put, List.setIfInBounds_toArray, List.set_cons_zero, List.set_cons_succ]
  refine wpAnyH_at (i := 2) (some 49) (v := ?v2z37) rfl rfl (by kernel_rfl) (by kernel_rfl) (by kernel_rfl) (fun _ _ _ h => h) (Or.inl ⟨by rfl, ?y2z37⟩) (by assumption) ?r2z37
  case y2z37 =>
    intro w9 hSw
    clear hSw
    go_simp
    all_goals with_reducible rfl
  simp only [Act.put, List.setIfInBounds_toArray, List.set_cons_zero, List.set_cons_succ]
  refine wpAnyH_at (i := 3) (some 50) (v := ?v3z38) rfl rfl (by kernel_rfl) (by kernel_rfl) (by kernel_rfl) (fun _ _ _ h => h) (Or.inl ⟨by rfl, ?y3z38⟩) (by assumption) ?r3z38
  case y3z38 =>
    intro w9 hSw
    clear hSw
    go_simp
    all_goals with_reducible rfl
  simp only [Act.put, List.setIfInBounds_toArray, List.set_cons_zero, List.set_cons_succ]
  refine wpAnyH_at (i := 5) (some 52) (v := ?v5z39) rfl rfl (by kernel_rfl) (by kernel_rfl) (by kernel_rfl) (fun _ _ _ h => h) (Or.inl ⟨by rfl, ?y5z39⟩) (by assumption) ?r5z39
  case y5z39 =>
    intro w9 hSw
    (obtain ⟨a0, a1, a2, a3⟩ := (show KF w gs ⟨1, 2, fl⟩ g 20 w9 from hSw).s.cells); clear hSw
    go_simp
    all_goals with_reducible rfl
  simp only [Act.put, List.setIfInBounds_toArray, List.set_cons_zero, List.set_cons_succ]
  refine wpAnyH_at (i := 6) (some 53) (v := ?v6z40) rfl rfl (by kernel_rfl) (by kernel_rfl) (by kernel_rfl) (fun _ _ _ h => h) (Or.inl ⟨by rfl, ?y6z40⟩) (by assumption) ?r6z40
  case y6z40 =>
    intro w9 hSw
    clear hSw
    go_simp
    all_goals with_reducible rfl
  simp only [Act.put, List.setIfInBounds_toArray, List.set_cons_zero, List.set_cons_succ]
  refine wpAnyH_one (i := 4) (by kernel_rfl) rfl ?_
  go_wp2_with (go_at_call 11; refine (co _ _ _ _).mono ?_; rintro ev V5 ⟨rfl, hb⟩)
  replace hHeld := hHeld.step hb
  clear hb
  refine ⟨hHeld, ?_⟩
  try simp only [Act.put, List.setIfInBounds_toArray, List.set_cons_zero, List.set_cons_succ]
  refine wpAnyH_one (i := 7) (by kernel_rfl) rfl ?_
  go_wp2_with (go_at_call 11; refine (ca _ _ _ _).mono ?_; rintro ev V6 ⟨rfl, hb⟩)
  replace hHeld := hHeld.step hb
  clear hb
  refine ⟨hHeld, ?_⟩
  try simp only [Act.put, List.setIfInBounds_toArray, List.set_cons_zero, List.set_cons_succ]
  refine wpAnyH_at (i := 8) (some 55) (v := ?v8z41) rfl rfl (by kernel_rfl) (by kernel_rfl) (by kernel_rfl) (fun _ _ _ h => h) (Or.inl ⟨by rfl, ?y8z41⟩) (by assumption) ?r8z41
  case y8z41 =>
    intro w9 hSw
    clear hSw
    go_simp
    all_goals with_reducible rfl
  simp only [Act.put, List.setIfInBounds_toArray, List.set_cons_zero, List.set_cons_succ]
  refine wpAnyH_at (i := 9) (some 56) (v := ?v9z42) rfl rfl (by kernel_rfl) (by kernel_rfl) (by kernel_rfl) (fun _ _ _ h => h) (Or.inl ⟨by rfl, ?y9z42⟩) (by assumption) ?r9z42
  case y9z42 =>
    intro w9 hSw
    (obtain ⟨a0, a1, a2, a3⟩ := (show KF w gs ⟨1, 2, fl⟩ g 20 w9 from hSw).s.cells); clear hSw
    go_simp
    all_goals with_reducible rfl
  simp only [Act.put, List.setIfInBounds_toArray, List.set_cons_zero, List.set_cons_succ]
  refine wpAnyH_at (i := 10) (some 57) (v := ?v10z43) rfl rfl (by kernel_rfl) (by kernel_rfl) (by kernel_rfl) (fun _ _ _ h => h) (Or.inl ⟨by rfl, ?y10z43⟩) (by assumption) ?r10z43
  case y10z43 =>
    intro w9 hSw
    clear hSw
    go_simp
    all_goals with_reducible rfl
  simp only [Act.put, List.setIfInBounds_toArray, List.set_cons_zero, List.set_cons_succ]
  refine wpAnyH_one (i := 11) (by kernel_rfl) rfl ?_
  go_wp2_with (go_at_call 11; refine (cb _ _ _ _).mono ?_; rintro ev V7 ⟨rfl, hb⟩)
  replace hHeld := hHeld.step hb
  clear hb
  refine ⟨hHeld, ?_⟩
  try simp only [Act.put, List.setIfInBounds_toArray, List.set_cons_zero, List.set_cons_succ]
  refine wpAnyH_at (i := 12) (some 59) (v := ?v12z44) rfl rfl (by kernel_rfl) (by kernel_rfl) (by kernel_rfl) (fun _ _ _ h => h) (Or.inl ⟨by rfl, ?y12z44⟩) (by assumption) ?r12z44
  case y12z44 =>
    intro w9 hSw
    clear hSw
    go_simp
    all_goals with_reducible rfl
  simp only [Act.put, List.setIfInBounds_toArray, List.set_cons_zero, List.set_cons_succ]
  refine wpAnyH_at (i := 13) (some 60) (v := ?v13z45) rfl rfl (by kernel_rfl) (by kernel_rfl) (by kernel_rfl) (fun _ _ _ h => h) (Or.inl ⟨by rfl, ?y13z45⟩) (by assumption) ?r13z45
  case y13z45 =>
    intro w9 hSw
    clear hSw
    go_simp
    all_goals with_reducible rfl
  simp only [Act.put, List.setIfInBounds_toArray, List.set_cons_zero, List.set_cons_succ]
  refine wpAnyH_at (i := 14) (some 61) (v := ?v14z46) rfl rfl (by kernel_rfl) (by kernel_rfl) (by kernel_rfl) (fun _ _ _ h => h) (Or.inl ⟨by rfl, ?y14z46⟩) (by assumption) ?r14z46
  case y14z46 =>
    intro w9 hSw
    clear hSw
    go_simp
    all_goals with_reducible rfl
  simp only [Act.put, List.setIfInBounds_toArray, List.set_cons_zero, List.set_cons_succ]
  refine wpAnyH_at (i := 15) (some 62) (v := ?v15z47) rfl rfl (by kernel_rfl) (by kernel_rfl) (by kernel_rfl) (fun _ _ _ h => h) (Or.inl ⟨by rfl, ?y15z47⟩) (by assumption) ?r15z47
  case y15z47 =>
    intro w9 hSw
    (obtain ⟨a0, a1, a2, a3⟩ := (show KF w gs ⟨1, 2, fl⟩ g 20 w9 from hSw).s.cells); clear hSw
    go_simp
    all_goals with_reducible rfl
  simp only [Act.put, List.setIfInBounds_toArray, List.set_cons_zero, List.set_cons_succ]
  refine wpAnyH_one (i := 16) (by kernel_rfl) rfl ?_
  go_wp2_with (go_at_call 11; refine (cz _ _ _ _).mono ?_; rintro ev V8 ⟨rfl, hb⟩)
  replace hHeld := hHeld.step hb
  clear hb
  refine ⟨hHeld, ?_⟩
  try simp only [Act.put, List.setIfInBounds_toArray, List.set_cons_zero, List.set_cons_succ]
  refine wpAnyH_at (i := 17) (some 64) (v := ?v17z48) rfl rfl (by kernel_rfl) (by kernel_rfl) (by kernel_rfl) (fun _ _ _ h => h) (Or.inl ⟨by rfl, ?y17z48⟩) (by assumption) ?r17z48
  case y17z48 =>
    intro w9 hSw
    clear hSw
    go_simp
    all_goals with_reducible rfl
  simp only [Act.put, List.setIfInBounds_toArray, List.set_cons_zero, List.set_cons_succ]
  refine wpAnyH_at (i := 18) (some 65) (v := ?v18z49) rfl rfl (by kernel_rfl) (by kernel_rfl) (by kernel_rfl) (fun _ _ _ h => h) (Or.inl ⟨by rfl, ?y18z49⟩) (by assumption) ?r18z49
  case y18z49 =>
    intro w9 hSw
    clear hSw
    go_simp
    all_goals with_reducible rfl
  simp only [Act.put, List.setIfInBounds_toArray, List.set_cons_zero, List.set_cons_succ]
  refine wpAnyH_at (i := 19) (some 66) (v := ?v19z50) rfl rfl (by kernel_rfl) (by kernel_rfl) (by kernel_rfl) (fun _ _ _ h => h) (Or.inl ⟨by rfl, ?y19z50⟩) (by assumption) ?r19z50
  case y19z50 =>
    intro w9 hSw
    (obtain ⟨a0, a1, a2, a3⟩ := (show KF w gs ⟨1, 2, fl⟩ g 20 w9 from hSw).s.cells); clear hSw
    go_simp
    all_goals with_reducible rfl
  simp only [Act.put, List.setIfInBounds_toArray, List.set_cons_zero, List.set_cons_succ]
  refine wpAnyH_at (i := 20) (some 67) (v := ?v20z51) rfl rfl (by kernel_rfl) (by kernel_rfl) (by kernel_rfl) (fun _ _ _ h => h) (Or.inl ⟨by rfl, ?y20z51⟩) (by assumption) ?r20z51
  case y20z51 =>
    intro w9 hSw
    clear hSw
    go_simp
    all_goals with_reducible rfl
  simp only [Act.put, List.setIfInBounds_toArray, List.set_cons_zero, List.set_cons_succ]
  refine wpAnyH_one (i := 21) (by kernel_rfl) rfl ?_
  go_wp2_with (go_at_call 11; refine (cf _ _ _ _).mono ?_; rintro ev V9 ⟨rfl, hb⟩)
  replace hHeld := hHeld.step hb
  clear hb
  refine ⟨hHeld, ?_⟩
  try simp only [Act.put, List.setIfInBounds_toArray, List.set_cons_zero, List.set_cons_succ]
  refine wpAnyH_at (i := 22) (some 69) (v := ?v22z52) rfl rfl (by kernel_rfl) (by kernel_rfl) (by kernel_rfl) (fun _ _ _ h => h) (Or.inl ⟨by rfl, ?y22z52⟩) (by assumption) ?r22z52
  case y22z52 =>
    intro w9 hSw
    clear hSw
    go_simp
    all_goals with_reducible rfl
  simp only [Act.put, List.setIfInBounds_toArray, List.set_cons_zero, List.set_cons_succ]
  refine wpAnyH_at (i := 23) (some 70) (v := ?v23z53) rfl rfl (by kernel_rfl) (by kernel_rfl) (by kernel_rfl) (fun _ _ _ h => h) (Or.inl ⟨by rfl, ?y23z53⟩) (by assumption) ?r23z53
  case y23z53 =>
    intro w9 hSw
    clear hSw
    go_simp
    all_goals with_reducible rfl
  simp only [Act.put, List.setIfInBounds_toArray, List.set_cons_zero, List.set_cons_succ]
  refine wpAnyH_at (i := 24) (some 71) (v := ?v24z54) rfl rfl (by kernel_rfl) (by kernel_rfl) (by kernel_rfl) (fun _ _ _ h => h) (Or.inl ⟨by rfl, ?y24z54⟩) (by assumption) ?r24z54
  case y24z54 =>
    intro w9 hSw
    (obtain ⟨a0, a1, a2, a3⟩ := (show KF w gs ⟨1, 2, fl⟩ g 20 w9 from hSw).s.cells); clear hSw
    go_simp
    all_goals with_reducible rfl
  simp only [Act.put, List.setIfInBounds_toArray, List.set_cons_zero, List.set_cons_succ]
  refine wpAnyH_at (i := 25) (some 72) (v := ?v25z55) rfl rfl (by kernel_rfl) (by kernel_rfl) (by kernel_rfl) (fun _ _ _ h => h) (Or.inl ⟨by rfl, ?y25z55⟩) (by assumption) ?r25z55
  case y25z55 =>
    intro w9 hSw
    clear hSw
    go_simp
    all_goals with_reducible rfl
  simp only [Act.put, List.setIfInBounds_toArray, List.set_cons_zero, List.set_cons_succ]
  refine wpAnyH_at (i := 27) (some 74) (v := ?v27z56) rfl rfl (by kernel_rfl) (by kernel_rfl) (by kernel_rfl) (fun _ _ _ h => h) (Or.inl ⟨by rfl, ?y27z56⟩) (by assumption) ?r27z56
  case y27z56 =>
    intro w9 hSw
    clear hSw
    go_simp
    all_goals with_reducible rfl
  simp only [Act.put, List.setIfInBounds_toArray, List.set_cons_zero, List.set_cons_succ]
  refine wpAnyH_at (i := 28) (some 75) (v := ?v28z57) rfl rfl (by kernel_rfl) (by kernel_rfl) (by kernel_rfl) (fun _ _ _ h => h) (Or.inl ⟨by rfl, ?y28z57⟩) (by assumption) ?r28z57
  case y28z57 =>
    intro w9 hSw
    clear hSw
    go_simp
    all_goals with_reducible rfl
  simp only [Act.put, List.setIfInBounds_toArray, List.set_cons_zero, List.set_cons_succ]
  refine wpAnyH_at (i := 29) (some 76) (v := ?v29z58) rfl rfl (by kernel_rfl) (by kernel_rfl) (by kernel_rfl) (fun _ _ _ h => h) (Or.inl ⟨by rfl, ?y29z58⟩) (by assumption) ?r29z58
  case y29z58 =>
    intro w9 hSw
    clear hSw
    go_simp
    all_goals with_reducible rfl
  simp only [Act.put, List.setIfInBounds_toArray, List.set_cons_zero, List.set_cons_succ]
  refine wpAnyH_at (i := 30) (some 77) (v := ?v30z59) rfl rfl (by kernel_rfl) (by kernel_rfl) (by kernel_rfl) (fun _ _ _ h => h) (Or.inl ⟨by rfl, ?y30z59⟩) (by assumption) ?r30z59
  case y30z59 =>
    intro w9 hSw
    clear hSw
    go_simp
    all_goals with_reducible rfl
  simp only [Act.put, List.setIfInBounds_toArray, List.set_cons_zero, List.set_cons_succ]
  refine wpAnyH_one (i := 26) (by kernel_rfl) rfl ?_
  go_wp2_with (go_at_call 11; refine (ca _ _ _ _).mono ?_; rintro ev V10 ⟨rfl, hb⟩)
  replace hHeld := hHeld.step hb
  clear hb
  refine ⟨hHeld, ?_⟩
  try simp only [Act.put, List.setIfInBounds_toArray, List.set_cons_zero, List.set_cons_succ]
  refine wpAnyH_at (i := 31) (some 78) (v := ?v31z60) rfl rfl (by kernel_rfl) (by kernel_rfl) (by kernel_rfl) (fun _ _ _ h => h) (Or.inl ⟨by rfl, ?y31z60⟩) (by assumption) ?r31z60
  case y31z60 =>
    intro w9 hSw
    clear hSw
    go_simp
    all_goals with_reducible rfl
  simp only [Act.put, List.setIfInBounds_toArray, List.set_cons_zero, List.set_cons_succ]
  refine wpAnyH_at (i := 32) (some 79) (v := ?v32z61) rfl rfl (by kernel_rfl) (by kernel_rfl) (by kernel_rfl) (fun _ _ _ h => h) (Or.inl ⟨by rfl, ?y32z61⟩) (by assumption) ?r32z61
  case y32z61 =>
    intro w9 hSw
    clear hSw
    go_simp
    all_goals with_reducible rfl
  simp only [Act.put, List.setIfInBounds_toArray, List.set_cons_zero, List.set_cons_succ]
  refine wpAnyH_at (i := 33) (some 80) (v := ?v33z62) rfl rfl (by kernel_rfl) (by kernel_rfl) (by kernel_rfl) (fun _ _ _ h => h) (Or.inl ⟨by rfl, ?y33z62⟩) (by assumption) ?r33z62
  case y33z62 =>
    intro w9 hSw
    clear hSw
    go_simp
    all_goals with_reducible rfl
  simp only [Act.put, List.setIfInBounds_toArray, List.set_cons_zero, List.set_cons_succ]
  refine wpAnyH_at (i := 34) (some 81) (v := ?v34z63) rfl rfl (by kernel_rfl) (by kernel_rfl) (by kernel_rfl) (fun _ _ _ h => h) (Or.inl ⟨by rfl, ?y34z63⟩) (by assumption) ?r34z63
  case y34z63 =>
    intro w9 hSw
    clear hSw
    go_simp
    all_goals with_reducible rfl
  simp only [Act.put, List.setIfInBounds_toArray, List.set_cons_zero, List.set_cons_succ]
  refine wpAnyH_at (i := 35) (some 82) (v := ?v35z64) rfl rfl (by kernel_rfl) (by kernel_rfl) (by kernel_rfl) (fun _ _ _ h => h) (Or.inl ⟨by rfl, ?y35z64⟩) (by assumption) ?r35z64
  case y35z64 =>
    intro w9 hSw
    (obtain ⟨a0, a1, a2, a3⟩ := (show KF w gs ⟨1, 2, fl⟩ g 20 w9 from hSw).s.cells); clear hSw
    go_simp
    all_goals with_reducible rfl
  simp only [Act.put, List.setIfInBounds_toArray, List.set_cons_zero, List.set_cons_succ]
  refine wpAnyH_at (i := 36) (some 83) (v := ?v36z65) rfl rfl (by kernel_rfl) (by kernel_rfl) (by kernel_rfl) (fun _ _ _ h => h) (Or.inl ⟨by rfl, ?y36z65⟩) (by assumption) ?r36z65
  case y36z65 =>
    intro w9 hSw
    clear hSw
    go_simp
    all_goals with_reducible rfl
  simp only [Act.put, List.setIfInBounds_toArray, List.set_cons_zero, List.set_cons_succ]
  refine wpAnyH_at (i := 37) (some 84) (v := ?v37z66) rfl rfl (by kernel_rfl) (by kernel_rfl) (by kernel_rfl) (fun _ _ _ h => h) (Or.inl ⟨by rfl, ?y37z66⟩) (by assumption) ?r37z66
  case y37z66 =>
    intro w9 hSw
    clear hSw
    go_simp
    all_goals with_reducible rfl
  simp only [Act.put, List.setIfInBounds_toArray, List.set_cons_zero, List.set_cons_succ]
  refine wpAnyH_at (i := 38) (some 85) (v := ?v38z67) rfl rfl (by kernel_rfl) (by kernel_rfl) (by kernel_rfl) (fun _ _ _ h => h) (Or.inl ⟨by rfl, ?y38z67⟩) (by assumption) ?r38z67
  case y38z67 =>
    intro w9 hSw
    clear hSw
    go_simp
    all_goals with_reducible rfl
  simp only [Act.put, List.setIfInBounds_toArray, List.set_cons_zero, List.set_cons_succ]
  refine wpAnyH_at (i := 39) (some 12) (v := ?v39z68) rfl rfl (by kernel_rfl) (by kernel_rfl) (by kernel_rfl) (fun _ _ _ h => h) (Or.inl ⟨by rfl, ?y39z68⟩) (by assumption) ?r39z68
  case y39z68 =>
    intro w9 hSw
    clear hSw
    go_simp
    all_goals with_reducible rfl
  simp only [Act.put, List.setIfInBounds_toArray, List.set_cons_zero, List.set_cons_succ]
  refine wpAnyH_done (by kernel_rfl) ?_ _
  go_wp2
  go_ret
  exact ⟨rfl, hHeld.below⟩
set_option maxRecDepth 100000 in
set_option maxHeartbeats 4000000 in
theorem flags_none_ft (fl a b : Int) (A : Option Addr) (n c : Nat) (xs : List Int) (f t : Int) (w : World) (hr : Rd .u8 w w.heap.size A n c xs) (hf : Ip f) (ht : Ip t) (b0 : 0 ≤ fl ∧ fl ≤ 255) (b1 : 0 ≤ a ∧ a ≤ 255) (b2 : 0 ≤ b ∧ b ≤ 255) (hn : n ≤ 1460) (h0n : n = 0) (hP : hasB fl a = false) (hQ : hasB fl b = true) :
    Calls Try.prog 4 #[.int .u8 fl, .int .u8 a, .int .u8 b, .slice A n c, .int .u32 f, .int .u32 t] w fun e w' => e = .returned (.bool true) ∧ Below w.heap.size w w' := by
  subst h0n
  obtain rfl : xs = [] := List.eq_nil_of_length_eq_zero hr.len
  have hcap := hr.cap
  have hmax := hr.max
  have hk : (⟨1, 2, fl⟩ : Hd).ok := ⟨show (0 : Int) ≤ 1 ∧ (1 : Int) ≤ 65535 by omega, show (0 : Int) ≤ 2 ∧ (2 : Int) ≤ 65535 by omega, b0⟩
  obtain ⟨ys, hy⟩ : ∃ ys, mkR ⟨1, 2, fl⟩ f t [] = ys := ⟨_, rfl⟩
  have hxl := hr.len
  have hxw := hr.2.2.2.1
  have Hw : Hid (∀ x ∈ ys, (Lit.int .u8 x).wf = true) := Lib.hid (by rw [← hy]; exact mkR_wf hk hf ht hxw (by omega))
  have Hm : Hid (ys.length = 20) := Lib.hid (by rw [← hy, mkR_size]; omega)
  have hd := mkR_drop ⟨1, 2, fl⟩ f t []
  have c10 := Lib.hid (fun W (q : Rd .u8 W W.heap.size A 0 c []) => make_ok ⟨1, 2, fl⟩ A 0 c [] f t W hk q hf ht (by omega))
  rw [hy] at c10 hd
  have c8 : Hid (∀ W g, Row W g ys → Rd .u8 W W.heap.size A 0 c [] → Calls Try.prog 8 #[.slice (some ⟨g, 0, none⟩) 0 0, .slice A 0 c] W fun e w' => e = .returned (.bool true) ∧ Below W.heap.size W w') := Lib.hid (fun W g row r => by
    have q := (row.rdW Hm.out (by omega) Hw.out).cutFrom 20 (by omega)
    rw [hd] at q
    exact same_any _ _ _ _ _ _ [] _ _ _ q r)
  have eo := has_or b0 b1 b2
  have en := has_andNot b0 b1
  have ez := has_zero b0
  have es := has_self b0
  rw [hP, hQ] at eo
  rw [hP] at en
  have c11 := fun A n c x W => has_any ⟨1, 2, fl⟩ A n c x W
  dsimp only at c11
  have ca : ∀ A n c W, Calls Try.prog 11 #[pkV ⟨1, 2, fl⟩ A n c, .int .u8 a] W fun e w' => e = .returned (.bool false) ∧ Below W.heap.size W w' := fun A n c W => by
    have := c11 A n c a W
    rwa [hP] at this
  have cb : ∀ A n c W, Calls Try.prog 11 #[pkV ⟨1, 2, fl⟩ A n c, .int .u8 b] W fun e w' => e = .returned (.bool true) ∧ Below W.heap.size W w' := fun A n c W => by
    have := c11 A n c b W
    rwa [hQ] at this
  have co : ∀ A n c W, Calls Try.prog 11 #[pkV ⟨1, 2, fl⟩ A n c, .int .u8 (bits .or .u8 a b)] W fun e w' => e = .returned (.bool false) ∧ Below W.heap.size W w' := fun A n c W => by
    have := c11 A n c (bits .or .u8 a b) W
    rwa [eo] at this
  have cz : ∀ A n c W, Calls Try.prog 11 #[pkV ⟨1, 2, fl⟩ A n c, .int .u8 0] W fun e w' => e = .returned (.bool true) ∧ Below W.heap.size W w' := fun A n c W => by
    have := c11 A n c 0 W
    rwa [ez] at this
  have cf : ∀ A n c W, Calls Try.prog 11 #[pkV ⟨1, 2, fl⟩ A n c, .int .u8 fl] W fun e w' => e = .returned (.bool true) ∧ Below W.heap.size W w' := fun A n c W => by
    have := c11 A n c fl W
    rwa [es] at this
  clear c11 eo ez es hP hQ hd hy hxl hxw hf ht hk
  go_enter Try.func4, Try.ntmps4
  go_wp2_with fail
  refine (alive_any _).mono ?_
  rintro ev w1 ⟨rfl, hb⟩
  have r1 := (hr.below hb (Nat.le_refl _)).more hb.size
  go_wp2_with fail
  refine (c10.out _ r1).mono ?_
  rintro ev w2 ⟨g, rfl, row, -, hb2⟩
  have ba := alloc_below w2 (.cells (pkC ⟨1, 2, fl⟩ (some ⟨g, 0, none⟩) 20 20) 27)
  have k : KF w w2.heap.size ⟨1, 2, fl⟩ g 20 (w2.alloc (.cells (pkC ⟨1, 2, fl⟩ (some ⟨g, 0, none⟩) 20 20) 27)) := ⟨(hb.trans (hb2.mono hb.size)).trans (ba.mono (Nat.le_trans hb.size hb2.size)), PkAt.new w2 27 ⟨1, 2, fl⟩ (some ⟨g, 0, none⟩) 20 20⟩
  replace row := row.below ba row.lt
  have r2 := ((r1.below hb2 (Nat.le_refl _)).below ba hb2.size).more (Nat.le_trans hb2.size ba.size)
  clear hr r1 hb hb2 ba c10
  obtain ⟨a0, a1, a2, a3⟩ := k.s.cells
  go_wp2_with fail
  change Calls _ _ _ (w2.alloc (.cells (pkC ⟨1, 2, fl⟩ (some ⟨g, 0, none⟩) 20 20) 27)) _
  generalize w2.alloc (.cells (pkC ⟨1, 2, fl⟩ (some ⟨g, 0, none⟩) 20 20) 27) = W2 at *
  generalize w2.heap.size = gs at *
  refine (c8.out _ _ row r2).mono ?_
  rintro ev w3 ⟨rfl, hb⟩
  replace k := k.step hb
  clear hb row r2 c8 a0 a1 a2 a3
  go_wp2_with fail
  refine wp_region_held_drew (S := fun w' => KF w gs ⟨1, 2, fl⟩ g 20 w') (by kernel_rfl) (k.step (below_drew _)) (fun hHeld => ?_)
  change wpAnyH _ _ _ _ _ _ _ _ (World.drew _)
  generalize World.drew _ = W4 at *
  clear k
  refine wpAnyH_at (i := 0) (some 47) (v := ?v0z69) rfl rfl (by kernel_rfl) (by kernel_rfl) (by kernel_rfl) (fun _ _ _ h => h) (Or.inl ⟨by rfl, ?y0z69⟩) (by assumption) ?r0z69
  case y0z69 =>
    intro w9 hSw
    (obtain ⟨a0, a1, a2, a3⟩ := (show KF w gs ⟨1, 2, fl⟩ g 20 w9 from hSw).s.cells); clear hSw
    go_simp
    all_goals with_reducible rfl
  simp only [Act.put, List.setIfInBounds_toArray, List.set_cons_zero, List.set_cons_succ]
  refine wpAnyH_at (i := 1) (some 48) (v := ?v1z70) rfl rfl (by kernel_rfl) (by kernel_rfl) (by kernel_rfl) (fun _ _ _ h => h) (Or.inl ⟨by rfl, ?y1z70⟩) (by assumption) ?r1z70
  case y1z70 =>
    intro w9 hSw
    clear hSw
    go_simp
    all_goals with_reducible rfl
  simp only [Act.put, List.setIfInBounds_toArray, List.set_cons_zero, List.set_cons_succ]
  refine wpAnyH_at (i := 2) (some 49) (v := ?v2z71) rfl rfl (by kernel_rfl) (by kernel_rfl) (by kernel_rfl) (fun _ _ _ h => h) (Or.inl ⟨by rfl, ?y2z71⟩) (by assumption) ?r2z71
  case y2z71 =>
    intro w9 hSw
    clear hSw
    go_simp
    all_goals with_reducible rfl
  simp only [Act.put, List.setIfInBounds_toArray, List.set_cons_zero, List.set_cons_succ]
  refine wpAnyH_at (i := 3) (some 50) (v := ?v3z72) rfl rfl (by kernel_rfl) (by kernel_rfl) (by kernel_rfl) (fun _ _ _ h => h) (Or.inl ⟨by rfl, ?y3z72⟩) (by assumption) ?r3z72
  case y3z72 =>
    intro w9 hSw
    clear hSw
    go_simp
    all_goals with_reducible rfl
  simp only [Act.put, List.setIfInBounds_toArray, List.set_cons_zero, List.set_cons_succ]
  refine wpAnyH_at (i := 5) (some 52) (v := ?v5z73) rfl rfl (by kernel_rfl) (by kernel_rfl) (by kernel_rfl) (fun _ _ _ h => h) (Or.inl ⟨by rfl, ?y5z73⟩) (by assumption) ?r5z73
  case y5z73 =>
    intro w9 hSw
    (obtain ⟨a0, a1, a2, a3⟩ := (show KF w gs ⟨1, 2, fl⟩ g 20 w9 from hSw).s.cells); clear hSw
    go_simp
    all_goals with_reducible rfl
  simp only [Act.put, List.setIfInBounds_toArray, List.set_cons_zero, List.set_cons_succ]
  refine wpAnyH_at (i := 6) (some 53) (v := ?v6z74) rfl rfl (by kernel_rfl) (by kernel_rfl) (by kernel_rfl) (fun _ _ _ h => h) (Or.inl ⟨by rfl, ?y6z74⟩) (by assumption) ?r6z74
  case y6z74 =>
    intro w9 hSw
    clear hSw
    go_simp
    all_goals with_reducible rfl
  simp only [Act.put, List.setIfInBounds_toArray, List.set_cons_zero, List.set_cons_succ]
  refine wpAnyH_one (i := 4) (by kernel_rfl) rfl ?_
  go_wp2_with (go_at_call 11; refine (co _ _ _ _).mono ?_; rintro ev V5 ⟨rfl, hb⟩)
  replace hHeld := hHeld.step hb
  clear hb
  refine ⟨hHeld, ?_⟩
  try simp only [Act.put, List.setIfInBounds_toArray, List.set_cons_zero, List.set_cons_succ]
  refine wpAnyH_one (i := 7) (by kernel_rfl) rfl ?_
  go_wp2_with (go_at_call 11; refine (ca _ _ _ _).mono ?_; rintro ev V6 ⟨rfl, hb⟩)
  replace hHeld := hHeld.step hb
  clear hb
  refine ⟨hHeld, ?_⟩
  try simp only [Act.put, List.setIfInBounds_toArray, List.set_cons_zero, List.set_cons_succ]
  refine wpAnyH_at (i := 8) (some 55) (v := ?v8z75) rfl rfl (by kernel_rfl) (by kernel_rfl) (by kernel_rfl) (fun _ _ _ h => h) (Or.inl ⟨by rfl, ?y8z75⟩) (by assumption) ?r8z75
  case y8z75 =>
    intro w9 hSw
    clear hSw
    go_simp
    all_goals with_reducible rfl
  simp only [Act.put, List.setIfInBounds_toArray, List.set_cons_zero, List.set_cons_succ]
  refine wpAnyH_at (i := 9) (some 56) (v := undef) rfl rfl (by kernel_rfl) (by kernel_rfl) (by kernel_rfl) (fun _ _ _ h => h) (Or.inr ⟨by rfl, rfl⟩) (by assumption) ?_
  simp only [Act.put, List.setIfInBounds_toArray, List.set_cons_zero, List.set_cons_succ]
  refine wpAnyH_at (i := 10) (some 57) (v := undef) rfl rfl (by kernel_rfl) (by kernel_rfl) (by kernel_rfl) (fun _ _ _ h => h) (Or.inr ⟨by rfl, rfl⟩) (by assumption) ?_
  simp only [Act.put, List.setIfInBounds_toArray, List.set_cons_zero, List.set_cons_succ]
  refine wpAnyH_at (i := 11) (some 58) (v := undef) rfl rfl (by kernel_rfl) (by kernel_rfl) (by kernel_rfl) (fun _ _ _ h => h) (Or.inr ⟨by rfl, rfl⟩) (by assumption) ?_
  simp only [Act.put, List.setIfInBounds_toArray, List.set_cons_zero, List.set_cons_succ]
  refine wpAnyH_at (i := 12) (some 59) (v := ?v12z76) rfl rfl (by kernel_rfl) (by kernel_rfl) (by kernel_rfl) (fun _ _ _ h => h) (Or.inl ⟨by rfl, ?y12z76⟩) (by assumption) ?r12z76
  case y12z76 =>
    intro w9 hSw
    clear hSw
    go_simp
    all_goals with_reducible rfl
  simp only [Act.put, List.setIfInBounds_toArray, List.set_cons_zero, List.set_cons_succ]
  refine wpAnyH_at (i := 13) (some 60) (v := ?v13z77) rfl rfl (by kernel_rfl) (by kernel_rfl) (by kernel_rfl) (fun _ _ _ h => h) (Or.inl ⟨by rfl, ?y13z77⟩) (by assumption) ?r13z77
  case y13z77 =>
    intro w9 hSw
    clear hSw
    go_simp
    all_goals with_reducible rfl
  simp only [Act.put, List.setIfInBounds_toArray, List.set_cons_zero, List.set_cons_succ]
  refine wpAnyH_at (i := 14) (some 61) (v := ?v14z78) rfl rfl (by kernel_rfl) (by kernel_rfl) (by kernel_rfl) (fun _ _ _ h => h) (Or.inl ⟨by rfl, ?y14z78⟩) (by assumption) ?r14z78
  case y14z78 =>
    intro w9 hSw
    clear hSw
    go_simp
    all_goals with_reducible rfl
  simp only [Act.put, List.setIfInBounds_toArray, List.set_cons_zero, List.set_cons_succ]
  refine wpAnyH_at (i := 15) (some 62) (v := ?v15z79) rfl rfl (by kernel_rfl) (by kernel_rfl) (by kernel_rfl) (fun _ _ _ h => h) (Or.inl ⟨by rfl, ?y15z79⟩) (by assumption) ?r15z79
  case y15z79 =>
    intro w9 hSw
    (obtain ⟨a0, a1, a2, a3⟩ := (show KF w gs ⟨1, 2, fl⟩ g 20 w9 from hSw).s.cells); clear hSw
    go_simp
    all_goals with_reducible rfl
  simp only [Act.put, List.setIfInBounds_toArray, List.set_cons_zero, List.set_cons_succ]
  refine wpAnyH_one (i := 16) (by kernel_rfl) rfl ?_
  go_wp2_with (go_at_call 11; refine (cz _ _ _ _).mono ?_; rintro ev V7 ⟨rfl, hb⟩)
  replace hHeld := hHeld.step hb
  clear hb
  refine ⟨hHeld, ?_⟩
  try simp only [Act.put, List.setIfInBounds_toArray, List.set_cons_zero, List.set_cons_succ]
  refine wpAnyH_at (i := 17) (some 64) (v := ?v17z80) rfl rfl (by kernel_rfl) (by kernel_rfl) (by kernel_rfl) (fun _ _ _ h => h) (Or.inl ⟨by rfl, ?y17z80⟩) (by assumption) ?r17z80
  case y17z80 =>
    intro w9 hSw
    clear hSw
    go_simp
    all_goals with_reducible rfl
  simp only [Act.put, List.setIfInBounds_toArray, List.set_cons_zero, List.set_cons_succ]
  refine wpAnyH_at (i := 18) (some 65) (v := ?v18z81) rfl rfl (by kernel_rfl) (by kernel_rfl) (by kernel_rfl) (fun _ _ _ h => h) (Or.inl ⟨by rfl, ?y18z81⟩) (by assumption) ?r18z81
  case y18z81 =>
    intro w9 hSw
    clear hSw
    go_simp
    all_goals with_reducible rfl
  simp only [Act.put, List.setIfInBounds_toArray, List.set_cons_zero, List.set_cons_succ]
  refine wpAnyH_at (i := 19) (some 66) (v := ?v19z82) rfl rfl (by kernel_rfl) (by kernel_rfl) (by kernel_rfl) (fun _ _ _ h => h) (Or.inl ⟨by rfl, ?y19z82⟩) (by assumption) ?r19z82
  case y19z82 =>
    intro w9 hSw
    (obtain ⟨a0, a1, a2, a3⟩ := (show KF w gs ⟨1, 2, fl⟩ g 20 w9 from hSw).s.cells); clear hSw
    go_simp
    all_goals with_reducible rfl
  simp only [Act.put, List.setIfInBounds_toArray, List.set_cons_zero, List.set_cons_succ]
  refine wpAnyH_at (i := 20) (some 67) (v := ?v20z83) rfl rfl (by kernel_rfl) (by kernel_rfl) (by kernel_rfl) (fun _ _ _ h => h) (Or.inl ⟨by rfl, ?y20z83⟩) (by assumption) ?r20z83
  case y20z83 =>
    intro w9 hSw
    clear hSw
    go_simp
    all_goals with_reducible rfl
  simp only [Act.put, List.setIfInBounds_toArray, List.set_cons_zero, List.set_cons_succ]
  refine wpAnyH_one (i := 21) (by kernel_rfl) rfl ?_
  go_wp2_with (go_at_call 11; refine (cf _ _ _ _).mono ?_; rintro ev V8 ⟨rfl, hb⟩)
  replace hHeld := hHeld.step hb
  clear hb
  refine ⟨hHeld, ?_⟩
  try simp only [Act.put, List.setIfInBounds_toArray, List.set_cons_zero, List.set_cons_succ]
  refine wpAnyH_at (i := 22) (some 69) (v := ?v22z84) rfl rfl (by kernel_rfl) (by kernel_rfl) (by kernel_rfl) (fun _ _ _ h => h) (Or.inl ⟨by rfl, ?y22z84⟩) (by assumption) ?r22z84
  case y22z84 =>
    intro w9 hSw
    clear hSw
    go_simp
    all_goals with_reducible rfl
  simp only [Act.put, List.setIfInBounds_toArray, List.set_cons_zero, List.set_cons_succ]
  refine wpAnyH_at (i := 23) (some 70) (v := ?v23z85) rfl rfl (by kernel_rfl) (by kernel_rfl) (by kernel_rfl) (fun _ _ _ h => h) (Or.inl ⟨by rfl, ?y23z85⟩) (by assumption) ?r23z85
  case y23z85 =>
    intro w9 hSw
    clear hSw
    go_simp
    all_goals with_reducible rfl
  simp only [Act.put, List.setIfInBounds_toArray, List.set_cons_zero, List.set_cons_succ]
  refine wpAnyH_at (i := 24) (some 71) (v := ?v24z86) rfl rfl (by kernel_rfl) (by kernel_rfl) (by kernel_rfl) (fun _ _ _ h => h) (Or.inl ⟨by rfl, ?y24z86⟩) (by assumption) ?r24z86
  case y24z86 =>
    intro w9 hSw
    (obtain ⟨a0, a1, a2, a3⟩ := (show KF w gs ⟨1, 2, fl⟩ g 20 w9 from hSw).s.cells); clear hSw
    go_simp
    all_goals with_reducible rfl
  simp only [Act.put, List.setIfInBounds_toArray, List.set_cons_zero, List.set_cons_succ]
  refine wpAnyH_at (i := 25) (some 72) (v := ?v25z87) rfl rfl (by kernel_rfl) (by kernel_rfl) (by kernel_rfl) (fun _ _ _ h => h) (Or.inl ⟨by rfl, ?y25z87⟩) (by assumption) ?r25z87
  case y25z87 =>
    intro w9 hSw
    clear hSw
    go_simp
    all_goals with_reducible rfl
  simp only [Act.put, List.setIfInBounds_toArray, List.set_cons_zero, List.set_cons_succ]
  refine wpAnyH_at (i := 27) (some 74) (v := ?v27z88) rfl rfl (by kernel_rfl) (by kernel_rfl) (by kernel_rfl) (fun _ _ _ h => h) (Or.inl ⟨by rfl, ?y27z88⟩) (by assumption) ?r27z88
  case y27z88 =>
    intro w9 hSw
    clear hSw
    go_simp
    all_goals with_reducible rfl
  simp only [Act.put, List.setIfInBounds_toArray, List.set_cons_zero, List.set_cons_succ]
  refine wpAnyH_at (i := 28) (some 75) (v := ?v28z89) rfl rfl (by kernel_rfl) (by kernel_rfl) (by kernel_rfl) (fun _ _ _ h => h) (Or.inl ⟨by rfl, ?y28z89⟩) (by assumption) ?r28z89
  case y28z89 =>
    intro w9 hSw
    clear hSw
    go_simp
    all_goals with_reducible rfl
  simp only [Act.put, List.setIfInBounds_toArray, List.set_cons_zero, List.set_cons_succ]
  refine wpAnyH_at (i := 29) (some 76) (v := ?v29z90) rfl rfl (by kernel_rfl) (by kernel_rfl) (by kernel_rfl) (fun _ _ _ h => h) (Or.inl ⟨by rfl, ?y29z90⟩) (by assumption) ?r29z90
  case y29z90 =>
    intro w9 hSw
    clear hSw
    go_simp
    all_goals with_reducible rfl
  simp only [Act.put, List.setIfInBounds_toArray, List.set_cons_zero, List.set_cons_succ]
  refine wpAnyH_at (i := 30) (some 77) (v := ?v30z91) rfl rfl (by kernel_rfl) (by kernel_rfl) (by kernel_rfl) (fun _ _ _ h => h) (Or.inl ⟨by rfl, ?y30z91⟩) (by assumption) ?r30z91
  case y30z91 =>
    intro w9 hSw
    clear hSw
    go_simp
    all_goals with_reducible rfl
  simp only [Act.put, List.setIfInBounds_toArray, List.set_cons_zero, List.set_cons_succ]
  refine wpAnyH_one (i := 26) (by kernel_rfl) rfl ?_
  go_wp2_with (go_at_call 11; refine (ca _ _ _ _).mono ?_; rintro ev V9 ⟨rfl, hb⟩)
  replace hHeld := hHeld.step hb
  clear hb
  refine ⟨hHeld, ?_⟩
  try simp only [Act.put, List.setIfInBounds_toArray, List.set_cons_zero, List.set_cons_succ]
  refine wpAnyH_at (i := 31) (some 78) (v := ?v31z92) rfl rfl (by kernel_rfl) (by kernel_rfl) (by kernel_rfl) (fun _ _ _ h => h) (Or.inl ⟨by rfl, ?y31z92⟩) (by assumption) ?r31z92
  case y31z92 =>
    intro w9 hSw
    clear hSw
    go_simp
    all_goals with_reducible rfl
  simp only [Act.put, List.setIfInBounds_toArray, List.set_cons_zero, List.set_cons_succ]
  refine wpAnyH_at (i := 32) (some 79) (v := ?v32z93) rfl rfl (by kernel_rfl) (by kernel_rfl) (by kernel_rfl) (fun _ _ _ h => h) (Or.inl ⟨by rfl, ?y32z93⟩) (by assumption) ?r32z93
  case y32z93 =>
    intro w9 hSw
    clear hSw
    go_simp
    all_goals with_reducible rfl
  simp only [Act.put, List.setIfInBounds_toArray, List.set_cons_zero, List.set_cons_succ]
  refine wpAnyH_at (i := 33) (some 80) (v := ?v33z94) rfl rfl (by kernel_rfl) (by kernel_rfl) (by kernel_rfl) (fun _ _ _ h => h) (Or.inl ⟨by rfl, ?y33z94⟩) (by assumption) ?r33z94
  case y33z94 =>
    intro w9 hSw
    clear hSw
    go_simp
    all_goals with_reducible rfl
  simp only [Act.put, List.setIfInBounds_toArray, List.set_cons_zero, List.set_cons_succ]
  refine wpAnyH_at (i := 34) (some 81) (v := ?v34z95) rfl rfl (by kernel_rfl) (by kernel_rfl) (by kernel_rfl) (fun _ _ _ h => h) (Or.inl ⟨by rfl, ?y34z95⟩) (by assumption) ?r34z95
  case y34z95 =>
    intro w9 hSw
    clear hSw
    go_simp
    all_goals with_reducible rfl
  simp only [Act.put, List.setIfInBounds_toArray, List.set_cons_zero, List.set_cons_succ]
  refine wpAnyH_at (i := 35) (some 82) (v := ?v35z96) rfl rfl (by kernel_rfl) (by kernel_rfl) (by kernel_rfl) (fun _ _ _ h => h) (Or.inl ⟨by rfl, ?y35z96⟩) (by assumption) ?r35z96
  case y35z96 =>
    intro w9 hSw
    (obtain ⟨a0, a1, a2, a3⟩ := (show KF w gs ⟨1, 2, fl⟩ g 20 w9 from hSw).s.cells); clear hSw
    go_simp
    all_goals with_reducible rfl
  simp only [Act.put, List.setIfInBounds_toArray, List.set_cons_zero, List.set_cons_succ]
  refine wpAnyH_at (i := 36) (some 83) (v := ?v36z97) rfl rfl (by kernel_rfl) (by kernel_rfl) (by kernel_rfl) (fun _ _ _ h => h) (Or.inl ⟨by rfl, ?y36z97⟩) (by assumption) ?r36z97
  case y36z97 =>
    intro w9 hSw
    clear hSw
    go_simp
    all_goals with_reducible rfl
  simp only [Act.put, List.setIfInBounds_toArray, List.set_cons_zero, List.set_cons_succ]
  refine wpAnyH_at (i := 37) (some 84) (v := ?v37z98) rfl rfl (by kernel_rfl) (by kernel_rfl) (by kernel_rfl) (fun _ _ _ h => h) (Or.inl ⟨by rfl, ?y37z98⟩) (by assumption) ?r37z98
  case y37z98 =>
    intro w9 hSw
    clear hSw
    go_simp
    all_goals with_reducible rfl
  simp only [Act.put, List.setIfInBounds_toArray, List.set_cons_zero, List.set_cons_succ]
  refine wpAnyH_at (i := 38) (some 85) (v := ?v38z99) rfl rfl (by kernel_rfl) (by kernel_rfl) (by kernel_rfl) (fun _ _ _ h => h) (Or.inl ⟨by rfl, ?y38z99⟩) (by assumption) ?r38z99
  case y38z99 =>
    intro w9 hSw
    clear hSw
    go_simp
    all_goals with_reducible rfl
  simp only [Act.put, List.setIfInBounds_toArray, List.set_cons_zero, List.set_cons_succ]
  refine wpAnyH_at (i := 39) (some 12) (v := ?v39z100) rfl rfl (by kernel_rfl) (by kernel_rfl) (by kernel_rfl) (fun _ _ _ h => h) (Or.inl ⟨by rfl, ?y39z100⟩) (by assumption) ?r39z100
  case y39z100 =>
    intro w9 hSw
    clear hSw
    go_simp
    all_goals with_reducible rfl
  simp only [Act.put, List.setIfInBounds_toArray, List.set_cons_zero, List.set_cons_succ]
  refine wpAnyH_done (by kernel_rfl) ?_ _
  go_wp2
  go_ret
  exact ⟨rfl, hHeld.below⟩
set_option maxRecDepth 100000 in
set_option maxHeartbeats 4000000 in
theorem flags_none_ff (fl a b : Int) (A : Option Addr) (n c : Nat) (xs : List Int) (f t : Int) (w : World) (hr : Rd .u8 w w.heap.size A n c xs) (hf : Ip f) (ht : Ip t) (b0 : 0 ≤ fl ∧ fl ≤ 255) (b1 : 0 ≤ a ∧ a ≤ 255) (b2 : 0 ≤ b ∧ b ≤ 255) (hn : n ≤ 1460) (h0n : n = 0) (hP : hasB fl a = false) (hQ : hasB fl b = false) :
    Calls Try.prog 4 #[.int .u8 fl, .int .u8 a, .int .u8 b, .slice A n c, .int .u32 f, .int .u32 t] w fun e w' => e = .returned (.bool true) ∧ Below w.heap.size w w' := by
  subst h0n
  obtain rfl : xs = [] := List.eq_nil_of_length_eq_zero hr.len
  have hcap := hr.cap
  have hmax := hr.max
  have hk : (⟨1, 2, fl⟩ : Hd).ok := ⟨show (0 : Int) ≤ 1 ∧ (1 : Int) ≤ 65535 by omega, show (0 : Int) ≤ 2 ∧ (2 : Int) ≤ 65535 by omega, b0⟩
  obtain ⟨ys, hy⟩ : ∃ ys, mkR ⟨1, 2, fl⟩ f t [] = ys := ⟨_, rfl⟩
  have hxl := hr.len
  have hxw := hr.2.2.2.1
  have Hw : Hid (∀ x ∈ ys, (Lit.int .u8 x).wf = true) := Lib.hid (by rw [← hy]; exact mkR_wf hk hf ht hxw (by omega))
  have Hm : Hid (ys.length = 20) := Lib.hid (by rw [← hy, mkR_size]; omega)
  have hd := mkR_drop ⟨1, 2, fl⟩ f t []
  have c10 := Lib.hid (fun W (q : Rd .u8 W W.heap.size A 0 c []) => make_ok ⟨1, 2, fl⟩ A 0 c [] f t W hk q hf ht (by omega))
  rw [hy] at c10 hd
  have c8 : Hid (∀ W g, Row W g ys → Rd .u8 W W.heap.size A 0 c [] → Calls Try.prog 8 #[.slice (some ⟨g, 0, none⟩) 0 0, .slice A 0 c] W fun e w' => e = .returned (.bool true) ∧ Below W.heap.size W w') := Lib.hid (fun W g row r => by
    have q := (row.rdW Hm.out (by omega) Hw.out).cutFrom 20 (by omega)
    rw [hd] at q
    exact same_any _ _ _ _ _ _ [] _ _ _ q r)
  have eo := has_or b0 b1 b2
  have en := has_andNot b0 b1
  have ez := has_zero b0
  have es := has_self b0
  rw [hP, hQ] at eo
  rw [hP] at en
  have c11 := fun A n c x W => has_any ⟨1, 2, fl⟩ A n c x W
  dsimp only at c11
  have ca : ∀ A n c W, Calls Try.prog 11 #[pkV ⟨1, 2, fl⟩ A n c, .int .u8 a] W fun e w' => e = .returned (.bool false) ∧ Below W.heap.size W w' := fun A n c W => by
    have := c11 A n c a W
    rwa [hP] at this
  have cb : ∀ A n c W, Calls Try.prog 11 #[pkV ⟨1, 2, fl⟩ A n c, .int .u8 b] W fun e w' => e = .returned (.bool false) ∧ Below W.heap.size W w' := fun A n c W => by
    have := c11 A n c b W
    rwa [hQ] at this
  have co : ∀ A n c W, Calls Try.prog 11 #[pkV ⟨1, 2, fl⟩ A n c, .int .u8 (bits .or .u8 a b)] W fun e w' => e = .returned (.bool false) ∧ Below W.heap.size W w' := fun A n c W => by
    have := c11 A n c (bits .or .u8 a b) W
    rwa [eo] at this
  have cz : ∀ A n c W, Calls Try.prog 11 #[pkV ⟨1, 2, fl⟩ A n c, .int .u8 0] W fun e w' => e = .returned (.bool true) ∧ Below W.heap.size W w' := fun A n c W => by
    have := c11 A n c 0 W
    rwa [ez] at this
  have cf : ∀ A n c W, Calls Try.prog 11 #[pkV ⟨1, 2, fl⟩ A n c, .int .u8 fl] W fun e w' => e = .returned (.bool true) ∧ Below W.heap.size W w' := fun A n c W => by
    have := c11 A n c fl W
    rwa [es] at this
  clear c11 eo ez es hP hQ hd hy hxl hxw hf ht hk
  go_enter Try.func4, Try.ntmps4
  go_wp2_with fail
  refine (alive_any _).mono ?_
  rintro ev w1 ⟨rfl, hb⟩
  have r1 := (hr.below hb (Nat.le_refl _)).more hb.size
  go_wp2_with fail
  refine (c10.out _ r1).mono ?_
  rintro ev w2 ⟨g, rfl, row, -, hb2⟩
  have ba := alloc_below w2 (.cells (pkC ⟨1, 2, fl⟩ (some ⟨g, 0, none⟩) 20 20) 27)
  have k : KF w w2.heap.size ⟨1, 2, fl⟩ g 20 (w2.alloc (.cells (pkC ⟨1, 2, fl⟩ (some ⟨g, 0, none⟩) 20 20) 27)) := ⟨(hb.trans (hb2.mono hb.size)).trans (ba.mono (Nat.le_trans hb.size hb2.size)), PkAt.new w2 27 ⟨1, 2, fl⟩ (some ⟨g, 0, none⟩) 20 20⟩
  replace row := row.below ba row.lt
  have r2 := ((r1.below hb2 (Nat.le_refl _)).below ba hb2.size).more (Nat.le_trans hb2.size ba.size)
  clear hr r1 hb hb2 ba c10
  obtain ⟨a0, a1, a2, a3⟩ := k.s.cells
  go_wp2_with fail
  change Calls _ _ _ (w2.alloc (.cells (pkC ⟨1, 2, fl⟩ (some ⟨g, 0, none⟩) 20 20) 27)) _
  generalize w2.alloc (.cells (pkC ⟨1, 2, fl⟩ (some ⟨g, 0, none⟩) 20 20) 27) = W2 at *
  generalize w2.heap.size = gs at *
  refine (c8.out _ _ row r2).mono ?_
  rintro ev w3 ⟨rfl, hb⟩
  replace k := k.step hb
  clear hb row r2 c8 a0 a1 a2 a3
  go_wp2_with fail
  refine wp_region_held_drew (S := fun w' => KF w gs ⟨1, 2, fl⟩ g 20 w') (by kernel_rfl) (k.step (below_drew _)) (fun hHeld => ?_)
  change wpAnyH _ _ _ _ _ _ _ _ (World.drew _)
  generalize World.drew _ = W4 at *
  clear k
  refine wpAnyH_at (i := 0) (some 47) (v := ?v0z101) rfl rfl (by kernel_rfl) (by kernel_rfl) (by kernel_rfl) (fun _ _ _ h => h) (Or.inl ⟨by rfl, ?y0z101⟩) (by assumption) ?r0z101
  case y0z101 =>
    intro w9 hSw
    (obtain ⟨a0, a1, a2, a3⟩ := (show KF w gs ⟨1, 2, fl⟩ g 20 w9 from hSw).s.cells); clear hSw
    go_simp
    all_goals with_reducible rfl
  simp only [Act.put, List.setIfInBounds_toArray, List.set_cons_zero, List.set_cons_succ]
  refine wpAnyH_at (i := 1) (some 48) (v := ?v1z102) rfl rfl (by kernel_rfl) (by kernel_rfl) (by kernel_rfl) (fun _ _ _ h => h) (Or.inl ⟨by rfl, ?y1z102⟩) (by assumption) ?r1z102
  case y1z102 =>
    intro w9 hSw
    clear hSw
    go_simp
    all_goals with_reducible rfl
  simp only [Act.put, List.setIfInBounds_toArray, List.set_cons_zero, List.set_cons_succ]
  refine wpAnyH_at (i := 2) (some 49) (v := ?v2z103) rfl rfl (by kernel_rfl) (by kernel_rfl) (by kernel_rfl) (fun _ _ _ h => h) (Or.inl ⟨by rfl, ?y2z103⟩) (by assumption) ?r2z103
  case y2z103 =>
    intro w9 hSw
    clear hSw
    go_simp
    all_goals with_reducible rfl
  simp only [Act.put, List.setIfInBounds_toArray, List.set_cons_zero, List.set_cons_succ]
  refine wpAnyH_at (i := 3) (some 50) (v := ?v3z104) rfl rfl (by kernel_rfl) (by kernel_rfl) (by kernel_rfl) (fun _ _ _ h => h) (Or.inl ⟨by rfl, ?y3z104⟩) (by assumption) ?r3z104
  case y3z104 =>
    intro w9 hSw
    clear hSw
    go_simp
    all_goals with_reducible rfl
  simp only [Act.put, List.setIfInBounds_toArray, List.set_cons_zero, List.set_cons_succ]
  refine wpAnyH_at (i := 5) (some 52) (v := ?v5z105) rfl rfl (by kernel_rfl) (by kernel_rfl) (by kernel_rfl) (fun _ _ _ h => h) (Or.inl ⟨by rfl, ?y5z105⟩) (by assumption) ?r5z105
  case y5z105 =>
    intro w9 hSw
    (obtain ⟨a0, a1, a2, a3⟩ := (show KF w gs ⟨1, 2, fl⟩ g 20 w9 from hSw).s.cells); clear hSw
    go_simp
    all_goals with_reducible rfl
  simp only [Act.put, List.setIfInBounds_toArray, List.set_cons_zero, List.set_cons_succ]
  refine wpAnyH_at (i := 6) (some 53) (v := ?v6z106) rfl rfl (by kernel_rfl) (by kernel_rfl) (by kernel_rfl) (fun _ _ _ h => h) (Or.inl ⟨by rfl, ?y6z106⟩) (by assumption) ?r6z106
  case y6z106 =>
    intro w9 hSw
    clear hSw
    go_simp
    all_goals with_reducible rfl
  simp only [Act.put, List.setIfInBounds_toArray, List.set_cons_zero, List.set_cons_succ]
  refine wpAnyH_one (i := 4) (by kernel_rfl) rfl ?_
  go_wp2_with (go_at_call 11; refine (co _ _ _ _).mono ?_; rintro ev V5 ⟨rfl, hb⟩)
  replace hHeld := hHeld.step hb
  clear hb
  refine ⟨hHeld, ?_⟩
  try simp only [Act.put, List.setIfInBounds_toArray, List.set_cons_zero, List.set_cons_succ]
  refine wpAnyH_one (i := 7) (by kernel_rfl) rfl ?_
  go_wp2_with (go_at_call 11; refine (ca _ _ _ _).mono ?_; rintro ev V6 ⟨rfl, hb⟩)
  replace hHeld := hHeld.step hb
  clear hb
  refine ⟨hHeld, ?_⟩
  try simp only [Act.put, List.setIfInBounds_toArray, List.set_cons_zero, List.set_cons_succ]
  refine wpAnyH_at (i := 8) (some 55) (v := ?v8z107) rfl rfl (by kernel_rfl) (by kernel_rfl) (by kernel_rfl) (fun _ _ _ h => h) (Or.inl ⟨by rfl, ?y8z107⟩) (by assumption) ?r8z107
  case y8z107 =>
    intro w9 hSw
    clear hSw
    go_simp
    all_goals with_reducible rfl
  simp only [Act.put, List.setIfInBounds_toArray, List.set_cons_zero, List.set_cons_succ]
  refine wpAnyH_at (i := 9) (some 56) (v := undef) rfl rfl (by kernel_rfl) (by kernel_rfl) (by kernel_rfl) (fun _ _ _ h => h) (Or.inr ⟨by rfl, rfl⟩) (by assumption) ?_
  simp only [Act.put, List.setIfInBounds_toArray, List.set_cons_zero, List.set_cons_succ]
  refine wpAnyH_at (i := 10) (some 57) (v := undef) rfl rfl (by kernel_rfl) (by kernel_rfl) (by kernel_rfl) (fun _ _ _ h => h) (Or.inr ⟨by rfl, rfl⟩) (by assumption) ?_
  simp only [Act.put, List.setIfInBounds_toArray, List.set_cons_zero, List.set_cons_succ]
  refine wpAnyH_at (i := 11) (some 58) (v := undef) rfl rfl (by kernel_rfl) (by kernel_rfl) (by kernel_rfl) (fun _ _ _ h => h) (Or.inr ⟨by rfl, rfl⟩) (by assumption) ?_
  simp only [Act.put, List.setIfInBounds_toArray, List.set_cons_zero, List.set_cons_succ]
  refine wpAnyH_at (i := 12) (some 59) (v := ?v12z108) rfl rfl (by kernel_rfl) (by kernel_rfl) (by kernel_rfl) (fun _ _ _ h => h) (Or.inl ⟨by rfl, ?y12z108⟩) (by assumption) ?r12z108
  case y12z108 =>
    intro w9 hSw
    clear hSw
    go_simp
    all_goals with_reducible rfl
  simp only [Act.put, List.setIfInBounds_toArray, List.set_cons_zero, List.set_cons_succ]
  refine wpAnyH_at (i := 13) (some 60) (v := ?v13z109) rfl rfl (by kernel_rfl) (by kernel_rfl) (by kernel_rfl) (fun _ _ _ h => h) (Or.inl ⟨by rfl, ?y13z109⟩) (by assumption) ?r13z109
  case y13z109 =>
    intro w9 hSw
    clear hSw
    go_simp
    all_goals with_reducible rfl
  simp only [Act.put, List.setIfInBounds_toArray, List.set_cons_zero, List.set_cons_succ]
  refine wpAnyH_at (i := 14) (some 61) (v := ?v14z110) rfl rfl (by kernel_rfl) (by kernel_rfl) (by kernel_rfl) (fun _ _ _ h => h) (Or.inl ⟨by rfl, ?y14z110⟩) (by assumption) ?r14z110
  case y14z110 =>
    intro w9 hSw
    clear hSw
    go_simp
    all_goals with_reducible rfl
  simp only [Act.put, List.setIfInBounds_toArray, List.set_cons_zero, List.set_cons_succ]
  refine wpAnyH_at (i := 15) (some 62) (v := ?v15z111) rfl rfl (by kernel_rfl) (by kernel_rfl) (by kernel_rfl) (fun _ _ _ h => h) (Or.inl ⟨by rfl, ?y15z111⟩) (by assumption) ?r15z111
  case y15z111 =>
    intro w9 hSw
    (obtain ⟨a0, a1, a2, a3⟩ := (show KF w gs ⟨1, 2, fl⟩ g 20 w9 from hSw).s.cells); clear hSw
    go_simp
    all_goals with_reducible rfl
  simp only [Act.put, List.setIfInBounds_toArray, List.set_cons_zero, List.set_cons_succ]
  refine wpAnyH_one (i := 16) (by kernel_rfl) rfl ?_
  go_wp2_with (go_at_call 11; refine (cz _ _ _ _).mono ?_; rintro ev V7 ⟨rfl, hb⟩)
  replace hHeld := hHeld.step hb
  clear hb
  refine ⟨hHeld, ?_⟩
  try simp only [Act.put, List.setIfInBounds_toArray, List.set_cons_zero, List.set_cons_succ]
  refine wpAnyH_at (i := 17) (some 64) (v := ?v17z112) rfl rfl (by kernel_rfl) (by kernel_rfl) (by kernel_rfl) (fun _ _ _ h => h) (Or.inl ⟨by rfl, ?y17z112⟩) (by assumption) ?r17z112
  case y17z112 =>
    intro w9 hSw
    clear hSw
    go_simp
    all_goals with_reducible rfl
  simp only [Act.put, List.setIfInBounds_toArray, List.set_cons_zero, List.set_cons_succ]
  refine wpAnyH_at (i := 18) (some 65) (v := ?v18z113) rfl rfl (by kernel_rfl) (by kernel_rfl) (by kernel_rfl) (fun _ _ _ h => h) (Or.inl ⟨by rfl, ?y18z113⟩) (by assumption) ?r18z113
  case y18z113 =>
    intro w9 hSw
    clear hSw
    go_simp
    all_goals with_reducible rfl
  simp only [Act.put, List.setIfInBounds_toArray, List.set_cons_zero, List.set_cons_succ]
  refine wpAnyH_at (i := 19) (some 66) (v := ?v19z114) rfl rfl (by kernel_rfl) (by kernel_rfl) (by kernel_rfl) (fun _ _ _ h => h) (Or.inl ⟨by rfl, ?y19z114⟩) (by assumption) ?r19z114
  case y19z114 =>
    intro w9 hSw
    (obtain ⟨a0, a1, a2, a3⟩ := (show KF w gs ⟨1, 2, fl⟩ g 20 w9 from hSw).s.cells); clear hSw
    go_simp
    all_goals with_reducible rfl
  simp only [Act.put, List.setIfInBounds_toArray, List.set_cons_zero, List.set_cons_succ]
  refine wpAnyH_at (i := 20) (some 67) (v := ?v20z115) rfl rfl (by kernel_rfl) (by kernel_rfl) (by kernel_rfl) (fun _ _ _ h => h) (Or.inl ⟨by rfl, ?y20z115⟩) (by assumption) ?r20z115
  case y20z115 =>
    intro w9 hSw
    clear hSw
    go_simp
    all_goals with_reducible rfl
  simp only [Act.put, List.setIfInBounds_toArray, List.set_cons_zero, List.set_cons_succ]
  refine wpAnyH_one (i := 21) (by kernel_rfl) rfl ?_
  go_wp2_with (go_at_call 11; refine (cf _ _ _ _).mono ?_; rintro ev V8 ⟨rfl, hb⟩)
  replace hHeld := hHeld.step hb
  clear hb
  refine ⟨hHeld, ?_⟩
  try simp only [Act.put, List.setIfInBounds_toArray, List.set_cons_zero, List.set_cons_succ]
  refine wpAnyH_at (i := 22) (some 69) (v := ?v22z116) rfl rfl (by kernel_rfl) (by kernel_rfl) (by kernel_rfl) (fun _ _ _ h => h) (Or.inl ⟨by rfl, ?y22z116⟩) (by assumption) ?r22z116
  case y22z116 =>
    intro w9 hSw
    clear hSw
    go_simp
    all_goals with_reducible rfl
  simp only [Act.put, List.setIfInBounds_toArray, List.set_cons_zero, List.set_cons_succ]
  refine wpAnyH_at (i := 23) (some 70) (v := ?v23z117) rfl rfl (by kernel_rfl) (by kernel_rfl) (by kernel_rfl) (fun _ _ _ h => h) (Or.inl ⟨by rfl, ?y23z117⟩) (by assumption) ?r23z117
  case y23z117 =>
    intro w9 hSw
    clear hSw
    go_simp
    all_goals with_reducible rfl
  simp only [Act.put, List.setIfInBounds_toArray, List.set_cons_zero, List.set_cons_succ]
  refine wpAnyH_at (i := 24) (some 71) (v := ?v24z118) rfl rfl (by kernel_rfl) (by kernel_rfl) (by kernel_rfl) (fun _ _ _ h => h) (Or.inl ⟨by rfl, ?y24z118⟩) (by assumption) ?r24z118
  case y24z118 =>
    intro w9 hSw
    (obtain ⟨a0, a1, a2, a3⟩ := (show KF w gs ⟨1, 2, fl⟩ g 20 w9 from hSw).s.cells); clear hSw
    go_simp
    all_goals with_reducible rfl
  simp only [Act.put, List.setIfInBounds_toArray, List.set_cons_zero, List.set_cons_succ]
  refine wpAnyH_at (i := 25) (some 72) (v := ?v25z119) rfl rfl (by kernel_rfl) (by kernel_rfl) (by kernel_rfl) (fun _ _ _ h => h) (Or.inl ⟨by rfl, ?y25z119⟩) (by assumption) ?r25z119
  case y25z119 =>
    intro w9 hSw
    clear hSw
    go_simp
    all_goals with_reducible rfl
  simp only [Act.put, List.setIfInBounds_toArray, List.set_cons_zero, List.set_cons_succ]
  refine wpAnyH_at (i := 27) (some 74) (v := ?v27z120) rfl rfl (by kernel_rfl) (by kernel_rfl) (by kernel_rfl) (fun _ _ _ h => h) (Or.inl ⟨by rfl, ?y27z120⟩) (by assumption) ?r27z120
  case y27z120 =>
    intro w9 hSw
    clear hSw
    go_simp
    all_goals with_reducible rfl
  simp only [Act.put, List.setIfInBounds_toArray, List.set_cons_zero, List.set_cons_succ]
  refine wpAnyH_at (i := 28) (some 75) (v := ?v28z121) rfl rfl (by kernel_rfl) (by kernel_rfl) (by kernel_rfl) (fun _ _ _ h => h) (Or.inl ⟨by rfl, ?y28z121⟩) (by assumption) ?r28z121
  case y28z121 =>
    intro w9 hSw
    clear hSw
    go_simp
    all_goals with_reducible rfl
  simp only [Act.put, List.setIfInBounds_toArray, List.set_cons_zero, List.set_cons_succ]
  refine wpAnyH_at (i := 29) (some 76) (v := ?v29z122) rfl rfl (by kernel_rfl) (by kernel_rfl) (by kernel_rfl) (fun _ _ _ h => h) (Or.inl ⟨by rfl, ?y29z122⟩) (by assumption) ?r29z122
  case y29z122 =>
    intro w9 hSw
    clear hSw
    go_simp
    all_goals with_reducible rfl
  simp only [Act.put, List.setIfInBounds_toArray, List.set_cons_zero, List.set_cons_succ]
  refine wpAnyH_at (i := 30) (some 77) (v := ?v30z123) rfl rfl (by kernel_rfl) (by kernel_rfl) (by kernel_rfl) (fun _ _ _ h => h) (Or.inl ⟨by rfl, ?y30z123⟩) (by assumption) ?r30z123
  case y30z123 =>
    intro w9 hSw
    clear hSw
    go_simp
    all_goals with_reducible rfl
  simp only [Act.put, List.setIfInBounds_toArray, List.set_cons_zero, List.set_cons_succ]
  refine wpAnyH_one (i := 26) (by kernel_rfl) rfl ?_
  go_wp2_with (go_at_call 11; refine (ca _ _ _ _).mono ?_; rintro ev V9 ⟨rfl, hb⟩)
  replace hHeld := hHeld.step hb
  clear hb
  refine ⟨hHeld, ?_⟩
  try simp only [Act.put, List.setIfInBounds_toArray, List.set_cons_zero, List.set_cons_succ]
  refine wpAnyH_at (i := 31) (some 78) (v := ?v31z124) rfl rfl (by kernel_rfl) (by kernel_rfl) (by kernel_rfl) (fun _ _ _ h => h) (Or.inl ⟨by rfl, ?y31z124⟩) (by assumption) ?r31z124
  case y31z124 =>
    intro w9 hSw
    clear hSw
    go_simp
    all_goals with_reducible rfl
  simp only [Act.put, List.setIfInBounds_toArray, List.set_cons_zero, List.set_cons_succ]
  refine wpAnyH_at (i := 32) (some 79) (v := ?v32z125) rfl rfl (by kernel_rfl) (by kernel_rfl) (by kernel_rfl) (fun _ _ _ h => h) (Or.inl ⟨by rfl, ?y32z125⟩) (by assumption) ?r32z125
  case y32z125 =>
    intro w9 hSw
    clear hSw
    go_simp
    all_goals with_reducible rfl
  simp only [Act.put, List.setIfInBounds_toArray, List.set_cons_zero, List.set_cons_succ]
  refine wpAnyH_at (i := 33) (some 80) (v := ?v33z126) rfl rfl (by kernel_rfl) (by kernel_rfl) (by kernel_rfl) (fun _ _ _ h => h) (Or.inl ⟨by rfl, ?y33z126⟩) (by assumption) ?r33z126
  case y33z126 =>
    intro w9 hSw
    clear hSw
    go_simp
    all_goals with_reducible rfl
  simp only [Act.put, List.setIfInBounds_toArray, List.set_cons_zero, List.set_cons_succ]
  refine wpAnyH_at (i := 34) (some 81) (v := ?v34z127) rfl rfl (by kernel_rfl) (by kernel_rfl) (by kernel_rfl) (fun _ _ _ h => h) (Or.inl ⟨by rfl, ?y34z127⟩) (by assumption) ?r34z127
  case y34z127 =>
    intro w9 hSw
    clear hSw
    go_simp
    all_goals with_reducible rfl
  simp only [Act.put, List.setIfInBounds_toArray, List.set_cons_zero, List.set_cons_succ]
  refine wpAnyH_at (i := 35) (some 82) (v := ?v35z128) rfl rfl (by kernel_rfl) (by kernel_rfl) (by kernel_rfl) (fun _ _ _ h => h) (Or.inl ⟨by rfl, ?y35z128⟩) (by assumption) ?r35z128
  case y35z128 =>
    intro w9 hSw
    (obtain ⟨a0, a1, a2, a3⟩ := (show KF w gs ⟨1, 2, fl⟩ g 20 w9 from hSw).s.cells); clear hSw
    go_simp
    all_goals with_reducible rfl
  simp only [Act.put, List.setIfInBounds_toArray, List.set_cons_zero, List.set_cons_succ]
  refine wpAnyH_at (i := 36) (some 83) (v := ?v36z129) rfl rfl (by kernel_rfl) (by kernel_rfl) (by kernel_rfl) (fun _ _ _ h => h) (Or.inl ⟨by rfl, ?y36z129⟩) (by assumption) ?r36z129
  case y36z129 =>
    intro w9 hSw
    clear hSw
    go_simp
    all_goals with_reducible rfl
  simp only [Act.put, List.setIfInBounds_toArray, List.set_cons_zero, List.set_cons_succ]
  refine wpAnyH_at (i := 37) (some 84) (v := ?v37z130) rfl rfl (by kernel_rfl) (by kernel_rfl) (by kernel_rfl) (fun _ _ _ h => h) (Or.inl ⟨by rfl, ?y37z130⟩) (by assumption) ?r37z130
  case y37z130 =>
    intro w9 hSw
    clear hSw
    go_simp
    all_goals with_reducible rfl
  simp only [Act.put, List.setIfInBounds_toArray, List.set_cons_zero, List.set_cons_succ]
  refine wpAnyH_at (i := 38) (some 85) (v := ?v38z131) rfl rfl (by kernel_rfl) (by kernel_rfl) (by kernel_rfl) (fun _ _ _ h => h) (Or.inl ⟨by rfl, ?y38z131⟩) (by assumption) ?r38z131
  case y38z131 =>
    intro w9 hSw
    clear hSw
    go_simp
    all_goals with_reducible rfl
  simp only [Act.put, List.setIfInBounds_toArray, List.set_cons_zero, List.set_cons_succ]
  refine wpAnyH_at (i := 39) (some 12) (v := ?v39z132) rfl rfl (by kernel_rfl) (by kernel_rfl) (by kernel_rfl) (fun _ _ _ h => h) (Or.inl ⟨by rfl, ?y39z132⟩) (by assumption) ?r39z132
  case y39z132 =>
    intro w9 hSw
    clear hSw
    go_simp
    all_goals with_reducible rfl
  simp only [Act.put, List.setIfInBounds_toArray, List.set_cons_zero, List.set_cons_succ]
  refine wpAnyH_done (by kernel_rfl) ?_ _
  go_wp2
  go_ret
  exact ⟨rfl, hHeld.below⟩
end Go.Proofs.Ytggnkmllbpgfoaa
