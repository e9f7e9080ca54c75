/-
  The law TcpFlags, a made segment with a body.
-/
import Derived.Test.YtggnkmllbpgfoaaLBits
namespace Go.Proofs.Ytggnkmllbpgfoaa
open Go.RowKit
set_option linter.unusedVariables false

set_option maxRecDepth 100000 in
set_option maxHeartbeats 4000000 in
theorem flags_some_tt (fl a b : Int) (A : Option Addr) (n c : Nat) (xs : List Int) (f t : Int) (w : World) (hr : Rd .u8 w w.heap.size A n c xs) (hf : Ip f) (ht : Ip t) (b0 : 0 ≤ fl ∧ fl ≤ 255) (b1 : 0 ≤ a ∧ a ≤ 255) (b2 : 0 ≤ b ∧ b ≤ 255) (hn : n ≤ 1460) (h0n : 0 < n) (hP : hasB fl a = true) (hQ : hasB fl b = true) :
    Calls Try.prog 4 #[.int .u8 fl, .int .u8 a, .int .u8 b, .slice A n c, .int .u32 f, .int .u32 t] w fun e w' => e = .returned (.bool true) ∧ Below w.heap.size w w' := by
  obtain ⟨m, hm⟩ : ∃ m, 20 + n = m := ⟨_, rfl⟩
  have hcap := hr.cap
  have hmax := hr.max
  have hk : (⟨1, 2, fl⟩ : Hd).ok := ⟨show (0 : Int) ≤ 1 ∧ (1 : Int) ≤ 65535 by omega, show (0 : Int) ≤ 2 ∧ (2 : Int) ≤ 65535 by omega, b0⟩
  obtain ⟨ys, hy⟩ : ∃ ys, mkR ⟨1, 2, fl⟩ f t xs = ys := ⟨_, rfl⟩
  have hxl := hr.len
  have hxw := hr.2.2.2.1
  have Hw : Hid (∀ x ∈ ys, (Lit.int .u8 x).wf = true) := Lib.hid (by rw [← hy]; exact mkR_wf hk hf ht hxw (by omega))
  have Hm : Hid (ys.length = m) := Lib.hid (by rw [← hy, mkR_size]; omega)
  have hd := mkR_drop ⟨1, 2, fl⟩ f t xs
  have c10 := Lib.hid (fun W (q : Rd .u8 W W.heap.size A n c xs) => make_ok ⟨1, 2, fl⟩ A n c xs f t W hk q hf ht (by omega))
  rw [hy] at c10 hd
  rw [hm] at c10
  have m1 : m ≤ 1480 := by omega
  have n1 : ¬ (1460 : Int) < (n : Int) := by omega
  have hm' : (20 : Int) + (n : Int) = (m : Int) := by omega
  have e1 : IntKind.i64.wrap (m : Int) = (m : Int) := by rw [IntKind.wrap_i64]; omega
  have k20 : ¬ m = 20 := by omega
  have j20 : (20 : Int) ≤ (m : Int) := by omega
  have hmn : Hid (m - 20 = n) := Lib.hid (by omega)
  have c8 : Hid (∀ W g, Row W g ys → Rd .u8 W W.heap.size A n c xs → Calls Try.prog 8 #[.slice (some ⟨g, 20, none⟩) (m - 20) (m - 20), .slice A n c] W fun e w' => e = .returned (.bool true) ∧ Below W.heap.size W w') := Lib.hid (fun W g row r => by
    have q := (row.rdW Hm.out (by omega) Hw.out).cutS 20 (by omega) k20
    rw [hd] at q
    exact same_any _ _ _ _ _ _ xs _ _ _ q r)
  have eo := has_or b0 b1 b2
  have en := has_andNot b0 b1
  have ez := has_zero b0
  have es := has_self b0
  rw [hP, hQ] at eo
  rw [hP] at en
  have c11 := fun A n c x W => has_any ⟨1, 2, fl⟩ A n c x W
  dsimp only at c11
  have ca : ∀ A n c W, Calls Try.prog 11 #[pkV ⟨1, 2, fl⟩ A n c, .int .u8 a] W fun e w' => e = .returned (.bool true) ∧ Below W.heap.size W w' := fun A n c W => by
    have := c11 A n c a W
    rwa [hP] at this
  have cb : ∀ A n c W, Calls Try.prog 11 #[pkV ⟨1, 2, fl⟩ A n c, .int .u8 b] W fun e w' => e = .returned (.bool true) ∧ Below W.heap.size W w' := fun A n c W => by
    have := c11 A n c b W
    rwa [hQ] at this
  have co : ∀ A n c W, Calls Try.prog 11 #[pkV ⟨1, 2, fl⟩ A n c, .int .u8 (bits .or .u8 a b)] W fun e w' => e = .returned (.bool true) ∧ Below W.heap.size W w' := fun A n c W => by
    have := c11 A n c (bits .or .u8 a b) W
    rwa [eo] at this
  have cz : ∀ A n c W, Calls Try.prog 11 #[pkV ⟨1, 2, fl⟩ A n c, .int .u8 0] W fun e w' => e = .returned (.bool true) ∧ Below W.heap.size W w' := fun A n c W => by
    have := c11 A n c 0 W
    rwa [ez] at this
  have cf : ∀ A n c W, Calls Try.prog 11 #[pkV ⟨1, 2, fl⟩ A n c, .int .u8 fl] W fun e w' => e = .returned (.bool true) ∧ Below W.heap.size W w' := fun A n c W => by
    have := c11 A n c fl W
    rwa [es] at this
  clear c11 eo ez es hP hQ hd hy hxl hxw hf ht hk hm
  go_enter Try.func4, Try.ntmps4
  go_wp2_with fail
  refine (alive_any _).mono ?_
  rintro ev w1 ⟨rfl, hb⟩
  have r1 := (hr.below hb (Nat.le_refl _)).more hb.size
  go_wp2_with fail
  refine (c10.out _ r1).mono ?_
  rintro ev w2 ⟨g, rfl, row, -, hb2⟩
  have ba := alloc_below w2 (.cells (pkC ⟨1, 2, fl⟩ (some ⟨g, 0, none⟩) m m) 27)
  have k : KF w w2.heap.size ⟨1, 2, fl⟩ g m (w2.alloc (.cells (pkC ⟨1, 2, fl⟩ (some ⟨g, 0, none⟩) m m) 27)) := ⟨(hb.trans (hb2.mono hb.size)).trans (ba.mono (Nat.le_trans hb.size hb2.size)), PkAt.new w2 27 ⟨1, 2, fl⟩ (some ⟨g, 0, none⟩) m m⟩
  replace row := row.below ba row.lt
  have r2 := ((r1.below hb2 (Nat.le_refl _)).below ba hb2.size).more (Nat.le_trans hb2.size ba.size)
  clear hr r1 hb hb2 ba c10
  obtain ⟨a0, a1, a2, a3⟩ := k.s.cells
  go_wp2_with fail
  change Calls _ _ _ (w2.alloc (.cells (pkC ⟨1, 2, fl⟩ (some ⟨g, 0, none⟩) m m) 27)) _
  generalize w2.alloc (.cells (pkC ⟨1, 2, fl⟩ (some ⟨g, 0, none⟩) m m) 27) = W2 at *
  generalize w2.heap.size = gs at *
  refine (c8.out _ _ row r2).mono ?_
  rintro ev w3 ⟨rfl, hb⟩
  replace k := k.step hb
  clear hb row r2 c8 a0 a1 a2 a3
  go_wp2_with fail
  refine wp_region_held_drew (S := fun w' => KF w gs ⟨1, 2, fl⟩ g m w') (by kernel_rfl) (k.step (below_drew _)) (fun hHeld => ?_)
  change wpAnyH _ _ _ _ _ _ _ _ (World.drew _)
  generalize World.drew _ = W4 at *
  clear k
  refine wpAnyH_at (i := 0) (some 47) (v := ?v0z133) rfl rfl (by kernel_rfl) (by kernel_rfl) (by kernel_rfl) (fun _ _ _ h => h) (Or.inl ⟨by rfl, ?y0z133⟩) (by assumption) ?r0z133
  case y0z133 =>
    intro w9 hSw
    (obtain ⟨a0, a1, a2, a3⟩ := (show KF w gs ⟨1, 2, fl⟩ g m w9 from hSw).s.cells); clear hSw
    go_simp
    all_goals with_reducible rfl
  simp only [Act.put, List.setIfInBounds_toArray, List.set_cons_zero, List.set_cons_succ]
  refine wpAnyH_at (i := 1) (some 48) (v := ?v1z134) rfl rfl (by kernel_rfl) (by kernel_rfl) (by kernel_rfl) (fun _ _ _ h => h) (Or.inl ⟨by rfl, ?y1z134⟩) (by assumption) ?r1z134
  case y1z134 =>
    intro w9 hSw
    clear hSw
    go_simp
    all_goals with_reducible rfl
  simp only [Act.put, List.setIfInBounds_toArray, List.set_cons_zero, List.set_cons_succ]
  refine wpAnyH_at (i := 2) (some 49) (v := ?v2z135) rfl rfl (by kernel_rfl) (by kernel_rfl) (by kernel_rfl) (fun _ _ _ h => h) (Or.inl ⟨by rfl, ?y2z135⟩) (by assumption) ?r2z135
  case y2z135 =>
    intro w9 hSw
    clear hSw
    go_simp
    all_goals with_reducible rfl
  simp only [Act.put, List.setIfInBounds_toArray, List.set_cons_zero, List.set_cons_succ]
  refine wpAnyH_at (i := 3) (some 50) (v := ?v3z136) rfl rfl (by kernel_rfl) (by kernel_rfl) (by kernel_rfl) (fun _ _ _ h => h) (Or.inl ⟨by rfl, ?y3z136⟩) (by assumption) ?r3z136
  case y3z136 =>
    intro w9 hSw
    clear hSw
    go_simp
    all_goals with_reducible rfl
  simp only [Act.put, List.setIfInBounds_toArray, List.set_cons_zero, List.set_cons_succ]
  refine wpAnyH_at (i := 5) (some 52) (v := ?v5z137) rfl rfl (by kernel_rfl) (by kernel_rfl) (by kernel_rfl) (fun _ _ _ h => h) (Or.inl ⟨by rfl, ?y5z137⟩) (by assumption) ?r5z137
  case y5z137 =>
    intro w9 hSw
    (obtain ⟨a0, a1, a2, a3⟩ := (show KF w gs ⟨1, 2, fl⟩ g m w9 from hSw).s.cells); clear hSw
    go_simp
    all_goals with_reducible rfl
  simp only [Act.put, List.setIfInBounds_toArray, List.set_cons_zero, List.set_cons_succ]
  refine wpAnyH_at (i := 6) (some 53) (v := ?v6z138) rfl rfl (by kernel_rfl) (by kernel_rfl) (by kernel_rfl) (fun _ _ _ h => h) (Or.inl ⟨by rfl, ?y6z138⟩) (by assumption) ?r6z138
  case y6z138 =>
    intro w9 hSw
    clear hSw
    go_simp
    all_goals with_reducible rfl
  simp only [Act.put, List.setIfInBounds_toArray, List.set_cons_zero, List.set_cons_succ]
  refine wpAnyH_one (i := 4) (by kernel_rfl) rfl ?_
  go_wp2_with (go_at_call 11; refine (co _ _ _ _).mono ?_; rintro ev V5 ⟨rfl, hb⟩)
  replace hHeld := hHeld.step hb
  clear hb
  refine ⟨hHeld, ?_⟩
  try simp only [Act.put, List.setIfInBounds_toArray, List.set_cons_zero, List.set_cons_succ]
  refine wpAnyH_one (i := 7) (by kernel_rfl) rfl ?_
  go_wp2_with (go_at_call 11; refine (ca _ _ _ _).mono ?_; rintro ev V6 ⟨rfl, hb⟩)
  replace hHeld := hHeld.step hb
  clear hb
  refine ⟨hHeld, ?_⟩
  try simp only [Act.put, List.setIfInBounds_toArray, List.set_cons_zero, List.set_cons_succ]
  refine wpAnyH_at (i := 8) (some 55) (v := ?v8z139) rfl rfl (by kernel_rfl) (by kernel_rfl) (by kernel_rfl) (fun _ _ _ h => h) (Or.inl ⟨by rfl, ?y8z139⟩) (by assumption) ?r8z139
  case y8z139 =>
    intro w9 hSw
    clear hSw
    go_simp
    all_goals with_reducible rfl
  simp only [Act.put, List.setIfInBounds_toArray, List.set_cons_zero, List.set_cons_succ]
  refine wpAnyH_at (i := 9) (some 56) (v := ?v9z140) rfl rfl (by kernel_rfl) (by kernel_rfl) (by kernel_rfl) (fun _ _ _ h => h) (Or.inl ⟨by rfl, ?y9z140⟩) (by assumption) ?r9z140
  case y9z140 =>
    intro w9 hSw
    (obtain ⟨a0, a1, a2, a3⟩ := (show KF w gs ⟨1, 2, fl⟩ g m w9 from hSw).s.cells); clear hSw
    go_simp
    all_goals with_reducible rfl
  simp only [Act.put, List.setIfInBounds_toArray, List.set_cons_zero, List.set_cons_succ]
  refine wpAnyH_at (i := 10) (some 57) (v := ?v10z141) rfl rfl (by kernel_rfl) (by kernel_rfl) (by kernel_rfl) (fun _ _ _ h => h) (Or.inl ⟨by rfl, ?y10z141⟩) (by assumption) ?r10z141
  case y10z141 =>
    intro w9 hSw
    clear hSw
    go_simp
    all_goals with_reducible rfl
  simp only [Act.put, List.setIfInBounds_toArray, List.set_cons_zero, List.set_cons_succ]
  refine wpAnyH_one (i := 11) (by kernel_rfl) rfl ?_
  go_wp2_with (go_at_call 11; refine (cb _ _ _ _).mono ?_; rintro ev V7 ⟨rfl, hb⟩)
  replace hHeld := hHeld.step hb
  clear hb
  refine ⟨hHeld, ?_⟩
  try simp only [Act.put, List.setIfInBounds_toArray, List.set_cons_zero, List.set_cons_succ]
  refine wpAnyH_at (i := 12) (some 59) (v := ?v12z142) rfl rfl (by kernel_rfl) (by kernel_rfl) (by kernel_rfl) (fun _ _ _ h => h) (Or.inl ⟨by rfl, ?y12z142⟩) (by assumption) ?r12z142
  case y12z142 =>
    intro w9 hSw
    clear hSw
    go_simp
    all_goals with_reducible rfl
  simp only [Act.put, List.setIfInBounds_toArray, List.set_cons_zero, List.set_cons_succ]
  refine wpAnyH_at (i := 13) (some 60) (v := ?v13z143) rfl rfl (by kernel_rfl) (by kernel_rfl) (by kernel_rfl) (fun _ _ _ h => h) (Or.inl ⟨by rfl, ?y13z143⟩) (by assumption) ?r13z143
  case y13z143 =>
    intro w9 hSw
    clear hSw
    go_simp
    all_goals with_reducible rfl
  simp only [Act.put, List.setIfInBounds_toArray, List.set_cons_zero, List.set_cons_succ]
  refine wpAnyH_at (i := 14) (some 61) (v := ?v14z144) rfl rfl (by kernel_rfl) (by kernel_rfl) (by kernel_rfl) (fun _ _ _ h => h) (Or.inl ⟨by rfl, ?y14z144⟩) (by assumption) ?r14z144
  case y14z144 =>
    intro w9 hSw
    clear hSw
    go_simp
    all_goals with_reducible rfl
  simp only [Act.put, List.setIfInBounds_toArray, List.set_cons_zero, List.set_cons_succ]
  refine wpAnyH_at (i := 15) (some 62) (v := ?v15z145) rfl rfl (by kernel_rfl) (by kernel_rfl) (by kernel_rfl) (fun _ _ _ h => h) (Or.inl ⟨by rfl, ?y15z145⟩) (by assumption) ?r15z145
  case y15z145 =>
    intro w9 hSw
    (obtain ⟨a0, a1, a2, a3⟩ := (show KF w gs ⟨1, 2, fl⟩ g m w9 from hSw).s.cells); clear hSw
    go_simp
    all_goals with_reducible rfl
  simp only [Act.put, List.setIfInBounds_toArray, List.set_cons_zero, List.set_cons_succ]
  refine wpAnyH_one (i := 16) (by kernel_rfl) rfl ?_
  go_wp2_with (go_at_call 11; refine (cz _ _ _ _).mono ?_; rintro ev V8 ⟨rfl, hb⟩)
  replace hHeld := hHeld.step hb
  clear hb
  refine ⟨hHeld, ?_⟩
  try simp only [Act.put, List.setIfInBounds_toArray, List.set_cons_zero, List.set_cons_succ]
  refine wpAnyH_at (i := 17) (some 64) (v := ?v17z146) rfl rfl (by kernel_rfl) (by kernel_rfl) (by kernel_rfl) (fun _ _ _ h => h) (Or.inl ⟨by rfl, ?y17z146⟩) (by assumption) ?r17z146
  case y17z146 =>
    intro w9 hSw
    clear hSw
    go_simp
    all_goals with_reducible rfl
  simp only [Act.put, List.setIfInBounds_toArray, List.set_cons_zero, List.set_cons_succ]
  refine wpAnyH_at (i := 18) (some 65) (v := ?v18z147) rfl rfl (by kernel_rfl) (by kernel_rfl) (by kernel_rfl) (fun _ _ _ h => h) (Or.inl ⟨by rfl, ?y18z147⟩) (by assumption) ?r18z147
  case y18z147 =>
    intro w9 hSw
    clear hSw
    go_simp
    all_goals with_reducible rfl
  simp only [Act.put, List.setIfInBounds_toArray, List.set_cons_zero, List.set_cons_succ]
  refine wpAnyH_at (i := 19) (some 66) (v := ?v19z148) rfl rfl (by kernel_rfl) (by kernel_rfl) (by kernel_rfl) (fun _ _ _ h => h) (Or.inl ⟨by rfl, ?y19z148⟩) (by assumption) ?r19z148
  case y19z148 =>
    intro w9 hSw
    (obtain ⟨a0, a1, a2, a3⟩ := (show KF w gs ⟨1, 2, fl⟩ g m w9 from hSw).s.cells); clear hSw
    go_simp
    all_goals with_reducible rfl
  simp only [Act.put, List.setIfInBounds_toArray, List.set_cons_zero, List.set_cons_succ]
  refine wpAnyH_at (i := 20) (some 67) (v := ?v20z149) rfl rfl (by kernel_rfl) (by kernel_rfl) (by kernel_rfl) (fun _ _ _ h => h) (Or.inl ⟨by rfl, ?y20z149⟩) (by assumption) ?r20z149
  case y20z149 =>
    intro w9 hSw
    clear hSw
    go_simp
    all_goals with_reducible rfl
  simp only [Act.put, List.setIfInBounds_toArray, List.set_cons_zero, List.set_cons_succ]
  refine wpAnyH_one (i := 21) (by kernel_rfl) rfl ?_
  go_wp2_with (go_at_call 11; refine (cf _ _ _ _).mono ?_; rintro ev V9 ⟨rfl, hb⟩)
  replace hHeld := hHeld.step hb
  clear hb
  refine ⟨hHeld, ?_⟩
  try simp only [Act.put, List.setIfInBounds_toArray, List.set_cons_zero, List.set_cons_succ]
  refine wpAnyH_at (i := 22) (some 69) (v := ?v22z150) rfl rfl (by kernel_rfl) (by kernel_rfl) (by kernel_rfl) (fun _ _ _ h => h) (Or.inl ⟨by rfl, ?y22z150⟩) (by assumption) ?r22z150
  case y22z150 =>
    intro w9 hSw
    clear hSw
    go_simp
    all_goals with_reducible rfl
  simp only [Act.put, List.setIfInBounds_toArray, List.set_cons_zero, List.set_cons_succ]
  refine wpAnyH_at (i := 23) (some 70) (v := ?v23z151) rfl rfl (by kernel_rfl) (by kernel_rfl) (by kernel_rfl) (fun _ _ _ h => h) (Or.inl ⟨by rfl, ?y23z151⟩) (by assumption) ?r23z151
  case y23z151 =>
    intro w9 hSw
    clear hSw
    go_simp
    all_goals with_reducible rfl
  simp only [Act.put, List.setIfInBounds_toArray, List.set_cons_zero, List.set_cons_succ]
  refine wpAnyH_at (i := 24) (some 71) (v := ?v24z152) rfl rfl (by kernel_rfl) (by kernel_rfl) (by kernel_rfl) (fun _ _ _ h => h) (Or.inl ⟨by rfl, ?y24z152⟩) (by assumption) ?r24z152
  case y24z152 =>
    intro w9 hSw
    (obtain ⟨a0, a1, a2, a3⟩ := (show KF w gs ⟨1, 2, fl⟩ g m w9 from hSw).s.cells); clear hSw
    go_simp
    all_goals with_reducible rfl
  simp only [Act.put, List.setIfInBounds_toArray, List.set_cons_zero, List.set_cons_succ]
  refine wpAnyH_at (i := 25) (some 72) (v := ?v25z153) rfl rfl (by kernel_rfl) (by kernel_rfl) (by kernel_rfl) (fun _ _ _ h => h) (Or.inl ⟨by rfl, ?y25z153⟩) (by assumption) ?r25z153
  case y25z153 =>
    intro w9 hSw
    clear hSw
    go_simp
    all_goals with_reducible rfl
  simp only [Act.put, List.setIfInBounds_toArray, List.set_cons_zero, List.set_cons_succ]
  refine wpAnyH_at (i := 27) (some 74) (v := ?v27z154) rfl rfl (by kernel_rfl) (by kernel_rfl) (by kernel_rfl) (fun _ _ _ h => h) (Or.inl ⟨by rfl, ?y27z154⟩) (by assumption) ?r27z154
  case y27z154 =>
    intro w9 hSw
    clear hSw
    go_simp
    all_goals with_reducible rfl
  simp only [Act.put, List.setIfInBounds_toArray, List.set_cons_zero, List.set_cons_succ]
  refine wpAnyH_at (i := 28) (some 75) (v := ?v28z155) rfl rfl (by kernel_rfl) (by kernel_rfl) (by kernel_rfl) (fun _ _ _ h => h) (Or.inl ⟨by rfl, ?y28z155⟩) (by assumption) ?r28z155
  case y28z155 =>
    intro w9 hSw
    clear hSw
    go_simp
    all_goals with_reducible rfl
  simp only [Act.put, List.setIfInBounds_toArray, List.set_cons_zero, List.set_cons_succ]
  refine wpAnyH_at (i := 29) (some 76) (v := ?v29z156) rfl rfl (by kernel_rfl) (by kernel_rfl) (by kernel_rfl) (fun _ _ _ h => h) (Or.inl ⟨by rfl, ?y29z156⟩) (by assumption) ?r29z156
  case y29z156 =>
    intro w9 hSw
    clear hSw
    go_simp
    all_goals with_reducible rfl
  simp only [Act.put, List.setIfInBounds_toArray, List.set_cons_zero, List.set_cons_succ]
  refine wpAnyH_at (i := 30) (some 77) (v := ?v30z157) rfl rfl (by kernel_rfl) (by kernel_rfl) (by kernel_rfl) (fun _ _ _ h => h) (Or.inl ⟨by rfl, ?y30z157⟩) (by assumption) ?r30z157
  case y30z157 =>
    intro w9 hSw
    clear hSw
    go_simp
    all_goals with_reducible rfl
  simp only [Act.put, List.setIfInBounds_toArray, List.set_cons_zero, List.set_cons_succ]
  refine wpAnyH_one (i := 26) (by kernel_rfl) rfl ?_
  go_wp2_with (go_at_call 11; refine (ca _ _ _ _).mono ?_; rintro ev V10 ⟨rfl, hb⟩)
  replace hHeld := hHeld.step hb
  clear hb
  refine ⟨hHeld, ?_⟩
  try simp only [Act.put, List.setIfInBounds_toArray, List.set_cons_zero, List.set_cons_succ]
  refine wpAnyH_at (i := 31) (some 78) (v := ?v31z158) rfl rfl (by kernel_rfl) (by kernel_rfl) (by kernel_rfl) (fun _ _ _ h => h) (Or.inl ⟨by rfl, ?y31z158⟩) (by assumption) ?r31z158
  case y31z158 =>
    intro w9 hSw
    clear hSw
    go_simp
    all_goals with_reducible rfl
  simp only [Act.put, List.setIfInBounds_toArray, List.set_cons_zero, List.set_cons_succ]
  refine wpAnyH_at (i := 32) (some 79) (v := ?v32z159) rfl rfl (by kernel_rfl) (by kernel_rfl) (by kernel_rfl) (fun _ _ _ h => h) (Or.inl ⟨by rfl, ?y32z159⟩) (by assumption) ?r32z159
  case y32z159 =>
    intro w9 hSw
    clear hSw
    go_simp
    all_goals with_reducible rfl
  simp only [Act.put, List.setIfInBounds_toArray, List.set_cons_zero, List.set_cons_succ]
  refine wpAnyH_at (i := 33) (some 80) (v := ?v33z160) rfl rfl (by kernel_rfl) (by kernel_rfl) (by kernel_rfl) (fun _ _ _ h => h) (Or.inl ⟨by rfl, ?y33z160⟩) (by assumption) ?r33z160
  case y33z160 =>
    intro w9 hSw
    clear hSw
    go_simp
    all_goals with_reducible rfl
  simp only [Act.put, List.setIfInBounds_toArray, List.set_cons_zero, List.set_cons_succ]
  refine wpAnyH_at (i := 34) (some 81) (v := ?v34z161) rfl rfl (by kernel_rfl) (by kernel_rfl) (by kernel_rfl) (fun _ _ _ h => h) (Or.inl ⟨by rfl, ?y34z161⟩) (by assumption) ?r34z161
  case y34z161 =>
    intro w9 hSw
    clear hSw
    go_simp
    all_goals with_reducible rfl
  simp only [Act.put, List.setIfInBounds_toArray, List.set_cons_zero, List.set_cons_succ]
  refine wpAnyH_at (i := 35) (some 82) (v := ?v35z162) rfl rfl (by kernel_rfl) (by kernel_rfl) (by kernel_rfl) (fun _ _ _ h => h) (Or.inl ⟨by rfl, ?y35z162⟩) (by assumption) ?r35z162
  case y35z162 =>
    intro w9 hSw
    (obtain ⟨a0, a1, a2, a3⟩ := (show KF w gs ⟨1, 2, fl⟩ g m w9 from hSw).s.cells); clear hSw
    go_simp
    all_goals with_reducible rfl
  simp only [Act.put, List.setIfInBounds_toArray, List.set_cons_zero, List.set_cons_succ]
  refine wpAnyH_at (i := 36) (some 83) (v := ?v36z163) rfl rfl (by kernel_rfl) (by kernel_rfl) (by kernel_rfl) (fun _ _ _ h => h) (Or.inl ⟨by rfl, ?y36z163⟩) (by assumption) ?r36z163
  case y36z163 =>
    intro w9 hSw
    clear hSw
    go_simp
    all_goals with_reducible rfl
  simp only [Act.put, List.setIfInBounds_toArray, List.set_cons_zero, List.set_cons_succ]
  refine wpAnyH_at (i := 37) (some 84) (v := ?v37z164) rfl rfl (by kernel_rfl) (by kernel_rfl) (by kernel_rfl) (fun _ _ _ h => h) (Or.inl ⟨by rfl, ?y37z164⟩) (by assumption) ?r37z164
  case y37z164 =>
    intro w9 hSw
    clear hSw
    go_simp
    all_goals with_reducible rfl
  simp only [Act.put, List.setIfInBounds_toArray, List.set_cons_zero, List.set_cons_succ]
  refine wpAnyH_at (i := 38) (some 85) (v := ?v38z165) rfl rfl (by kernel_rfl) (by kernel_rfl) (by kernel_rfl) (fun _ _ _ h => h) (Or.inl ⟨by rfl, ?y38z165⟩) (by assumption) ?r38z165
  case y38z165 =>
    intro w9 hSw
    clear hSw
    go_simp
    all_goals with_reducible rfl
  simp only [Act.put, List.setIfInBounds_toArray, List.set_cons_zero, List.set_cons_succ]
  refine wpAnyH_at (i := 39) (some 12) (v := ?v39z166) rfl rfl (by kernel_rfl) (by kernel_rfl) (by kernel_rfl) (fun _ _ _ h => h) (Or.inl ⟨by rfl, ?y39z166⟩) (by assumption) ?r39z166
  case y39z166 =>
    intro w9 hSw
    clear hSw
    go_simp
    all_goals with_reducible rfl
  simp only [Act.put, List.setIfInBounds_toArray, List.set_cons_zero, List.set_cons_succ]
  refine wpAnyH_done (by kernel_rfl) ?_ _
  go_wp2
  go_ret
  exact ⟨rfl, hHeld.below⟩
set_option maxRecDepth 100000 in
set_option maxHeartbeats 4000000 in
theorem flags_some_tf (fl a b : Int) (A : Option Addr) (n c : Nat) (xs : List Int) (f t : Int) (w : World) (hr : Rd .u8 w w.heap.size A n c xs) (hf : Ip f) (ht : Ip t) (b0 : 0 ≤ fl ∧ fl ≤ 255) (b1 : 0 ≤ a ∧ a ≤ 255) (b2 : 0 ≤ b ∧ b ≤ 255) (hn : n ≤ 1460) (h0n : 0 < n) (hP : hasB fl a = true) (hQ : hasB fl b = false) :
    Calls Try.prog 4 #[.int .u8 fl, .int .u8 a, .int .u8 b, .slice A n c, .int .u32 f, .int .u32 t] w fun e w' => e = .returned (.bool true) ∧ Below w.heap.size w w' := by
  obtain ⟨m, hm⟩ : ∃ m, 20 + n = m := ⟨_, rfl⟩
  have hcap := hr.cap
  have hmax := hr.max
  have hk : (⟨1, 2, fl⟩ : Hd).ok := ⟨show (0 : Int) ≤ 1 ∧ (1 : Int) ≤ 65535 by omega, show (0 : Int) ≤ 2 ∧ (2 : Int) ≤ 65535 by omega, b0⟩
  obtain ⟨ys, hy⟩ : ∃ ys, mkR ⟨1, 2, fl⟩ f t xs = ys := ⟨_, rfl⟩
  have hxl := hr.len
  have hxw := hr.2.2.2.1
  have Hw : Hid (∀ x ∈ ys, (Lit.int .u8 x).wf = true) := Lib.hid (by rw [← hy]; exact mkR_wf hk hf ht hxw (by omega))
  have Hm : Hid (ys.length = m) := Lib.hid (by rw [← hy, mkR_size]; omega)
  have hd := mkR_drop ⟨1, 2, fl⟩ f t xs
  have c10 := Lib.hid (fun W (q : Rd .u8 W W.heap.size A n c xs) => make_ok ⟨1, 2, fl⟩ A n c xs f t W hk q hf ht (by omega))
  rw [hy] at c10 hd
  rw [hm] at c10
  have m1 : m ≤ 1480 := by omega
  have n1 : ¬ (1460 : Int) < (n : Int) := by omega
  have hm' : (20 : Int) + (n : Int) = (m : Int) := by omega
  have e1 : IntKind.i64.wrap (m : Int) = (m : Int) := by rw [IntKind.wrap_i64]; omega
  have k20 : ¬ m = 20 := by omega
  have j20 : (20 : Int) ≤ (m : Int) := by omega
  have hmn : Hid (m - 20 = n) := Lib.hid (by omega)
  have c8 : Hid (∀ W g, Row W g ys → Rd .u8 W W.heap.size A n c xs → Calls Try.prog 8 #[.slice (some ⟨g, 20, none⟩) (m - 20) (m - 20), .slice A n c] W fun e w' => e = .returned (.bool true) ∧ Below W.heap.size W w') := Lib.hid (fun W g row r => by
    have q := (row.rdW Hm.out (by omega) Hw.out).cutS 20 (by omega) k20
    rw [hd] at q
    exact same_any _ _ _ _ _ _ xs _ _ _ q r)
  have eo := has_or b0 b1 b2
  have en := has_andNot b0 b1
  have ez := has_zero b0
  have es := has_self b0
  rw [hP, hQ] at eo
  rw [hP] at en
  have c11 := fun A n c x W => has_any ⟨1, 2, fl⟩ A n c x W
  dsimp only at c11
  have ca : ∀ A n c W, Calls Try.prog 11 #[pkV ⟨1, 2, fl⟩ A n c, .int .u8 a] W fun e w' => e = .returned (.bool true) ∧ Below W.heap.size W w' := fun A n c W => by
    have := c11 A n c a W
    rwa [hP] at this
  have cb : ∀ A n c W, Calls Try.prog 11 #[pkV ⟨1, 2, fl⟩ A n c, .int .u8 b] W fun e w' => e = .returned (.bool false) ∧ Below W.heap.size W w' := fun A n c W => by
    have := c11 A n c b W
    rwa [hQ] at this
  have co : ∀ A n c W, Calls Try.prog 11 #[pkV ⟨1, 2, fl⟩ A n c, .int .u8 (bits .or .u8 a b)] W fun e w' => e = .returned (.bool false) ∧ Below W.heap.size W w' := fun A n c W => by
    have := c11 A n c (bits .or .u8 a b) W
    rwa [eo] at this
  have cz : ∀ A n c W, Calls Try.prog 11 #[pkV ⟨1, 2, fl⟩ A n c, .int .u8 0] W fun e w' => e = .returned (.bool true) ∧ Below W.heap.size W w' := fun A n c W => by
    have := c11 A n c 0 W
    rwa [ez] at this
  have cf : ∀ A n c W, Calls Try.prog 11 #[pkV ⟨1, 2, fl⟩ A n c, .int .u8 fl] W fun e w' => e = .returned (.bool true) ∧ Below W.heap.size W w' := fun A n c W => by
    have := c11 A n c fl W
    rwa [es] at this
  clear c11 eo ez es hP hQ hd hy hxl hxw hf ht hk hm
  go_enter Try.func4, Try.ntmps4
  go_wp2_with fail
  refine (alive_any _).mono ?_
  rintro ev w1 ⟨rfl, hb⟩
  have r1 := (hr.below hb (Nat.le_refl _)).more hb.size
  go_wp2_with fail
  refine (c10.out _ r1).mono ?_
  rintro ev w2 ⟨g, rfl, row, -, hb2⟩
  have ba := alloc_below w2 (.cells (pkC ⟨1, 2, fl⟩ (some ⟨g, 0, none⟩) m m) 27)
  have k : KF w w2.heap.size ⟨1, 2, fl⟩ g m (w2.alloc (.cells (pkC ⟨1, 2, fl⟩ (some ⟨g, 0, none⟩) m m) 27)) := ⟨(hb.trans (hb2.mono hb.size)).trans (ba.mono (Nat.le_trans hb.size hb2.size)), PkAt.new w2 27 ⟨1, 2, fl⟩ (some ⟨g, 0, none⟩) m m⟩
  replace row := row.below ba row.lt
  have r2 := ((r1.below hb2 (Nat.le_refl _)).below ba hb2.size).more (Nat.le_trans hb2.size ba.size)
  clear hr r1 hb hb2 ba c10
  obtain ⟨a0, a1, a2, a3⟩ := k.s.cells
  go_wp2_with fail
  change Calls _ _ _ (w2.alloc (.cells (pkC ⟨1, 2, fl⟩ (some ⟨g, 0, none⟩) m m) 27)) _
  generalize w2.alloc (.cells (pkC ⟨1, 2, fl⟩ (some ⟨g, 0, none⟩) m m) 27) = W2 at *
  generalize w2.heap.size = gs at *
  refine (c8.out _ _ row r2).mono ?_
  rintro ev w3 ⟨rfl, hb⟩
  replace k := k.step hb
  clear hb row r2 c8 a0 a1 a2 a3
  go_wp2_with fail
  refine wp_region_held_drew (S := fun w' => KF w gs ⟨1, 2, fl⟩ g m w') (by kernel_rfl) (k.step (below_drew _)) (fun hHeld => ?_)
  change wpAnyH _ _ _ _ _ _ _ _ (World.drew _)
  generalize World.drew _ = W4 at *
  clear k
  refine wpAnyH_at (i := 0) (some 47) (v := ?v0z167) rfl rfl (by kernel_rfl) (by kernel_rfl) (by kernel_rfl) (fun _ _ _ h => h) (Or.inl ⟨by rfl, ?y0z167⟩) (by assumption) ?r0z167
  case y0z167 =>
    intro w9 hSw
    (obtain ⟨a0, a1, a2, a3⟩ := (show KF w gs ⟨1, 2, fl⟩ g m w9 from hSw).s.cells); clear hSw
    go_simp
    all_goals with_reducible rfl
  simp only [Act.put, List.setIfInBounds_toArray, List.set_cons_zero, List.set_cons_succ]
  refine wpAnyH_at (i := 1) (some 48) (v := ?v1z168) rfl rfl (by kernel_rfl) (by kernel_rfl) (by kernel_rfl) (fun _ _ _ h => h) (Or.inl ⟨by rfl, ?y1z168⟩) (by assumption) ?r1z168
  case y1z168 =>
    intro w9 hSw
    clear hSw
    go_simp
    all_goals with_reducible rfl
  simp only [Act.put, List.setIfInBounds_toArray, List.set_cons_zero, List.set_cons_succ]
  refine wpAnyH_at (i := 2) (some 49) (v := ?v2z169) rfl rfl (by kernel_rfl) (by kernel_rfl) (by kernel_rfl) (fun _ _ _ h => h) (Or.inl ⟨by rfl, ?y2z169⟩) (by assumption) ?r2z169
  case y2z169 =>
    intro w9 hSw
    clear hSw
    go_simp
    all_goals with_reducible rfl
  simp only [Act.put, List.setIfInBounds_toArray, List.set_cons_zero, List.set_cons_succ]
  refine wpAnyH_at (i := 3) (some 50) (v := ?v3z170) rfl rfl (by kernel_rfl) (by kernel_rfl) (by kernel_rfl) (fun _ _ _ h => h) (Or.inl ⟨by rfl, ?y3z170⟩) (by assumption) ?r3z170
  case y3z170 =>
    intro w9 hSw
    clear hSw
    go_simp
    all_goals with_reducible rfl
  simp only [Act.put, List.setIfInBounds_toArray, List.set_cons_zero, List.set_cons_succ]
  refine wpAnyH_at (i := 5) (some 52) (v := ?v5z171) rfl rfl (by kernel_rfl) (by kernel_rfl) (by kernel_rfl) (fun _ _ _ h => h) (Or.inl ⟨by rfl, ?y5z171⟩) (by assumption) ?r5z171
  case y5z171 =>
    intro w9 hSw
    (obtain ⟨a0, a1, a2, a3⟩ := (show KF w gs ⟨1, 2, fl⟩ g m w9 from hSw).s.cells); clear hSw
    go_simp
    all_goals with_reducible rfl
  simp only [Act.put, List.setIfInBounds_toArray, List.set_cons_zero, List.set_cons_succ]
  refine wpAnyH_at (i := 6) (some 53) (v := ?v6z172) rfl rfl (by kernel_rfl) (by kernel_rfl) (by kernel_rfl) (fun _ _ _ h => h) (Or.inl ⟨by rfl, ?y6z172⟩) (by assumption) ?r6z172
  case y6z172 =>
    intro w9 hSw
    clear hSw
    go_simp
    all_goals with_reducible rfl
  simp only [Act.put, List.setIfInBounds_toArray, List.set_cons_zero, List.set_cons_succ]
  refine wpAnyH_one (i := 4) (by kernel_rfl) rfl ?_
  go_wp2_with (go_at_call 11; refine (co _ _ _ _).mono ?_; rintro ev V5 ⟨rfl, hb⟩)
  replace hHeld := hHeld.step hb
  clear hb
  refine ⟨hHeld, ?_⟩
  try simp only [Act.put, List.setIfInBounds_toArray, List.set_cons_zero, List.set_cons_succ]
  refine wpAnyH_one (i := 7) (by kernel_rfl) rfl ?_
  go_wp2_with (go_at_call 11; refine (ca _ _ _ _).mono ?_; rintro ev V6 ⟨rfl, hb⟩)
  replace hHeld := hHeld.step hb
  clear hb
  refine ⟨hHeld, ?_⟩
  try simp only [Act.put, List.setIfInBounds_toArray, List.set_cons_zero, List.set_cons_succ]
  refine wpAnyH_at (i := 8) (some 55) (v := ?v8z173) rfl rfl (by kernel_rfl) (by kernel_rfl) (by kernel_rfl) (fun _ _ _ h => h) (Or.inl ⟨by rfl, ?y8z173⟩) (by assumption) ?r8z173
  case y8z173 =>
    intro w9 hSw
    clear hSw
    go_simp
    all_goals with_reducible rfl
  simp only [Act.put, List.setIfInBounds_toArray, List.set_cons_zero, List.set_cons_succ]
  refine wpAnyH_at (i := 9) (some 56) (v := ?v9z174) rfl rfl (by kernel_rfl) (by kernel_rfl) (by kernel_rfl) (fun _ _ _ h => h) (Or.inl ⟨by rfl, ?y9z174⟩) (by assumption) ?r9z174
  case y9z174 =>
    intro w9 hSw
    (obtain ⟨a0, a1, a2, a3⟩ := (show KF w gs ⟨1, 2, fl⟩ g m w9 from hSw).s.cells); clear hSw
    go_simp
    all_goals with_reducible rfl
  simp only [Act.put, List.setIfInBounds_toArray, List.set_cons_zero, List.set_cons_succ]
  refine wpAnyH_at (i := 10) (some 57) (v := ?v10z175) rfl rfl (by kernel_rfl) (by kernel_rfl) (by kernel_rfl) (fun _ _ _ h => h) (Or.inl ⟨by rfl, ?y10z175⟩) (by assumption) ?r10z175
  case y10z175 =>
    intro w9 hSw
    clear hSw
    go_simp
    all_goals with_reducible rfl
  simp only [Act.put, List.setIfInBounds_toArray, List.set_cons_zero, List.set_cons_succ]
  refine wpAnyH_one (i := 11) (by kernel_rfl) rfl ?_
  go_wp2_with (go_at_call 11; refine (cb _ _ _ _).mono ?_; rintro ev V7 ⟨rfl, hb⟩)
  replace hHeld := hHeld.step hb
  clear hb
  refine ⟨hHeld, ?_⟩
  try simp only [Act.put, List.setIfInBounds_toArray, List.set_cons_zero, List.set_cons_succ]
  refine wpAnyH_at (i := 12) (some 59) (v := ?v12z176) rfl rfl (by kernel_rfl) (by kernel_rfl) (by kernel_rfl) (fun _ _ _ h => h) (Or.inl ⟨by rfl, ?y12z176⟩) (by assumption) ?r12z176
  case y12z176 =>
    intro w9 hSw
    clear hSw
    go_simp
    all_goals with_reducible rfl
  simp only [Act.put, List.setIfInBounds_toArray, List.set_cons_zero, List.set_cons_succ]
  refine wpAnyH_at (i := 13) (some 60) (v := ?v13z177) rfl rfl (by kernel_rfl) (by kernel_rfl) (by kernel_rfl) (fun _ _ _ h => h) (Or.inl ⟨by rfl, ?y13z177⟩) (by assumption) ?r13z177
  case y13z177 =>
    intro w9 hSw
    clear hSw
    go_simp
    all_goals with_reducible rfl
  simp only [Act.put, List.setIfInBounds_toArray, List.set_cons_zero, List.set_cons_succ]
  refine wpAnyH_at (i := 14) (some 61) (v := ?v14z178) rfl rfl (by kernel_rfl) (by kernel_rfl) (by kernel_rfl) (fun _ _ _ h => h) (Or.inl ⟨by rfl, ?y14z178⟩) (by assumption) ?r14z178
  case y14z178 =>
    intro w9 hSw
    clear hSw
    go_simp
    all_goals with_reducible rfl
  simp only [Act.put, List.setIfInBounds_toArray, List.set_cons_zero, List.set_cons_succ]
  refine wpAnyH_at (i := 15) (some 62) (v := ?v15z179) rfl rfl (by kernel_rfl) (by kernel_rfl) (by kernel_rfl) (fun _ _ _ h => h) (Or.inl ⟨by rfl, ?y15z179⟩) (by assumption) ?r15z179
  case y15z179 =>
    intro w9 hSw
    (obtain ⟨a0, a1, a2, a3⟩ := (show KF w gs ⟨1, 2, fl⟩ g m w9 from hSw).s.cells); clear hSw
    go_simp
    all_goals with_reducible rfl
  simp only [Act.put, List.setIfInBounds_toArray, List.set_cons_zero, List.set_cons_succ]
  refine wpAnyH_one (i := 16) (by kernel_rfl) rfl ?_
  go_wp2_with (go_at_call 11; refine (cz _ _ _ _).mono ?_; rintro ev V8 ⟨rfl, hb⟩)
  replace hHeld := hHeld.step hb
  clear hb
  refine ⟨hHeld, ?_⟩
  try simp only [Act.put, List.setIfInBounds_toArray, List.set_cons_zero, List.set_cons_succ]
  refine wpAnyH_at (i := 17) (some 64) (v := ?v17z180) rfl rfl (by kernel_rfl) (by kernel_rfl) (by kernel_rfl) (fun _ _ _ h => h) (Or.inl ⟨by rfl, ?y17z180⟩) (by assumption) ?r17z180
  case y17z180 =>
    intro w9 hSw
    clear hSw
    go_simp
    all_goals with_reducible rfl
  simp only [Act.put, List.setIfInBounds_toArray, List.set_cons_zero, List.set_cons_succ]
  refine wpAnyH_at (i := 18) (some 65) (v := ?v18z181) rfl rfl (by kernel_rfl) (by kernel_rfl) (by kernel_rfl) (fun _ _ _ h => h) (Or.inl ⟨by rfl, ?y18z181⟩) (by assumption) ?r18z181
  case y18z181 =>
    intro w9 hSw
    clear hSw
    go_simp
    all_goals with_reducible rfl
  simp only [Act.put, List.setIfInBounds_toArray, List.set_cons_zero, List.set_cons_succ]
  refine wpAnyH_at (i := 19) (some 66) (v := ?v19z182) rfl rfl (by kernel_rfl) (by kernel_rfl) (by kernel_rfl) (fun _ _ _ h => h) (Or.inl ⟨by rfl, ?y19z182⟩) (by assumption) ?r19z182
  case y19z182 =>
    intro w9 hSw
    (obtain ⟨a0, a1, a2, a3⟩ := (show KF w gs ⟨1, 2, fl⟩ g m w9 from hSw).s.cells); clear hSw
    go_simp
    all_goals with_reducible rfl
  simp only [Act.put, List.setIfInBounds_toArray, List.set_cons_zero, List.set_cons_succ]
  refine wpAnyH_at (i := 20) (some 67) (v := ?v20z183) rfl rfl (by kernel_rfl) (by kernel_rfl) (by kernel_rfl) (fun _ _ _ h => h) (Or.inl ⟨by rfl, ?y20z183⟩) (by assumption) ?r20z183
  case y20z183 =>
    intro w9 hSw
    clear hSw
    go_simp
    all_goals with_reducible rfl
  simp only [Act.put, List.setIfInBounds_toArray, List.set_cons_zero, List.set_cons_succ]
  refine wpAnyH_one (i := 21) (by kernel_rfl) rfl ?_
  go_wp2_with (go_at_call 11; refine (cf _ _ _ _).mono ?_; rintro ev V9 ⟨rfl, hb⟩)
  replace hHeld := hHeld.step hb
  clear hb
  refine ⟨hHeld, ?_⟩
  try simp only [Act.put, List.setIfInBounds_toArray, List.set_cons_zero, List.set_cons_succ]
  refine wpAnyH_at (i := 22) (some 69) (v := ?v22z184) rfl rfl (by kernel_rfl) (by kernel_rfl) (by kernel_rfl) (fun _ _ _ h => h) (Or.inl ⟨by rfl, ?y22z184⟩) (by assumption) ?r22z184
  case y22z184 =>
    intro w9 hSw
    clear hSw
    go_simp
    all_goals with_reducible rfl
  simp only [Act.put, List.setIfInBounds_toArray, List.set_cons_zero, List.set_cons_succ]
  refine wpAnyH_at (i := 23) (some 70) (v := ?v23z185) rfl rfl (by kernel_rfl) (by kernel_rfl) (by kernel_rfl) (fun _ _ _ h => h) (Or.inl ⟨by rfl, ?y23z185⟩) (by assumption) ?r23z185
  case y23z185 =>
    intro w9 hSw
    clear hSw
    go_simp
    all_goals with_reducible rfl
  simp only [Act.put, List.setIfInBounds_toArray, List.set_cons_zero, List.set_cons_succ]
  refine wpAnyH_at (i := 24) (some 71) (v := ?v24z186) rfl rfl (by kernel_rfl) (by kernel_rfl) (by kernel_rfl) (fun _ _ _ h => h) (Or.inl ⟨by rfl, ?y24z186⟩) (by assumption) ?r24z186
  case y24z186 =>
    intro w9 hSw
    (obtain ⟨a0, a1, a2, a3⟩ := (show KF w gs ⟨1, 2, fl⟩ g m w9 from hSw).s.cells); clear hSw
    go_simp
    all_goals with_reducible rfl
  simp only [Act.put, List.setIfInBounds_toArray, List.set_cons_zero, List.set_cons_succ]
  refine wpAnyH_at (i := 25) (some 72) (v := ?v25z187) rfl rfl (by kernel_rfl) (by kernel_rfl) (by kernel_rfl) (fun _ _ _ h => h) (Or.inl ⟨by rfl, ?y25z187⟩) (by assumption) ?r25z187
  case y25z187 =>
    intro w9 hSw
    clear hSw
    go_simp
    all_goals with_reducible rfl
  simp only [Act.put, List.setIfInBounds_toArray, List.set_cons_zero, List.set_cons_succ]
  refine wpAnyH_at (i := 27) (some 74) (v := ?v27z188) rfl rfl (by kernel_rfl) (by kernel_rfl) (by kernel_rfl) (fun _ _ _ h => h) (Or.inl ⟨by rfl, ?y27z188⟩) (by assumption) ?r27z188
  case y27z188 =>
    intro w9 hSw
    clear hSw
    go_simp
    all_goals with_reducible rfl
  simp only [Act.put, List.setIfInBounds_toArray, List.set_cons_zero, List.set_cons_succ]
  refine wpAnyH_at (i := 28) (some 75) (v := ?v28z189) rfl rfl (by kernel_rfl) (by kernel_rfl) (by kernel_rfl) (fun _ _ _ h => h) (Or.inl ⟨by rfl, ?y28z189⟩) (by assumption) ?r28z189
  case y28z189 =>
    intro w9 hSw
    clear hSw
    go_simp
    all_goals with_reducible rfl
  simp only [Act.put, List.setIfInBounds_toArray, List.set_cons_zero, List.set_cons_succ]
  refine wpAnyH_at (i := 29) (some 76) (v := ?v29z190) rfl rfl (by kernel_rfl) (by kernel_rfl) (by kernel_rfl) (fun _ _ _ h => h) (Or.inl ⟨by rfl, ?y29z190⟩) (by assumption) ?r29z190
  case y29z190 =>
    intro w9 hSw
    clear hSw
    go_simp
    all_goals with_reducible rfl
  simp only [Act.put, List.setIfInBounds_toArray, List.set_cons_zero, List.set_cons_succ]
  refine wpAnyH_at (i := 30) (some 77) (v := ?v30z191) rfl rfl (by kernel_rfl) (by kernel_rfl) (by kernel_rfl) (fun _ _ _ h => h) (Or.inl ⟨by rfl, ?y30z191⟩) (by assumption) ?r30z191
  case y30z191 =>
    intro w9 hSw
    clear hSw
    go_simp
    all_goals with_reducible rfl
  simp only [Act.put, List.setIfInBounds_toArray, List.set_cons_zero, List.set_cons_succ]
  refine wpAnyH_one (i := 26) (by kernel_rfl) rfl ?_
  go_wp2_with (go_at_call 11; refine (ca _ _ _ _).mono ?_; rintro ev V10 ⟨rfl, hb⟩)
  replace hHeld := hHeld.step hb
  clear hb
  refine ⟨hHeld, ?_⟩
  try simp only [Act.put, List.setIfInBounds_toArray, List.set_cons_zero, List.set_cons_succ]
  refine wpAnyH_at (i := 31) (some 78) (v := ?v31z192) rfl rfl (by kernel_rfl) (by kernel_rfl) (by kernel_rfl) (fun _ _ _ h => h) (Or.inl ⟨by rfl, ?y31z192⟩) (by assumption) ?r31z192
  case y31z192 =>
    intro w9 hSw
    clear hSw
    go_simp
    all_goals with_reducible rfl
  simp only [Act.put, List.setIfInBounds_toArray, List.set_cons_zero, List.set_cons_succ]
  refine wpAnyH_at (i := 32) (some 79) (v := ?v32z193) rfl rfl (by kernel_rfl) (by kernel_rfl) (by kernel_rfl) (fun _ _ _ h => h) (Or.inl ⟨by rfl, ?y32z193⟩) (by assumption) ?r32z193
  case y32z193 =>
    intro w9 hSw
    clear hSw
    go_simp
    all_goals with_reducible rfl
  simp only [Act.put, List.setIfInBounds_toArray, List.set_cons_zero, List.set_cons_succ]
  refine wpAnyH_at (i := 33) (some 80) (v := ?v33z194) rfl rfl (by kernel_rfl) (by kernel_rfl) (by kernel_rfl) (fun _ _ _ h => h) (Or.inl ⟨by rfl, ?y33z194⟩) (by assumption) ?r33z194
  case y33z194 =>
    intro w9 hSw
    clear hSw
    go_simp
    all_goals with_reducible rfl
  simp only [Act.put, List.setIfInBounds_toArray, List.set_cons_zero, List.set_cons_succ]
  refine wpAnyH_at (i := 34) (some 81) (v := ?v34z195) rfl rfl (by kernel_rfl) (by kernel_rfl) (by kernel_rfl) (fun _ _ _ h => h) (Or.inl ⟨by rfl, ?y34z195⟩) (by assumption) ?r34z195
  case y34z195 =>
    intro w9 hSw
    clear hSw
    go_simp
    all_goals with_reducible rfl
  simp only [Act.put, List.setIfInBounds_toArray, List.set_cons_zero, List.set_cons_succ]
  refine wpAnyH_at (i := 35) (some 82) (v := ?v35z196) rfl rfl (by kernel_rfl) (by kernel_rfl) (by kernel_rfl) (fun _ _ _ h => h) (Or.inl ⟨by rfl, ?y35z196⟩) (by assumption) ?r35z196
  case y35z196 =>
    intro w9 hSw
    (obtain ⟨a0, a1, a2, a3⟩ := (show KF w gs ⟨1, 2, fl⟩ g m w9 from hSw).s.cells); clear hSw
    go_simp
    all_goals with_reducible rfl
  simp only [Act.put, List.setIfInBounds_toArray, List.set_cons_zero, List.set_cons_succ]
  refine wpAnyH_at (i := 36) (some 83) (v := ?v36z197) rfl rfl (by kernel_rfl) (by kernel_rfl) (by kernel_rfl) (fun _ _ _ h => h) (Or.inl ⟨by rfl, ?y36z197⟩) (by assumption) ?r36z197
  case y36z197 =>
    intro w9 hSw
    clear hSw
    go_simp
    all_goals with_reducible rfl
  simp only [Act.put, List.setIfInBounds_toArray, List.set_cons_zero, List.set_cons_succ]
  refine wpAnyH_at (i := 37) (some 84) (v := ?v37z198) rfl rfl (by kernel_rfl) (by kernel_rfl) (by kernel_rfl) (fun _ _ _ h => h) (Or.inl ⟨by rfl, ?y37z198⟩) (by assumption) ?r37z198
  case y37z198 =>
    intro w9 hSw
    clear hSw
    go_simp
    all_goals with_reducible rfl
  simp only [Act.put, List.setIfInBounds_toArray, List.set_cons_zero, List.set_cons_succ]
  refine wpAnyH_at (i := 38) (some 85) (v := ?v38z199) rfl rfl (by kernel_rfl) (by kernel_rfl) (by kernel_rfl) (fun _ _ _ h => h) (Or.inl ⟨by rfl, ?y38z199⟩) (by assumption) ?r38z199
  case y38z199 =>
    intro w9 hSw
    clear hSw
    go_simp
    all_goals with_reducible rfl
  simp only [Act.put, List.setIfInBounds_toArray, List.set_cons_zero, List.set_cons_succ]
  refine wpAnyH_at (i := 39) (some 12) (v := ?v39z200) rfl rfl (by kernel_rfl) (by kernel_rfl) (by kernel_rfl) (fun _ _ _ h => h) (Or.inl ⟨by rfl, ?y39z200⟩) (by assumption) ?r39z200
  case y39z200 =>
    intro w9 hSw
    clear hSw
    go_simp
    all_goals with_reducible rfl
  simp only [Act.put, List.setIfInBounds_toArray, List.set_cons_zero, List.set_cons_succ]
  refine wpAnyH_done (by kernel_rfl) ?_ _
  go_wp2
  go_ret
  exact ⟨rfl, hHeld.below⟩
set_option maxRecDepth 100000 in
set_option maxHeartbeats 4000000 in
theorem flags_some_ft (fl a b : Int) (A : Option Addr) (n c : Nat) (xs : List Int) (f t : Int) (w : World) (hr : Rd .u8 w w.heap.size A n c xs) (hf : Ip f) (ht : Ip t) (b0 : 0 ≤ fl ∧ fl ≤ 255) (b1 : 0 ≤ a ∧ a ≤ 255) (b2 : 0 ≤ b ∧ b ≤ 255) (hn : n ≤ 1460) (h0n : 0 < n) (hP : hasB fl a = false) (hQ : hasB fl b = true) :
    Calls Try.prog 4 #[.int .u8 fl, .int .u8 a, .int .u8 b, .slice A n c, .int .u32 f, .int .u32 t] w fun e w' => e = .returned (.bool true) ∧ Below w.heap.size w w' := by
  obtain ⟨m, hm⟩ : ∃ m, 20 + n = m := ⟨_, rfl⟩
  have hcap := hr.cap
  have hmax := hr.max
  have hk : (⟨1, 2, fl⟩ : Hd).ok := ⟨show (0 : Int) ≤ 1 ∧ (1 : Int) ≤ 65535 by omega, show (0 : Int) ≤ 2 ∧ (2 : Int) ≤ 65535 by omega, b0⟩
  obtain ⟨ys, hy⟩ : ∃ ys, mkR ⟨1, 2, fl⟩ f t xs = ys := ⟨_, rfl⟩
  have hxl := hr.len
  have hxw := hr.2.2.2.1
  have Hw : Hid (∀ x ∈ ys, (Lit.int .u8 x).wf = true) := Lib.hid (by rw [← hy]; exact mkR_wf hk hf ht hxw (by omega))
  have Hm : Hid (ys.length = m) := Lib.hid (by rw [← hy, mkR_size]; omega)
  have hd := mkR_drop ⟨1, 2, fl⟩ f t xs
  have c10 := Lib.hid (fun W (q : Rd .u8 W W.heap.size A n c xs) => make_ok ⟨1, 2, fl⟩ A n c xs f t W hk q hf ht (by omega))
  rw [hy] at c10 hd
  rw [hm] at c10
  have m1 : m ≤ 1480 := by omega
  have n1 : ¬ (1460 : Int) < (n : Int) := by omega
  have hm' : (20 : Int) + (n : Int) = (m : Int) := by omega
  have e1 : IntKind.i64.wrap (m : Int) = (m : Int) := by rw [IntKind.wrap_i64]; omega
  have k20 : ¬ m = 20 := by omega
  have j20 : (20 : Int) ≤ (m : Int) := by omega
  have hmn : Hid (m - 20 = n) := Lib.hid (by omega)
  have c8 : Hid (∀ W g, Row W g ys → Rd .u8 W W.heap.size A n c xs → Calls Try.prog 8 #[.slice (some ⟨g, 20, none⟩) (m - 20) (m - 20), .slice A n c] W fun e w' => e = .returned (.bool true) ∧ Below W.heap.size W w') := Lib.hid (fun W g row r => by
    have q := (row.rdW Hm.out (by omega) Hw.out).cutS 20 (by omega) k20
    rw [hd] at q
    exact same_any _ _ _ _ _ _ xs _ _ _ q r)
  have eo := has_or b0 b1 b2
  have en := has_andNot b0 b1
  have ez := has_zero b0
  have es := has_self b0
  rw [hP, hQ] at eo
  rw [hP] at en
  have c11 := fun A n c x W => has_any ⟨1, 2, fl⟩ A n c x W
  dsimp only at c11
  have ca : ∀ A n c W, Calls Try.prog 11 #[pkV ⟨1, 2, fl⟩ A n c, .int .u8 a] W fun e w' => e = .returned (.bool false) ∧ Below W.heap.size W w' := fun A n c W => by
    have := c11 A n c a W
    rwa [hP] at this
  have cb : ∀ A n c W, Calls Try.prog 11 #[pkV ⟨1, 2, fl⟩ A n c, .int .u8 b] W fun e w' => e = .returned (.bool true) ∧ Below W.heap.size W w' := fun A n c W => by
    have := c11 A n c b W
    rwa [hQ] at this
  have co : ∀ A n c W, Calls Try.prog 11 #[pkV ⟨1, 2, fl⟩ A n c, .int .u8 (bits .or .u8 a b)] W fun e w' => e = .returned (.bool false) ∧ Below W.heap.size W w' := fun A n c W => by
    have := c11 A n c (bits .or .u8 a b) W
    rwa [eo] at this
  have cz : ∀ A n c W, Calls Try.prog 11 #[pkV ⟨1, 2, fl⟩ A n c, .int .u8 0] W fun e w' => e = .returned (.bool true) ∧ Below W.heap.size W w' := fun A n c W => by
    have := c11 A n c 0 W
    rwa [ez] at this
  have cf : ∀ A n c W, Calls Try.prog 11 #[pkV ⟨1, 2, fl⟩ A n c, .int .u8 fl] W fun e w' => e = .returned (.bool true) ∧ Below W.heap.size W w' := fun A n c W => by
    have := c11 A n c fl W
    rwa [es] at this
  clear c11 eo ez es hP hQ hd hy hxl hxw hf ht hk hm
  go_enter Try.func4, Try.ntmps4
  go_wp2_with fail
  refine (alive_any _).mono ?_
  rintro ev w1 ⟨rfl, hb⟩
  have r1 := (hr.below hb (Nat.le_refl _)).more hb.size
  go_wp2_with fail
  refine (c10.out _ r1).mono ?_
  rintro ev w2 ⟨g, rfl, row, -, hb2⟩
  have ba := alloc_below w2 (.cells (pkC ⟨1, 2, fl⟩ (some ⟨g, 0, none⟩) m m) 27)
  have k : KF w w2.heap.size ⟨1, 2, fl⟩ g m (w2.alloc (.cells (pkC ⟨1, 2, fl⟩ (some ⟨g, 0, none⟩) m m) 27)) := ⟨(hb.trans (hb2.mono hb.size)).trans (ba.mono (Nat.le_trans hb.size hb2.size)), PkAt.new w2 27 ⟨1, 2, fl⟩ (some ⟨g, 0, none⟩) m m⟩
  replace row := row.below ba row.lt
  have r2 := ((r1.below hb2 (Nat.le_refl _)).below ba hb2.size).more (Nat.le_trans hb2.size ba.size)
  clear hr r1 hb hb2 ba c10
  obtain ⟨a0, a1, a2, a3⟩ := k.s.cells
  go_wp2_with fail
  change Calls _ _ _ (w2.alloc (.cells (pkC ⟨1, 2, fl⟩ (some ⟨g, 0, none⟩) m m) 27)) _
  generalize w2.alloc (.cells (pkC ⟨1, 2, fl⟩ (some ⟨g, 0, none⟩) m m) 27) = W2 at *
  generalize w2.heap.size = gs at *
  refine (c8.out _ _ row r2).mono ?_
  rintro ev w3 ⟨rfl, hb⟩
  replace k := k.step hb
  clear hb row r2 c8 a0 a1 a2 a3
  go_wp2_with fail
  refine wp_region_held_drew (S := fun w' => KF w gs ⟨1, 2, fl⟩ g m w') (by kernel_rfl) (k.step (below_drew _)) (fun hHeld => ?_)
  change wpAnyH _ _ _ _ _ _ _ _ (World.drew _)
  generalize World.drew _ = W4 at *
  clear k
  refine wpAnyH_at (i := 0) (some 47) (v := ?v0z201) rfl rfl (by kernel_rfl) (by kernel_rfl) (by kernel_rfl) (fun _ _ _ h => h) (Or.inl ⟨by rfl, ?y0z201⟩) (by assumption) ?r0z201
  case y0z201 =>
    intro w9 hSw
    (obtain ⟨a0, a1, a2, a3⟩ := (show KF w gs ⟨1, 2, fl⟩ g m w9 from hSw).s.cells); clear hSw
    go_simp
    all_goals with_reducible rfl
  simp only [Act.put, List.setIfInBounds_toArray, List.set_cons_zero, List.set_cons_succ]
  refine wpAnyH_at (i := 1) (some 48) (v := ?v1z202) rfl rfl (by kernel_rfl) (by kernel_rfl) (by kernel_rfl) (fun _ _ _ h => h) (Or.inl ⟨by rfl, ?y1z202⟩) (by assumption) ?r1z202
  case y1z202 =>
    intro w9 hSw
    clear hSw
    go_simp
    all_goals with_reducible rfl
  simp only [Act.put, List.setIfInBounds_toArray, List.set_cons_zero, List.set_cons_succ]
  refine wpAnyH_at (i := 2) (some 49) (v := ?v2z203) rfl rfl (by kernel_rfl) (by kernel_rfl) (by kernel_rfl) (fun _ _ _ h => h) (Or.inl ⟨by rfl, ?y2z203⟩) (by assumption) ?r2z203
  case y2z203 =>
    intro w9 hSw
    clear hSw
    go_simp
    all_goals with_reducible rfl
  simp only [Act.put, List.setIfInBounds_toArray, List.set_cons_zero, List.set_cons_succ]
  refine wpAnyH_at (i := 3) (some 50) (v := ?v3z204) rfl rfl (by kernel_rfl) (by kernel_rfl) (by kernel_rfl) (fun _ _ _ h => h) (Or.inl ⟨by rfl, ?y3z204⟩) (by assumption) ?r3z204
  case y3z204 =>
    intro w9 hSw
    clear hSw
    go_simp
    all_goals with_reducible rfl
  simp only [Act.put, List.setIfInBounds_toArray, List.set_cons_zero, List.set_cons_succ]
  refine wpAnyH_at (i := 5) (some 52) (v := ?v5z205) rfl rfl (by kernel_rfl) (by kernel_rfl) (by kernel_rfl) (fun _ _ _ h => h) (Or.inl ⟨by rfl, ?y5z205⟩) (by assumption) ?r5z205
  case y5z205 =>
    intro w9 hSw
    (obtain ⟨a0, a1, a2, a3⟩ := (show KF w gs ⟨1, 2, fl⟩ g m w9 from hSw).s.cells); clear hSw
    go_simp
    all_goals with_reducible rfl
  simp only [Act.put, List.setIfInBounds_toArray, List.set_cons_zero, List.set_cons_succ]
  refine wpAnyH_at (i := 6) (some 53) (v := ?v6z206) rfl rfl (by kernel_rfl) (by kernel_rfl) (by kernel_rfl) (fun _ _ _ h => h) (Or.inl ⟨by rfl, ?y6z206⟩) (by assumption) ?r6z206
  case y6z206 =>
    intro w9 hSw
    clear hSw
    go_simp
    all_goals with_reducible rfl
  simp only [Act.put, List.setIfInBounds_toArray, List.set_cons_zero, List.set_cons_succ]
  refine wpAnyH_one (i := 4) (by kernel_rfl) rfl ?_
  go_wp2_with (go_at_call 11; refine (co _ _ _ _).mono ?_; rintro ev V5 ⟨rfl, hb⟩)
  replace hHeld := hHeld.step hb
  clear hb
  refine ⟨hHeld, ?_⟩
  try simp only [Act.put, List.setIfInBounds_toArray, List.set_cons_zero, List.set_cons_succ]
  refine wpAnyH_one (i := 7) (by kernel_rfl) rfl ?_
  go_wp2_with (go_at_call 11; refine (ca _ _ _ _).mono ?_; rintro ev V6 ⟨rfl, hb⟩)
  replace hHeld := hHeld.step hb
  clear hb
  refine ⟨hHeld, ?_⟩
  try simp only [Act.put, List.setIfInBounds_toArray, List.set_cons_zero, List.set_cons_succ]
  refine wpAnyH_at (i := 8) (some 55) (v := ?v8z207) rfl rfl (by kernel_rfl) (by kernel_rfl) (by kernel_rfl) (fun _ _ _ h => h) (Or.inl ⟨by rfl, ?y8z207⟩) (by assumption) ?r8z207
  case y8z207 =>
    intro w9 hSw
    clear hSw
    go_simp
    all_goals with_reducible rfl
  simp only [Act.put, List.setIfInBounds_toArray, List.set_cons_zero, List.set_cons_succ]
  refine wpAnyH_at (i := 9) (some 56) (v := undef) rfl rfl (by kernel_rfl) (by kernel_rfl) (by kernel_rfl) (fun _ _ _ h => h) (Or.inr ⟨by rfl, rfl⟩) (by assumption) ?_
  simp only [Act.put, List.setIfInBounds_toArray, List.set_cons_zero, List.set_cons_succ]
  refine wpAnyH_at (i := 10) (some 57) (v := undef) rfl rfl (by kernel_rfl) (by kernel_rfl) (by kernel_rfl) (fun _ _ _ h => h) (Or.inr ⟨by rfl, rfl⟩) (by assumption) ?_
  simp only [Act.put, List.setIfInBounds_toArray, List.set_cons_zero, List.set_cons_succ]
  refine wpAnyH_at (i := 11) (some 58) (v := undef) rfl rfl (by kernel_rfl) (by kernel_rfl) (by kernel_rfl) (fun _ _ _ h => h) (Or.inr ⟨by rfl, rfl⟩) (by assumption) ?_
  simp only [Act.put, List.setIfInBounds_toArray, List.set_cons_zero, List.set_cons_succ]
  refine wpAnyH_at (i := 12) (some 59) (v := ?v12z208) rfl rfl (by kernel_rfl) (by kernel_rfl) (by kernel_rfl) (fun _ _ _ h => h) (Or.inl ⟨by rfl, ?y12z208⟩) (by assumption) ?r12z208
  case y12z208 =>
    intro w9 hSw
    clear hSw
    go_simp
    all_goals with_reducible rfl
  simp only [Act.put, List.setIfInBounds_toArray, List.set_cons_zero, List.set_cons_succ]
  refine wpAnyH_at (i := 13) (some 60) (v := ?v13z209) rfl rfl (by kernel_rfl) (by kernel_rfl) (by kernel_rfl) (fun _ _ _ h => h) (Or.inl ⟨by rfl, ?y13z209⟩) (by assumption) ?r13z209
  case y13z209 =>
    intro w9 hSw
    clear hSw
    go_simp
    all_goals with_reducible rfl
  simp only [Act.put, List.setIfInBounds_toArray, List.set_cons_zero, List.set_cons_succ]
  refine wpAnyH_at (i := 14) (some 61) (v := ?v14z210) rfl rfl (by kernel_rfl) (by kernel_rfl) (by kernel_rfl) (fun _ _ _ h => h) (Or.inl ⟨by rfl, ?y14z210⟩) (by assumption) ?r14z210
  case y14z210 =>
    intro w9 hSw
    clear hSw
    go_simp
    all_goals with_reducible rfl
  simp only [Act.put, List.setIfInBounds_toArray, List.set_cons_zero, List.set_cons_succ]
  refine wpAnyH_at (i := 15) (some 62) (v := ?v15z211) rfl rfl (by kernel_rfl) (by kernel_rfl) (by kernel_rfl) (fun _ _ _ h => h) (Or.inl ⟨by rfl, ?y15z211⟩) (by assumption) ?r15z211
  case y15z211 =>
    intro w9 hSw
    (obtain ⟨a0, a1, a2, a3⟩ := (show KF w gs ⟨1, 2, fl⟩ g m w9 from hSw).s.cells); clear hSw
    go_simp
    all_goals with_reducible rfl
  simp only [Act.put, List.setIfInBounds_toArray, List.set_cons_zero, List.set_cons_succ]
  refine wpAnyH_one (i := 16) (by kernel_rfl) rfl ?_
  go_wp2_with (go_at_call 11; refine (cz _ _ _ _).mono ?_; rintro ev V7 ⟨rfl, hb⟩)
  replace hHeld := hHeld.step hb
  clear hb
  refine ⟨hHeld, ?_⟩
  try simp only [Act.put, List.setIfInBounds_toArray, List.set_cons_zero, List.set_cons_succ]
  refine wpAnyH_at (i := 17) (some 64) (v := ?v17z212) rfl rfl (by kernel_rfl) (by kernel_rfl) (by kernel_rfl) (fun _ _ _ h => h) (Or.inl ⟨by rfl, ?y17z212⟩) (by assumption) ?r17z212
  case y17z212 =>
    intro w9 hSw
    clear hSw
    go_simp
    all_goals with_reducible rfl
  simp only [Act.put, List.setIfInBounds_toArray, List.set_cons_zero, List.set_cons_succ]
  refine wpAnyH_at (i := 18) (some 65) (v := ?v18z213) rfl rfl (by kernel_rfl) (by kernel_rfl) (by kernel_rfl) (fun _ _ _ h => h) (Or.inl ⟨by rfl, ?y18z213⟩) (by assumption) ?r18z213
  case y18z213 =>
    intro w9 hSw
    clear hSw
    go_simp
    all_goals with_reducible rfl
  simp only [Act.put, List.setIfInBounds_toArray, List.set_cons_zero, List.set_cons_succ]
  refine wpAnyH_at (i := 19) (some 66) (v := ?v19z214) rfl rfl (by kernel_rfl) (by kernel_rfl) (by kernel_rfl) (fun _ _ _ h => h) (Or.inl ⟨by rfl, ?y19z214⟩) (by assumption) ?r19z214
  case y19z214 =>
    intro w9 hSw
    (obtain ⟨a0, a1, a2, a3⟩ := (show KF w gs ⟨1, 2, fl⟩ g m w9 from hSw).s.cells); clear hSw
    go_simp
    all_goals with_reducible rfl
  simp only [Act.put, List.setIfInBounds_toArray, List.set_cons_zero, List.set_cons_succ]
  refine wpAnyH_at (i := 20) (some 67) (v := ?v20z215) rfl rfl (by kernel_rfl) (by kernel_rfl) (by kernel_rfl) (fun _ _ _ h => h) (Or.inl ⟨by rfl, ?y20z215⟩) (by assumption) ?r20z215
  case y20z215 =>
    intro w9 hSw
    clear hSw
    go_simp
    all_goals with_reducible rfl
  simp only [Act.put, List.setIfInBounds_toArray, List.set_cons_zero, List.set_cons_succ]
  refine wpAnyH_one (i := 21) (by kernel_rfl) rfl ?_
  go_wp2_with (go_at_call 11; refine (cf _ _ _ _).mono ?_; rintro ev V8 ⟨rfl, hb⟩)
  replace hHeld := hHeld.step hb
  clear hb
  refine ⟨hHeld, ?_⟩
  try simp only [Act.put, List.setIfInBounds_toArray, List.set_cons_zero, List.set_cons_succ]
  refine wpAnyH_at (i := 22) (some 69) (v := ?v22z216) rfl rfl (by kernel_rfl) (by kernel_rfl) (by kernel_rfl) (fun _ _ _ h => h) (Or.inl ⟨by rfl, ?y22z216⟩) (by assumption) ?r22z216
  case y22z216 =>
    intro w9 hSw
    clear hSw
    go_simp
    all_goals with_reducible rfl
  simp only [Act.put, List.setIfInBounds_toArray, List.set_cons_zero, List.set_cons_succ]
  refine wpAnyH_at (i := 23) (some 70) (v := ?v23z217) rfl rfl (by kernel_rfl) (by kernel_rfl) (by kernel_rfl) (fun _ _ _ h => h) (Or.inl ⟨by rfl, ?y23z217⟩) (by assumption) ?r23z217
  case y23z217 =>
    intro w9 hSw
    clear hSw
    go_simp
    all_goals with_reducible rfl
  simp only [Act.put, List.setIfInBounds_toArray, List.set_cons_zero, List.set_cons_succ]
  refine wpAnyH_at (i := 24) (some 71) (v := ?v24z218) rfl rfl (by kernel_rfl) (by kernel_rfl) (by kernel_rfl) (fun _ _ _ h => h) (Or.inl ⟨by rfl, ?y24z218⟩) (by assumption) ?r24z218
  case y24z218 =>
    intro w9 hSw
    (obtain ⟨a0, a1, a2, a3⟩ := (show KF w gs ⟨1, 2, fl⟩ g m w9 from hSw).s.cells); clear hSw
    go_simp
    all_goals with_reducible rfl
  simp only [Act.put, List.setIfInBounds_toArray, List.set_cons_zero, List.set_cons_succ]
  refine wpAnyH_at (i := 25) (some 72) (v := ?v25z219) rfl rfl (by kernel_rfl) (by kernel_rfl) (by kernel_rfl) (fun _ _ _ h => h) (Or.inl ⟨by rfl, ?y25z219⟩) (by assumption) ?r25z219
  case y25z219 =>
    intro w9 hSw
    clear hSw
    go_simp
    all_goals with_reducible rfl
  simp only [Act.put, List.setIfInBounds_toArray, List.set_cons_zero, List.set_cons_succ]
  refine wpAnyH_at (i := 27) (some 74) (v := ?v27z220) rfl rfl (by kernel_rfl) (by kernel_rfl) (by kernel_rfl) (fun _ _ _ h => h) (Or.inl ⟨by rfl, ?y27z220⟩) (by assumption) ?r27z220
  case y27z220 =>
    intro w9 hSw
    clear hSw
    go_simp
    all_goals with_reducible rfl
  simp only [Act.put, List.setIfInBounds_toArray, List.set_cons_zero, List.set_cons_succ]
  refine wpAnyH_at (i := 28) (some 75) (v := ?v28z221) rfl rfl (by kernel_rfl) (by kernel_rfl) (by kernel_rfl) (fun _ _ _ h => h) (Or.inl ⟨by rfl, ?y28z221⟩) (by assumption) ?r28z221
  case y28z221 =>
    intro w9 hSw
    clear hSw
    go_simp
    all_goals with_reducible rfl
  simp only [Act.put, List.setIfInBounds_toArray, List.set_cons_zero, List.set_cons_succ]
  refine wpAnyH_at (i := 29) (some 76) (v := ?v29z222) rfl rfl (by kernel_rfl) (by kernel_rfl) (by kernel_rfl) (fun _ _ _ h => h) (Or.inl ⟨by rfl, ?y29z222⟩) (by assumption) ?r29z222
  case y29z222 =>
    intro w9 hSw
    clear hSw
    go_simp
    all_goals with_reducible rfl
  simp only [Act.put, List.setIfInBounds_toArray, List.set_cons_zero, List.set_cons_succ]
  refine wpAnyH_at (i := 30) (some 77) (v := ?v30z223) rfl rfl (by kernel_rfl) (by kernel_rfl) (by kernel_rfl) (fun _ _ _ h => h) (Or.inl ⟨by rfl, ?y30z223⟩) (by assumption) ?r30z223
  case y30z223 =>
    intro w9 hSw
    clear hSw
    go_simp
    all_goals with_reducible rfl
  simp only [Act.put, List.setIfInBounds_toArray, List.set_cons_zero, List.set_cons_succ]
  refine wpAnyH_one (i := 26) (by kernel_rfl) rfl ?_
  go_wp2_with (go_at_call 11; refine (ca _ _ _ _).mono ?_; rintro ev V9 ⟨rfl, hb⟩)
  replace hHeld := hHeld.step hb
  clear hb
  refine ⟨hHeld, ?_⟩
  try simp only [Act.put, List.setIfInBounds_toArray, List.set_cons_zero, List.set_cons_succ]
  refine wpAnyH_at (i := 31) (some 78) (v := ?v31z224) rfl rfl (by kernel_rfl) (by kernel_rfl) (by kernel_rfl) (fun _ _ _ h => h) (Or.inl ⟨by rfl, ?y31z224⟩) (by assumption) ?r31z224
  case y31z224 =>
    intro w9 hSw
    clear hSw
    go_simp
    all_goals with_reducible rfl
  simp only [Act.put, List.setIfInBounds_toArray, List.set_cons_zero, List.set_cons_succ]
  refine wpAnyH_at (i := 32) (some 79) (v := ?v32z225) rfl rfl (by kernel_rfl) (by kernel_rfl) (by kernel_rfl) (fun _ _ _ h => h) (Or.inl ⟨by rfl, ?y32z225⟩) (by assumption) ?r32z225
  case y32z225 =>
    intro w9 hSw
    clear hSw
    go_simp
    all_goals with_reducible rfl
  simp only [Act.put, List.setIfInBounds_toArray, List.set_cons_zero, List.set_cons_succ]
  refine wpAnyH_at (i := 33) (some 80) (v := ?v33z226) rfl rfl (by kernel_rfl) (by kernel_rfl) (by kernel_rfl) (fun _ _ _ h => h) (Or.inl ⟨by rfl, ?y33z226⟩) (by assumption) ?r33z226
  case y33z226 =>
    intro w9 hSw
    clear hSw
    go_simp
    all_goals with_reducible rfl
  simp only [Act.put, List.setIfInBounds_toArray, List.set_cons_zero, List.set_cons_succ]
  refine wpAnyH_at (i := 34) (some 81) (v := ?v34z227) rfl rfl (by kernel_rfl) (by kernel_rfl) (by kernel_rfl) (fun _ _ _ h => h) (Or.inl ⟨by rfl, ?y34z227⟩) (by assumption) ?r34z227
  case y34z227 =>
    intro w9 hSw
    clear hSw
    go_simp
    all_goals with_reducible rfl
  simp only [Act.put, List.setIfInBounds_toArray, List.set_cons_zero, List.set_cons_succ]
  refine wpAnyH_at (i := 35) (some 82) (v := ?v35z228) rfl rfl (by kernel_rfl) (by kernel_rfl) (by kernel_rfl) (fun _ _ _ h => h) (Or.inl ⟨by rfl, ?y35z228⟩) (by assumption) ?r35z228
  case y35z228 =>
    intro w9 hSw
    (obtain ⟨a0, a1, a2, a3⟩ := (show KF w gs ⟨1, 2, fl⟩ g m w9 from hSw).s.cells); clear hSw
    go_simp
    all_goals with_reducible rfl
  simp only [Act.put, List.setIfInBounds_toArray, List.set_cons_zero, List.set_cons_succ]
  refine wpAnyH_at (i := 36) (some 83) (v := ?v36z229) rfl rfl (by kernel_rfl) (by kernel_rfl) (by kernel_rfl) (fun _ _ _ h => h) (Or.inl ⟨by rfl, ?y36z229⟩) (by assumption) ?r36z229
  case y36z229 =>
    intro w9 hSw
    clear hSw
    go_simp
    all_goals with_reducible rfl
  simp only [Act.put, List.setIfInBounds_toArray, List.set_cons_zero, List.set_cons_succ]
  refine wpAnyH_at (i := 37) (some 84) (v := ?v37z230) rfl rfl (by kernel_rfl) (by kernel_rfl) (by kernel_rfl) (fun _ _ _ h => h) (Or.inl ⟨by rfl, ?y37z230⟩) (by assumption) ?r37z230
  case y37z230 =>
    intro w9 hSw
    clear hSw
    go_simp
    all_goals with_reducible rfl
  simp only [Act.put, List.setIfInBounds_toArray, List.set_cons_zero, List.set_cons_succ]
  refine wpAnyH_at (i := 38) (some 85) (v := ?v38z231) rfl rfl (by kernel_rfl) (by kernel_rfl) (by kernel_rfl) (fun _ _ _ h => h) (Or.inl ⟨by rfl, ?y38z231⟩) (by assumption) ?r38z231
  case y38z231 =>
    intro w9 hSw
    clear hSw
    go_simp
    all_goals with_reducible rfl
  simp only [Act.put, List.setIfInBounds_toArray, List.set_cons_zero, List.set_cons_succ]
  refine wpAnyH_at (i := 39) (some 12) (v := ?v39z232) rfl rfl (by kernel_rfl) (by kernel_rfl) (by kernel_rfl) (fun _ _ _ h => h) (Or.inl ⟨by rfl, ?y39z232⟩) (by assumption) ?r39z232
  case y39z232 =>
    intro w9 hSw
    clear hSw
    go_simp
    all_goals with_reducible rfl
  simp only [Act.put, List.setIfInBounds_toArray, List.set_cons_zero, List.set_cons_succ]
  refine wpAnyH_done (by kernel_rfl) ?_ _
  go_wp2
  go_ret
  exact ⟨rfl, hHeld.below⟩
set_option maxRecDepth 100000 in
set_option maxHeartbeats 4000000 in
theorem flags_some_ff (fl a b : Int) (A : Option Addr) (n c : Nat) (xs : List Int) (f t : Int) (w : World) (hr : Rd .u8 w w.heap.size A n c xs) (hf : Ip f) (ht : Ip t) (b0 : 0 ≤ fl ∧ fl ≤ 255) (b1 : 0 ≤ a ∧ a ≤ 255) (b2 : 0 ≤ b ∧ b ≤ 255) (hn : n ≤ 1460) (h0n : 0 < n) (hP : hasB fl a = false) (hQ : hasB fl b = false) :
    Calls Try.prog 4 #[.int .u8 fl, .int .u8 a, .int .u8 b, .slice A n c, .int .u32 f, .int .u32 t] w fun e w' => e = .returned (.bool true) ∧ Below w.heap.size w w' := by
  obtain ⟨m, hm⟩ : ∃ m, 20 + n = m := ⟨_, rfl⟩
  have hcap := hr.cap
  have hmax := hr.max
  have hk : (⟨1, 2, fl⟩ : Hd).ok := ⟨show (0 : Int) ≤ 1 ∧ (1 : Int) ≤ 65535 by omega, show (0 : Int) ≤ 2 ∧ (2 : Int) ≤ 65535 by omega, b0⟩
  obtain ⟨ys, hy⟩ : ∃ ys, mkR ⟨1, 2, fl⟩ f t xs = ys := ⟨_, rfl⟩
  have hxl := hr.len
  have hxw := hr.2.2.2.1
  have Hw : Hid (∀ x ∈ ys, (Lit.int .u8 x).wf = true) := Lib.hid (by rw [← hy]; exact mkR_wf hk hf ht hxw (by omega))
  have Hm : Hid (ys.length = m) := Lib.hid (by rw [← hy, mkR_size]; omega)
  have hd := mkR_drop ⟨1, 2, fl⟩ f t xs
  have c10 := Lib.hid (fun W (q : Rd .u8 W W.heap.size A n c xs) => make_ok ⟨1, 2, fl⟩ A n c xs f t W hk q hf ht (by omega))
  rw [hy] at c10 hd
  rw [hm] at c10
  have m1 : m ≤ 1480 := by omega
  have n1 : ¬ (1460 : Int) < (n : Int) := by omega
  have hm' : (20 : Int) + (n : Int) = (m : Int) := by omega
  have e1 : IntKind.i64.wrap (m : Int) = (m : Int) := by rw [IntKind.wrap_i64]; omega
  have k20 : ¬ m = 20 := by omega
  have j20 : (20 : Int) ≤ (m : Int) := by omega
  have hmn : Hid (m - 20 = n) := Lib.hid (by omega)
  have c8 : Hid (∀ W g, Row W g ys → Rd .u8 W W.heap.size A n c xs → Calls Try.prog 8 #[.slice (some ⟨g, 20, none⟩) (m - 20) (m - 20), .slice A n c] W fun e w' => e = .returned (.bool true) ∧ Below W.heap.size W w') := Lib.hid (fun W g row r => by
    have q := (row.rdW Hm.out (by omega) Hw.out).cutS 20 (by omega) k20
    rw [hd] at q
    exact same_any _ _ _ _ _ _ xs _ _ _ q r)
  have eo := has_or b0 b1 b2
  have en := has_andNot b0 b1
  have ez := has_zero b0
  have es := has_self b0
  rw [hP, hQ] at eo
  rw [hP] at en
  have c11 := fun A n c x W => has_any ⟨1, 2, fl⟩ A n c x W
  dsimp only at c11
  have ca : ∀ A n c W, Calls Try.prog 11 #[pkV ⟨1, 2, fl⟩ A n c, .int .u8 a] W fun e w' => e = .returned (.bool false) ∧ Below W.heap.size W w' := fun A n c W => by
    have := c11 A n c a W
    rwa [hP] at this
  have cb : ∀ A n c W, Calls Try.prog 11 #[pkV ⟨1, 2, fl⟩ A n c, .int .u8 b] W fun e w' => e = .returned (.bool false) ∧ Below W.heap.size W w' := fun A n c W => by
    have := c11 A n c b W
    rwa [hQ] at this
  have co : ∀ A n c W, Calls Try.prog 11 #[pkV ⟨1, 2, fl⟩ A n c, .int .u8 (bits .or .u8 a b)] W fun e w' => e = .returned (.bool false) ∧ Below W.heap.size W w' := fun A n c W => by
    have := c11 A n c (bits .or .u8 a b) W
    rwa [eo] at this
  have cz : ∀ A n c W, Calls Try.prog 11 #[pkV ⟨1, 2, fl⟩ A n c, .int .u8 0] W fun e w' => e = .returned (.bool true) ∧ Below W.heap.size W w' := fun A n c W => by
    have := c11 A n c 0 W
    rwa [ez] at this
  have cf : ∀ A n c W, Calls Try.prog 11 #[pkV ⟨1, 2, fl⟩ A n c, .int .u8 fl] W fun e w' => e = .returned (.bool true) ∧ Below W.heap.size W w' := fun A n c W => by
    have := c11 A n c fl W
    rwa [es] at this
  clear c11 eo ez es hP hQ hd hy hxl hxw hf ht hk hm
  go_enter Try.func4, Try.ntmps4
  go_wp2_with fail
  refine (alive_any _).mono ?_
  rintro ev w1 ⟨rfl, hb⟩
  have r1 := (hr.below hb (Nat.le_refl _)).more hb.size
  go_wp2_with fail
  refine (c10.out _ r1).mono ?_
  rintro ev w2 ⟨g, rfl, row, -, hb2⟩
  have ba := alloc_below w2 (.cells (pkC ⟨1, 2, fl⟩ (some ⟨g, 0, none⟩) m m) 27)
  have k : KF w w2.heap.size ⟨1, 2, fl⟩ g m (w2.alloc (.cells (pkC ⟨1, 2, fl⟩ (some ⟨g, 0, none⟩) m m) 27)) := ⟨(hb.trans (hb2.mono hb.size)).trans (ba.mono (Nat.le_trans hb.size hb2.size)), PkAt.new w2 27 ⟨1, 2, fl⟩ (some ⟨g, 0, none⟩) m m⟩
  replace row := row.below ba row.lt
  have r2 := ((r1.below hb2 (Nat.le_refl _)).below ba hb2.size).more (Nat.le_trans hb2.size ba.size)
  clear hr r1 hb hb2 ba c10
  obtain ⟨a0, a1, a2, a3⟩ := k.s.cells
  go_wp2_with fail
  change Calls _ _ _ (w2.alloc (.cells (pkC ⟨1, 2, fl⟩ (some ⟨g, 0, none⟩) m m) 27)) _
  generalize w2.alloc (.cells (pkC ⟨1, 2, fl⟩ (some ⟨g, 0, none⟩) m m) 27) = W2 at *
  generalize w2.heap.size = gs at *
  refine (c8.out _ _ row r2).mono ?_
  rintro ev w3 ⟨rfl, hb⟩
  replace k := k.step hb
  clear hb row r2 c8 a0 a1 a2 a3
  go_wp2_with fail
  refine wp_region_held_drew (S := fun w' => KF w gs ⟨1, 2, fl⟩ g m w') (by kernel_rfl) (k.step (below_drew _)) (fun hHeld => ?_)
  change wpAnyH _ _ _ _ _ _ _ _ (World.drew _)
  generalize World.drew _ = W4 at *
  clear k
  refine wpAnyH_at (i := 0) (some 47) (v := ?v0z233) rfl rfl (by kernel_rfl) (by kernel_rfl) (by kernel_rfl) (fun _ _ _ h => h) (Or.inl ⟨by rfl, ?y0z233⟩) (by assumption) ?r0z233
  case y0z233 =>
    intro w9 hSw
    (obtain ⟨a0, a1, a2, a3⟩ := (show KF w gs ⟨1, 2, fl⟩ g m w9 from hSw).s.cells); clear hSw
    go_simp
    all_goals with_reducible rfl
  simp only [Act.put, List.setIfInBounds_toArray, List.set_cons_zero, List.set_cons_succ]
  refine wpAnyH_at (i := 1) (some 48) (v := ?v1z234) rfl rfl (by kernel_rfl) (by kernel_rfl) (by kernel_rfl) (fun _ _ _ h => h) (Or.inl ⟨by rfl, ?y1z234⟩) (by assumption) ?r1z234
  case y1z234 =>
    intro w9 hSw
    clear hSw
    go_simp
    all_goals with_reducible rfl
  simp only [Act.put, List.setIfInBounds_toArray, List.set_cons_zero, List.set_cons_succ]
  refine wpAnyH_at (i := 2) (some 49) (v := ?v2z235) rfl rfl (by kernel_rfl) (by kernel_rfl) (by kernel_rfl) (fun _ _ _ h => h) (Or.inl ⟨by rfl, ?y2z235⟩) (by assumption) ?r2z235
  case y2z235 =>
    intro w9 hSw
    clear hSw
    go_simp
    all_goals with_reducible rfl
  simp only [Act.put, List.setIfInBounds_toArray, List.set_cons_zero, List.set_cons_succ]
  refine wpAnyH_at (i := 3) (some 50) (v := ?v3z236) rfl rfl (by kernel_rfl) (by kernel_rfl) (by kernel_rfl) (fun _ _ _ h => h) (Or.inl ⟨by rfl, ?y3z236⟩) (by assumption) ?r3z236
  case y3z236 =>
    intro w9 hSw
    clear hSw
    go_simp
    all_goals with_reducible rfl
  simp only [Act.put, List.setIfInBounds_toArray, List.set_cons_zero, List.set_cons_succ]
  refine wpAnyH_at (i := 5) (some 52) (v := ?v5z237) rfl rfl (by kernel_rfl) (by kernel_rfl) (by kernel_rfl) (fun _ _ _ h => h) (Or.inl ⟨by rfl, ?y5z237⟩) (by assumption) ?r5z237
  case y5z237 =>
    intro w9 hSw
    (obtain ⟨a0, a1, a2, a3⟩ := (show KF w gs ⟨1, 2, fl⟩ g m w9 from hSw).s.cells); clear hSw
    go_simp
    all_goals with_reducible rfl
  simp only [Act.put, List.setIfInBounds_toArray, List.set_cons_zero, List.set_cons_succ]
  refine wpAnyH_at (i := 6) (some 53) (v := ?v6z238) rfl rfl (by kernel_rfl) (by kernel_rfl) (by kernel_rfl) (fun _ _ _ h => h) (Or.inl ⟨by rfl, ?y6z238⟩) (by assumption) ?r6z238
  case y6z238 =>
    intro w9 hSw
    clear hSw
    go_simp
    all_goals with_reducible rfl
  simp only [Act.put, List.setIfInBounds_toArray, List.set_cons_zero, List.set_cons_succ]
  refine wpAnyH_one (i := 4) (by kernel_rfl) rfl ?_
  go_wp2_with (go_at_call 11; refine (co _ _ _ _).mono ?_; rintro ev V5 ⟨rfl, hb⟩)
  replace hHeld := hHeld.step hb
  clear hb
  refine ⟨hHeld, ?_⟩
  try simp only [Act.put, List.setIfInBounds_toArray, List.set_cons_zero, List.set_cons_succ]
  refine wpAnyH_one (i := 7) (by kernel_rfl) rfl ?_
  go_wp2_with (go_at_call 11; refine (ca _ _ _ _).mono ?_; rintro ev V6 ⟨rfl, hb⟩)
  replace hHeld := hHeld.step hb
  clear hb
  refine ⟨hHeld, ?_⟩
  try simp only [Act.put, List.setIfInBounds_toArray, List.set_cons_zero, List.set_cons_succ]
  refine wpAnyH_at (i := 8) (some 55) (v := ?v8z239) rfl rfl (by kernel_rfl) (by kernel_rfl) (by kernel_rfl) (fun _ _ _ h => h) (Or.inl ⟨by rfl, ?y8z239⟩) (by assumption) ?r8z239
  case y8z239 =>
    intro w9 hSw
    clear hSw
    go_simp
    all_goals with_reducible rfl
  simp only [Act.put, List.setIfInBounds_toArray, List.set_cons_zero, List.set_cons_succ]
  refine wpAnyH_at (i := 9) (some 56) (v := undef) rfl rfl (by kernel_rfl) (by kernel_rfl) (by kernel_rfl) (fun _ _ _ h => h) (Or.inr ⟨by rfl, rfl⟩) (by assumption) ?_
  simp only [Act.put, List.setIfInBounds_toArray, List.set_cons_zero, List.set_cons_succ]
  refine wpAnyH_at (i := 10) (some 57) (v := undef) rfl rfl (by kernel_rfl) (by kernel_rfl) (by kernel_rfl) (fun _ _ _ h => h) (Or.inr ⟨by rfl, rfl⟩) (by assumption) ?_
  simp only [Act.put, List.setIfInBounds_toArray, List.set_cons_zero, List.set_cons_succ]
  refine wpAnyH_at (i := 11) (some 58) (v := undef) rfl rfl (by kernel_rfl) (by kernel_rfl) (by kernel_rfl) (fun _ _ _ h => h) (Or.inr ⟨by rfl, rfl⟩) (by assumption) ?_
  simp only [Act.put, List.setIfInBounds_toArray, List.set_cons_zero, List.set_cons_succ]
  refine wpAnyH_at (i := 12) (some 59) (v := ?v12z240) rfl rfl (by kernel_rfl) (by kernel_rfl) (by kernel_rfl) (fun _ _ _ h => h) (Or.inl ⟨by rfl, ?y12z240⟩) (by assumption) ?r12z240
  case y12z240 =>
    intro w9 hSw
    clear hSw
    go_simp
    all_goals with_reducible rfl
  simp only [Act.put, List.setIfInBounds_toArray, List.set_cons_zero, List.set_cons_succ]
  refine wpAnyH_at (i := 13) (some 60) (v := ?v13z241) rfl rfl (by kernel_rfl) (by kernel_rfl) (by kernel_rfl) (fun _ _ _ h => h) (Or.inl ⟨by rfl, ?y13z241⟩) (by assumption) ?r13z241
  case y13z241 =>
    intro w9 hSw
    clear hSw
    go_simp
    all_goals with_reducible rfl
  simp only [Act.put, List.setIfInBounds_toArray, List.set_cons_zero, List.set_cons_succ]
  refine wpAnyH_at (i := 14) (some 61) (v := ?v14z242) rfl rfl (by kernel_rfl) (by kernel_rfl) (by kernel_rfl) (fun _ _ _ h => h) (Or.inl ⟨by rfl, ?y14z242⟩) (by assumption) ?r14z242
  case y14z242 =>
    intro w9 hSw
    clear hSw
    go_simp
    all_goals with_reducible rfl
  simp only [Act.put, List.setIfInBounds_toArray, List.set_cons_zero, List.set_cons_succ]
  refine wpAnyH_at (i := 15) (some 62) (v := ?v15z243) rfl rfl (by kernel_rfl) (by kernel_rfl) (by kernel_rfl) (fun _ _ _ h => h) (Or.inl ⟨by rfl, ?y15z243⟩) (by assumption) ?r15z243
  case y15z243 =>
    intro w9 hSw
    (obtain ⟨a0, a1, a2, a3⟩ := (show KF w gs ⟨1, 2, fl⟩ g m w9 from hSw).s.cells); clear hSw
    go_simp
    all_goals with_reducible rfl
  simp only [Act.put, List.setIfInBounds_toArray, List.set_cons_zero, List.set_cons_succ]
  refine wpAnyH_one (i := 16) (by kernel_rfl) rfl ?_
  go_wp2_with (go_at_call 11; refine (cz _ _ _ _).mono ?_; rintro ev V7 ⟨rfl, hb⟩)
  replace hHeld := hHeld.step hb
  clear hb
  refine ⟨hHeld, ?_⟩
  try simp only [Act.put, List.setIfInBounds_toArray, List.set_cons_zero, List.set_cons_succ]
  refine wpAnyH_at (i := 17) (some 64) (v := ?v17z244) rfl rfl (by kernel_rfl) (by kernel_rfl) (by kernel_rfl) (fun _ _ _ h => h) (Or.inl ⟨by rfl, ?y17z244⟩) (by assumption) ?r17z244
  case y17z244 =>
    intro w9 hSw
    clear hSw
    go_simp
    all_goals with_reducible rfl
  simp only [Act.put, List.setIfInBounds_toArray, List.set_cons_zero, List.set_cons_succ]
  refine wpAnyH_at (i := 18) (some 65) (v := ?v18z245) rfl rfl (by kernel_rfl) (by kernel_rfl) (by kernel_rfl) (fun _ _ _ h => h) (Or.inl ⟨by rfl, ?y18z245⟩) (by assumption) ?r18z245
  case y18z245 =>
    intro w9 hSw
    clear hSw
    go_simp
    all_goals with_reducible rfl
  simp only [Act.put, List.setIfInBounds_toArray, List.set_cons_zero, List.set_cons_succ]
  refine wpAnyH_at (i := 19) (some 66) (v := ?v19z246) rfl rfl (by kernel_rfl) (by kernel_rfl) (by kernel_rfl) (fun _ _ _ h => h) (Or.inl ⟨by rfl, ?y19z246⟩) (by assumption) ?r19z246
  case y19z246 =>
    intro w9 hSw
    (obtain ⟨a0, a1, a2, a3⟩ := (show KF w gs ⟨1, 2, fl⟩ g m w9 from hSw).s.cells); clear hSw
    go_simp
    all_goals with_reducible rfl
  simp only [Act.put, List.setIfInBounds_toArray, List.set_cons_zero, List.set_cons_succ]
  refine wpAnyH_at (i := 20) (some 67) (v := ?v20z247) rfl rfl (by kernel_rfl) (by kernel_rfl) (by kernel_rfl) (fun _ _ _ h => h) (Or.inl ⟨by rfl, ?y20z247⟩) (by assumption) ?r20z247
  case y20z247 =>
    intro w9 hSw
    clear hSw
    go_simp
    all_goals with_reducible rfl
  simp only [Act.put, List.setIfInBounds_toArray, List.set_cons_zero, List.set_cons_succ]
  refine wpAnyH_one (i := 21) (by kernel_rfl) rfl ?_
  go_wp2_with (go_at_call 11; refine (cf _ _ _ _).mono ?_; rintro ev V8 ⟨rfl, hb⟩)
  replace hHeld := hHeld.step hb
  clear hb
  refine ⟨hHeld, ?_⟩
  try simp only [Act.put, List.setIfInBounds_toArray, List.set_cons_zero, List.set_cons_succ]
  refine wpAnyH_at (i := 22) (some 69) (v := ?v22z248) rfl rfl (by kernel_rfl) (by kernel_rfl) (by kernel_rfl) (fun _ _ _ h => h) (Or.inl ⟨by rfl, ?y22z248⟩) (by assumption) ?r22z248
  case y22z248 =>
    intro w9 hSw
    clear hSw
    go_simp
    all_goals with_reducible rfl
  simp only [Act.put, List.setIfInBounds_toArray, List.set_cons_zero, List.set_cons_succ]
  refine wpAnyH_at (i := 23) (some 70) (v := ?v23z249) rfl rfl (by kernel_rfl) (by kernel_rfl) (by kernel_rfl) (fun _ _ _ h => h) (Or.inl ⟨by rfl, ?y23z249⟩) (by assumption) ?r23z249
  case y23z249 =>
    intro w9 hSw
    clear hSw
    go_simp
    all_goals with_reducible rfl
  simp only [Act.put, List.setIfInBounds_toArray, List.set_cons_zero, List.set_cons_succ]
  refine wpAnyH_at (i := 24) (some 71) (v := ?v24z250) rfl rfl (by kernel_rfl) (by kernel_rfl) (by kernel_rfl) (fun _ _ _ h => h) (Or.inl ⟨by rfl, ?y24z250⟩) (by assumption) ?r24z250
  case y24z250 =>
    intro w9 hSw
    (obtain ⟨a0, a1, a2, a3⟩ := (show KF w gs ⟨1, 2, fl⟩ g m w9 from hSw).s.cells); clear hSw
    go_simp
    all_goals with_reducible rfl
  simp only [Act.put, List.setIfInBounds_toArray, List.set_cons_zero, List.set_cons_succ]
  refine wpAnyH_at (i := 25) (some 72) (v := ?v25z251) rfl rfl (by kernel_rfl) (by kernel_rfl) (by kernel_rfl) (fun _ _ _ h => h) (Or.inl ⟨by rfl, ?y25z251⟩) (by assumption) ?r25z251
  case y25z251 =>
    intro w9 hSw
    clear hSw
    go_simp
    all_goals with_reducible rfl
  simp only [Act.put, List.setIfInBounds_toArray, List.set_cons_zero, List.set_cons_succ]
  refine wpAnyH_at (i := 27) (some 74) (v := ?v27z252) rfl rfl (by kernel_rfl) (by kernel_rfl) (by kernel_rfl) (fun _ _ _ h => h) (Or.inl ⟨by rfl, ?y27z252⟩) (by assumption) ?r27z252
  case y27z252 =>
    intro w9 hSw
    clear hSw
    go_simp
    all_goals with_reducible rfl
  simp only [Act.put, List.setIfInBounds_toArray, List.set_cons_zero, List.set_cons_succ]
  refine wpAnyH_at (i := 28) (some 75) (v := ?v28z253) rfl rfl (by kernel_rfl) (by kernel_rfl) (by kernel_rfl) (fun _ _ _ h => h) (Or.inl ⟨by rfl, ?y28z253⟩) (by assumption) ?r28z253
  case y28z253 =>
    intro w9 hSw
    clear hSw
    go_simp
    all_goals with_reducible rfl
  simp only [Act.put, List.setIfInBounds_toArray, List.set_cons_zero, List.set_cons_succ]
  refine wpAnyH_at (i := 29) (some 76) (v := ?v29z254) rfl rfl (by kernel_rfl) (by kernel_rfl) (by kernel_rfl) (fun _ _ _ h => h) (Or.inl ⟨by rfl, ?y29z254⟩) (by assumption) ?r29z254
  case y29z254 =>
    intro w9 hSw
    clear hSw
    go_simp
    all_goals with_reducible rfl
  simp only [Act.put, List.setIfInBounds_toArray, List.set_cons_zero, List.set_cons_succ]
  refine wpAnyH_at (i := 30) (some 77) (v := ?v30z255) rfl rfl (by kernel_rfl) (by kernel_rfl) (by kernel_rfl) (fun _ _ _ h => h) (Or.inl ⟨by rfl, ?y30z255⟩) (by assumption) ?r30z255
  case y30z255 =>
    intro w9 hSw
    clear hSw
    go_simp
    all_goals with_reducible rfl
  simp only [Act.put, List.setIfInBounds_toArray, List.set_cons_zero, List.set_cons_succ]
  refine wpAnyH_one (i := 26) (by kernel_rfl) rfl ?_
  go_wp2_with (go_at_call 11; refine (ca _ _ _ _).mono ?_; rintro ev V9 ⟨rfl, hb⟩)
  replace hHeld := hHeld.step hb
  clear hb
  refine ⟨hHeld, ?_⟩
  try simp only [Act.put, List.setIfInBounds_toArray, List.set_cons_zero, List.set_cons_succ]
  refine wpAnyH_at (i := 31) (some 78) (v := ?v31z256) rfl rfl (by kernel_rfl) (by kernel_rfl) (by kernel_rfl) (fun _ _ _ h => h) (Or.inl ⟨by rfl, ?y31z256⟩) (by assumption) ?r31z256
  case y31z256 =>
    intro w9 hSw
    clear hSw
    go_simp
    all_goals with_reducible rfl
  simp only [Act.put, List.setIfInBounds_toArray, List.set_cons_zero, List.set_cons_succ]
  refine wpAnyH_at (i := 32) (some 79) (v := ?v32z257) rfl rfl (by kernel_rfl) (by kernel_rfl) (by kernel_rfl) (fun _ _ _ h => h) (Or.inl ⟨by rfl, ?y32z257⟩) (by assumption) ?r32z257
  case y32z257 =>
    intro w9 hSw
    clear hSw
    go_simp
    all_goals with_reducible rfl
  simp only [Act.put, List.setIfInBounds_toArray, List.set_cons_zero, List.set_cons_succ]
  refine wpAnyH_at (i := 33) (some 80) (v := ?v33z258) rfl rfl (by kernel_rfl) (by kernel_rfl) (by kernel_rfl) (fun _ _ _ h => h) (Or.inl ⟨by rfl, ?y33z258⟩) (by assumption) ?r33z258
  case y33z258 =>
    intro w9 hSw
    clear hSw
    go_simp
    all_goals with_reducible rfl
  simp only [Act.put, List.setIfInBounds_toArray, List.set_cons_zero, List.set_cons_succ]
  refine wpAnyH_at (i := 34) (some 81) (v := ?v34z259) rfl rfl (by kernel_rfl) (by kernel_rfl) (by kernel_rfl) (fun _ _ _ h => h) (Or.inl ⟨by rfl, ?y34z259⟩) (by assumption) ?r34z259
  case y34z259 =>
    intro w9 hSw
    clear hSw
    go_simp
    all_goals with_reducible rfl
  simp only [Act.put, List.setIfInBounds_toArray, List.set_cons_zero, List.set_cons_succ]
  refine wpAnyH_at (i := 35) (some 82) (v := ?v35z260) rfl rfl (by kernel_rfl) (by kernel_rfl) (by kernel_rfl) (fun _ _ _ h => h) (Or.inl ⟨by rfl, ?y35z260⟩) (by assumption) ?r35z260
  case y35z260 =>
    intro w9 hSw
    (obtain ⟨a0, a1, a2, a3⟩ := (show KF w gs ⟨1, 2, fl⟩ g m w9 from hSw).s.cells); clear hSw
    go_simp
    all_goals with_reducible rfl
  simp only [Act.put, List.setIfInBounds_toArray, List.set_cons_zero, List.set_cons_succ]
  refine wpAnyH_at (i := 36) (some 83) (v := ?v36z261) rfl rfl (by kernel_rfl) (by kernel_rfl) (by kernel_rfl) (fun _ _ _ h => h) (Or.inl ⟨by rfl, ?y36z261⟩) (by assumption) ?r36z261
  case y36z261 =>
    intro w9 hSw
    clear hSw
    go_simp
    all_goals with_reducible rfl
  simp only [Act.put, List.setIfInBounds_toArray, List.set_cons_zero, List.set_cons_succ]
  refine wpAnyH_at (i := 37) (some 84) (v := ?v37z262) rfl rfl (by kernel_rfl) (by kernel_rfl) (by kernel_rfl) (fun _ _ _ h => h) (Or.inl ⟨by rfl, ?y37z262⟩) (by assumption) ?r37z262
  case y37z262 =>
    intro w9 hSw
    clear hSw
    go_simp
    all_goals with_reducible rfl
  simp only [Act.put, List.setIfInBounds_toArray, List.set_cons_zero, List.set_cons_succ]
  refine wpAnyH_at (i := 38) (some 85) (v := ?v38z263) rfl rfl (by kernel_rfl) (by kernel_rfl) (by kernel_rfl) (fun _ _ _ h => h) (Or.inl ⟨by rfl, ?y38z263⟩) (by assumption) ?r38z263
  case y38z263 =>
    intro w9 hSw
    clear hSw
    go_simp
    all_goals with_reducible rfl
  simp only [Act.put, List.setIfInBounds_toArray, List.set_cons_zero, List.set_cons_succ]
  refine wpAnyH_at (i := 39) (some 12) (v := ?v39z264) rfl rfl (by kernel_rfl) (by kernel_rfl) (by kernel_rfl) (fun _ _ _ h => h) (Or.inl ⟨by rfl, ?y39z264⟩) (by assumption) ?r39z264
  case y39z264 =>
    intro w9 hSw
    clear hSw
    go_simp
    all_goals with_reducible rfl
  simp only [Act.put, List.setIfInBounds_toArray, List.set_cons_zero, List.set_cons_succ]
  refine wpAnyH_done (by kernel_rfl) ?_ _
  go_wp2
  go_ret
  exact ⟨rfl, hHeld.below⟩
end Go.Proofs.Ytggnkmllbpgfoaa
