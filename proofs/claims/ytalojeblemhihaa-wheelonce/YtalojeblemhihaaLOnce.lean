/-
  The law WheelOnce: each timer once, in order.
-/
import Derived.Test.YtalojeblemhihaaOnce
namespace Go.Proofs.Ytalojeblemhihaa
open Go.RowKit
set_option linter.unusedVariables false

theorem ToAt.lt {w : World} {b : Nat} {L : List Int} (h : ToAt w b L) : b < w.heap.size := let ⟨_, h1, _⟩ := h; h1.lt
theorem ToAt.look2 {w : World} {b : Nat} {L : List Int} {t : Int} (h : ToAt w b L) (hw : wfI t) (m : Nat) : (Instr.lookup 45 (.map (some b)) (.int .i64 t) false).run Try.prog (w.drewN m) = .ok (.bool (decide (t ∈ L))) (w.drewN m) :=
  (h.kept (S := fun _ => False) (Kept.of_below (dN w m)) (fun h => h)).look hw
theorem u32_bd {x : Int} (h : (Lit.int .u32 x).wf = true) : 0 ≤ x ∧ x ≤ 4294967295 := by simpa [Lit.wf, IntKind.min, IntKind.max, IntKind.signed, IntKind.bits] using h
set_option maxRecDepth 100000 in
set_option maxHeartbeats 2000000 in
theorem once_out1 (A : Option Addr) (n c : Nat) (ds : List Int) (A2 : Option Addr) (n2 c2 : Nat) (ss : List Int) (w : World) (H : Rd .u64 w w.heap.size A n c ds) (H2 : Rd .u32 w w.heap.size A2 n2 c2 ss) (h1 : 60 < n) : Calls Try.prog 4 #[.slice A n c, .slice A2 n2 c2] w fun e w' => e = .returned (.bool true) ∧ Below w.heap.size w w' := by
  have AL := alive_any w
  have hi : (60 : Int) < (n : Int) := by omega
  clear H H2
  go_enter Try.func4, Try.ntmps4
  go_wp2_with fail
  refine AL.mono ?_
  rintro ev w1 ⟨rfl, b1⟩
  clear AL
  go_wp2
  go_ret
  exact ⟨rfl, b1⟩
set_option maxRecDepth 100000 in
set_option maxHeartbeats 2000000 in
theorem once_out2 (A : Option Addr) (n c : Nat) (ds : List Int) (A2 : Option Addr) (n2 c2 : Nat) (ss : List Int) (w : World) (H : Rd .u64 w w.heap.size A n c ds) (H2 : Rd .u32 w w.heap.size A2 n2 c2 ss) (h1 : ¬ 60 < n) (h2 : 60 < n2) : Calls Try.prog 4 #[.slice A n c, .slice A2 n2 c2] w fun e w' => e = .returned (.bool true) ∧ Below w.heap.size w w' := by
  have AL := alive_any w
  have hi : ¬ (60 : Int) < (n : Int) := by omega
  have hj : (60 : Int) < (n2 : Int) := by omega
  clear H H2
  go_enter Try.func4, Try.ntmps4
  go_wp2_with fail
  refine AL.mono ?_
  rintro ev w1 ⟨rfl, b1⟩
  clear AL
  go_wp2
  go_ret
  exact ⟨rfl, b1⟩
theorem o_len {R : List Tm} (hO : Ok R) (t : Int) (d : Nat) : (setT t d R).length ≤ R.length + 1 := by rw [hO.len_set]; split <;> omega
theorem o_int {t : Int} (h : -1 ≤ t) (h2 : t ≤ 100) : wfI t := by
  show (Lit.int .i64 t).wf = true
  simp [Lit.wf, IntKind.min, IntKind.max, IntKind.signed, IntKind.bits]
  omega
set_option maxRecDepth 100000 in
set_option maxHeartbeats 2000000 in
theorem once_in (A : Option Addr) (n c : Nat) (ds : List Int) (A2 : Option Addr) (n2 c2 : Nat) (ss : List Int) (w : World) (H : Rd .u64 w w.heap.size A n c ds) (H2 : Rd .u32 w w.heap.size A2 n2 c2 ss) (h1 : ¬ 60 < n) (h2 : ¬ 60 < n2) : Calls Try.prog 4 #[.slice A n c, .slice A2 n2 c2] w fun e w' => e = .returned (.bool true) ∧ Below w.heap.size w w' := by
  have AL := alive_any w
  have hi1 : ¬ (60 : Int) < (n : Int) := by omega
  have hj1 : ¬ (60 : Int) < (n2 : Int) := by omega
  have hcap := H.max
  have hcap1 := H.cap
  have hcap2 := H2.max
  have hcap3 := H2.cap
  go_enter Try.func4, Try.ntmps4
  go_wp2_with fail
  refine AL.mono ?_
  rintro ev w1 ⟨rfl, b1⟩
  clear AL
  go_wp2_with fail
  refine (wnew 0 (by omega) w1).mono ?_
  rintro ev w2 ⟨hi, p, rfl, T3, k2⟩
  have b3 := b1.step k2 (Nat.le_refl _)
  have hlo := b1.size
  generalize w1.heap.size = lo at *
  clear k2 b1
  go_wp2
  go_loopw [7] (fun i wr => ∃ (k : Nat) (R : List Tm), k ≤ n ∧ i = .int .i64 k ∧ Whl wr lo hi p 0 R ∧ InitR k ds R ∧ R.length ≤ k ∧ Below w.heap.size w wr) (fun i _ => n - (intOf i).toNat)
  case atStart => exact ⟨0, [], Nat.zero_le _, rfl, T3, InitR.zero, Nat.le_refl _, b3⟩
  case round =>
    obtain ⟨k, R, hk, rfl, T, hI, hl, b⟩ := hrel
    clear T3 b3
    have hTb := T.bounds
    have hO := hTb.2.2.2.2.1
    by_cases hkn : k < n
    · have hki : (k : Int) < (n : Int) := by omega
      obtain ⟨bs, os, rfl, hBs, cs⟩ := (H.below b (Nat.le_refl _)).at_ hkn
      have hwf := H.wf hkn
      obtain ⟨xi, hdx⟩ : ∃ x, ds.getD k 0 = x := ⟨_, rfl⟩
      rw [hdx] at cs hwf
      have hxb := u64_bd hwf
      obtain ⟨x, rfl⟩ := Int.eq_ofNat_of_zero_le hxb.1
      have hwk : wfI (k : Int) := o_int (by omega) (by omega)
      have hno := hI.has
      by_cases hx : x ≤ 4611686018427387904
      · skip
        have hle : (x : Int) ≤ 4611686018427387904 := by omega
        have hI2 := hI.yes hdx hx
        have e : setE (k : Int) x R = 0 := setE_mk hx (fun h => by omega)
        have e' : setR (k : Int) x R = setT (k : Int) x R := by unfold setR; rw [if_pos e]
        have hl' := o_len hO (k : Int) x
        have DD := wset (T.new (below_drew wr)) (k : Int) hwk x (by omega)
        rw [e, e'] at DD
        have hbz := b.size
        have b1 := b.step (below_drew wr) (Nat.le_refl _)
        have hS0 : wr.drew.cell? ⟨bs, os + k, none⟩ = some (.int .u64 (x : Nat)) := by simpa using cs
        clear e e' hI hdx hx hwf hxb b T
        go_wp2
        refine wp_region_held_drew (S := fun W => W.cell? ⟨bs, os + k, none⟩ = some (.int .u64 (x : Nat))) (by kernel_rfl) hS0 (fun hHeld => ?_)
        change wpAnyH _ _ _ _ _ _ _ _ (World.drew _)
        clear hS0 cs
        generalize World.drew wr = W0 at *
        refine wpAnyH_at (i := 0) (some 42) (v := ?v0z169) rfl rfl (by kernel_rfl) (by kernel_rfl) (by kernel_rfl) (fun _ _ _ h => h) (Or.inl ⟨by rfl, ?y0z169⟩) (by assumption) ?r0z169
        case y0z169 =>
          intro w9 hSw
          replace hSw : w9.cell? ⟨bs, os + k, none⟩ = some (.int .u64 (x : Nat)) := hSw
          go_simp
          all_goals with_reducible rfl
        simp only [Act.put, List.setIfInBounds_toArray, List.set_cons_zero, List.set_cons_succ]
        refine wpAnyH_at (i := 1) (some 43) (v := ?v1z170) rfl rfl (by kernel_rfl) (by kernel_rfl) (by kernel_rfl) (fun _ _ _ h => h) (Or.inl ⟨by rfl, ?y1z170⟩) (by assumption) ?r1z170
        case y1z170 =>
          intro w9 hSw
          replace hSw : w9.cell? ⟨bs, os + k, none⟩ = some (.int .u64 (x : Nat)) := hSw
          go_simp
          all_goals with_reducible rfl
        simp only [Act.put, List.setIfInBounds_toArray, List.set_cons_zero, List.set_cons_succ]
        refine wpAnyH_at (i := 2) (some 44) (v := ?v2z171) rfl rfl (by kernel_rfl) (by kernel_rfl) (by kernel_rfl) (fun _ _ _ h => h) (Or.inl ⟨by rfl, ?y2z171⟩) (by assumption) ?r2z171
        case y2z171 =>
          intro w9 hSw
          replace hSw : w9.cell? ⟨bs, os + k, none⟩ = some (.int .u64 (x : Nat)) := hSw
          go_simp
          all_goals with_reducible rfl
        simp only [Act.put, List.setIfInBounds_toArray, List.set_cons_zero, List.set_cons_succ]
        refine wpAnyH_at (i := 3) (some 45) (v := ?v3z172) rfl rfl (by kernel_rfl) (by kernel_rfl) (by kernel_rfl) (fun _ _ _ h => h) (Or.inl ⟨by rfl, ?y3z172⟩) (by assumption) ?r3z172
        case y3z172 =>
          intro w9 hSw
          replace hSw : w9.cell? ⟨bs, os + k, none⟩ = some (.int .u64 (x : Nat)) := hSw
          go_simp
          all_goals with_reducible rfl
        simp only [Act.put, List.setIfInBounds_toArray, List.set_cons_zero, List.set_cons_succ]
        refine wpAnyH_at (i := 4) (some 46) (v := ?v4z173) rfl rfl (by kernel_rfl) (by kernel_rfl) (by kernel_rfl) (fun _ _ _ h => h) (Or.inl ⟨by rfl, ?y4z173⟩) (by assumption) ?r4z173
        case y4z173 =>
          intro w9 hSw
          replace hSw : w9.cell? ⟨bs, os + k, none⟩ = some (.int .u64 (x : Nat)) := hSw
          go_simp
          all_goals with_reducible rfl
        simp only [Act.put, List.setIfInBounds_toArray, List.set_cons_zero, List.set_cons_succ]
        refine wpAnyH_at (i := 5) (some 47) (v := ?v5z174) rfl rfl (by kernel_rfl) (by kernel_rfl) (by kernel_rfl) (fun _ _ _ h => h) (Or.inl ⟨by rfl, ?y5z174⟩) (by assumption) ?r5z174
        case y5z174 =>
          intro w9 hSw
          replace hSw : w9.cell? ⟨bs, os + k, none⟩ = some (.int .u64 (x : Nat)) := hSw
          go_simp
          all_goals with_reducible rfl
        simp only [Act.put, List.setIfInBounds_toArray, List.set_cons_zero, List.set_cons_succ]
        refine wpAnyH_at (i := 8) (some 50) (v := ?v8z175) rfl rfl (by kernel_rfl) (by kernel_rfl) (by kernel_rfl) (fun _ _ _ h => h) (Or.inl ⟨by rfl, ?y8z175⟩) (by assumption) ?r8z175
        case y8z175 =>
          intro w9 hSw
          replace hSw : w9.cell? ⟨bs, os + k, none⟩ = some (.int .u64 (x : Nat)) := hSw
          go_simp
          all_goals with_reducible rfl
        simp only [Act.put, List.setIfInBounds_toArray, List.set_cons_zero, List.set_cons_succ]
        refine wpAnyH_at (i := 9) (some 51) (v := ?v9z176) rfl rfl (by kernel_rfl) (by kernel_rfl) (by kernel_rfl) (fun _ _ _ h => h) (Or.inl ⟨by rfl, ?y9z176⟩) (by assumption) ?r9z176
        case y9z176 =>
          intro w9 hSw
          replace hSw : w9.cell? ⟨bs, os + k, none⟩ = some (.int .u64 (x : Nat)) := hSw
          go_simp
          all_goals with_reducible rfl
        simp only [Act.put, List.setIfInBounds_toArray, List.set_cons_zero, List.set_cons_succ]
        refine wpAnyH_at (i := 10) (some 52) (v := ?v10z177) rfl rfl (by kernel_rfl) (by kernel_rfl) (by kernel_rfl) (fun _ _ _ h => h) (Or.inl ⟨by rfl, ?y10z177⟩) (by assumption) ?r10z177
        case y10z177 =>
          intro w9 hSw
          replace hSw : w9.cell? ⟨bs, os + k, none⟩ = some (.int .u64 (x : Nat)) := hSw
          go_simp
          all_goals with_reducible rfl
        simp only [Act.put, List.setIfInBounds_toArray, List.set_cons_zero, List.set_cons_succ]
        refine wpAnyH_at (i := 11) (some 53) (v := ?v11z178) rfl rfl (by kernel_rfl) (by kernel_rfl) (by kernel_rfl) (fun _ _ _ h => h) (Or.inl ⟨by rfl, ?y11z178⟩) (by assumption) ?r11z178
        case y11z178 =>
          intro w9 hSw
          replace hSw : w9.cell? ⟨bs, os + k, none⟩ = some (.int .u64 (x : Nat)) := hSw
          go_simp
          all_goals with_reducible rfl
        simp only [Act.put, List.setIfInBounds_toArray, List.set_cons_zero, List.set_cons_succ]
        refine wpAnyH_at (i := 12) (some 54) (v := ?v12z179) rfl rfl (by kernel_rfl) (by kernel_rfl) (by kernel_rfl) (fun _ _ _ h => h) (Or.inl ⟨by rfl, ?y12z179⟩) (by assumption) ?r12z179
        case y12z179 =>
          intro w9 hSw
          replace hSw : w9.cell? ⟨bs, os + k, none⟩ = some (.int .u64 (x : Nat)) := hSw
          go_simp
          all_goals with_reducible rfl
        simp only [Act.put, List.setIfInBounds_toArray, List.set_cons_zero, List.set_cons_succ]
        refine wpAnyH_one (i := 6) (by kernel_rfl) rfl ?_
        go_wp2_with fail
        refine DD.mono ?_
        rintro ev w4 ⟨rfl, T4, k4⟩
        have b4k := k4.below (B := w.heap.size) (by omega) b1.size
        have b4 := b1.trans b4k
        have hHeld4 : w4.cell? ⟨bs, os + k, none⟩ = some (.int .u64 (x : Nat)) := (b4k.cell hBs).trans hHeld
        clear DD k4 b1 b4k
        go_wp2
        have hHeld := hHeld4
        refine ⟨hHeld, ?_⟩
        try simp only [Act.put, List.setIfInBounds_toArray, List.set_cons_zero, List.set_cons_succ]
        refine wpAnyH_at (i := 7) (some 49) (v := ?v7z180) rfl rfl (by kernel_rfl) (by kernel_rfl) (by kernel_rfl) (fun _ _ _ h => h) (Or.inl ⟨by rfl, ?y7z180⟩) (by assumption) ?r7z180
        case y7z180 =>
          intro w9 hSw
          replace hSw : w9.cell? ⟨bs, os + k, none⟩ = some (.int .u64 (x : Nat)) := hSw
          go_simp
          all_goals with_reducible rfl
        simp only [Act.put, List.setIfInBounds_toArray, List.set_cons_zero, List.set_cons_succ]
        refine wpAnyH_at (i := 13) (some 55) (v := ?v13z181) rfl rfl (by kernel_rfl) (by kernel_rfl) (by kernel_rfl) (fun _ _ _ h => h) (Or.inl ⟨by rfl, ?y13z181⟩) (by assumption) ?r13z181
        case y13z181 =>
          intro w9 hSw
          replace hSw : w9.cell? ⟨bs, os + k, none⟩ = some (.int .u64 (x : Nat)) := hSw
          go_simp
          all_goals with_reducible rfl
        simp only [Act.put, List.setIfInBounds_toArray, List.set_cons_zero, List.set_cons_succ]
        refine wpAnyH_done (by kernel_rfl) ?_ _
        clear hHeld hHeld4
        go_wp2
        go_roundw
        case rel => exact ⟨k + 1, _, by omega, by go_num, T4, hI2, by omega, b4⟩
        case measure => simp [intOf]; omega
      · skip
        have hle : ¬ (x : Int) ≤ 4611686018427387904 := by omega
        have hI2 := hI.no hdx hx
        have e : setE (k : Int) x R = 11 := by unfold setE; rw [if_pos (by omega)]
        have e' : setR (k : Int) x R = R := by unfold setR; rw [e]; rfl
        have hl' : R.length ≤ R.length + 1 := by omega
        have DD := wset (T.new (below_drew wr)) (k : Int) hwk x (by omega)
        rw [e, e'] at DD
        have hbz := b.size
        have b1 := b.step (below_drew wr) (Nat.le_refl _)
        have hS0 : wr.drew.cell? ⟨bs, os + k, none⟩ = some (.int .u64 (x : Nat)) := by simpa using cs
        clear e e' hI hdx hx hwf hxb b T
        go_wp2
        refine wp_region_held_drew (S := fun W => W.cell? ⟨bs, os + k, none⟩ = some (.int .u64 (x : Nat))) (by kernel_rfl) hS0 (fun hHeld => ?_)
        change wpAnyH _ _ _ _ _ _ _ _ (World.drew _)
        clear hS0 cs
        generalize World.drew wr = W0 at *
        refine wpAnyH_at (i := 0) (some 42) (v := ?v0z182) rfl rfl (by kernel_rfl) (by kernel_rfl) (by kernel_rfl) (fun _ _ _ h => h) (Or.inl ⟨by rfl, ?y0z182⟩) (by assumption) ?r0z182
        case y0z182 =>
          intro w9 hSw
          replace hSw : w9.cell? ⟨bs, os + k, none⟩ = some (.int .u64 (x : Nat)) := hSw
          go_simp
          all_goals with_reducible rfl
        simp only [Act.put, List.setIfInBounds_toArray, List.set_cons_zero, List.set_cons_succ]
        refine wpAnyH_at (i := 1) (some 43) (v := ?v1z183) rfl rfl (by kernel_rfl) (by kernel_rfl) (by kernel_rfl) (fun _ _ _ h => h) (Or.inl ⟨by rfl, ?y1z183⟩) (by assumption) ?r1z183
        case y1z183 =>
          intro w9 hSw
          replace hSw : w9.cell? ⟨bs, os + k, none⟩ = some (.int .u64 (x : Nat)) := hSw
          go_simp
          all_goals with_reducible rfl
        simp only [Act.put, List.setIfInBounds_toArray, List.set_cons_zero, List.set_cons_succ]
        refine wpAnyH_at (i := 2) (some 44) (v := ?v2z184) rfl rfl (by kernel_rfl) (by kernel_rfl) (by kernel_rfl) (fun _ _ _ h => h) (Or.inl ⟨by rfl, ?y2z184⟩) (by assumption) ?r2z184
        case y2z184 =>
          intro w9 hSw
          replace hSw : w9.cell? ⟨bs, os + k, none⟩ = some (.int .u64 (x : Nat)) := hSw
          go_simp
          all_goals with_reducible rfl
        simp only [Act.put, List.setIfInBounds_toArray, List.set_cons_zero, List.set_cons_succ]
        refine wpAnyH_at (i := 3) (some 45) (v := ?v3z185) rfl rfl (by kernel_rfl) (by kernel_rfl) (by kernel_rfl) (fun _ _ _ h => h) (Or.inl ⟨by rfl, ?y3z185⟩) (by assumption) ?r3z185
        case y3z185 =>
          intro w9 hSw
          replace hSw : w9.cell? ⟨bs, os + k, none⟩ = some (.int .u64 (x : Nat)) := hSw
          go_simp
          all_goals with_reducible rfl
        simp only [Act.put, List.setIfInBounds_toArray, List.set_cons_zero, List.set_cons_succ]
        refine wpAnyH_at (i := 4) (some 46) (v := ?v4z186) rfl rfl (by kernel_rfl) (by kernel_rfl) (by kernel_rfl) (fun _ _ _ h => h) (Or.inl ⟨by rfl, ?y4z186⟩) (by assumption) ?r4z186
        case y4z186 =>
          intro w9 hSw
          replace hSw : w9.cell? ⟨bs, os + k, none⟩ = some (.int .u64 (x : Nat)) := hSw
          go_simp
          all_goals with_reducible rfl
        simp only [Act.put, List.setIfInBounds_toArray, List.set_cons_zero, List.set_cons_succ]
        refine wpAnyH_at (i := 5) (some 47) (v := ?v5z187) rfl rfl (by kernel_rfl) (by kernel_rfl) (by kernel_rfl) (fun _ _ _ h => h) (Or.inl ⟨by rfl, ?y5z187⟩) (by assumption) ?r5z187
        case y5z187 =>
          intro w9 hSw
          replace hSw : w9.cell? ⟨bs, os + k, none⟩ = some (.int .u64 (x : Nat)) := hSw
          go_simp
          all_goals with_reducible rfl
        simp only [Act.put, List.setIfInBounds_toArray, List.set_cons_zero, List.set_cons_succ]
        refine wpAnyH_at (i := 8) (some 50) (v := ?v8z188) rfl rfl (by kernel_rfl) (by kernel_rfl) (by kernel_rfl) (fun _ _ _ h => h) (Or.inl ⟨by rfl, ?y8z188⟩) (by assumption) ?r8z188
        case y8z188 =>
          intro w9 hSw
          replace hSw : w9.cell? ⟨bs, os + k, none⟩ = some (.int .u64 (x : Nat)) := hSw
          go_simp
          all_goals with_reducible rfl
        simp only [Act.put, List.setIfInBounds_toArray, List.set_cons_zero, List.set_cons_succ]
        refine wpAnyH_at (i := 9) (some 51) (v := ?v9z189) rfl rfl (by kernel_rfl) (by kernel_rfl) (by kernel_rfl) (fun _ _ _ h => h) (Or.inl ⟨by rfl, ?y9z189⟩) (by assumption) ?r9z189
        case y9z189 =>
          intro w9 hSw
          replace hSw : w9.cell? ⟨bs, os + k, none⟩ = some (.int .u64 (x : Nat)) := hSw
          go_simp
          all_goals with_reducible rfl
        simp only [Act.put, List.setIfInBounds_toArray, List.set_cons_zero, List.set_cons_succ]
        refine wpAnyH_at (i := 10) (some 52) (v := ?v10z190) rfl rfl (by kernel_rfl) (by kernel_rfl) (by kernel_rfl) (fun _ _ _ h => h) (Or.inl ⟨by rfl, ?y10z190⟩) (by assumption) ?r10z190
        case y10z190 =>
          intro w9 hSw
          replace hSw : w9.cell? ⟨bs, os + k, none⟩ = some (.int .u64 (x : Nat)) := hSw
          go_simp
          all_goals with_reducible rfl
        simp only [Act.put, List.setIfInBounds_toArray, List.set_cons_zero, List.set_cons_succ]
        refine wpAnyH_at (i := 11) (some 53) (v := ?v11z191) rfl rfl (by kernel_rfl) (by kernel_rfl) (by kernel_rfl) (fun _ _ _ h => h) (Or.inl ⟨by rfl, ?y11z191⟩) (by assumption) ?r11z191
        case y11z191 =>
          intro w9 hSw
          replace hSw : w9.cell? ⟨bs, os + k, none⟩ = some (.int .u64 (x : Nat)) := hSw
          go_simp
          all_goals with_reducible rfl
        simp only [Act.put, List.setIfInBounds_toArray, List.set_cons_zero, List.set_cons_succ]
        refine wpAnyH_at (i := 12) (some 54) (v := ?v12z192) rfl rfl (by kernel_rfl) (by kernel_rfl) (by kernel_rfl) (fun _ _ _ h => h) (Or.inl ⟨by rfl, ?y12z192⟩) (by assumption) ?r12z192
        case y12z192 =>
          intro w9 hSw
          replace hSw : w9.cell? ⟨bs, os + k, none⟩ = some (.int .u64 (x : Nat)) := hSw
          go_simp
          all_goals with_reducible rfl
        simp only [Act.put, List.setIfInBounds_toArray, List.set_cons_zero, List.set_cons_succ]
        refine wpAnyH_one (i := 6) (by kernel_rfl) rfl ?_
        go_wp2_with fail
        refine DD.mono ?_
        rintro ev w4 ⟨rfl, T4, k4⟩
        have b4k := k4.below (B := w.heap.size) (by omega) b1.size
        have b4 := b1.trans b4k
        have hHeld4 : w4.cell? ⟨bs, os + k, none⟩ = some (.int .u64 (x : Nat)) := (b4k.cell hBs).trans hHeld
        clear DD k4 b1 b4k
        go_wp2
        have hHeld := hHeld4
        refine ⟨hHeld, ?_⟩
        try simp only [Act.put, List.setIfInBounds_toArray, List.set_cons_zero, List.set_cons_succ]
        refine wpAnyH_at (i := 7) (some 49) (v := ?v7z193) rfl rfl (by kernel_rfl) (by kernel_rfl) (by kernel_rfl) (fun _ _ _ h => h) (Or.inl ⟨by rfl, ?y7z193⟩) (by assumption) ?r7z193
        case y7z193 =>
          intro w9 hSw
          replace hSw : w9.cell? ⟨bs, os + k, none⟩ = some (.int .u64 (x : Nat)) := hSw
          go_simp
          all_goals with_reducible rfl
        simp only [Act.put, List.setIfInBounds_toArray, List.set_cons_zero, List.set_cons_succ]
        refine wpAnyH_at (i := 13) (some 55) (v := ?v13z194) rfl rfl (by kernel_rfl) (by kernel_rfl) (by kernel_rfl) (fun _ _ _ h => h) (Or.inl ⟨by rfl, ?y13z194⟩) (by assumption) ?r13z194
        case y13z194 =>
          intro w9 hSw
          replace hSw : w9.cell? ⟨bs, os + k, none⟩ = some (.int .u64 (x : Nat)) := hSw
          go_simp
          all_goals with_reducible rfl
        simp only [Act.put, List.setIfInBounds_toArray, List.set_cons_zero, List.set_cons_succ]
        refine wpAnyH_done (by kernel_rfl) ?_ _
        clear hHeld hHeld4
        go_wp2
        go_roundw
        case rel => exact ⟨k + 1, _, by omega, by go_num, T4, hI2, by omega, b4⟩
        case measure => simp [intOf]; omega
    · obtain rfl : n = k := by omega
      have ba := alloc_below wr (.map #[] 0)
      have hTb := T.bounds
      have hO := hTb.2.2.2.2.1
      have hRl := hTb.2.2.2.2.2
      have T3 := T.new ba
      have D0 := ToAt.new wr
      have b3 := b.step ba (Nat.le_refl _)
      have hmm := @run_makeMap Try.prog
      have hbl : w.heap.size ≤ wr.heap.size := b.size
      have hhi : hi ≤ wr.heap.size := hTb.2.2.1
      have S0 := Stp.start hO 0
      generalize hbm : wr.heap.size = bm at *
      clear T ba b hl
      go_wp2
      generalize wr.alloc (.map #[] 0) = w3 at *
      clear hbm hmm
      go_loopw [9, 10] (fun a i wr => ∃ (j at_ : Nat) (L : List Int) (R2 : List Tm), j ≤ n2 ∧ i = .int .i64 j ∧ a = .int .u64 (at_ : Nat) ∧ at_ ≤ j * 4294967295 ∧ Stp R at_ j L R2 ∧ Whl wr lo hi p at_ R2 ∧ ToAt wr bm L ∧ Below w.heap.size w wr) (fun _ i _ => n2 - (intOf i).toNat)
      case atStart => exact ⟨0, 0, [], R, Nat.zero_le _, rfl, rfl, by omega, S0, T3, D0, b3⟩
      case round =>
        obtain ⟨j, at_, L, R2, hj, rfl, rfl, hat0, hS, T, hD, b⟩ := hrel
        clear S0 T3 b3 D0
        by_cases hjn : j < n2
        · have hji : (j : Int) < (n2 : Int) := by omega
          obtain ⟨bs, os, rfl, hBs, cs⟩ := (H2.below b (Nat.le_refl _)).at_ hjn
          have hwf := H2.wf hjn
          generalize ss.getD j 0 = x at *
          have hxb := u32_bd hwf
          obtain ⟨x, rfl⟩ := Int.eq_ofNat_of_zero_le hxb.1
          have hadd : (at_ : Int) + (x : Int) = ((at_ + x : Nat) : Int) := by omega
          have hS' := hS.step (b := at_ + x) (by omega)
          have hE : goE at_ (at_ + x) = 0 := by
            unfold goE
            rw [if_neg (by omega), if_neg (by omega)]
          have G := wgo T (at_ + x)
          have e1 : goL at_ (at_ + x) R2 = goT (at_ + x) R2 := by unfold goL; rw [if_pos hE]
          have e2 : goN at_ (at_ + x) = at_ + x := by unfold goN; rw [if_pos hE]
          have e3 : goRR at_ (at_ + x) R2 = goR (at_ + x) R2 := by unfold goRR; rw [if_pos hE]
          rw [hE, e1, e2, e3] at G
          have hat' : at_ + x ≤ (j + 1) * 4294967295 := by omega
          have hxl : (x : Int) ≤ 4294967295 := hxb.2
          have hb64 : (at_ + x : Nat) < 18446744073709551616 := by omega
          have hTb2 := T.bounds
          have hLl := hS.len
          obtain ⟨a2, ha2⟩ : ∃ a, at_ + x = a := ⟨_, rfl⟩
          have hat : at_ ≤ a2 := by omega
          have ha2m : a2 ≤ 4611686018427387904 := by omega
          rw [ha2] at hadd hS' G hat' hb64
          clear hE e1 e2 e3 hwf ha2
          go_wp2_with fail
          refine G.mono ?_
          rintro ev w5 ⟨A6, n6, c6, rfl, o5, T5, k5⟩
          have b5 := b.trans (k5.below (by omega) b.size)
          have D5 := hD.kept k5 (by omega)
          have hn6 := o5.len
          have hbo : ∀ ad, A6 = some ad → bm < ad.block := fun ad e => by have := (o5.block ad e).1; have := hD.lt; omega
          rw [← List.append_nil L, ← List.take_zero (l := goT a2 R2)] at D5
          clear G k5 T hD b cs
          go_wp2
          go_loopw [13] (fun i wz => ∃ k : Nat, k ≤ n6 ∧ i = .int .i64 k ∧ ToAt wz bm (L ++ (goT a2 R2).take k) ∧ Whl wz lo hi p a2 (goR a2 R2) ∧ Out .i64 3 wz wr.heap.size A6 n6 c6 (goT a2 R2) ∧ Below w.heap.size w wz) (fun i _ => n6 - (intOf i).toNat)
          case atStart => exact ⟨0, Nat.zero_le _, rfl, D5, T5, o5, b5⟩
          case round =>
            obtain ⟨k, hk, rfl, hD, T6, o6, b⟩ := hrel
            clear D5 T5 o5 b5
            by_cases hkn : k < n6
            · have hki : (k : Int) < (n6 : Int) := by omega
              have hkl : k < (goT a2 R2).length := by omega
              obtain ⟨ti, td, hti, htn, htd, htb, hdu, hnot⟩ := hS.told hO hI hat hkl
              obtain ⟨xa, rfl, hxa, hxl, cx, -⟩ := o6.at3 hkn
              replace cx : wr.cell? ⟨xa, k, none⟩ = some (.int .i64 ti) := by rw [← hti]; simpa using cx
              have hts := take_succ hkl
              rw [hti] at hts
              have hwt : wfI (ti : Int) := o_int (by omega) (by omega)
              have hk3 := fun m => hD.look2 hwt m
              have hdec : decide ((ti : Int) ∈ L ++ (goT a2 R2).take k) = false := by simpa using hnot
              rw [hdec] at hk3
              obtain ⟨bd, od, rfl, hBd, cd⟩ := (H.below b (Nat.le_refl _)).at_ htn
              rw [htd] at cd
              have hn1 : ¬ (ti : Int) < 0 := by omega
              have hn2 : ¬ (n : Int) ≤ (ti : Int) := by omega
              have hn3 : (ti : Int) < (n : Int) := by omega
              have hn4 : ¬ (a2 : Int) < (td : Int) := by omega
              have htl : (goT a2 R2).length ≤ 16384 := by have := goT_len (n := a2) (R := R2); omega
              have hlk : ((goT a2 R2).take k).length ≤ 16384 := by rw [List.length_take]; omega
              by_cases hk0 : k = 0
              · subst hk0
                have hkz : ¬ (0 : Int) < ((0 : Nat) : Int) := by omega
                clear hS hti htd hdu hdec
                go_wp2
                refine wp_region_held_drew (S := fun W => ∃ m, W = wr.drewN m) (by kernel_rfl) ⟨1, rfl⟩ (fun hHeld => ?_)
                change wpAnyH _ _ _ _ _ _ _ _ (World.drew _)
                generalize hW : World.drew wr = W0 at *
                have d1 : decide ((ti : Int) < 0) = false := by simp <;> omega
                have d2 : decide (n ≤ ti) = false := by simp <;> omega
                have d3 : decide (a2 < td) = false := by simp <;> omega
                refine wpAnyH_at (i := 0) (some 88) (v := ?v0z1) rfl rfl (by kernel_rfl) (by kernel_rfl) (by kernel_rfl) (fun _ _ _ h => h) (Or.inl ⟨by rfl, ?y0z1⟩) (by assumption) ?r0z1
                case y0z1 =>
                  intro w9 hSw
                  obtain ⟨m, rfl⟩ := hSw
                  go_simp
                  all_goals with_reducible rfl
                simp only [Act.put, List.setIfInBounds_toArray, List.set_cons_zero, List.set_cons_succ]
                refine wpAnyH_at (i := 1) (some 89) (v := ?v1z2) rfl rfl (by kernel_rfl) (by kernel_rfl) (by kernel_rfl) (fun _ _ _ h => h) (Or.inl ⟨by rfl, ?y1z2⟩) (by assumption) ?r1z2
                case y1z2 =>
                  intro w9 hSw
                  obtain ⟨m, rfl⟩ := hSw
                  go_simp
                  all_goals with_reducible rfl
                simp only [Act.put, List.setIfInBounds_toArray, List.set_cons_zero, List.set_cons_succ]
                refine wpAnyH_at (i := 2) (some 90) (v := ?v2z3) rfl rfl (by kernel_rfl) (by kernel_rfl) (by kernel_rfl) (fun _ _ _ h => h) (Or.inl ⟨by rfl, ?y2z3⟩) (by assumption) ?r2z3
                case y2z3 =>
                  intro w9 hSw
                  obtain ⟨m, rfl⟩ := hSw
                  go_simp
                  all_goals with_reducible rfl
                simp only [Act.put, List.setIfInBounds_toArray, List.set_cons_zero, List.set_cons_succ]
                refine wpAnyH_at (i := 3) (some 91) (v := ?v3z4) rfl rfl (by kernel_rfl) (by kernel_rfl) (by kernel_rfl) (fun _ _ _ h => h) (Or.inl ⟨by rfl, ?y3z4⟩) (by assumption) ?r3z4
                case y3z4 =>
                  intro w9 hSw
                  obtain ⟨m, rfl⟩ := hSw
                  go_simp
                  all_goals with_reducible rfl
                simp only [Act.put, List.setIfInBounds_toArray, List.set_cons_zero, List.set_cons_succ]
                refine wpAnyH_at (i := 4) (some 92) (v := ?v4z5) rfl rfl (by kernel_rfl) (by kernel_rfl) (by kernel_rfl) (fun _ _ _ h => h) (Or.inl ⟨by rfl, ?y4z5⟩) (by assumption) ?r4z5
                case y4z5 =>
                  intro w9 hSw
                  obtain ⟨m, rfl⟩ := hSw
                  go_simp
                  all_goals with_reducible rfl
                simp only [Act.put, List.setIfInBounds_toArray, List.set_cons_zero, List.set_cons_succ]
                refine wpAnyH_at (i := 5) (some 93) (v := ?v5z6) rfl rfl (by kernel_rfl) (by kernel_rfl) (by kernel_rfl) (fun _ _ _ h => h) (Or.inl ⟨by rfl, ?y5z6⟩) (by assumption) ?r5z6
                case y5z6 =>
                  intro w9 hSw
                  obtain ⟨m, rfl⟩ := hSw
                  go_simp
                  all_goals with_reducible rfl
                simp only [Act.put, List.setIfInBounds_toArray, List.set_cons_zero, List.set_cons_succ]
                refine wpAnyH_at (i := 6) (some 94) (v := ?v6z7) rfl rfl (by kernel_rfl) (by kernel_rfl) (by kernel_rfl) (fun _ _ _ h => h) (Or.inl ⟨by rfl, ?y6z7⟩) (by assumption) ?r6z7
                case y6z7 =>
                  intro w9 hSw
                  obtain ⟨m, rfl⟩ := hSw
                  go_simp
                  all_goals with_reducible rfl
                simp only [Act.put, List.setIfInBounds_toArray, List.set_cons_zero, List.set_cons_succ]
                refine wpAnyH_at (i := 7) (some 95) (v := ?v7z8) rfl rfl (by kernel_rfl) (by kernel_rfl) (by kernel_rfl) (fun _ _ _ h => h) (Or.inl ⟨by rfl, ?y7z8⟩) (by assumption) ?r7z8
                case y7z8 =>
                  intro w9 hSw
                  obtain ⟨m, rfl⟩ := hSw
                  go_simp
                  all_goals with_reducible rfl
                simp only [Act.put, List.setIfInBounds_toArray, List.set_cons_zero, List.set_cons_succ]
                refine wpAnyH_at (i := 8) (some 96) (v := ?v8z9) rfl rfl (by kernel_rfl) (by kernel_rfl) (by kernel_rfl) (fun _ _ _ h => h) (Or.inl ⟨by rfl, ?y8z9⟩) (by assumption) ?r8z9
                case y8z9 =>
                  intro w9 hSw
                  obtain ⟨m, rfl⟩ := hSw
                  go_simp
                  all_goals with_reducible rfl
                simp only [Act.put, List.setIfInBounds_toArray, List.set_cons_zero, List.set_cons_succ]
                refine wpAnyH_at (i := 9) (some 97) (v := ?v9z10) rfl rfl (by kernel_rfl) (by kernel_rfl) (by kernel_rfl) (fun _ _ _ h => h) (Or.inl ⟨by rfl, ?y9z10⟩) (by assumption) ?r9z10
                case y9z10 =>
                  intro w9 hSw
                  obtain ⟨m, rfl⟩ := hSw
                  go_simp
                  all_goals with_reducible rfl
                simp only [Act.put, List.setIfInBounds_toArray, List.set_cons_zero, List.set_cons_succ]
                refine wpAnyH_at (i := 10) (some 98) (v := ?v10z11) rfl rfl (by kernel_rfl) (by kernel_rfl) (by kernel_rfl) (fun _ _ _ h => h) (Or.inl ⟨by rfl, ?y10z11⟩) (by assumption) ?r10z11
                case y10z11 =>
                  intro w9 hSw
                  obtain ⟨m, rfl⟩ := hSw
                  go_simp
                  all_goals with_reducible rfl
                simp only [Act.put, List.setIfInBounds_toArray, List.set_cons_zero, List.set_cons_succ]
                refine wpAnyH_at (i := 11) (some 99) (v := ?v11z12) rfl rfl (by kernel_rfl) (by kernel_rfl) (by kernel_rfl) (fun _ _ _ h => h) (Or.inl ⟨by rfl, ?y11z12⟩) (by assumption) ?r11z12
                case y11z12 =>
                  intro w9 hSw
                  obtain ⟨m, rfl⟩ := hSw
                  go_simp
                  all_goals with_reducible rfl
                simp only [Act.put, List.setIfInBounds_toArray, List.set_cons_zero, List.set_cons_succ]
                refine wpAnyH_at (i := 12) (some 100) (v := ?v12z13) rfl rfl (by kernel_rfl) (by kernel_rfl) (by kernel_rfl) (fun _ _ _ h => h) (Or.inl ⟨by rfl, ?y12z13⟩) (by assumption) ?r12z13
                case y12z13 =>
                  intro w9 hSw
                  obtain ⟨m, rfl⟩ := hSw
                  go_simp
                  all_goals with_reducible rfl
                simp only [Act.put, List.setIfInBounds_toArray, List.set_cons_zero, List.set_cons_succ]
                refine wpAnyH_at (i := 13) (some 101) (v := ?v13z14) rfl rfl (by kernel_rfl) (by kernel_rfl) (by kernel_rfl) (fun _ _ _ h => h) (Or.inl ⟨by rfl, ?y13z14⟩) (by assumption) ?r13z14
                case y13z14 =>
                  intro w9 hSw
                  obtain ⟨m, rfl⟩ := hSw
                  go_simp
                  all_goals with_reducible rfl
                simp only [Act.put, List.setIfInBounds_toArray, List.set_cons_zero, List.set_cons_succ]
                refine wpAnyH_at (i := 14) (some 102) (v := ?v14z15) rfl rfl (by kernel_rfl) (by kernel_rfl) (by kernel_rfl) (fun _ _ _ h => h) (Or.inl ⟨by rfl, ?y14z15⟩) (by assumption) ?r14z15
                case y14z15 =>
                  intro w9 hSw
                  obtain ⟨m, rfl⟩ := hSw
                  go_simp
                  all_goals with_reducible rfl
                simp only [Act.put, List.setIfInBounds_toArray, List.set_cons_zero, List.set_cons_succ]
                refine wpAnyH_at (i := 15) (some 103) (v := ?v15z16) rfl rfl (by kernel_rfl) (by kernel_rfl) (by kernel_rfl) (fun _ _ _ h => h) (Or.inl ⟨by rfl, ?y15z16⟩) (by assumption) ?r15z16
                case y15z16 =>
                  intro w9 hSw
                  obtain ⟨m, rfl⟩ := hSw
                  go_simp
                  all_goals with_reducible rfl
                simp only [Act.put, List.setIfInBounds_toArray, List.set_cons_zero, List.set_cons_succ]
                refine wpAnyH_at (i := 16) (some 104) (v := ?v16z17) rfl rfl (by kernel_rfl) (by kernel_rfl) (by kernel_rfl) (fun _ _ _ h => h) (Or.inl ⟨by rfl, ?y16z17⟩) (by assumption) ?r16z17
                case y16z17 =>
                  intro w9 hSw
                  obtain ⟨m, rfl⟩ := hSw
                  go_simp
                  all_goals with_reducible rfl
                simp only [Act.put, List.setIfInBounds_toArray, List.set_cons_zero, List.set_cons_succ]
                refine wpAnyH_at (i := 17) (some 105) (v := ?v17z18) rfl rfl (by kernel_rfl) (by kernel_rfl) (by kernel_rfl) (fun _ _ _ h => h) (Or.inl ⟨by rfl, ?y17z18⟩) (by assumption) ?r17z18
                case y17z18 =>
                  intro w9 hSw
                  obtain ⟨m, rfl⟩ := hSw
                  go_simp
                  all_goals with_reducible rfl
                simp only [Act.put, List.setIfInBounds_toArray, List.set_cons_zero, List.set_cons_succ]
                refine wpAnyH_at (i := 18) (some 106) (v := ?v18z19) rfl rfl (by kernel_rfl) (by kernel_rfl) (by kernel_rfl) (fun _ _ _ h => h) (Or.inl ⟨by rfl, ?y18z19⟩) (by assumption) ?r18z19
                case y18z19 =>
                  intro w9 hSw
                  obtain ⟨m, rfl⟩ := hSw
                  go_simp
                  all_goals with_reducible rfl
                simp only [Act.put, List.setIfInBounds_toArray, List.set_cons_zero, List.set_cons_succ]
                refine wpAnyH_at (i := 19) (some 107) (v := ?v19z20) rfl rfl (by kernel_rfl) (by kernel_rfl) (by kernel_rfl) (fun _ _ _ h => h) (Or.inl ⟨by rfl, ?y19z20⟩) (by assumption) ?r19z20
                case y19z20 =>
                  intro w9 hSw
                  obtain ⟨m, rfl⟩ := hSw
                  go_simp
                  all_goals with_reducible rfl
                simp only [Act.put, List.setIfInBounds_toArray, List.set_cons_zero, List.set_cons_succ]
                refine wpAnyH_at (i := 20) (some 108) (v := ?v20z21) rfl rfl (by kernel_rfl) (by kernel_rfl) (by kernel_rfl) (fun _ _ _ h => h) (Or.inl ⟨by rfl, ?y20z21⟩) (by assumption) ?r20z21
                case y20z21 =>
                  intro w9 hSw
                  obtain ⟨m, rfl⟩ := hSw
                  go_simp
                  all_goals with_reducible rfl
                simp only [Act.put, List.setIfInBounds_toArray, List.set_cons_zero, List.set_cons_succ]
                refine wpAnyH_at (i := 21) (some 109) (v := ?v21z22) rfl rfl (by kernel_rfl) (by kernel_rfl) (by kernel_rfl) (fun _ _ _ h => h) (Or.inl ⟨by rfl, ?y21z22⟩) (by assumption) ?r21z22
                case y21z22 =>
                  intro w9 hSw
                  obtain ⟨m, rfl⟩ := hSw
                  go_simp
                  all_goals with_reducible rfl
                simp only [Act.put, List.setIfInBounds_toArray, List.set_cons_zero, List.set_cons_succ]
                refine wpAnyH_at (i := 22) (some 110) (v := ?v22z23) rfl rfl (by kernel_rfl) (by kernel_rfl) (by kernel_rfl) (fun _ _ _ h => h) (Or.inl ⟨by rfl, ?y22z23⟩) (by assumption) ?r22z23
                case y22z23 =>
                  intro w9 hSw
                  obtain ⟨m, rfl⟩ := hSw
                  go_simp
                  all_goals with_reducible rfl
                simp only [Act.put, List.setIfInBounds_toArray, List.set_cons_zero, List.set_cons_succ]
                refine wpAnyH_at (i := 23) (some 111) (v := ?v23z24) rfl rfl (by kernel_rfl) (by kernel_rfl) (by kernel_rfl) (fun _ _ _ h => h) (Or.inl ⟨by rfl, ?y23z24⟩) (by assumption) ?r23z24
                case y23z24 =>
                  intro w9 hSw
                  obtain ⟨m, rfl⟩ := hSw
                  go_simp
                  all_goals with_reducible rfl
                simp only [Act.put, List.setIfInBounds_toArray, List.set_cons_zero, List.set_cons_succ]
                refine wpAnyH_at (i := 24) (some 112) (v := ?v24z25) rfl rfl (by kernel_rfl) (by kernel_rfl) (by kernel_rfl) (fun _ _ _ h => h) (Or.inl ⟨by rfl, ?y24z25⟩) (by assumption) ?r24z25
                case y24z25 =>
                  intro w9 hSw
                  obtain ⟨m, rfl⟩ := hSw
                  go_simp
                  all_goals with_reducible rfl
                simp only [Act.put, List.setIfInBounds_toArray, List.set_cons_zero, List.set_cons_succ]
                refine wpAnyH_at (i := 25) (some 113) (v := undef) rfl rfl (by kernel_rfl) (by kernel_rfl) (by kernel_rfl) (fun _ _ _ h => h) (Or.inr ⟨by rfl, rfl⟩) (by assumption) ?_
                simp only [Act.put, List.setIfInBounds_toArray, List.set_cons_zero, List.set_cons_succ]
                refine wpAnyH_at (i := 26) (some 114) (v := undef) rfl rfl (by kernel_rfl) (by kernel_rfl) (by kernel_rfl) (fun _ _ _ h => h) (Or.inr ⟨by rfl, rfl⟩) (by assumption) ?_
                simp only [Act.put, List.setIfInBounds_toArray, List.set_cons_zero, List.set_cons_succ]
                refine wpAnyH_at (i := 27) (some 115) (v := undef) rfl rfl (by kernel_rfl) (by kernel_rfl) (by kernel_rfl) (fun _ _ _ h => h) (Or.inr ⟨by rfl, rfl⟩) (by assumption) ?_
                simp only [Act.put, List.setIfInBounds_toArray, List.set_cons_zero, List.set_cons_succ]
                refine wpAnyH_at (i := 28) (some 116) (v := undef) rfl rfl (by kernel_rfl) (by kernel_rfl) (by kernel_rfl) (fun _ _ _ h => h) (Or.inr ⟨by rfl, rfl⟩) (by assumption) ?_
                simp only [Act.put, List.setIfInBounds_toArray, List.set_cons_zero, List.set_cons_succ]
                refine wpAnyH_at (i := 29) (some 117) (v := undef) rfl rfl (by kernel_rfl) (by kernel_rfl) (by kernel_rfl) (fun _ _ _ h => h) (Or.inr ⟨by rfl, rfl⟩) (by assumption) ?_
                simp only [Act.put, List.setIfInBounds_toArray, List.set_cons_zero, List.set_cons_succ]
                refine wpAnyH_at (i := 30) (some 118) (v := undef) rfl rfl (by kernel_rfl) (by kernel_rfl) (by kernel_rfl) (fun _ _ _ h => h) (Or.inr ⟨by rfl, rfl⟩) (by assumption) ?_
                simp only [Act.put, List.setIfInBounds_toArray, List.set_cons_zero, List.set_cons_succ]
                refine wpAnyH_at (i := 31) (some 119) (v := undef) rfl rfl (by kernel_rfl) (by kernel_rfl) (by kernel_rfl) (fun _ _ _ h => h) (Or.inr ⟨by rfl, rfl⟩) (by assumption) ?_
                simp only [Act.put, List.setIfInBounds_toArray, List.set_cons_zero, List.set_cons_succ]
                refine wpAnyH_at (i := 32) (some 120) (v := undef) rfl rfl (by kernel_rfl) (by kernel_rfl) (by kernel_rfl) (fun _ _ _ h => h) (Or.inr ⟨by rfl, rfl⟩) (by assumption) ?_
                simp only [Act.put, List.setIfInBounds_toArray, List.set_cons_zero, List.set_cons_succ]
                refine wpAnyH_at (i := 33) (some 121) (v := undef) rfl rfl (by kernel_rfl) (by kernel_rfl) (by kernel_rfl) (fun _ _ _ h => h) (Or.inr ⟨by rfl, rfl⟩) (by assumption) ?_
                simp only [Act.put, List.setIfInBounds_toArray, List.set_cons_zero, List.set_cons_succ]
                refine wpAnyH_at (i := 34) (some 122) (v := undef) rfl rfl (by kernel_rfl) (by kernel_rfl) (by kernel_rfl) (fun _ _ _ h => h) (Or.inr ⟨by rfl, rfl⟩) (by assumption) ?_
                simp only [Act.put, List.setIfInBounds_toArray, List.set_cons_zero, List.set_cons_succ]
                refine wpAnyH_at (i := 35) (some 123) (v := undef) rfl rfl (by kernel_rfl) (by kernel_rfl) (by kernel_rfl) (fun _ _ _ h => h) (Or.inr ⟨by rfl, rfl⟩) (by assumption) ?_
                simp only [Act.put, List.setIfInBounds_toArray, List.set_cons_zero, List.set_cons_succ]
                refine wpAnyH_at (i := 36) (some 124) (v := undef) rfl rfl (by kernel_rfl) (by kernel_rfl) (by kernel_rfl) (fun _ _ _ h => h) (Or.inr ⟨by rfl, rfl⟩) (by assumption) ?_
                simp only [Act.put, List.setIfInBounds_toArray, List.set_cons_zero, List.set_cons_succ]
                refine wpAnyH_at (i := 37) (some 125) (v := undef) rfl rfl (by kernel_rfl) (by kernel_rfl) (by kernel_rfl) (fun _ _ _ h => h) (Or.inr ⟨by rfl, rfl⟩) (by assumption) ?_
                simp only [Act.put, List.setIfInBounds_toArray, List.set_cons_zero, List.set_cons_succ]
                refine wpAnyH_at (i := 38) (some 126) (v := undef) rfl rfl (by kernel_rfl) (by kernel_rfl) (by kernel_rfl) (fun _ _ _ h => h) (Or.inr ⟨by rfl, rfl⟩) (by assumption) ?_
                simp only [Act.put, List.setIfInBounds_toArray, List.set_cons_zero, List.set_cons_succ]
                refine wpAnyH_at (i := 39) (some 127) (v := undef) rfl rfl (by kernel_rfl) (by kernel_rfl) (by kernel_rfl) (fun _ _ _ h => h) (Or.inr ⟨by rfl, rfl⟩) (by assumption) ?_
                simp only [Act.put, List.setIfInBounds_toArray, List.set_cons_zero, List.set_cons_succ]
                refine wpAnyH_at (i := 40) (some 128) (v := undef) rfl rfl (by kernel_rfl) (by kernel_rfl) (by kernel_rfl) (fun _ _ _ h => h) (Or.inr ⟨by rfl, rfl⟩) (by assumption) ?_
                simp only [Act.put, List.setIfInBounds_toArray, List.set_cons_zero, List.set_cons_succ]
                refine wpAnyH_at (i := 41) (some 129) (v := undef) rfl rfl (by kernel_rfl) (by kernel_rfl) (by kernel_rfl) (fun _ _ _ h => h) (Or.inr ⟨by rfl, rfl⟩) (by assumption) ?_
                simp only [Act.put, List.setIfInBounds_toArray, List.set_cons_zero, List.set_cons_succ]
                refine wpAnyH_at (i := 42) (some 130) (v := undef) rfl rfl (by kernel_rfl) (by kernel_rfl) (by kernel_rfl) (fun _ _ _ h => h) (Or.inr ⟨by rfl, rfl⟩) (by assumption) ?_
                simp only [Act.put, List.setIfInBounds_toArray, List.set_cons_zero, List.set_cons_succ]
                refine wpAnyH_at (i := 43) (some 131) (v := undef) rfl rfl (by kernel_rfl) (by kernel_rfl) (by kernel_rfl) (fun _ _ _ h => h) (Or.inr ⟨by rfl, rfl⟩) (by assumption) ?_
                simp only [Act.put, List.setIfInBounds_toArray, List.set_cons_zero, List.set_cons_succ]
                refine wpAnyH_at (i := 44) (some 132) (v := undef) rfl rfl (by kernel_rfl) (by kernel_rfl) (by kernel_rfl) (fun _ _ _ h => h) (Or.inr ⟨by rfl, rfl⟩) (by assumption) ?_
                simp only [Act.put, List.setIfInBounds_toArray, List.set_cons_zero, List.set_cons_succ]
                refine wpAnyH_at (i := 45) (some 133) (v := undef) rfl rfl (by kernel_rfl) (by kernel_rfl) (by kernel_rfl) (fun _ _ _ h => h) (Or.inr ⟨by rfl, rfl⟩) (by assumption) ?_
                simp only [Act.put, List.setIfInBounds_toArray, List.set_cons_zero, List.set_cons_succ]
                refine wpAnyH_at (i := 46) (some 134) (v := undef) rfl rfl (by kernel_rfl) (by kernel_rfl) (by kernel_rfl) (fun _ _ _ h => h) (Or.inr ⟨by rfl, rfl⟩) (by assumption) ?_
                simp only [Act.put, List.setIfInBounds_toArray, List.set_cons_zero, List.set_cons_succ]
                refine wpAnyH_at (i := 47) (some 135) (v := undef) rfl rfl (by kernel_rfl) (by kernel_rfl) (by kernel_rfl) (fun _ _ _ h => h) (Or.inr ⟨by rfl, rfl⟩) (by assumption) ?_
                simp only [Act.put, List.setIfInBounds_toArray, List.set_cons_zero, List.set_cons_succ]
                refine wpAnyH_at (i := 48) (some 136) (v := undef) rfl rfl (by kernel_rfl) (by kernel_rfl) (by kernel_rfl) (fun _ _ _ h => h) (Or.inr ⟨by rfl, rfl⟩) (by assumption) ?_
                simp only [Act.put, List.setIfInBounds_toArray, List.set_cons_zero, List.set_cons_succ]
                refine wpAnyH_at (i := 49) (some 137) (v := undef) rfl rfl (by kernel_rfl) (by kernel_rfl) (by kernel_rfl) (fun _ _ _ h => h) (Or.inr ⟨by rfl, rfl⟩) (by assumption) ?_
                simp only [Act.put, List.setIfInBounds_toArray, List.set_cons_zero, List.set_cons_succ]
                refine wpAnyH_at (i := 50) (some 138) (v := undef) rfl rfl (by kernel_rfl) (by kernel_rfl) (by kernel_rfl) (fun _ _ _ h => h) (Or.inr ⟨by rfl, rfl⟩) (by assumption) ?_
                simp only [Act.put, List.setIfInBounds_toArray, List.set_cons_zero, List.set_cons_succ]
                refine wpAnyH_at (i := 51) (some 139) (v := undef) rfl rfl (by kernel_rfl) (by kernel_rfl) (by kernel_rfl) (fun _ _ _ h => h) (Or.inr ⟨by rfl, rfl⟩) (by assumption) ?_
                simp only [Act.put, List.setIfInBounds_toArray, List.set_cons_zero, List.set_cons_succ]
                refine wpAnyH_at (i := 52) (some 140) (v := undef) rfl rfl (by kernel_rfl) (by kernel_rfl) (by kernel_rfl) (fun _ _ _ h => h) (Or.inr ⟨by rfl, rfl⟩) (by assumption) ?_
                simp only [Act.put, List.setIfInBounds_toArray, List.set_cons_zero, List.set_cons_succ]
                refine wpAnyH_at (i := 53) (some 141) (v := undef) rfl rfl (by kernel_rfl) (by kernel_rfl) (by kernel_rfl) (fun _ _ _ h => h) (Or.inr ⟨by rfl, rfl⟩) (by assumption) ?_
                simp only [Act.put, List.setIfInBounds_toArray, List.set_cons_zero, List.set_cons_succ]
                refine wpAnyH_at (i := 54) (some 142) (v := undef) rfl rfl (by kernel_rfl) (by kernel_rfl) (by kernel_rfl) (fun _ _ _ h => h) (Or.inr ⟨by rfl, rfl⟩) (by assumption) ?_
                simp only [Act.put, List.setIfInBounds_toArray, List.set_cons_zero, List.set_cons_succ]
                refine wpAnyH_at (i := 55) (some 143) (v := undef) rfl rfl (by kernel_rfl) (by kernel_rfl) (by kernel_rfl) (fun _ _ _ h => h) (Or.inr ⟨by rfl, rfl⟩) (by assumption) ?_
                simp only [Act.put, List.setIfInBounds_toArray, List.set_cons_zero, List.set_cons_succ]
                refine wpAnyH_at (i := 56) (some 144) (v := undef) rfl rfl (by kernel_rfl) (by kernel_rfl) (by kernel_rfl) (fun _ _ _ h => h) (Or.inr ⟨by rfl, rfl⟩) (by assumption) ?_
                simp only [Act.put, List.setIfInBounds_toArray, List.set_cons_zero, List.set_cons_succ]
                refine wpAnyH_at (i := 57) (some 145) (v := undef) rfl rfl (by kernel_rfl) (by kernel_rfl) (by kernel_rfl) (fun _ _ _ h => h) (Or.inr ⟨by rfl, rfl⟩) (by assumption) ?_
                simp only [Act.put, List.setIfInBounds_toArray, List.set_cons_zero, List.set_cons_succ]
                refine wpAnyH_at (i := 58) (some 146) (v := undef) rfl rfl (by kernel_rfl) (by kernel_rfl) (by kernel_rfl) (fun _ _ _ h => h) (Or.inr ⟨by rfl, rfl⟩) (by assumption) ?_
                simp only [Act.put, List.setIfInBounds_toArray, List.set_cons_zero, List.set_cons_succ]
                refine wpAnyH_at (i := 59) (some 147) (v := undef) rfl rfl (by kernel_rfl) (by kernel_rfl) (by kernel_rfl) (fun _ _ _ h => h) (Or.inr ⟨by rfl, rfl⟩) (by assumption) ?_
                simp only [Act.put, List.setIfInBounds_toArray, List.set_cons_zero, List.set_cons_succ]
                refine wpAnyH_at (i := 60) (some 148) (v := undef) rfl rfl (by kernel_rfl) (by kernel_rfl) (by kernel_rfl) (fun _ _ _ h => h) (Or.inr ⟨by rfl, rfl⟩) (by assumption) ?_
                simp only [Act.put, List.setIfInBounds_toArray, List.set_cons_zero, List.set_cons_succ]
                refine wpAnyH_at (i := 61) (some 149) (v := undef) rfl rfl (by kernel_rfl) (by kernel_rfl) (by kernel_rfl) (fun _ _ _ h => h) (Or.inr ⟨by rfl, rfl⟩) (by assumption) ?_
                simp only [Act.put, List.setIfInBounds_toArray, List.set_cons_zero, List.set_cons_succ]
                refine wpAnyH_at (i := 62) (some 150) (v := ?v62z26) rfl rfl (by kernel_rfl) (by kernel_rfl) (by kernel_rfl) (fun _ _ _ h => h) (Or.inl ⟨by rfl, ?y62z26⟩) (by assumption) ?r62z26
                case y62z26 =>
                  intro w9 hSw
                  obtain ⟨m, rfl⟩ := hSw
                  go_simp
                  all_goals with_reducible rfl
                simp only [Act.put, List.setIfInBounds_toArray, List.set_cons_zero, List.set_cons_succ]
                refine wpAnyH_at (i := 63) (some 151) (v := ?v63z27) rfl rfl (by kernel_rfl) (by kernel_rfl) (by kernel_rfl) (fun _ _ _ h => h) (Or.inl ⟨by rfl, ?y63z27⟩) (by assumption) ?r63z27
                case y63z27 =>
                  intro w9 hSw
                  obtain ⟨m, rfl⟩ := hSw
                  go_simp
                  all_goals with_reducible rfl
                simp only [Act.put, List.setIfInBounds_toArray, List.set_cons_zero, List.set_cons_succ]
                refine wpAnyH_done (by kernel_rfl) ?_ _
                subst hW
                have hD2 := hD.kept (S := fun _ => False) (Kept.of_below (below_drew wr)) (fun h => h)
                obtain ⟨w8, u8, D8, kk8⟩ := hD2.put hwt (by simp <;> omega)
                have k8 : Kept (· = bm) (World.drew wr) w8 := kept_turned kk8 rfl
                have T8 := (T6.new (below_drew wr)).kept k8 (fun j h1 h2 h3 => by omega)
                have o8 := (o6.kept (S := fun _ => False) (Kept.of_below (below_drew wr)) (fun _ _ h => h)).kept k8 (fun ad e => by have := hbo ad e; omega)
                have b8 := (b.step (below_drew wr) (Nat.le_refl _)).trans (k8.below (B := w.heap.size) (by have := (below_drew wr).size; omega) (fun j hj => by omega))
                rw [List.append_assoc, ← hts] at D8
                clear hD2 kk8 k8 hD T6 o6 b hHeld hk3
                generalize World.drew wr = W8 at *
                go_wp2
                go_roundw
                case rel => exact ⟨0 + 1, by omega, by go_num, D8, T8, o8, b8⟩
                case measure => simp [intOf]; omega
              · obtain ⟨k0, rfl⟩ : ∃ k0, k = k0 + 1 := ⟨k - 1, by omega⟩
                have hk0l : k0 < (goT a2 R2).length := by omega
                have hk0n : k0 < n6 := by omega
                have hord := hS.order hO hat (j := k0) hkl
                obtain ⟨pi, pd, hpi, hpn, hpd, hpb, hpu, -⟩ := hS.told hO hI hat hk0l
                obtain ⟨xb, hxb, -, -, cy, -⟩ := o6.at3 hk0n
                injection hxb with hxb
                injection hxb with hxb
                subst hxb
                replace cy : wr.cell? ⟨xa, k0, none⟩ = some (.int .i64 pi) := by rw [← hpi]; simpa using cy
                obtain ⟨bd2, od2, hbd, -, cp⟩ := (H.below b (Nat.le_refl _)).at_ hpn
                rw [hpd] at cp
                injection hbd with hbd
                injection hbd with hbd1 hbd2
                subst hbd1 hbd2
                rw [hti, hpi] at hord
                unfold ltT at hord
                rw [hdu, hpu] at hord
                have hkp : (0 : Int) < ((k0 + 1 : Nat) : Int) := by omega
                have hkm : ((k0 + 1 : Nat) : Int) - 1 = (k0 : Int) := by omega
                have hp1 : (pi : Int) < (n : Int) := by omega
                have hk0i : (k0 : Int) < (n6 : Int) := by omega
                have hk0p : ¬ (k0 : Int) < 0 := by omega
                have hpp : ¬ (pi : Int) < 0 := by omega
                clear hS hpu hpd hpi hdu htd hti hk0l
                by_cases hlt : pd < td
                · have f1 : ¬ (td : Int) < (pd : Int) := by omega
                  have f2 : pd < td := hlt
                  clear hord hlt
                  go_wp2
                  refine wp_region_held_drew (S := fun W => ∃ m, W = wr.drewN m) (by kernel_rfl) ⟨1, rfl⟩ (fun hHeld => ?_)
                  change wpAnyH _ _ _ _ _ _ _ _ (World.drew _)
                  generalize hW : World.drew wr = W0 at *
                  have d1 : decide ((ti : Int) < 0) = false := by simp <;> omega
                  have d2 : decide (n ≤ ti) = false := by simp <;> omega
                  have d3 : decide (a2 < td) = false := by simp <;> omega
                  have d5 : decide ((0 : Int) < (k0 : Int) + 1) = true := by simp <;> omega
                  have d9 : IntKind.i64.wrap (k0 : Int) = (k0 : Int) := by rw [IntKind.wrap_i64]; omega
                  have d5' : (0 : Int) < (k0 : Int) + 1 := by omega
                  have d6 : decide (td < pd) = false := by simp <;> omega
                  have d7 : ¬ pd = td := by omega
                  have d7a : ((pd : Int) == (td : Int)) = false := by simp <;> omega
                  have d7b : (pd == td) = false := by simp <;> omega
                  have d7c : decide ((pd : Int) = (td : Int)) = false := by simp <;> omega
                  have d7d : decide (pd = td) = false := by simp <;> omega
                  have d7e : ¬ (pd : Int) = (td : Int) := by omega
                  refine wpAnyH_at (i := 0) (some 88) (v := ?v0z28) rfl rfl (by kernel_rfl) (by kernel_rfl) (by kernel_rfl) (fun _ _ _ h => h) (Or.inl ⟨by rfl, ?y0z28⟩) (by assumption) ?r0z28
                  case y0z28 =>
                    intro w9 hSw
                    obtain ⟨m, rfl⟩ := hSw
                    go_simp
                    all_goals with_reducible rfl
                  simp only [Act.put, List.setIfInBounds_toArray, List.set_cons_zero, List.set_cons_succ]
                  refine wpAnyH_at (i := 1) (some 89) (v := ?v1z29) rfl rfl (by kernel_rfl) (by kernel_rfl) (by kernel_rfl) (fun _ _ _ h => h) (Or.inl ⟨by rfl, ?y1z29⟩) (by assumption) ?r1z29
                  case y1z29 =>
                    intro w9 hSw
                    obtain ⟨m, rfl⟩ := hSw
                    go_simp
                    all_goals with_reducible rfl
                  simp only [Act.put, List.setIfInBounds_toArray, List.set_cons_zero, List.set_cons_succ]
                  refine wpAnyH_at (i := 2) (some 90) (v := ?v2z30) rfl rfl (by kernel_rfl) (by kernel_rfl) (by kernel_rfl) (fun _ _ _ h => h) (Or.inl ⟨by rfl, ?y2z30⟩) (by assumption) ?r2z30
                  case y2z30 =>
                    intro w9 hSw
                    obtain ⟨m, rfl⟩ := hSw
                    go_simp
                    all_goals with_reducible rfl
                  simp only [Act.put, List.setIfInBounds_toArray, List.set_cons_zero, List.set_cons_succ]
                  refine wpAnyH_at (i := 3) (some 91) (v := ?v3z31) rfl rfl (by kernel_rfl) (by kernel_rfl) (by kernel_rfl) (fun _ _ _ h => h) (Or.inl ⟨by rfl, ?y3z31⟩) (by assumption) ?r3z31
                  case y3z31 =>
                    intro w9 hSw
                    obtain ⟨m, rfl⟩ := hSw
                    go_simp
                    all_goals with_reducible rfl
                  simp only [Act.put, List.setIfInBounds_toArray, List.set_cons_zero, List.set_cons_succ]
                  refine wpAnyH_at (i := 4) (some 92) (v := ?v4z32) rfl rfl (by kernel_rfl) (by kernel_rfl) (by kernel_rfl) (fun _ _ _ h => h) (Or.inl ⟨by rfl, ?y4z32⟩) (by assumption) ?r4z32
                  case y4z32 =>
                    intro w9 hSw
                    obtain ⟨m, rfl⟩ := hSw
                    go_simp
                    all_goals with_reducible rfl
                  simp only [Act.put, List.setIfInBounds_toArray, List.set_cons_zero, List.set_cons_succ]
                  refine wpAnyH_at (i := 5) (some 93) (v := ?v5z33) rfl rfl (by kernel_rfl) (by kernel_rfl) (by kernel_rfl) (fun _ _ _ h => h) (Or.inl ⟨by rfl, ?y5z33⟩) (by assumption) ?r5z33
                  case y5z33 =>
                    intro w9 hSw
                    obtain ⟨m, rfl⟩ := hSw
                    go_simp
                    all_goals with_reducible rfl
                  simp only [Act.put, List.setIfInBounds_toArray, List.set_cons_zero, List.set_cons_succ]
                  refine wpAnyH_at (i := 6) (some 94) (v := ?v6z34) rfl rfl (by kernel_rfl) (by kernel_rfl) (by kernel_rfl) (fun _ _ _ h => h) (Or.inl ⟨by rfl, ?y6z34⟩) (by assumption) ?r6z34
                  case y6z34 =>
                    intro w9 hSw
                    obtain ⟨m, rfl⟩ := hSw
                    go_simp
                    all_goals with_reducible rfl
                  simp only [Act.put, List.setIfInBounds_toArray, List.set_cons_zero, List.set_cons_succ]
                  refine wpAnyH_at (i := 7) (some 95) (v := ?v7z35) rfl rfl (by kernel_rfl) (by kernel_rfl) (by kernel_rfl) (fun _ _ _ h => h) (Or.inl ⟨by rfl, ?y7z35⟩) (by assumption) ?r7z35
                  case y7z35 =>
                    intro w9 hSw
                    obtain ⟨m, rfl⟩ := hSw
                    go_simp
                    all_goals with_reducible rfl
                  simp only [Act.put, List.setIfInBounds_toArray, List.set_cons_zero, List.set_cons_succ]
                  refine wpAnyH_at (i := 8) (some 96) (v := ?v8z36) rfl rfl (by kernel_rfl) (by kernel_rfl) (by kernel_rfl) (fun _ _ _ h => h) (Or.inl ⟨by rfl, ?y8z36⟩) (by assumption) ?r8z36
                  case y8z36 =>
                    intro w9 hSw
                    obtain ⟨m, rfl⟩ := hSw
                    go_simp
                    all_goals with_reducible rfl
                  simp only [Act.put, List.setIfInBounds_toArray, List.set_cons_zero, List.set_cons_succ]
                  refine wpAnyH_at (i := 9) (some 97) (v := ?v9z37) rfl rfl (by kernel_rfl) (by kernel_rfl) (by kernel_rfl) (fun _ _ _ h => h) (Or.inl ⟨by rfl, ?y9z37⟩) (by assumption) ?r9z37
                  case y9z37 =>
                    intro w9 hSw
                    obtain ⟨m, rfl⟩ := hSw
                    go_simp
                    all_goals with_reducible rfl
                  simp only [Act.put, List.setIfInBounds_toArray, List.set_cons_zero, List.set_cons_succ]
                  refine wpAnyH_at (i := 10) (some 98) (v := ?v10z38) rfl rfl (by kernel_rfl) (by kernel_rfl) (by kernel_rfl) (fun _ _ _ h => h) (Or.inl ⟨by rfl, ?y10z38⟩) (by assumption) ?r10z38
                  case y10z38 =>
                    intro w9 hSw
                    obtain ⟨m, rfl⟩ := hSw
                    go_simp
                    all_goals with_reducible rfl
                  simp only [Act.put, List.setIfInBounds_toArray, List.set_cons_zero, List.set_cons_succ]
                  refine wpAnyH_at (i := 11) (some 99) (v := ?v11z39) rfl rfl (by kernel_rfl) (by kernel_rfl) (by kernel_rfl) (fun _ _ _ h => h) (Or.inl ⟨by rfl, ?y11z39⟩) (by assumption) ?r11z39
                  case y11z39 =>
                    intro w9 hSw
                    obtain ⟨m, rfl⟩ := hSw
                    go_simp
                    all_goals with_reducible rfl
                  simp only [Act.put, List.setIfInBounds_toArray, List.set_cons_zero, List.set_cons_succ]
                  refine wpAnyH_at (i := 12) (some 100) (v := ?v12z40) rfl rfl (by kernel_rfl) (by kernel_rfl) (by kernel_rfl) (fun _ _ _ h => h) (Or.inl ⟨by rfl, ?y12z40⟩) (by assumption) ?r12z40
                  case y12z40 =>
                    intro w9 hSw
                    obtain ⟨m, rfl⟩ := hSw
                    go_simp
                    all_goals with_reducible rfl
                  simp only [Act.put, List.setIfInBounds_toArray, List.set_cons_zero, List.set_cons_succ]
                  refine wpAnyH_at (i := 13) (some 101) (v := ?v13z41) rfl rfl (by kernel_rfl) (by kernel_rfl) (by kernel_rfl) (fun _ _ _ h => h) (Or.inl ⟨by rfl, ?y13z41⟩) (by assumption) ?r13z41
                  case y13z41 =>
                    intro w9 hSw
                    obtain ⟨m, rfl⟩ := hSw
                    go_simp
                    all_goals with_reducible rfl
                  simp only [Act.put, List.setIfInBounds_toArray, List.set_cons_zero, List.set_cons_succ]
                  refine wpAnyH_at (i := 14) (some 102) (v := ?v14z42) rfl rfl (by kernel_rfl) (by kernel_rfl) (by kernel_rfl) (fun _ _ _ h => h) (Or.inl ⟨by rfl, ?y14z42⟩) (by assumption) ?r14z42
                  case y14z42 =>
                    intro w9 hSw
                    obtain ⟨m, rfl⟩ := hSw
                    go_simp
                    all_goals with_reducible rfl
                  simp only [Act.put, List.setIfInBounds_toArray, List.set_cons_zero, List.set_cons_succ]
                  refine wpAnyH_at (i := 15) (some 103) (v := ?v15z43) rfl rfl (by kernel_rfl) (by kernel_rfl) (by kernel_rfl) (fun _ _ _ h => h) (Or.inl ⟨by rfl, ?y15z43⟩) (by assumption) ?r15z43
                  case y15z43 =>
                    intro w9 hSw
                    obtain ⟨m, rfl⟩ := hSw
                    go_simp
                    all_goals with_reducible rfl
                  simp only [Act.put, List.setIfInBounds_toArray, List.set_cons_zero, List.set_cons_succ]
                  refine wpAnyH_at (i := 16) (some 104) (v := ?v16z44) rfl rfl (by kernel_rfl) (by kernel_rfl) (by kernel_rfl) (fun _ _ _ h => h) (Or.inl ⟨by rfl, ?y16z44⟩) (by assumption) ?r16z44
                  case y16z44 =>
                    intro w9 hSw
                    obtain ⟨m, rfl⟩ := hSw
                    go_simp
                    all_goals with_reducible rfl
                  simp only [Act.put, List.setIfInBounds_toArray, List.set_cons_zero, List.set_cons_succ]
                  refine wpAnyH_at (i := 17) (some 105) (v := ?v17z45) rfl rfl (by kernel_rfl) (by kernel_rfl) (by kernel_rfl) (fun _ _ _ h => h) (Or.inl ⟨by rfl, ?y17z45⟩) (by assumption) ?r17z45
                  case y17z45 =>
                    intro w9 hSw
                    obtain ⟨m, rfl⟩ := hSw
                    go_simp
                    all_goals with_reducible rfl
                  simp only [Act.put, List.setIfInBounds_toArray, List.set_cons_zero, List.set_cons_succ]
                  refine wpAnyH_at (i := 18) (some 106) (v := ?v18z46) rfl rfl (by kernel_rfl) (by kernel_rfl) (by kernel_rfl) (fun _ _ _ h => h) (Or.inl ⟨by rfl, ?y18z46⟩) (by assumption) ?r18z46
                  case y18z46 =>
                    intro w9 hSw
                    obtain ⟨m, rfl⟩ := hSw
                    go_simp
                    all_goals with_reducible rfl
                  simp only [Act.put, List.setIfInBounds_toArray, List.set_cons_zero, List.set_cons_succ]
                  refine wpAnyH_at (i := 19) (some 107) (v := ?v19z47) rfl rfl (by kernel_rfl) (by kernel_rfl) (by kernel_rfl) (fun _ _ _ h => h) (Or.inl ⟨by rfl, ?y19z47⟩) (by assumption) ?r19z47
                  case y19z47 =>
                    intro w9 hSw
                    obtain ⟨m, rfl⟩ := hSw
                    go_simp
                    all_goals with_reducible rfl
                  simp only [Act.put, List.setIfInBounds_toArray, List.set_cons_zero, List.set_cons_succ]
                  refine wpAnyH_at (i := 20) (some 108) (v := ?v20z48) rfl rfl (by kernel_rfl) (by kernel_rfl) (by kernel_rfl) (fun _ _ _ h => h) (Or.inl ⟨by rfl, ?y20z48⟩) (by assumption) ?r20z48
                  case y20z48 =>
                    intro w9 hSw
                    obtain ⟨m, rfl⟩ := hSw
                    go_simp
                    all_goals with_reducible rfl
                  simp only [Act.put, List.setIfInBounds_toArray, List.set_cons_zero, List.set_cons_succ]
                  refine wpAnyH_at (i := 21) (some 109) (v := ?v21z49) rfl rfl (by kernel_rfl) (by kernel_rfl) (by kernel_rfl) (fun _ _ _ h => h) (Or.inl ⟨by rfl, ?y21z49⟩) (by assumption) ?r21z49
                  case y21z49 =>
                    intro w9 hSw
                    obtain ⟨m, rfl⟩ := hSw
                    go_simp
                    all_goals with_reducible rfl
                  simp only [Act.put, List.setIfInBounds_toArray, List.set_cons_zero, List.set_cons_succ]
                  refine wpAnyH_at (i := 22) (some 110) (v := ?v22z50) rfl rfl (by kernel_rfl) (by kernel_rfl) (by kernel_rfl) (fun _ _ _ h => h) (Or.inl ⟨by rfl, ?y22z50⟩) (by assumption) ?r22z50
                  case y22z50 =>
                    intro w9 hSw
                    obtain ⟨m, rfl⟩ := hSw
                    go_simp
                    all_goals with_reducible rfl
                  simp only [Act.put, List.setIfInBounds_toArray, List.set_cons_zero, List.set_cons_succ]
                  refine wpAnyH_at (i := 23) (some 111) (v := ?v23z51) rfl rfl (by kernel_rfl) (by kernel_rfl) (by kernel_rfl) (fun _ _ _ h => h) (Or.inl ⟨by rfl, ?y23z51⟩) (by assumption) ?r23z51
                  case y23z51 =>
                    intro w9 hSw
                    obtain ⟨m, rfl⟩ := hSw
                    go_simp
                    all_goals with_reducible rfl
                  simp only [Act.put, List.setIfInBounds_toArray, List.set_cons_zero, List.set_cons_succ]
                  refine wpAnyH_at (i := 24) (some 112) (v := ?v24z52) rfl rfl (by kernel_rfl) (by kernel_rfl) (by kernel_rfl) (fun _ _ _ h => h) (Or.inl ⟨by rfl, ?y24z52⟩) (by assumption) ?r24z52
                  case y24z52 =>
                    intro w9 hSw
                    obtain ⟨m, rfl⟩ := hSw
                    go_simp
                    all_goals with_reducible rfl
                  simp only [Act.put, List.setIfInBounds_toArray, List.set_cons_zero, List.set_cons_succ]
                  refine wpAnyH_at (i := 25) (some 113) (v := ?v25z53) rfl rfl (by kernel_rfl) (by kernel_rfl) (by kernel_rfl) (fun _ _ _ h => h) (Or.inl ⟨by rfl, ?y25z53⟩) (by assumption) ?r25z53
                  case y25z53 =>
                    intro w9 hSw
                    obtain ⟨m, rfl⟩ := hSw
                    go_simp
                    all_goals with_reducible rfl
                  simp only [Act.put, List.setIfInBounds_toArray, List.set_cons_zero, List.set_cons_succ]
                  refine wpAnyH_at (i := 26) (some 114) (v := ?v26z54) rfl rfl (by kernel_rfl) (by kernel_rfl) (by kernel_rfl) (fun _ _ _ h => h) (Or.inl ⟨by rfl, ?y26z54⟩) (by assumption) ?r26z54
                  case y26z54 =>
                    intro w9 hSw
                    obtain ⟨m, rfl⟩ := hSw
                    go_simp
                    all_goals with_reducible rfl
                  simp only [Act.put, List.setIfInBounds_toArray, List.set_cons_zero, List.set_cons_succ]
                  refine wpAnyH_at (i := 27) (some 115) (v := ?v27z55) rfl rfl (by kernel_rfl) (by kernel_rfl) (by kernel_rfl) (fun _ _ _ h => h) (Or.inl ⟨by rfl, ?y27z55⟩) (by assumption) ?r27z55
                  case y27z55 =>
                    intro w9 hSw
                    obtain ⟨m, rfl⟩ := hSw
                    go_simp
                    all_goals with_reducible rfl
                  simp only [Act.put, List.setIfInBounds_toArray, List.set_cons_zero, List.set_cons_succ]
                  refine wpAnyH_at (i := 28) (some 116) (v := ?v28z56) rfl rfl (by kernel_rfl) (by kernel_rfl) (by kernel_rfl) (fun _ _ _ h => h) (Or.inl ⟨by rfl, ?y28z56⟩) (by assumption) ?r28z56
                  case y28z56 =>
                    intro w9 hSw
                    obtain ⟨m, rfl⟩ := hSw
                    go_simp
                    all_goals with_reducible rfl
                  simp only [Act.put, List.setIfInBounds_toArray, List.set_cons_zero, List.set_cons_succ]
                  refine wpAnyH_at (i := 29) (some 117) (v := ?v29z57) rfl rfl (by kernel_rfl) (by kernel_rfl) (by kernel_rfl) (fun _ _ _ h => h) (Or.inl ⟨by rfl, ?y29z57⟩) (by assumption) ?r29z57
                  case y29z57 =>
                    intro w9 hSw
                    obtain ⟨m, rfl⟩ := hSw
                    go_simp
                    all_goals with_reducible rfl
                  simp only [Act.put, List.setIfInBounds_toArray, List.set_cons_zero, List.set_cons_succ]
                  refine wpAnyH_at (i := 30) (some 118) (v := ?v30z58) rfl rfl (by kernel_rfl) (by kernel_rfl) (by kernel_rfl) (fun _ _ _ h => h) (Or.inl ⟨by rfl, ?y30z58⟩) (by assumption) ?r30z58
                  case y30z58 =>
                    intro w9 hSw
                    obtain ⟨m, rfl⟩ := hSw
                    go_simp
                    all_goals with_reducible rfl
                  simp only [Act.put, List.setIfInBounds_toArray, List.set_cons_zero, List.set_cons_succ]
                  refine wpAnyH_at (i := 31) (some 119) (v := ?v31z59) rfl rfl (by kernel_rfl) (by kernel_rfl) (by kernel_rfl) (fun _ _ _ h => h) (Or.inl ⟨by rfl, ?y31z59⟩) (by assumption) ?r31z59
                  case y31z59 =>
                    intro w9 hSw
                    obtain ⟨m, rfl⟩ := hSw
                    go_simp
                    all_goals with_reducible rfl
                  simp only [Act.put, List.setIfInBounds_toArray, List.set_cons_zero, List.set_cons_succ]
                  refine wpAnyH_at (i := 32) (some 120) (v := ?v32z60) rfl rfl (by kernel_rfl) (by kernel_rfl) (by kernel_rfl) (fun _ _ _ h => h) (Or.inl ⟨by rfl, ?y32z60⟩) (by assumption) ?r32z60
                  case y32z60 =>
                    intro w9 hSw
                    obtain ⟨m, rfl⟩ := hSw
                    go_simp
                    all_goals with_reducible rfl
                  simp only [Act.put, List.setIfInBounds_toArray, List.set_cons_zero, List.set_cons_succ]
                  refine wpAnyH_at (i := 33) (some 121) (v := ?v33z61) rfl rfl (by kernel_rfl) (by kernel_rfl) (by kernel_rfl) (fun _ _ _ h => h) (Or.inl ⟨by rfl, ?y33z61⟩) (by assumption) ?r33z61
                  case y33z61 =>
                    intro w9 hSw
                    obtain ⟨m, rfl⟩ := hSw
                    go_simp
                    all_goals with_reducible rfl
                  simp only [Act.put, List.setIfInBounds_toArray, List.set_cons_zero, List.set_cons_succ]
                  refine wpAnyH_at (i := 34) (some 122) (v := ?v34z62) rfl rfl (by kernel_rfl) (by kernel_rfl) (by kernel_rfl) (fun _ _ _ h => h) (Or.inl ⟨by rfl, ?y34z62⟩) (by assumption) ?r34z62
                  case y34z62 =>
                    intro w9 hSw
                    obtain ⟨m, rfl⟩ := hSw
                    go_simp
                    all_goals with_reducible rfl
                  simp only [Act.put, List.setIfInBounds_toArray, List.set_cons_zero, List.set_cons_succ]
                  refine wpAnyH_at (i := 35) (some 123) (v := ?v35z63) rfl rfl (by kernel_rfl) (by kernel_rfl) (by kernel_rfl) (fun _ _ _ h => h) (Or.inl ⟨by rfl, ?y35z63⟩) (by assumption) ?r35z63
                  case y35z63 =>
                    intro w9 hSw
                    obtain ⟨m, rfl⟩ := hSw
                    go_simp
                    all_goals with_reducible rfl
                  simp only [Act.put, List.setIfInBounds_toArray, List.set_cons_zero, List.set_cons_succ]
                  refine wpAnyH_at (i := 36) (some 124) (v := ?v36z64) rfl rfl (by kernel_rfl) (by kernel_rfl) (by kernel_rfl) (fun _ _ _ h => h) (Or.inl ⟨by rfl, ?y36z64⟩) (by assumption) ?r36z64
                  case y36z64 =>
                    intro w9 hSw
                    obtain ⟨m, rfl⟩ := hSw
                    go_simp
                    all_goals with_reducible rfl
                  simp only [Act.put, List.setIfInBounds_toArray, List.set_cons_zero, List.set_cons_succ]
                  refine wpAnyH_at (i := 37) (some 125) (v := ?v37z65) rfl rfl (by kernel_rfl) (by kernel_rfl) (by kernel_rfl) (fun _ _ _ h => h) (Or.inl ⟨by rfl, ?y37z65⟩) (by assumption) ?r37z65
                  case y37z65 =>
                    intro w9 hSw
                    obtain ⟨m, rfl⟩ := hSw
                    go_simp
                    all_goals with_reducible rfl
                  simp only [Act.put, List.setIfInBounds_toArray, List.set_cons_zero, List.set_cons_succ]
                  refine wpAnyH_at (i := 38) (some 126) (v := ?v38z66) rfl rfl (by kernel_rfl) (by kernel_rfl) (by kernel_rfl) (fun _ _ _ h => h) (Or.inl ⟨by rfl, ?y38z66⟩) (by assumption) ?r38z66
                  case y38z66 =>
                    intro w9 hSw
                    obtain ⟨m, rfl⟩ := hSw
                    go_simp
                    all_goals with_reducible rfl
                  simp only [Act.put, List.setIfInBounds_toArray, List.set_cons_zero, List.set_cons_succ]
                  refine wpAnyH_at (i := 39) (some 127) (v := ?v39z67) rfl rfl (by kernel_rfl) (by kernel_rfl) (by kernel_rfl) (fun _ _ _ h => h) (Or.inl ⟨by rfl, ?y39z67⟩) (by assumption) ?r39z67
                  case y39z67 =>
                    intro w9 hSw
                    obtain ⟨m, rfl⟩ := hSw
                    go_simp
                    all_goals with_reducible rfl
                  simp only [Act.put, List.setIfInBounds_toArray, List.set_cons_zero, List.set_cons_succ]
                  refine wpAnyH_at (i := 40) (some 128) (v := ?v40z68) rfl rfl (by kernel_rfl) (by kernel_rfl) (by kernel_rfl) (fun _ _ _ h => h) (Or.inl ⟨by rfl, ?y40z68⟩) (by assumption) ?r40z68
                  case y40z68 =>
                    intro w9 hSw
                    obtain ⟨m, rfl⟩ := hSw
                    go_simp
                    all_goals with_reducible rfl
                  simp only [Act.put, List.setIfInBounds_toArray, List.set_cons_zero, List.set_cons_succ]
                  refine wpAnyH_at (i := 41) (some 129) (v := ?v41z69) rfl rfl (by kernel_rfl) (by kernel_rfl) (by kernel_rfl) (fun _ _ _ h => h) (Or.inl ⟨by rfl, ?y41z69⟩) (by assumption) ?r41z69
                  case y41z69 =>
                    intro w9 hSw
                    obtain ⟨m, rfl⟩ := hSw
                    go_simp
                    all_goals with_reducible rfl
                  simp only [Act.put, List.setIfInBounds_toArray, List.set_cons_zero, List.set_cons_succ]
                  refine wpAnyH_at (i := 42) (some 130) (v := ?v42z70) rfl rfl (by kernel_rfl) (by kernel_rfl) (by kernel_rfl) (fun _ _ _ h => h) (Or.inl ⟨by rfl, ?y42z70⟩) (by assumption) ?r42z70
                  case y42z70 =>
                    intro w9 hSw
                    obtain ⟨m, rfl⟩ := hSw
                    go_simp
                    all_goals with_reducible rfl
                  simp only [Act.put, List.setIfInBounds_toArray, List.set_cons_zero, List.set_cons_succ]
                  refine wpAnyH_at (i := 43) (some 131) (v := ?v43z71) rfl rfl (by kernel_rfl) (by kernel_rfl) (by kernel_rfl) (fun _ _ _ h => h) (Or.inl ⟨by rfl, ?y43z71⟩) (by assumption) ?r43z71
                  case y43z71 =>
                    intro w9 hSw
                    obtain ⟨m, rfl⟩ := hSw
                    go_simp
                    all_goals with_reducible rfl
                  simp only [Act.put, List.setIfInBounds_toArray, List.set_cons_zero, List.set_cons_succ]
                  refine wpAnyH_at (i := 44) (some 132) (v := ?v44z72) rfl rfl (by kernel_rfl) (by kernel_rfl) (by kernel_rfl) (fun _ _ _ h => h) (Or.inl ⟨by rfl, ?y44z72⟩) (by assumption) ?r44z72
                  case y44z72 =>
                    intro w9 hSw
                    obtain ⟨m, rfl⟩ := hSw
                    go_simp
                    all_goals with_reducible rfl
                  simp only [Act.put, List.setIfInBounds_toArray, List.set_cons_zero, List.set_cons_succ]
                  refine wpAnyH_at (i := 45) (some 133) (v := ?v45z73) rfl rfl (by kernel_rfl) (by kernel_rfl) (by kernel_rfl) (fun _ _ _ h => h) (Or.inl ⟨by rfl, ?y45z73⟩) (by assumption) ?r45z73
                  case y45z73 =>
                    intro w9 hSw
                    obtain ⟨m, rfl⟩ := hSw
                    go_simp
                    all_goals with_reducible rfl
                  simp only [Act.put, List.setIfInBounds_toArray, List.set_cons_zero, List.set_cons_succ]
                  refine wpAnyH_at (i := 46) (some 134) (v := ?v46z74) rfl rfl (by kernel_rfl) (by kernel_rfl) (by kernel_rfl) (fun _ _ _ h => h) (Or.inl ⟨by rfl, ?y46z74⟩) (by assumption) ?r46z74
                  case y46z74 =>
                    intro w9 hSw
                    obtain ⟨m, rfl⟩ := hSw
                    go_simp
                    all_goals with_reducible rfl
                  simp only [Act.put, List.setIfInBounds_toArray, List.set_cons_zero, List.set_cons_succ]
                  refine wpAnyH_at (i := 47) (some 135) (v := ?v47z75) rfl rfl (by kernel_rfl) (by kernel_rfl) (by kernel_rfl) (fun _ _ _ h => h) (Or.inl ⟨by rfl, ?y47z75⟩) (by assumption) ?r47z75
                  case y47z75 =>
                    intro w9 hSw
                    obtain ⟨m, rfl⟩ := hSw
                    go_simp
                    all_goals with_reducible rfl
                  simp only [Act.put, List.setIfInBounds_toArray, List.set_cons_zero, List.set_cons_succ]
                  refine wpAnyH_at (i := 48) (some 136) (v := ?v48z76) rfl rfl (by kernel_rfl) (by kernel_rfl) (by kernel_rfl) (fun _ _ _ h => h) (Or.inl ⟨by rfl, ?y48z76⟩) (by assumption) ?r48z76
                  case y48z76 =>
                    intro w9 hSw
                    obtain ⟨m, rfl⟩ := hSw
                    go_simp
                    all_goals with_reducible rfl
                  simp only [Act.put, List.setIfInBounds_toArray, List.set_cons_zero, List.set_cons_succ]
                  refine wpAnyH_at (i := 49) (some 137) (v := ?v49z77) rfl rfl (by kernel_rfl) (by kernel_rfl) (by kernel_rfl) (fun _ _ _ h => h) (Or.inl ⟨by rfl, ?y49z77⟩) (by assumption) ?r49z77
                  case y49z77 =>
                    intro w9 hSw
                    obtain ⟨m, rfl⟩ := hSw
                    go_simp
                    all_goals with_reducible rfl
                  simp only [Act.put, List.setIfInBounds_toArray, List.set_cons_zero, List.set_cons_succ]
                  refine wpAnyH_at (i := 50) (some 138) (v := ?v50z78) rfl rfl (by kernel_rfl) (by kernel_rfl) (by kernel_rfl) (fun _ _ _ h => h) (Or.inl ⟨by rfl, ?y50z78⟩) (by assumption) ?r50z78
                  case y50z78 =>
                    intro w9 hSw
                    obtain ⟨m, rfl⟩ := hSw
                    go_simp
                    all_goals with_reducible rfl
                  simp only [Act.put, List.setIfInBounds_toArray, List.set_cons_zero, List.set_cons_succ]
                  refine wpAnyH_at (i := 51) (some 139) (v := ?v51z79) rfl rfl (by kernel_rfl) (by kernel_rfl) (by kernel_rfl) (fun _ _ _ h => h) (Or.inl ⟨by rfl, ?y51z79⟩) (by assumption) ?r51z79
                  case y51z79 =>
                    intro w9 hSw
                    obtain ⟨m, rfl⟩ := hSw
                    go_simp
                    all_goals with_reducible rfl
                  simp only [Act.put, List.setIfInBounds_toArray, List.set_cons_zero, List.set_cons_succ]
                  refine wpAnyH_at (i := 52) (some 140) (v := ?v52z80) rfl rfl (by kernel_rfl) (by kernel_rfl) (by kernel_rfl) (fun _ _ _ h => h) (Or.inl ⟨by rfl, ?y52z80⟩) (by assumption) ?r52z80
                  case y52z80 =>
                    intro w9 hSw
                    obtain ⟨m, rfl⟩ := hSw
                    go_simp
                    all_goals with_reducible rfl
                  simp only [Act.put, List.setIfInBounds_toArray, List.set_cons_zero, List.set_cons_succ]
                  refine wpAnyH_at (i := 53) (some 141) (v := undef) rfl rfl (by kernel_rfl) (by kernel_rfl) (by kernel_rfl) (fun _ _ _ h => h) (Or.inr ⟨by rfl, rfl⟩) (by assumption) ?_
                  simp only [Act.put, List.setIfInBounds_toArray, List.set_cons_zero, List.set_cons_succ]
                  refine wpAnyH_at (i := 54) (some 142) (v := undef) rfl rfl (by kernel_rfl) (by kernel_rfl) (by kernel_rfl) (fun _ _ _ h => h) (Or.inr ⟨by rfl, rfl⟩) (by assumption) ?_
                  simp only [Act.put, List.setIfInBounds_toArray, List.set_cons_zero, List.set_cons_succ]
                  refine wpAnyH_at (i := 55) (some 143) (v := undef) rfl rfl (by kernel_rfl) (by kernel_rfl) (by kernel_rfl) (fun _ _ _ h => h) (Or.inr ⟨by rfl, rfl⟩) (by assumption) ?_
                  simp only [Act.put, List.setIfInBounds_toArray, List.set_cons_zero, List.set_cons_succ]
                  refine wpAnyH_at (i := 56) (some 144) (v := undef) rfl rfl (by kernel_rfl) (by kernel_rfl) (by kernel_rfl) (fun _ _ _ h => h) (Or.inr ⟨by rfl, rfl⟩) (by assumption) ?_
                  simp only [Act.put, List.setIfInBounds_toArray, List.set_cons_zero, List.set_cons_succ]
                  refine wpAnyH_at (i := 57) (some 145) (v := undef) rfl rfl (by kernel_rfl) (by kernel_rfl) (by kernel_rfl) (fun _ _ _ h => h) (Or.inr ⟨by rfl, rfl⟩) (by assumption) ?_
                  simp only [Act.put, List.setIfInBounds_toArray, List.set_cons_zero, List.set_cons_succ]
                  refine wpAnyH_at (i := 58) (some 146) (v := undef) rfl rfl (by kernel_rfl) (by kernel_rfl) (by kernel_rfl) (fun _ _ _ h => h) (Or.inr ⟨by rfl, rfl⟩) (by assumption) ?_
                  simp only [Act.put, List.setIfInBounds_toArray, List.set_cons_zero, List.set_cons_succ]
                  refine wpAnyH_at (i := 59) (some 147) (v := undef) rfl rfl (by kernel_rfl) (by kernel_rfl) (by kernel_rfl) (fun _ _ _ h => h) (Or.inr ⟨by rfl, rfl⟩) (by assumption) ?_
                  simp only [Act.put, List.setIfInBounds_toArray, List.set_cons_zero, List.set_cons_succ]
                  refine wpAnyH_at (i := 60) (some 148) (v := ?v60z81) rfl rfl (by kernel_rfl) (by kernel_rfl) (by kernel_rfl) (fun _ _ _ h => h) (Or.inl ⟨by rfl, ?y60z81⟩) (by assumption) ?r60z81
                  case y60z81 =>
                    intro w9 hSw
                    obtain ⟨m, rfl⟩ := hSw
                    go_simp
                    all_goals with_reducible rfl
                  simp only [Act.put, List.setIfInBounds_toArray, List.set_cons_zero, List.set_cons_succ]
                  refine wpAnyH_at (i := 61) (some 149) (v := ?v61z82) rfl rfl (by kernel_rfl) (by kernel_rfl) (by kernel_rfl) (fun _ _ _ h => h) (Or.inl ⟨by rfl, ?y61z82⟩) (by assumption) ?r61z82
                  case y61z82 =>
                    intro w9 hSw
                    obtain ⟨m, rfl⟩ := hSw
                    go_simp
                    all_goals with_reducible rfl
                  simp only [Act.put, List.setIfInBounds_toArray, List.set_cons_zero, List.set_cons_succ]
                  refine wpAnyH_at (i := 62) (some 150) (v := ?v62z83) rfl rfl (by kernel_rfl) (by kernel_rfl) (by kernel_rfl) (fun _ _ _ h => h) (Or.inl ⟨by rfl, ?y62z83⟩) (by assumption) ?r62z83
                  case y62z83 =>
                    intro w9 hSw
                    obtain ⟨m, rfl⟩ := hSw
                    go_simp
                    all_goals with_reducible rfl
                  simp only [Act.put, List.setIfInBounds_toArray, List.set_cons_zero, List.set_cons_succ]
                  refine wpAnyH_at (i := 63) (some 151) (v := ?v63z84) rfl rfl (by kernel_rfl) (by kernel_rfl) (by kernel_rfl) (fun _ _ _ h => h) (Or.inl ⟨by rfl, ?y63z84⟩) (by assumption) ?r63z84
                  case y63z84 =>
                    intro w9 hSw
                    obtain ⟨m, rfl⟩ := hSw
                    go_simp
                    all_goals with_reducible rfl
                  simp only [Act.put, List.setIfInBounds_toArray, List.set_cons_zero, List.set_cons_succ]
                  refine wpAnyH_done (by kernel_rfl) ?_ _
                  subst hW
                  have hD2 := hD.kept (S := fun _ => False) (Kept.of_below (below_drew wr)) (fun h => h)
                  obtain ⟨w8, u8, D8, kk8⟩ := hD2.put hwt (by simp <;> omega)
                  have k8 : Kept (· = bm) (World.drew wr) w8 := kept_turned kk8 rfl
                  have T8 := (T6.new (below_drew wr)).kept k8 (fun j h1 h2 h3 => by omega)
                  have o8 := (o6.kept (S := fun _ => False) (Kept.of_below (below_drew wr)) (fun _ _ h => h)).kept k8 (fun ad e => by have := hbo ad e; omega)
                  have b8 := (b.step (below_drew wr) (Nat.le_refl _)).trans (k8.below (B := w.heap.size) (by have := (below_drew wr).size; omega) (fun j hj => by omega))
                  rw [List.append_assoc, ← hts] at D8
                  clear hD2 kk8 k8 hD T6 o6 b hHeld hk3
                  generalize World.drew wr = W8 at *
                  go_wp2
                  go_roundw
                  case rel => exact ⟨k0 + 1 + 1, by omega, by go_num, D8, T8, o8, b8⟩
                  case measure => simp [intOf]; omega
                · obtain rfl : td = pd := by omega
                  have f3 : pi < ti := by omega
                  clear hord hlt
                  go_wp2
                  refine wp_region_held_drew (S := fun W => ∃ m, W = wr.drewN m) (by kernel_rfl) ⟨1, rfl⟩ (fun hHeld => ?_)
                  change wpAnyH _ _ _ _ _ _ _ _ (World.drew _)
                  generalize hW : World.drew wr = W0 at *
                  have d1 : decide ((ti : Int) < 0) = false := by simp <;> omega
                  have d2 : decide (n ≤ ti) = false := by simp <;> omega
                  have d3 : decide (a2 < td) = false := by simp <;> omega
                  have d5 : decide ((0 : Int) < (k0 : Int) + 1) = true := by simp <;> omega
                  have d9 : IntKind.i64.wrap (k0 : Int) = (k0 : Int) := by rw [IntKind.wrap_i64]; omega
                  have d5' : (0 : Int) < (k0 : Int) + 1 := by omega
                  have d6 : decide (td < td) = false := by simp <;> omega
                  have d8 : decide (ti ≤ pi) = false := by simp <;> omega
                  refine wpAnyH_at (i := 0) (some 88) (v := ?v0z85) rfl rfl (by kernel_rfl) (by kernel_rfl) (by kernel_rfl) (fun _ _ _ h => h) (Or.inl ⟨by rfl, ?y0z85⟩) (by assumption) ?r0z85
                  case y0z85 =>
                    intro w9 hSw
                    obtain ⟨m, rfl⟩ := hSw
                    go_simp
                    all_goals with_reducible rfl
                  simp only [Act.put, List.setIfInBounds_toArray, List.set_cons_zero, List.set_cons_succ]
                  refine wpAnyH_at (i := 1) (some 89) (v := ?v1z86) rfl rfl (by kernel_rfl) (by kernel_rfl) (by kernel_rfl) (fun _ _ _ h => h) (Or.inl ⟨by rfl, ?y1z86⟩) (by assumption) ?r1z86
                  case y1z86 =>
                    intro w9 hSw
                    obtain ⟨m, rfl⟩ := hSw
                    go_simp
                    all_goals with_reducible rfl
                  simp only [Act.put, List.setIfInBounds_toArray, List.set_cons_zero, List.set_cons_succ]
                  refine wpAnyH_at (i := 2) (some 90) (v := ?v2z87) rfl rfl (by kernel_rfl) (by kernel_rfl) (by kernel_rfl) (fun _ _ _ h => h) (Or.inl ⟨by rfl, ?y2z87⟩) (by assumption) ?r2z87
                  case y2z87 =>
                    intro w9 hSw
                    obtain ⟨m, rfl⟩ := hSw
                    go_simp
                    all_goals with_reducible rfl
                  simp only [Act.put, List.setIfInBounds_toArray, List.set_cons_zero, List.set_cons_succ]
                  refine wpAnyH_at (i := 3) (some 91) (v := ?v3z88) rfl rfl (by kernel_rfl) (by kernel_rfl) (by kernel_rfl) (fun _ _ _ h => h) (Or.inl ⟨by rfl, ?y3z88⟩) (by assumption) ?r3z88
                  case y3z88 =>
                    intro w9 hSw
                    obtain ⟨m, rfl⟩ := hSw
                    go_simp
                    all_goals with_reducible rfl
                  simp only [Act.put, List.setIfInBounds_toArray, List.set_cons_zero, List.set_cons_succ]
                  refine wpAnyH_at (i := 4) (some 92) (v := ?v4z89) rfl rfl (by kernel_rfl) (by kernel_rfl) (by kernel_rfl) (fun _ _ _ h => h) (Or.inl ⟨by rfl, ?y4z89⟩) (by assumption) ?r4z89
                  case y4z89 =>
                    intro w9 hSw
                    obtain ⟨m, rfl⟩ := hSw
                    go_simp
                    all_goals with_reducible rfl
                  simp only [Act.put, List.setIfInBounds_toArray, List.set_cons_zero, List.set_cons_succ]
                  refine wpAnyH_at (i := 5) (some 93) (v := ?v5z90) rfl rfl (by kernel_rfl) (by kernel_rfl) (by kernel_rfl) (fun _ _ _ h => h) (Or.inl ⟨by rfl, ?y5z90⟩) (by assumption) ?r5z90
                  case y5z90 =>
                    intro w9 hSw
                    obtain ⟨m, rfl⟩ := hSw
                    go_simp
                    all_goals with_reducible rfl
                  simp only [Act.put, List.setIfInBounds_toArray, List.set_cons_zero, List.set_cons_succ]
                  refine wpAnyH_at (i := 6) (some 94) (v := ?v6z91) rfl rfl (by kernel_rfl) (by kernel_rfl) (by kernel_rfl) (fun _ _ _ h => h) (Or.inl ⟨by rfl, ?y6z91⟩) (by assumption) ?r6z91
                  case y6z91 =>
                    intro w9 hSw
                    obtain ⟨m, rfl⟩ := hSw
                    go_simp
                    all_goals with_reducible rfl
                  simp only [Act.put, List.setIfInBounds_toArray, List.set_cons_zero, List.set_cons_succ]
                  refine wpAnyH_at (i := 7) (some 95) (v := ?v7z92) rfl rfl (by kernel_rfl) (by kernel_rfl) (by kernel_rfl) (fun _ _ _ h => h) (Or.inl ⟨by rfl, ?y7z92⟩) (by assumption) ?r7z92
                  case y7z92 =>
                    intro w9 hSw
                    obtain ⟨m, rfl⟩ := hSw
                    go_simp
                    all_goals with_reducible rfl
                  simp only [Act.put, List.setIfInBounds_toArray, List.set_cons_zero, List.set_cons_succ]
                  refine wpAnyH_at (i := 8) (some 96) (v := ?v8z93) rfl rfl (by kernel_rfl) (by kernel_rfl) (by kernel_rfl) (fun _ _ _ h => h) (Or.inl ⟨by rfl, ?y8z93⟩) (by assumption) ?r8z93
                  case y8z93 =>
                    intro w9 hSw
                    obtain ⟨m, rfl⟩ := hSw
                    go_simp
                    all_goals with_reducible rfl
                  simp only [Act.put, List.setIfInBounds_toArray, List.set_cons_zero, List.set_cons_succ]
                  refine wpAnyH_at (i := 9) (some 97) (v := ?v9z94) rfl rfl (by kernel_rfl) (by kernel_rfl) (by kernel_rfl) (fun _ _ _ h => h) (Or.inl ⟨by rfl, ?y9z94⟩) (by assumption) ?r9z94
                  case y9z94 =>
                    intro w9 hSw
                    obtain ⟨m, rfl⟩ := hSw
                    go_simp
                    all_goals with_reducible rfl
                  simp only [Act.put, List.setIfInBounds_toArray, List.set_cons_zero, List.set_cons_succ]
                  refine wpAnyH_at (i := 10) (some 98) (v := ?v10z95) rfl rfl (by kernel_rfl) (by kernel_rfl) (by kernel_rfl) (fun _ _ _ h => h) (Or.inl ⟨by rfl, ?y10z95⟩) (by assumption) ?r10z95
                  case y10z95 =>
                    intro w9 hSw
                    obtain ⟨m, rfl⟩ := hSw
                    go_simp
                    all_goals with_reducible rfl
                  simp only [Act.put, List.setIfInBounds_toArray, List.set_cons_zero, List.set_cons_succ]
                  refine wpAnyH_at (i := 11) (some 99) (v := ?v11z96) rfl rfl (by kernel_rfl) (by kernel_rfl) (by kernel_rfl) (fun _ _ _ h => h) (Or.inl ⟨by rfl, ?y11z96⟩) (by assumption) ?r11z96
                  case y11z96 =>
                    intro w9 hSw
                    obtain ⟨m, rfl⟩ := hSw
                    go_simp
                    all_goals with_reducible rfl
                  simp only [Act.put, List.setIfInBounds_toArray, List.set_cons_zero, List.set_cons_succ]
                  refine wpAnyH_at (i := 12) (some 100) (v := ?v12z97) rfl rfl (by kernel_rfl) (by kernel_rfl) (by kernel_rfl) (fun _ _ _ h => h) (Or.inl ⟨by rfl, ?y12z97⟩) (by assumption) ?r12z97
                  case y12z97 =>
                    intro w9 hSw
                    obtain ⟨m, rfl⟩ := hSw
                    go_simp
                    all_goals with_reducible rfl
                  simp only [Act.put, List.setIfInBounds_toArray, List.set_cons_zero, List.set_cons_succ]
                  refine wpAnyH_at (i := 13) (some 101) (v := ?v13z98) rfl rfl (by kernel_rfl) (by kernel_rfl) (by kernel_rfl) (fun _ _ _ h => h) (Or.inl ⟨by rfl, ?y13z98⟩) (by assumption) ?r13z98
                  case y13z98 =>
                    intro w9 hSw
                    obtain ⟨m, rfl⟩ := hSw
                    go_simp
                    all_goals with_reducible rfl
                  simp only [Act.put, List.setIfInBounds_toArray, List.set_cons_zero, List.set_cons_succ]
                  refine wpAnyH_at (i := 14) (some 102) (v := ?v14z99) rfl rfl (by kernel_rfl) (by kernel_rfl) (by kernel_rfl) (fun _ _ _ h => h) (Or.inl ⟨by rfl, ?y14z99⟩) (by assumption) ?r14z99
                  case y14z99 =>
                    intro w9 hSw
                    obtain ⟨m, rfl⟩ := hSw
                    go_simp
                    all_goals with_reducible rfl
                  simp only [Act.put, List.setIfInBounds_toArray, List.set_cons_zero, List.set_cons_succ]
                  refine wpAnyH_at (i := 15) (some 103) (v := ?v15z100) rfl rfl (by kernel_rfl) (by kernel_rfl) (by kernel_rfl) (fun _ _ _ h => h) (Or.inl ⟨by rfl, ?y15z100⟩) (by assumption) ?r15z100
                  case y15z100 =>
                    intro w9 hSw
                    obtain ⟨m, rfl⟩ := hSw
                    go_simp
                    all_goals with_reducible rfl
                  simp only [Act.put, List.setIfInBounds_toArray, List.set_cons_zero, List.set_cons_succ]
                  refine wpAnyH_at (i := 16) (some 104) (v := ?v16z101) rfl rfl (by kernel_rfl) (by kernel_rfl) (by kernel_rfl) (fun _ _ _ h => h) (Or.inl ⟨by rfl, ?y16z101⟩) (by assumption) ?r16z101
                  case y16z101 =>
                    intro w9 hSw
                    obtain ⟨m, rfl⟩ := hSw
                    go_simp
                    all_goals with_reducible rfl
                  simp only [Act.put, List.setIfInBounds_toArray, List.set_cons_zero, List.set_cons_succ]
                  refine wpAnyH_at (i := 17) (some 105) (v := ?v17z102) rfl rfl (by kernel_rfl) (by kernel_rfl) (by kernel_rfl) (fun _ _ _ h => h) (Or.inl ⟨by rfl, ?y17z102⟩) (by assumption) ?r17z102
                  case y17z102 =>
                    intro w9 hSw
                    obtain ⟨m, rfl⟩ := hSw
                    go_simp
                    all_goals with_reducible rfl
                  simp only [Act.put, List.setIfInBounds_toArray, List.set_cons_zero, List.set_cons_succ]
                  refine wpAnyH_at (i := 18) (some 106) (v := ?v18z103) rfl rfl (by kernel_rfl) (by kernel_rfl) (by kernel_rfl) (fun _ _ _ h => h) (Or.inl ⟨by rfl, ?y18z103⟩) (by assumption) ?r18z103
                  case y18z103 =>
                    intro w9 hSw
                    obtain ⟨m, rfl⟩ := hSw
                    go_simp
                    all_goals with_reducible rfl
                  simp only [Act.put, List.setIfInBounds_toArray, List.set_cons_zero, List.set_cons_succ]
                  refine wpAnyH_at (i := 19) (some 107) (v := ?v19z104) rfl rfl (by kernel_rfl) (by kernel_rfl) (by kernel_rfl) (fun _ _ _ h => h) (Or.inl ⟨by rfl, ?y19z104⟩) (by assumption) ?r19z104
                  case y19z104 =>
                    intro w9 hSw
                    obtain ⟨m, rfl⟩ := hSw
                    go_simp
                    all_goals with_reducible rfl
                  simp only [Act.put, List.setIfInBounds_toArray, List.set_cons_zero, List.set_cons_succ]
                  refine wpAnyH_at (i := 20) (some 108) (v := ?v20z105) rfl rfl (by kernel_rfl) (by kernel_rfl) (by kernel_rfl) (fun _ _ _ h => h) (Or.inl ⟨by rfl, ?y20z105⟩) (by assumption) ?r20z105
                  case y20z105 =>
                    intro w9 hSw
                    obtain ⟨m, rfl⟩ := hSw
                    go_simp
                    all_goals with_reducible rfl
                  simp only [Act.put, List.setIfInBounds_toArray, List.set_cons_zero, List.set_cons_succ]
                  refine wpAnyH_at (i := 21) (some 109) (v := ?v21z106) rfl rfl (by kernel_rfl) (by kernel_rfl) (by kernel_rfl) (fun _ _ _ h => h) (Or.inl ⟨by rfl, ?y21z106⟩) (by assumption) ?r21z106
                  case y21z106 =>
                    intro w9 hSw
                    obtain ⟨m, rfl⟩ := hSw
                    go_simp
                    all_goals with_reducible rfl
                  simp only [Act.put, List.setIfInBounds_toArray, List.set_cons_zero, List.set_cons_succ]
                  refine wpAnyH_at (i := 22) (some 110) (v := ?v22z107) rfl rfl (by kernel_rfl) (by kernel_rfl) (by kernel_rfl) (fun _ _ _ h => h) (Or.inl ⟨by rfl, ?y22z107⟩) (by assumption) ?r22z107
                  case y22z107 =>
                    intro w9 hSw
                    obtain ⟨m, rfl⟩ := hSw
                    go_simp
                    all_goals with_reducible rfl
                  simp only [Act.put, List.setIfInBounds_toArray, List.set_cons_zero, List.set_cons_succ]
                  refine wpAnyH_at (i := 23) (some 111) (v := ?v23z108) rfl rfl (by kernel_rfl) (by kernel_rfl) (by kernel_rfl) (fun _ _ _ h => h) (Or.inl ⟨by rfl, ?y23z108⟩) (by assumption) ?r23z108
                  case y23z108 =>
                    intro w9 hSw
                    obtain ⟨m, rfl⟩ := hSw
                    go_simp
                    all_goals with_reducible rfl
                  simp only [Act.put, List.setIfInBounds_toArray, List.set_cons_zero, List.set_cons_succ]
                  refine wpAnyH_at (i := 24) (some 112) (v := ?v24z109) rfl rfl (by kernel_rfl) (by kernel_rfl) (by kernel_rfl) (fun _ _ _ h => h) (Or.inl ⟨by rfl, ?y24z109⟩) (by assumption) ?r24z109
                  case y24z109 =>
                    intro w9 hSw
                    obtain ⟨m, rfl⟩ := hSw
                    go_simp
                    all_goals with_reducible rfl
                  simp only [Act.put, List.setIfInBounds_toArray, List.set_cons_zero, List.set_cons_succ]
                  refine wpAnyH_at (i := 25) (some 113) (v := ?v25z110) rfl rfl (by kernel_rfl) (by kernel_rfl) (by kernel_rfl) (fun _ _ _ h => h) (Or.inl ⟨by rfl, ?y25z110⟩) (by assumption) ?r25z110
                  case y25z110 =>
                    intro w9 hSw
                    obtain ⟨m, rfl⟩ := hSw
                    go_simp
                    all_goals with_reducible rfl
                  simp only [Act.put, List.setIfInBounds_toArray, List.set_cons_zero, List.set_cons_succ]
                  refine wpAnyH_at (i := 26) (some 114) (v := ?v26z111) rfl rfl (by kernel_rfl) (by kernel_rfl) (by kernel_rfl) (fun _ _ _ h => h) (Or.inl ⟨by rfl, ?y26z111⟩) (by assumption) ?r26z111
                  case y26z111 =>
                    intro w9 hSw
                    obtain ⟨m, rfl⟩ := hSw
                    go_simp
                    all_goals with_reducible rfl
                  simp only [Act.put, List.setIfInBounds_toArray, List.set_cons_zero, List.set_cons_succ]
                  refine wpAnyH_at (i := 27) (some 115) (v := ?v27z112) rfl rfl (by kernel_rfl) (by kernel_rfl) (by kernel_rfl) (fun _ _ _ h => h) (Or.inl ⟨by rfl, ?y27z112⟩) (by assumption) ?r27z112
                  case y27z112 =>
                    intro w9 hSw
                    obtain ⟨m, rfl⟩ := hSw
                    go_simp
                    all_goals with_reducible rfl
                  simp only [Act.put, List.setIfInBounds_toArray, List.set_cons_zero, List.set_cons_succ]
                  refine wpAnyH_at (i := 28) (some 116) (v := ?v28z113) rfl rfl (by kernel_rfl) (by kernel_rfl) (by kernel_rfl) (fun _ _ _ h => h) (Or.inl ⟨by rfl, ?y28z113⟩) (by assumption) ?r28z113
                  case y28z113 =>
                    intro w9 hSw
                    obtain ⟨m, rfl⟩ := hSw
                    go_simp
                    all_goals with_reducible rfl
                  simp only [Act.put, List.setIfInBounds_toArray, List.set_cons_zero, List.set_cons_succ]
                  refine wpAnyH_at (i := 29) (some 117) (v := ?v29z114) rfl rfl (by kernel_rfl) (by kernel_rfl) (by kernel_rfl) (fun _ _ _ h => h) (Or.inl ⟨by rfl, ?y29z114⟩) (by assumption) ?r29z114
                  case y29z114 =>
                    intro w9 hSw
                    obtain ⟨m, rfl⟩ := hSw
                    go_simp
                    all_goals with_reducible rfl
                  simp only [Act.put, List.setIfInBounds_toArray, List.set_cons_zero, List.set_cons_succ]
                  refine wpAnyH_at (i := 30) (some 118) (v := ?v30z115) rfl rfl (by kernel_rfl) (by kernel_rfl) (by kernel_rfl) (fun _ _ _ h => h) (Or.inl ⟨by rfl, ?y30z115⟩) (by assumption) ?r30z115
                  case y30z115 =>
                    intro w9 hSw
                    obtain ⟨m, rfl⟩ := hSw
                    go_simp
                    all_goals with_reducible rfl
                  simp only [Act.put, List.setIfInBounds_toArray, List.set_cons_zero, List.set_cons_succ]
                  refine wpAnyH_at (i := 31) (some 119) (v := ?v31z116) rfl rfl (by kernel_rfl) (by kernel_rfl) (by kernel_rfl) (fun _ _ _ h => h) (Or.inl ⟨by rfl, ?y31z116⟩) (by assumption) ?r31z116
                  case y31z116 =>
                    intro w9 hSw
                    obtain ⟨m, rfl⟩ := hSw
                    go_simp
                    all_goals with_reducible rfl
                  simp only [Act.put, List.setIfInBounds_toArray, List.set_cons_zero, List.set_cons_succ]
                  refine wpAnyH_at (i := 32) (some 120) (v := ?v32z117) rfl rfl (by kernel_rfl) (by kernel_rfl) (by kernel_rfl) (fun _ _ _ h => h) (Or.inl ⟨by rfl, ?y32z117⟩) (by assumption) ?r32z117
                  case y32z117 =>
                    intro w9 hSw
                    obtain ⟨m, rfl⟩ := hSw
                    go_simp
                    all_goals with_reducible rfl
                  simp only [Act.put, List.setIfInBounds_toArray, List.set_cons_zero, List.set_cons_succ]
                  refine wpAnyH_at (i := 33) (some 121) (v := ?v33z118) rfl rfl (by kernel_rfl) (by kernel_rfl) (by kernel_rfl) (fun _ _ _ h => h) (Or.inl ⟨by rfl, ?y33z118⟩) (by assumption) ?r33z118
                  case y33z118 =>
                    intro w9 hSw
                    obtain ⟨m, rfl⟩ := hSw
                    go_simp
                    all_goals with_reducible rfl
                  simp only [Act.put, List.setIfInBounds_toArray, List.set_cons_zero, List.set_cons_succ]
                  refine wpAnyH_at (i := 34) (some 122) (v := ?v34z119) rfl rfl (by kernel_rfl) (by kernel_rfl) (by kernel_rfl) (fun _ _ _ h => h) (Or.inl ⟨by rfl, ?y34z119⟩) (by assumption) ?r34z119
                  case y34z119 =>
                    intro w9 hSw
                    obtain ⟨m, rfl⟩ := hSw
                    go_simp
                    all_goals with_reducible rfl
                  simp only [Act.put, List.setIfInBounds_toArray, List.set_cons_zero, List.set_cons_succ]
                  refine wpAnyH_at (i := 35) (some 123) (v := ?v35z120) rfl rfl (by kernel_rfl) (by kernel_rfl) (by kernel_rfl) (fun _ _ _ h => h) (Or.inl ⟨by rfl, ?y35z120⟩) (by assumption) ?r35z120
                  case y35z120 =>
                    intro w9 hSw
                    obtain ⟨m, rfl⟩ := hSw
                    go_simp
                    all_goals with_reducible rfl
                  simp only [Act.put, List.setIfInBounds_toArray, List.set_cons_zero, List.set_cons_succ]
                  refine wpAnyH_at (i := 36) (some 124) (v := ?v36z121) rfl rfl (by kernel_rfl) (by kernel_rfl) (by kernel_rfl) (fun _ _ _ h => h) (Or.inl ⟨by rfl, ?y36z121⟩) (by assumption) ?r36z121
                  case y36z121 =>
                    intro w9 hSw
                    obtain ⟨m, rfl⟩ := hSw
                    go_simp
                    all_goals with_reducible rfl
                  simp only [Act.put, List.setIfInBounds_toArray, List.set_cons_zero, List.set_cons_succ]
                  refine wpAnyH_at (i := 37) (some 125) (v := ?v37z122) rfl rfl (by kernel_rfl) (by kernel_rfl) (by kernel_rfl) (fun _ _ _ h => h) (Or.inl ⟨by rfl, ?y37z122⟩) (by assumption) ?r37z122
                  case y37z122 =>
                    intro w9 hSw
                    obtain ⟨m, rfl⟩ := hSw
                    go_simp
                    all_goals with_reducible rfl
                  simp only [Act.put, List.setIfInBounds_toArray, List.set_cons_zero, List.set_cons_succ]
                  refine wpAnyH_at (i := 38) (some 126) (v := ?v38z123) rfl rfl (by kernel_rfl) (by kernel_rfl) (by kernel_rfl) (fun _ _ _ h => h) (Or.inl ⟨by rfl, ?y38z123⟩) (by assumption) ?r38z123
                  case y38z123 =>
                    intro w9 hSw
                    obtain ⟨m, rfl⟩ := hSw
                    go_simp
                    all_goals with_reducible rfl
                  simp only [Act.put, List.setIfInBounds_toArray, List.set_cons_zero, List.set_cons_succ]
                  refine wpAnyH_at (i := 39) (some 127) (v := ?v39z124) rfl rfl (by kernel_rfl) (by kernel_rfl) (by kernel_rfl) (fun _ _ _ h => h) (Or.inl ⟨by rfl, ?y39z124⟩) (by assumption) ?r39z124
                  case y39z124 =>
                    intro w9 hSw
                    obtain ⟨m, rfl⟩ := hSw
                    go_simp
                    all_goals with_reducible rfl
                  simp only [Act.put, List.setIfInBounds_toArray, List.set_cons_zero, List.set_cons_succ]
                  refine wpAnyH_at (i := 40) (some 128) (v := ?v40z125) rfl rfl (by kernel_rfl) (by kernel_rfl) (by kernel_rfl) (fun _ _ _ h => h) (Or.inl ⟨by rfl, ?y40z125⟩) (by assumption) ?r40z125
                  case y40z125 =>
                    intro w9 hSw
                    obtain ⟨m, rfl⟩ := hSw
                    go_simp
                    all_goals with_reducible rfl
                  simp only [Act.put, List.setIfInBounds_toArray, List.set_cons_zero, List.set_cons_succ]
                  refine wpAnyH_at (i := 41) (some 129) (v := ?v41z126) rfl rfl (by kernel_rfl) (by kernel_rfl) (by kernel_rfl) (fun _ _ _ h => h) (Or.inl ⟨by rfl, ?y41z126⟩) (by assumption) ?r41z126
                  case y41z126 =>
                    intro w9 hSw
                    obtain ⟨m, rfl⟩ := hSw
                    go_simp
                    all_goals with_reducible rfl
                  simp only [Act.put, List.setIfInBounds_toArray, List.set_cons_zero, List.set_cons_succ]
                  refine wpAnyH_at (i := 42) (some 130) (v := ?v42z127) rfl rfl (by kernel_rfl) (by kernel_rfl) (by kernel_rfl) (fun _ _ _ h => h) (Or.inl ⟨by rfl, ?y42z127⟩) (by assumption) ?r42z127
                  case y42z127 =>
                    intro w9 hSw
                    obtain ⟨m, rfl⟩ := hSw
                    go_simp
                    all_goals with_reducible rfl
                  simp only [Act.put, List.setIfInBounds_toArray, List.set_cons_zero, List.set_cons_succ]
                  refine wpAnyH_at (i := 43) (some 131) (v := ?v43z128) rfl rfl (by kernel_rfl) (by kernel_rfl) (by kernel_rfl) (fun _ _ _ h => h) (Or.inl ⟨by rfl, ?y43z128⟩) (by assumption) ?r43z128
                  case y43z128 =>
                    intro w9 hSw
                    obtain ⟨m, rfl⟩ := hSw
                    go_simp
                    all_goals with_reducible rfl
                  simp only [Act.put, List.setIfInBounds_toArray, List.set_cons_zero, List.set_cons_succ]
                  refine wpAnyH_at (i := 44) (some 132) (v := ?v44z129) rfl rfl (by kernel_rfl) (by kernel_rfl) (by kernel_rfl) (fun _ _ _ h => h) (Or.inl ⟨by rfl, ?y44z129⟩) (by assumption) ?r44z129
                  case y44z129 =>
                    intro w9 hSw
                    obtain ⟨m, rfl⟩ := hSw
                    go_simp
                    all_goals with_reducible rfl
                  simp only [Act.put, List.setIfInBounds_toArray, List.set_cons_zero, List.set_cons_succ]
                  refine wpAnyH_at (i := 45) (some 133) (v := ?v45z130) rfl rfl (by kernel_rfl) (by kernel_rfl) (by kernel_rfl) (fun _ _ _ h => h) (Or.inl ⟨by rfl, ?y45z130⟩) (by assumption) ?r45z130
                  case y45z130 =>
                    intro w9 hSw
                    obtain ⟨m, rfl⟩ := hSw
                    go_simp
                    all_goals with_reducible rfl
                  simp only [Act.put, List.setIfInBounds_toArray, List.set_cons_zero, List.set_cons_succ]
                  refine wpAnyH_at (i := 46) (some 134) (v := ?v46z131) rfl rfl (by kernel_rfl) (by kernel_rfl) (by kernel_rfl) (fun _ _ _ h => h) (Or.inl ⟨by rfl, ?y46z131⟩) (by assumption) ?r46z131
                  case y46z131 =>
                    intro w9 hSw
                    obtain ⟨m, rfl⟩ := hSw
                    go_simp
                    all_goals with_reducible rfl
                  simp only [Act.put, List.setIfInBounds_toArray, List.set_cons_zero, List.set_cons_succ]
                  refine wpAnyH_at (i := 47) (some 135) (v := ?v47z132) rfl rfl (by kernel_rfl) (by kernel_rfl) (by kernel_rfl) (fun _ _ _ h => h) (Or.inl ⟨by rfl, ?y47z132⟩) (by assumption) ?r47z132
                  case y47z132 =>
                    intro w9 hSw
                    obtain ⟨m, rfl⟩ := hSw
                    go_simp
                    all_goals with_reducible rfl
                  simp only [Act.put, List.setIfInBounds_toArray, List.set_cons_zero, List.set_cons_succ]
                  refine wpAnyH_at (i := 48) (some 136) (v := ?v48z133) rfl rfl (by kernel_rfl) (by kernel_rfl) (by kernel_rfl) (fun _ _ _ h => h) (Or.inl ⟨by rfl, ?y48z133⟩) (by assumption) ?r48z133
                  case y48z133 =>
                    intro w9 hSw
                    obtain ⟨m, rfl⟩ := hSw
                    go_simp
                    all_goals with_reducible rfl
                  simp only [Act.put, List.setIfInBounds_toArray, List.set_cons_zero, List.set_cons_succ]
                  refine wpAnyH_at (i := 49) (some 137) (v := ?v49z134) rfl rfl (by kernel_rfl) (by kernel_rfl) (by kernel_rfl) (fun _ _ _ h => h) (Or.inl ⟨by rfl, ?y49z134⟩) (by assumption) ?r49z134
                  case y49z134 =>
                    intro w9 hSw
                    obtain ⟨m, rfl⟩ := hSw
                    go_simp
                    all_goals with_reducible rfl
                  simp only [Act.put, List.setIfInBounds_toArray, List.set_cons_zero, List.set_cons_succ]
                  refine wpAnyH_at (i := 50) (some 138) (v := ?v50z135) rfl rfl (by kernel_rfl) (by kernel_rfl) (by kernel_rfl) (fun _ _ _ h => h) (Or.inl ⟨by rfl, ?y50z135⟩) (by assumption) ?r50z135
                  case y50z135 =>
                    intro w9 hSw
                    obtain ⟨m, rfl⟩ := hSw
                    go_simp
                    all_goals with_reducible rfl
                  simp only [Act.put, List.setIfInBounds_toArray, List.set_cons_zero, List.set_cons_succ]
                  refine wpAnyH_at (i := 51) (some 139) (v := ?v51z136) rfl rfl (by kernel_rfl) (by kernel_rfl) (by kernel_rfl) (fun _ _ _ h => h) (Or.inl ⟨by rfl, ?y51z136⟩) (by assumption) ?r51z136
                  case y51z136 =>
                    intro w9 hSw
                    obtain ⟨m, rfl⟩ := hSw
                    go_simp
                    all_goals with_reducible rfl
                  simp only [Act.put, List.setIfInBounds_toArray, List.set_cons_zero, List.set_cons_succ]
                  refine wpAnyH_at (i := 52) (some 140) (v := ?v52z137) rfl rfl (by kernel_rfl) (by kernel_rfl) (by kernel_rfl) (fun _ _ _ h => h) (Or.inl ⟨by rfl, ?y52z137⟩) (by assumption) ?r52z137
                  case y52z137 =>
                    intro w9 hSw
                    obtain ⟨m, rfl⟩ := hSw
                    go_simp
                    all_goals with_reducible rfl
                  simp only [Act.put, List.setIfInBounds_toArray, List.set_cons_zero, List.set_cons_succ]
                  refine wpAnyH_at (i := 53) (some 141) (v := ?v53z138) rfl rfl (by kernel_rfl) (by kernel_rfl) (by kernel_rfl) (fun _ _ _ h => h) (Or.inl ⟨by rfl, ?y53z138⟩) (by assumption) ?r53z138
                  case y53z138 =>
                    intro w9 hSw
                    obtain ⟨m, rfl⟩ := hSw
                    go_simp
                    all_goals with_reducible rfl
                  simp only [Act.put, List.setIfInBounds_toArray, List.set_cons_zero, List.set_cons_succ]
                  refine wpAnyH_at (i := 54) (some 142) (v := ?v54z139) rfl rfl (by kernel_rfl) (by kernel_rfl) (by kernel_rfl) (fun _ _ _ h => h) (Or.inl ⟨by rfl, ?y54z139⟩) (by assumption) ?r54z139
                  case y54z139 =>
                    intro w9 hSw
                    obtain ⟨m, rfl⟩ := hSw
                    go_simp
                    all_goals with_reducible rfl
                  simp only [Act.put, List.setIfInBounds_toArray, List.set_cons_zero, List.set_cons_succ]
                  refine wpAnyH_at (i := 55) (some 143) (v := ?v55z140) rfl rfl (by kernel_rfl) (by kernel_rfl) (by kernel_rfl) (fun _ _ _ h => h) (Or.inl ⟨by rfl, ?y55z140⟩) (by assumption) ?r55z140
                  case y55z140 =>
                    intro w9 hSw
                    obtain ⟨m, rfl⟩ := hSw
                    go_simp
                    all_goals with_reducible rfl
                  simp only [Act.put, List.setIfInBounds_toArray, List.set_cons_zero, List.set_cons_succ]
                  refine wpAnyH_at (i := 56) (some 144) (v := ?v56z141) rfl rfl (by kernel_rfl) (by kernel_rfl) (by kernel_rfl) (fun _ _ _ h => h) (Or.inl ⟨by rfl, ?y56z141⟩) (by assumption) ?r56z141
                  case y56z141 =>
                    intro w9 hSw
                    obtain ⟨m, rfl⟩ := hSw
                    go_simp
                    all_goals with_reducible rfl
                  simp only [Act.put, List.setIfInBounds_toArray, List.set_cons_zero, List.set_cons_succ]
                  refine wpAnyH_at (i := 57) (some 145) (v := ?v57z142) rfl rfl (by kernel_rfl) (by kernel_rfl) (by kernel_rfl) (fun _ _ _ h => h) (Or.inl ⟨by rfl, ?y57z142⟩) (by assumption) ?r57z142
                  case y57z142 =>
                    intro w9 hSw
                    obtain ⟨m, rfl⟩ := hSw
                    go_simp
                    all_goals with_reducible rfl
                  simp only [Act.put, List.setIfInBounds_toArray, List.set_cons_zero, List.set_cons_succ]
                  refine wpAnyH_at (i := 58) (some 146) (v := ?v58z143) rfl rfl (by kernel_rfl) (by kernel_rfl) (by kernel_rfl) (fun _ _ _ h => h) (Or.inl ⟨by rfl, ?y58z143⟩) (by assumption) ?r58z143
                  case y58z143 =>
                    intro w9 hSw
                    obtain ⟨m, rfl⟩ := hSw
                    go_simp
                    all_goals with_reducible rfl
                  simp only [Act.put, List.setIfInBounds_toArray, List.set_cons_zero, List.set_cons_succ]
                  refine wpAnyH_at (i := 59) (some 147) (v := ?v59z144) rfl rfl (by kernel_rfl) (by kernel_rfl) (by kernel_rfl) (fun _ _ _ h => h) (Or.inl ⟨by rfl, ?y59z144⟩) (by assumption) ?r59z144
                  case y59z144 =>
                    intro w9 hSw
                    obtain ⟨m, rfl⟩ := hSw
                    go_simp
                    all_goals with_reducible rfl
                  simp only [Act.put, List.setIfInBounds_toArray, List.set_cons_zero, List.set_cons_succ]
                  refine wpAnyH_at (i := 60) (some 148) (v := ?v60z145) rfl rfl (by kernel_rfl) (by kernel_rfl) (by kernel_rfl) (fun _ _ _ h => h) (Or.inl ⟨by rfl, ?y60z145⟩) (by assumption) ?r60z145
                  case y60z145 =>
                    intro w9 hSw
                    obtain ⟨m, rfl⟩ := hSw
                    go_simp
                    all_goals with_reducible rfl
                  simp only [Act.put, List.setIfInBounds_toArray, List.set_cons_zero, List.set_cons_succ]
                  refine wpAnyH_at (i := 61) (some 149) (v := ?v61z146) rfl rfl (by kernel_rfl) (by kernel_rfl) (by kernel_rfl) (fun _ _ _ h => h) (Or.inl ⟨by rfl, ?y61z146⟩) (by assumption) ?r61z146
                  case y61z146 =>
                    intro w9 hSw
                    obtain ⟨m, rfl⟩ := hSw
                    go_simp
                    all_goals with_reducible rfl
                  simp only [Act.put, List.setIfInBounds_toArray, List.set_cons_zero, List.set_cons_succ]
                  refine wpAnyH_at (i := 62) (some 150) (v := ?v62z147) rfl rfl (by kernel_rfl) (by kernel_rfl) (by kernel_rfl) (fun _ _ _ h => h) (Or.inl ⟨by rfl, ?y62z147⟩) (by assumption) ?r62z147
                  case y62z147 =>
                    intro w9 hSw
                    obtain ⟨m, rfl⟩ := hSw
                    go_simp
                    all_goals with_reducible rfl
                  simp only [Act.put, List.setIfInBounds_toArray, List.set_cons_zero, List.set_cons_succ]
                  refine wpAnyH_at (i := 63) (some 151) (v := ?v63z148) rfl rfl (by kernel_rfl) (by kernel_rfl) (by kernel_rfl) (fun _ _ _ h => h) (Or.inl ⟨by rfl, ?y63z148⟩) (by assumption) ?r63z148
                  case y63z148 =>
                    intro w9 hSw
                    obtain ⟨m, rfl⟩ := hSw
                    go_simp
                    all_goals with_reducible rfl
                  simp only [Act.put, List.setIfInBounds_toArray, List.set_cons_zero, List.set_cons_succ]
                  refine wpAnyH_done (by kernel_rfl) ?_ _
                  subst hW
                  have hD2 := hD.kept (S := fun _ => False) (Kept.of_below (below_drew wr)) (fun h => h)
                  obtain ⟨w8, u8, D8, kk8⟩ := hD2.put hwt (by simp <;> omega)
                  have k8 : Kept (· = bm) (World.drew wr) w8 := kept_turned kk8 rfl
                  have T8 := (T6.new (below_drew wr)).kept k8 (fun j h1 h2 h3 => by omega)
                  have o8 := (o6.kept (S := fun _ => False) (Kept.of_below (below_drew wr)) (fun _ _ h => h)).kept k8 (fun ad e => by have := hbo ad e; omega)
                  have b8 := (b.step (below_drew wr) (Nat.le_refl _)).trans (k8.below (B := w.heap.size) (by have := (below_drew wr).size; omega) (fun j hj => by omega))
                  rw [List.append_assoc, ← hts] at D8
                  clear hD2 kk8 k8 hD T6 o6 b hHeld hk3
                  generalize World.drew wr = W8 at *
                  go_wp2
                  go_roundw
                  case rel => exact ⟨k0 + 1 + 1, by omega, by go_num, D8, T8, o8, b8⟩
                  case measure => simp [intOf]; omega
            · obtain rfl : k = n6 := by omega
              have htk : (goT a2 R2).take k = goT a2 R2 := List.take_of_length_le (by omega)
              rw [htk] at hD
              have hall : ∀ {i d : Nat}, i < n → ds.getD i 0 = (d : Int) → decide ((i : Int) ∈ L ++ goT a2 R2) = decide (d ≤ a2) := fun h1 h2 => hS.all hI hat ha2m h1 h2
              have D6 := hD
              have T6' := T6
              have b6 := b
              clear hD T6 b o6 htk hS hn6 hbo hk hkn
              go_wp2
              go_loopw [15] (fun i wr => ∃ k : Nat, k ≤ n ∧ i = .int .i64 k ∧ ToAt wr bm (L ++ goT a2 R2) ∧ Whl wr lo hi p a2 (goR a2 R2) ∧ Below w.heap.size w wr) (fun i _ => n - (intOf i).toNat)
              case atStart => exact ⟨0, Nat.zero_le _, rfl, D6, T6', b6⟩
              case round =>
                obtain ⟨k, hk, rfl, hD, T6, b⟩ := hrel
                clear D6 T6' b6
                by_cases hkn : k < n
                · have hki : (k : Int) < (n : Int) := by omega
                  obtain ⟨bd, od, rfl, hBd, cd⟩ := (H.below b (Nat.le_refl _)).at_ hkn
                  have hwf := H.wf hkn
                  obtain ⟨xi, hdx⟩ : ∃ x, ds.getD k 0 = x := ⟨_, rfl⟩
                  rw [hdx] at cd hwf
                  have hxb := u64_bd hwf
                  obtain ⟨x, rfl⟩ := Int.eq_ofNat_of_zero_le hxb.1
                  have hwk : wfI (k : Int) := o_int (by omega) (by omega)
                  have hlk := fun m => hD.look2 hwk m
                  rw [hall hkn hdx] at hlk
                  clear hdx hall hwf hxb
                  by_cases hxa : x ≤ a2
                  · have hxi : (x : Int) ≤ (a2 : Int) := by omega
                    have hdec : decide (x ≤ a2) = true := by simpa using hxa
                    rw [hdec] at hlk
                    clear hdec hxa
                    go_wp2
                    refine wp_region_held_drew (S := fun W => ∃ m, W = wr.drewN m) (by kernel_rfl) ⟨1, rfl⟩ (fun hHeld => ?_)
                    change wpAnyH _ _ _ _ _ _ _ _ (World.drew _)
                    generalize hW : World.drew wr = W0 at *
                    refine wpAnyH_at (i := 0) (some 160) (v := ?v0z149) rfl rfl (by kernel_rfl) (by kernel_rfl) (by kernel_rfl) (fun _ _ _ h => h) (Or.inl ⟨by rfl, ?y0z149⟩) (by assumption) ?r0z149
                    case y0z149 =>
                      intro w9 hSw
                      obtain ⟨m, rfl⟩ := hSw
                      go_simp
                      all_goals with_reducible rfl
                    simp only [Act.put, List.setIfInBounds_toArray, List.set_cons_zero, List.set_cons_succ]
                    refine wpAnyH_at (i := 1) (some 161) (v := ?v1z150) rfl rfl (by kernel_rfl) (by kernel_rfl) (by kernel_rfl) (fun _ _ _ h => h) (Or.inl ⟨by rfl, ?y1z150⟩) (by assumption) ?r1z150
                    case y1z150 =>
                      intro w9 hSw
                      obtain ⟨m, rfl⟩ := hSw
                      go_simp
                      all_goals with_reducible rfl
                    simp only [Act.put, List.setIfInBounds_toArray, List.set_cons_zero, List.set_cons_succ]
                    refine wpAnyH_at (i := 2) (some 162) (v := ?v2z151) rfl rfl (by kernel_rfl) (by kernel_rfl) (by kernel_rfl) (fun _ _ _ h => h) (Or.inl ⟨by rfl, ?y2z151⟩) (by assumption) ?r2z151
                    case y2z151 =>
                      intro w9 hSw
                      obtain ⟨m, rfl⟩ := hSw
                      go_simp
                      all_goals with_reducible rfl
                    simp only [Act.put, List.setIfInBounds_toArray, List.set_cons_zero, List.set_cons_succ]
                    refine wpAnyH_at (i := 3) (some 163) (v := ?v3z152) rfl rfl (by kernel_rfl) (by kernel_rfl) (by kernel_rfl) (fun _ _ _ h => h) (Or.inl ⟨by rfl, ?y3z152⟩) (by assumption) ?r3z152
                    case y3z152 =>
                      intro w9 hSw
                      obtain ⟨m, rfl⟩ := hSw
                      go_simp
                      all_goals with_reducible rfl
                    simp only [Act.put, List.setIfInBounds_toArray, List.set_cons_zero, List.set_cons_succ]
                    refine wpAnyH_at (i := 4) (some 164) (v := ?v4z153) rfl rfl (by kernel_rfl) (by kernel_rfl) (by kernel_rfl) (fun _ _ _ h => h) (Or.inl ⟨by rfl, ?y4z153⟩) (by assumption) ?r4z153
                    case y4z153 =>
                      intro w9 hSw
                      obtain ⟨m, rfl⟩ := hSw
                      go_simp
                      all_goals with_reducible rfl
                    simp only [Act.put, List.setIfInBounds_toArray, List.set_cons_zero, List.set_cons_succ]
                    refine wpAnyH_at (i := 5) (some 165) (v := ?v5z154) rfl rfl (by kernel_rfl) (by kernel_rfl) (by kernel_rfl) (fun _ _ _ h => h) (Or.inl ⟨by rfl, ?y5z154⟩) (by assumption) ?r5z154
                    case y5z154 =>
                      intro w9 hSw
                      obtain ⟨m, rfl⟩ := hSw
                      go_simp
                      all_goals with_reducible rfl
                    simp only [Act.put, List.setIfInBounds_toArray, List.set_cons_zero, List.set_cons_succ]
                    refine wpAnyH_at (i := 6) (some 166) (v := ?v6z155) rfl rfl (by kernel_rfl) (by kernel_rfl) (by kernel_rfl) (fun _ _ _ h => h) (Or.inl ⟨by rfl, ?y6z155⟩) (by assumption) ?r6z155
                    case y6z155 =>
                      intro w9 hSw
                      obtain ⟨m, rfl⟩ := hSw
                      go_simp
                      all_goals with_reducible rfl
                    simp only [Act.put, List.setIfInBounds_toArray, List.set_cons_zero, List.set_cons_succ]
                    refine wpAnyH_at (i := 7) (some 167) (v := ?v7z156) rfl rfl (by kernel_rfl) (by kernel_rfl) (by kernel_rfl) (fun _ _ _ h => h) (Or.inl ⟨by rfl, ?y7z156⟩) (by assumption) ?r7z156
                    case y7z156 =>
                      intro w9 hSw
                      obtain ⟨m, rfl⟩ := hSw
                      go_simp
                      all_goals with_reducible rfl
                    simp only [Act.put, List.setIfInBounds_toArray, List.set_cons_zero, List.set_cons_succ]
                    refine wpAnyH_at (i := 8) (some 168) (v := ?v8z157) rfl rfl (by kernel_rfl) (by kernel_rfl) (by kernel_rfl) (fun _ _ _ h => h) (Or.inl ⟨by rfl, ?y8z157⟩) (by assumption) ?r8z157
                    case y8z157 =>
                      intro w9 hSw
                      obtain ⟨m, rfl⟩ := hSw
                      go_simp
                      all_goals with_reducible rfl
                    simp only [Act.put, List.setIfInBounds_toArray, List.set_cons_zero, List.set_cons_succ]
                    refine wpAnyH_at (i := 9) (some 169) (v := ?v9z158) rfl rfl (by kernel_rfl) (by kernel_rfl) (by kernel_rfl) (fun _ _ _ h => h) (Or.inl ⟨by rfl, ?y9z158⟩) (by assumption) ?r9z158
                    case y9z158 =>
                      intro w9 hSw
                      obtain ⟨m, rfl⟩ := hSw
                      go_simp
                      all_goals with_reducible rfl
                    simp only [Act.put, List.setIfInBounds_toArray, List.set_cons_zero, List.set_cons_succ]
                    refine wpAnyH_done (by kernel_rfl) ?_ _
                    subst hW
                    have hD2 := hD.kept (S := fun _ => False) (Kept.of_below (below_drew wr)) (fun h => h)
                    have T2 := T6.new (below_drew wr)
                    have b2 := b.step (below_drew wr) (Nat.le_refl _)
                    clear hHeld hlk hD T6 b
                    generalize World.drew wr = W8 at *
                    go_wp2
                    go_roundw
                    case rel => exact ⟨k + 1, by omega, by go_num, hD2, T2, b2⟩
                    case measure => simp [intOf]; omega
                  · have hxi : ¬ (x : Int) ≤ (a2 : Int) := by omega
                    have hdec : decide (x ≤ a2) = false := by simpa using hxa
                    rw [hdec] at hlk
                    clear hdec hxa
                    go_wp2
                    refine wp_region_held_drew (S := fun W => ∃ m, W = wr.drewN m) (by kernel_rfl) ⟨1, rfl⟩ (fun hHeld => ?_)
                    change wpAnyH _ _ _ _ _ _ _ _ (World.drew _)
                    generalize hW : World.drew wr = W0 at *
                    refine wpAnyH_at (i := 0) (some 160) (v := ?v0z159) rfl rfl (by kernel_rfl) (by kernel_rfl) (by kernel_rfl) (fun _ _ _ h => h) (Or.inl ⟨by rfl, ?y0z159⟩) (by assumption) ?r0z159
                    case y0z159 =>
                      intro w9 hSw
                      obtain ⟨m, rfl⟩ := hSw
                      go_simp
                      all_goals with_reducible rfl
                    simp only [Act.put, List.setIfInBounds_toArray, List.set_cons_zero, List.set_cons_succ]
                    refine wpAnyH_at (i := 1) (some 161) (v := ?v1z160) rfl rfl (by kernel_rfl) (by kernel_rfl) (by kernel_rfl) (fun _ _ _ h => h) (Or.inl ⟨by rfl, ?y1z160⟩) (by assumption) ?r1z160
                    case y1z160 =>
                      intro w9 hSw
                      obtain ⟨m, rfl⟩ := hSw
                      go_simp
                      all_goals with_reducible rfl
                    simp only [Act.put, List.setIfInBounds_toArray, List.set_cons_zero, List.set_cons_succ]
                    refine wpAnyH_at (i := 2) (some 162) (v := ?v2z161) rfl rfl (by kernel_rfl) (by kernel_rfl) (by kernel_rfl) (fun _ _ _ h => h) (Or.inl ⟨by rfl, ?y2z161⟩) (by assumption) ?r2z161
                    case y2z161 =>
                      intro w9 hSw
                      obtain ⟨m, rfl⟩ := hSw
                      go_simp
                      all_goals with_reducible rfl
                    simp only [Act.put, List.setIfInBounds_toArray, List.set_cons_zero, List.set_cons_succ]
                    refine wpAnyH_at (i := 3) (some 163) (v := ?v3z162) rfl rfl (by kernel_rfl) (by kernel_rfl) (by kernel_rfl) (fun _ _ _ h => h) (Or.inl ⟨by rfl, ?y3z162⟩) (by assumption) ?r3z162
                    case y3z162 =>
                      intro w9 hSw
                      obtain ⟨m, rfl⟩ := hSw
                      go_simp
                      all_goals with_reducible rfl
                    simp only [Act.put, List.setIfInBounds_toArray, List.set_cons_zero, List.set_cons_succ]
                    refine wpAnyH_at (i := 4) (some 164) (v := ?v4z163) rfl rfl (by kernel_rfl) (by kernel_rfl) (by kernel_rfl) (fun _ _ _ h => h) (Or.inl ⟨by rfl, ?y4z163⟩) (by assumption) ?r4z163
                    case y4z163 =>
                      intro w9 hSw
                      obtain ⟨m, rfl⟩ := hSw
                      go_simp
                      all_goals with_reducible rfl
                    simp only [Act.put, List.setIfInBounds_toArray, List.set_cons_zero, List.set_cons_succ]
                    refine wpAnyH_at (i := 5) (some 165) (v := ?v5z164) rfl rfl (by kernel_rfl) (by kernel_rfl) (by kernel_rfl) (fun _ _ _ h => h) (Or.inl ⟨by rfl, ?y5z164⟩) (by assumption) ?r5z164
                    case y5z164 =>
                      intro w9 hSw
                      obtain ⟨m, rfl⟩ := hSw
                      go_simp
                      all_goals with_reducible rfl
                    simp only [Act.put, List.setIfInBounds_toArray, List.set_cons_zero, List.set_cons_succ]
                    refine wpAnyH_at (i := 6) (some 166) (v := ?v6z165) rfl rfl (by kernel_rfl) (by kernel_rfl) (by kernel_rfl) (fun _ _ _ h => h) (Or.inl ⟨by rfl, ?y6z165⟩) (by assumption) ?r6z165
                    case y6z165 =>
                      intro w9 hSw
                      obtain ⟨m, rfl⟩ := hSw
                      go_simp
                      all_goals with_reducible rfl
                    simp only [Act.put, List.setIfInBounds_toArray, List.set_cons_zero, List.set_cons_succ]
                    refine wpAnyH_at (i := 7) (some 167) (v := ?v7z166) rfl rfl (by kernel_rfl) (by kernel_rfl) (by kernel_rfl) (fun _ _ _ h => h) (Or.inl ⟨by rfl, ?y7z166⟩) (by assumption) ?r7z166
                    case y7z166 =>
                      intro w9 hSw
                      obtain ⟨m, rfl⟩ := hSw
                      go_simp
                      all_goals with_reducible rfl
                    simp only [Act.put, List.setIfInBounds_toArray, List.set_cons_zero, List.set_cons_succ]
                    refine wpAnyH_at (i := 8) (some 168) (v := ?v8z167) rfl rfl (by kernel_rfl) (by kernel_rfl) (by kernel_rfl) (fun _ _ _ h => h) (Or.inl ⟨by rfl, ?y8z167⟩) (by assumption) ?r8z167
                    case y8z167 =>
                      intro w9 hSw
                      obtain ⟨m, rfl⟩ := hSw
                      go_simp
                      all_goals with_reducible rfl
                    simp only [Act.put, List.setIfInBounds_toArray, List.set_cons_zero, List.set_cons_succ]
                    refine wpAnyH_at (i := 9) (some 169) (v := ?v9z168) rfl rfl (by kernel_rfl) (by kernel_rfl) (by kernel_rfl) (fun _ _ _ h => h) (Or.inl ⟨by rfl, ?y9z168⟩) (by assumption) ?r9z168
                    case y9z168 =>
                      intro w9 hSw
                      obtain ⟨m, rfl⟩ := hSw
                      go_simp
                      all_goals with_reducible rfl
                    simp only [Act.put, List.setIfInBounds_toArray, List.set_cons_zero, List.set_cons_succ]
                    refine wpAnyH_done (by kernel_rfl) ?_ _
                    subst hW
                    have hD2 := hD.kept (S := fun _ => False) (Kept.of_below (below_drew wr)) (fun h => h)
                    have T2 := T6.new (below_drew wr)
                    have b2 := b.step (below_drew wr) (Nat.le_refl _)
                    clear hHeld hlk hD T6 b
                    generalize World.drew wr = W8 at *
                    go_wp2
                    go_roundw
                    case rel => exact ⟨k + 1, by omega, by go_num, hD2, T2, b2⟩
                    case measure => simp [intOf]; omega
                · obtain rfl : k = n := by omega
                  clear H
                  go_wp2
                  go_roundw
                  case rel => exact ⟨j + 1, a2, _, _, by omega, by go_num, rfl, hat', hS', T6, hD, b⟩
                  case measure => simp [intOf]; omega
        · obtain rfl : j = n2 := by omega
          clear H2
          go_wp2
          go_ret
          exact ⟨rfl, b⟩

theorem once_law (A : Option Addr) (n c : Nat) (ds : List Int) (A2 : Option Addr) (n2 c2 : Nat) (ss : List Int) (w : World) (H : Rd .u64 w w.heap.size A n c ds) (H2 : Rd .u32 w w.heap.size A2 n2 c2 ss) : Calls Try.prog 4 #[.slice A n c, .slice A2 n2 c2] w fun e w' => e = .returned (.bool true) ∧ Below w.heap.size w w' := by
  by_cases h1 : 60 < n
  · exact once_out1 A n c ds A2 n2 c2 ss w H H2 h1
  by_cases h2 : 60 < n2
  · exact once_out2 A n c ds A2 n2 c2 ss w H H2 h1 h2
  · exact once_in A n c ds A2 n2 c2 ss w H H2 h1 h2
end Go.Proofs.Ytalojeblemhihaa
