/-
  Contracts of the program's wheel: Cancel, Set.
-/
import Derived.Test.YtalojeblemhihaaLay
import Derived.Test.YtalojeblemhihaaRight
namespace Go.Proofs.Ytalojeblemhihaa
open Go.RowKit
set_option linter.unusedVariables false

section
variable {w : World} {p lo hi now : Nat} {R : List Tm} {V : Nat → List Int} {bd : Nat} {g : Nat → Nat}
/-- A wheel whose timers are at their levels. -/
def WhR (w : World) (p lo hi now : Nat) (R : List Tm) (bd : Nat) (g : Nat → Nat) : Prop := ∃ V, WhB w p lo hi now R V bd g ∧ Right now R V
set_option maxRecDepth 100000 in
set_option maxHeartbeats 2000000 in
theorem cancel_any (h : WhR w p lo hi now R bd g) (t : Int) (hw : wfI t) :
    Calls Try.prog 21 #[ptr p, .int .i64 t] w fun e w' => e = .returned (.bool (hasT t R)) ∧ WhR w' p lo hi now (delT t R) bd g ∧ OnlyW lo hi w w' := by
  obtain ⟨V, h, r⟩ := h
  have L := h.dues.look h.ok hw
  have c1 := h.c1
  by_cases hR : hasT t R = true
  · have hd := h.ok.due_le t
    obtain ⟨i, hlv⟩ : ∃ i, lv now (dueT t R) = i := ⟨_, rfl⟩
    have hi64 : i < 64 := by have := lv_63 (n := now) (d := dueT t R) (by have := h.le; omega) (by omega); omega
    have r1 := r.cancel h.ok hR
    rw [hlv] at r1
    have h0 := h.drew1
    have kb : OnlyW lo hi w (World.drew w) := Kept.of_below (below_drew w)
    have T := level_any h0 (dueT t R) hd
    rw [hlv] at T
    obtain ⟨w1, e1, hL1, ht1⟩ : ∃ w', (∀ ty, (Builtin.delete_ #[63, 3] ty #[.map (some (g i)), .int .i64 t]).run Try.prog w.drew = .ok (.tuple #[]) w') ∧ LvAt w' (g i) ((V i).filter (· != t)) ∧ w.drew.mapTurned w' (g i) := by
      obtain ⟨w', a, b, c⟩ := (h0.lev i hi64).del hw 0
      exact ⟨w', fun _ => a, b, c⟩
    have h1 : WhB w1 p lo hi now R (updV V i ((V i).filter (· != t))) bd g := h0.turnL hi64 ht1 hL1 (fun s hs => h.sub i hi64 s (List.mem_filter.1 hs).1)
    obtain ⟨w2, e2, hD2, ht2⟩ : ∃ w', (∀ ty, (Builtin.delete_ #[56, 3] ty #[.map (some bd), .int .i64 t]).run Try.prog w1 = .ok (.tuple #[]) w') ∧ DuAt w' bd (delT t R) ∧ w1.mapTurned w' bd := by
      obtain ⟨w', a, b, c⟩ := h1.dues.del h.ok hw 0
      exact ⟨w', fun _ => a, b, c⟩
    have h2 : WhB w2 p lo hi now (delT t R) (updV V i ((V i).filter (· != t))) bd g := h1.turnD ht2 hD2 (h.ok.del t) (Nat.le_trans len_delT_le h.len) (fun n hn => r1.nodup_sub hn)
    have G : Hid (WhR w2 p lo hi now (delT t R) bd g ∧ OnlyW lo hi w w2) := Lib.hid ⟨⟨_, h2, r1⟩, (kb.trans (kept_turned ht1 (h0.ing i hi64))).trans (kept_turned ht2 h0.inb)⟩
    have hS1 : ∃ V, WhB w1 p lo hi now R V bd g := ⟨_, h1⟩
    have c1' := h1.c1
    have hii : (i : Int) < 64 := by omega
    rw [hR] at L
    rw [hR]
    generalize dueT t R = d at *
    have hS0 : ∃ V, WhB w.drew p lo hi now R V bd g := ⟨V, h0⟩
    clear h r r1 hlv h0 kb hL1 ht1 h1 hD2 ht2 h2 hR hd
    go_enter Try.func21, Try.ntmps21
    go_wp2
    refine wp_region_held_drew (S := fun W => ∃ V, WhB W p lo hi now R V bd g) (by kernel_rfl) hS0 (fun hHeld => ?_)
    change wpAnyH _ _ _ _ _ _ _ _ (World.drew _)
    clear hS0 L c1
    generalize World.drew w = W0 at *
    refine wpAnyH_at (i := 0) (some 17) (v := ?v0z1) rfl rfl (by kernel_rfl) (by kernel_rfl) (by kernel_rfl) (fun _ _ _ h => h) (Or.inl ⟨by rfl, ?y0z1⟩) (by assumption) ?r0z1
    case y0z1 =>
      intro w9 hSw
      obtain ⟨V9, hSw⟩ := hSw; have cl := hSw.cl hi64; clear hSw
      go_simp
      all_goals with_reducible rfl
    simp only [Act.put, List.setIfInBounds_toArray, List.set_cons_zero, List.set_cons_succ]
    refine wpAnyH_at (i := 1) (some 18) (v := ?v1z2) rfl rfl (by kernel_rfl) (by kernel_rfl) (by kernel_rfl) (fun _ _ _ h => h) (Or.inl ⟨by rfl, ?y1z2⟩) (by assumption) ?r1z2
    case y1z2 =>
      intro w9 hSw
      obtain ⟨V9, hSw⟩ := hSw; have cl := hSw.cl hi64; clear hSw
      go_simp
      all_goals with_reducible rfl
    simp only [Act.put, List.setIfInBounds_toArray, List.set_cons_zero, List.set_cons_succ]
    refine wpAnyH_at (i := 2) (some 19) (v := ?v2z3) rfl rfl (by kernel_rfl) (by kernel_rfl) (by kernel_rfl) (fun _ _ _ h => h) (Or.inl ⟨by rfl, ?y2z3⟩) (by assumption) ?r2z3
    case y2z3 =>
      intro w9 hSw
      obtain ⟨V9, hSw⟩ := hSw; have cl := hSw.cl hi64; clear hSw
      go_simp
      all_goals with_reducible rfl
    simp only [Act.put, List.setIfInBounds_toArray, List.set_cons_zero, List.set_cons_succ]
    refine wpAnyH_at (i := 4) (some 21) (v := ?v4z4) rfl rfl (by kernel_rfl) (by kernel_rfl) (by kernel_rfl) (fun _ _ _ h => h) (Or.inl ⟨by rfl, ?y4z4⟩) (by assumption) ?r4z4
    case y4z4 =>
      intro w9 hSw
      obtain ⟨V9, hSw⟩ := hSw; have cl := hSw.cl hi64; clear hSw
      go_simp
      all_goals with_reducible rfl
    simp only [Act.put, List.setIfInBounds_toArray, List.set_cons_zero, List.set_cons_succ]
    refine wpAnyH_at (i := 5) (some 22) (v := ?v5z5) rfl rfl (by kernel_rfl) (by kernel_rfl) (by kernel_rfl) (fun _ _ _ h => h) (Or.inl ⟨by rfl, ?y5z5⟩) (by assumption) ?r5z5
    case y5z5 =>
      intro w9 hSw
      obtain ⟨V9, hSw⟩ := hSw; have cl := hSw.cl hi64; clear hSw
      go_simp
      all_goals with_reducible rfl
    simp only [Act.put, List.setIfInBounds_toArray, List.set_cons_zero, List.set_cons_succ]
    refine wpAnyH_at (i := 8) (some 25) (v := ?v8z6) rfl rfl (by kernel_rfl) (by kernel_rfl) (by kernel_rfl) (fun _ _ _ h => h) (Or.inl ⟨by rfl, ?y8z6⟩) (by assumption) ?r8z6
    case y8z6 =>
      intro w9 hSw
      obtain ⟨V9, hSw⟩ := hSw; have cl := hSw.cl hi64; clear hSw
      go_simp
      all_goals with_reducible rfl
    simp only [Act.put, List.setIfInBounds_toArray, List.set_cons_zero, List.set_cons_succ]
    refine wpAnyH_one (i := 3) (by kernel_rfl) rfl ?_
    go_wp2_with fail
    refine T.mono ?_
    rintro ev w2 ⟨rfl, rfl⟩
    go_wp2
    refine ⟨hHeld, ?_⟩
    try simp only [Act.put, List.setIfInBounds_toArray, List.set_cons_zero, List.set_cons_succ]
    refine wpAnyH_at (i := 6) (some 23) (v := ?v6z7) rfl rfl (by kernel_rfl) (by kernel_rfl) (by kernel_rfl) (fun _ _ _ h => h) (Or.inl ⟨by rfl, ?y6z7⟩) (by assumption) ?r6z7
    case y6z7 =>
      intro w9 hSw
      obtain ⟨V9, hSw⟩ := hSw; have cl := hSw.cl hi64; clear hSw
      go_simp
      all_goals with_reducible rfl
    simp only [Act.put, List.setIfInBounds_toArray, List.set_cons_zero, List.set_cons_succ]
    refine wpAnyH_at (i := 7) (some 24) (v := ?v7z8) rfl rfl (by kernel_rfl) (by kernel_rfl) (by kernel_rfl) (fun _ _ _ h => h) (Or.inl ⟨by rfl, ?y7z8⟩) (by assumption) ?r7z8
    case y7z8 =>
      intro w9 hSw
      obtain ⟨V9, hSw⟩ := hSw; have cl := hSw.cl hi64; clear hSw
      go_simp
      all_goals with_reducible rfl
    simp only [Act.put, List.setIfInBounds_toArray, List.set_cons_zero, List.set_cons_succ]
    refine wpAnyH_one (i := 9) (by kernel_rfl) rfl ?_
    go_wp2
    refine ⟨hS1, ?_⟩
    try simp only [Act.put, List.setIfInBounds_toArray, List.set_cons_zero, List.set_cons_succ]
    refine wpAnyH_done (by kernel_rfl) ?_ _
    go_wp2
    go_ret
    exact ⟨rfl, G.out⟩
  · have hR' : hasT t R = false := by simpa using hR
    have G : Hid (WhR w p lo hi now (delT t R) bd g ∧ OnlyW lo hi w w) := Lib.hid ⟨by rw [delT_no hR']; exact ⟨V, h, r⟩, Kept.refl _ _⟩
    rw [hR'] at L
    rw [hR']
    clear h r hR hR'
    go_enter Try.func21, Try.ntmps21
    go_wp2
    go_ret
    exact ⟨rfl, G.out⟩
set_option maxRecDepth 100000 in
set_option maxHeartbeats 2000000 in
theorem set_any (h : WhR w p lo hi now R bd g) (t : Int) (hw : wfI t) (d : Nat) (hd : d < 18446744073709551616) :
    Calls Try.prog 17 #[ptr p, .int .i64 t, .int .u64 d] w fun e w' => e = .returned (.int .i64 (setE t d R)) ∧ WhR w' p lo hi now (setR t d R) bd g ∧ OnlyW lo hi w w' := by
  by_cases hbig : 4611686018427387904 < d
  · have G : Hid ((11 : Int) = setE t d R ∧ WhR w p lo hi now (setR t d R) bd g ∧ OnlyW lo hi w w) := Lib.hid (by
      have e : setE t d R = 11 := by unfold setE; rw [if_pos hbig]
      exact ⟨e.symm, by unfold setR; rw [e]; exact h, Kept.refl _ _⟩)
    have hbi : (4611686018427387904 : Int) < (d : Int) := by omega
    clear h
    go_enter Try.func17, Try.ntmps17
    go_wp2
    go_ret
    exact ⟨by rw [← G.out.1]; rfl, G.out.2⟩
  have hbi : ¬ (4611686018427387904 : Int) < (d : Int) := by omega
  obtain ⟨V, h0, r0⟩ := h
  have L := h0.dues.look h0.ok hw
  have c1 := h0.c1
  have ln := h0.dues.len
  have hlen := h0.len
  by_cases hfull : hasT t R = false ∧ R.length = 16384
  · have G : Hid ((18 : Int) = setE t d R ∧ WhR w p lo hi now (setR t d R) bd g ∧ OnlyW lo hi w w) := Lib.hid (by
      have e : setE t d R = 18 := by unfold setE; rw [if_neg hbig, if_pos hfull]
      exact ⟨e.symm, by unfold setR; rw [e]; exact ⟨V, h0, r0⟩, Kept.refl _ _⟩)
    rw [hfull.1] at L
    rw [hfull.2] at ln
    clear h0 r0
    go_enter Try.func17, Try.ntmps17
    go_wp2
    go_ret
    exact ⟨by rw [← G.out.1]; rfl, G.out.2⟩
  have e0 : setE t d R = 0 := setE_mk (by omega) hfull
  have e1 : setR t d R = setT t d R := by unfold setR; rw [if_pos e0]
  rw [e0, e1]
  have T := cancel_any ⟨V, h0, r0⟩ t hw
  have hno : hasT t (delT t R) = false := by rw [hasT_del]; simp
  have hok2 : Ok (setT t d R) := h0.ok.set hw (by omega)
  have hlen2 : (setT t d R).length ≤ 16384 := by have := setR_len (t := t) (d := d) h0.ok h0.len; rwa [e1] at this
  have P : Hid (∀ w1, WhR w1 p lo hi now (delT t R) bd g → ∃ w2 V1, (Instr.mapUpdate 56 (.map (some bd)) (.int .i64 t) (.int .u64 d)).run Try.prog w1 = .ok () w2 ∧ w1.cell? ⟨p, 1, none⟩ = some (.map (some bd)) ∧ WhB w2 p lo hi now (setT t d R) V1 bd g ∧ Right now (delT t R) V1 ∧ OnlyW lo hi w1 w2) := Lib.hid (by
    rintro w1 ⟨V1, h1, r1⟩
    obtain ⟨w2, a, b, c⟩ := h1.dues.put h1.ok hw hno (by have := h1.len; omega) (d := d) (by omega)
    exact ⟨w2, V1, a, h1.c1, h1.turnD c b hok2 hlen2 (fun n hn s hs => by
      have := h1.sub n hn s hs
      unfold setT
      rw [hasT_ins, this]
      simp), r1, kept_turned c h1.inb⟩)
  have Q : Hid (∀ w2 V1, WhB w2 p lo hi now (setT t d R) V1 bd g → Right now (delT t R) V1 → Calls Try.prog 29 #[ptr p, .int .i64 t] w2 fun e w' => e = .returned (.tuple #[]) ∧ WhR w' p lo hi now (setT t d R) bd g ∧ OnlyW lo hi w2 w') := Lib.hid (by
    intro w2 V1 h2 r2
    have hdu : dueT t (setT t d R) = d := dueT_of hok2 (mem_setT.2 (.inl rfl))
    have h64 : lv now d < 64 := by have := lv_63 (n := now) (d := d) (by have := h2.le; omega) (by omega); omega
    refine (lay_any h2 t (by rw [hasT_set]; simp) (lv now d) h64 (by rw [hdu])).mono ?_
    rintro e w3 ⟨rfl, h3, k3⟩
    exact ⟨rfl, ⟨_, h3, r2.lay hno⟩, k3⟩)
  generalize dueT t R = d0 at *
  generalize hb : hasT t R = b at *
  have hgd : ¬ (b = false ∧ (R.length : Int) = 16384) := by
    rintro ⟨x, y⟩
    exact hfull ⟨x, by omega⟩
  clear h0 r0 hno hok2 hlen2 e0 e1 hfull hbig
  generalize R.length = m at *
  cases b with
  | true =>
    clear hgd
    go_enter Try.func17, Try.ntmps17
    go_wp2_with fail
    refine T.mono ?_
    rintro e w1 ⟨rfl, h1, k1⟩
    obtain ⟨w2, V1, u1, u2, h2, r2, k2⟩ := P.out w1 h1
    clear c1 L ln P
    go_wp2_with fail
    refine (Q.out w2 V1 h2 r2).mono ?_
    rintro e w3 ⟨rfl, h3, k3⟩
    go_wp2
    go_ret
    exact ⟨rfl, h3, (k1.trans k2).trans k3⟩
  | false =>
    have hgd' : ¬ (m : Int) = 16384 := fun e => hgd ⟨rfl, e⟩
    clear hgd
    go_enter Try.func17, Try.ntmps17
    go_wp2_with fail
    refine T.mono ?_
    rintro e w1 ⟨rfl, h1, k1⟩
    obtain ⟨w2, V1, u1, u2, h2, r2, k2⟩ := P.out w1 h1
    clear c1 L ln P
    go_wp2_with fail
    refine (Q.out w2 V1 h2 r2).mono ?_
    rintro e w3 ⟨rfl, h3, k3⟩
    go_wp2
    go_ret
    exact ⟨rfl, h3, (k1.trans k2).trans k3⟩
end
end Go.Proofs.Ytalojeblemhihaa
