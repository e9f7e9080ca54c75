/-
  The contract of the program's ring's All, with the block that its row lies in.
-/
import Derived.Test.YtjaiagocbldbgaaRLaw
namespace Go.Proofs.Ytjaiagocbldbgaa
open Go.RowKit
set_option linter.unusedVariables false

theorem AllAt.kept {S : Nat → Prop} {w w' : World} {g n k : Nat} {L : Slots} {R : List Nat} (h : AllAt w g n k L R) (hk : Kept S w w') (hS : ∀ j, S j → j < g) : AllAt w' g n k L R := by
  obtain ⟨cur, h1, h2, h3⟩ := h
  refine ⟨cur, (hk.block g (Array.getElem?_eq_some_iff.1 h1).1 (fun e => by have := hS g e; omega)).trans h1, h2, fun i hi => ?_⟩
  obtain ⟨A, m, c, a, b⟩ := h3 i hi
  exact ⟨A, m, c, a, b.kept hk (fun ad e e' => by have := (b.block ad e).1; have := hS _ e'; omega)⟩
set_option maxRecDepth 100000 in
set_option maxHeartbeats 2000000 in
theorem allO_any (q p s z : Nat) (o : Int) (R : List Nat) (d g cp : Nat) (L : Slots) (F : Nat → Prop) (w : World) (h : RgAt w q p s z o R d) (hp : Pp w p g cp L F) (hR : ∀ x ∈ R, x < L.length) :
    Calls Try.prog 27 #[ptr q] w fun e w' => ∃ gg, e = .returned (.slice (some ⟨gg, 0, none⟩) R.length R.length) ∧ AllAt w' gg R.length R.length L R ∧ w.heap.size ≤ gg ∧ Below w.heap.size w w' := by
  obtain ⟨f, c, ys, h⟩ := h
  have hle := h.le
  have hsz := h.size
  have hfl := h.flt
  have hc := h.cells
  have ho := h.out
  obtain ⟨n, hn⟩ : ∃ n, R.length = n := ⟨_, rfl⟩
  have hl : Hid (∀ k, k < n → ys.getD (slotN f k z) 0 = (R.getD k 0 : Nat)) := Lib.hid (fun k hk => h.lies k (by omega))
  have hRm : Hid (∀ k, k < n → R.getD k 0 < L.length) := Lib.hid (fun k hk => hR _ (by
    have e : R.getD k 0 = R[k]'(by omega) := by simp [List.getD, show k < R.length by omega]
    rw [e]; exact List.getElem_mem _))
  have C1 := Lib.hid (fun W i k => at_any q p s f c n z i o d ys W k)
  have B := Lib.hid (fun x W k => bytes_any p g cp L F x W k)
  have hmk := fun W => mkR_run n (by omega) W
  have b0 := alloc_below w (.cells (madeCells #[.slice none 0 0] n) 23)
  have r0 : AllAt (w.alloc (.cells (madeCells #[.slice none 0 0] n) 23)) w.heap.size n 0 L R := ⟨_, heap_alloc_new w _, by simp [madeCells], fun i hi => by omega⟩
  rw [hn] at hc hle
  rw [hn]
  have hc0 := hc.below b0
  obtain ⟨c0, c1, c2, c3, c4, c5, ff, lt1, lt2⟩ := hc
  have c3' := hc0.c3
  have HC := Lib.hid ((⟨c0, c1, c2, c3, c4, c5, ff, ⟨lt1, lt2⟩⟩ : RgCells w q p s f c n z o d))
  clear h hn hR
  go_enter Try.func27, Try.ntmps27
  go_wp2
  go_loopw [14] (fun i wr => ∃ k : Nat, k ≤ n ∧ i = .int .i64 k ∧ Below w.heap.size w wr ∧ AllAt wr w.heap.size n k L R) (fun i _ => n - (intOf i).toNat)
  case atStart => exact ⟨0, Nat.zero_le _, rfl, b0, r0⟩
  case round =>
    obtain ⟨k, hk, rfl, hb, hA⟩ := hrel
    clear r0 b0 hc0 c3' hmk c0 c1 c2 c3 c4 c5 ff
    by_cases hkn : k < n
    · have hc := RgCells.below (w := w) (w' := wr) (q := q) (p := p) (s := s) (f := f) (c := c) (n := n) (z := z) (o := o) (d := d) HC.out hb
      have hpw := hp.below hb
      have how := ho.below hb (Nat.le_refl _)
      obtain ⟨x, hx⟩ : ∃ x, R.getD k 0 = x := ⟨_, rfl⟩
      have hxl := hRm.out k hkn
      have hxy := hl.out k hkn
      rw [hx] at hxl hxy
      have hbs := hb.size
      have HX := Lib.hid hx
      clear hx
      go_wp2
      refine wp_region_held_drew (S := fun w' => RgCells w' q p s f c n z o d) (by kernel_rfl) (hc.below (below_drew _)) (fun hHeld => ?_)
      replace hpw := hpw.below (below_drew wr)
      replace how := how.below (below_drew wr) (Nat.le_refl _)
      replace hA := hA.below (below_drew wr)
      replace hb := hb.trans ((below_drew wr).mono hbs)
      clear hc hbs
      change wpAnyH _ _ _ _ _ _ _ _ (World.drew _)
      generalize World.drew wr = W0 at *
      refine wpAnyH_at (i := 0) (some 18) (v := ?v0z10) rfl rfl (by kernel_rfl) (by kernel_rfl) (by kernel_rfl) (fun _ _ _ h => h) (Or.inl ⟨by rfl, ?y0z10⟩) (by assumption) ?r0z10
      case y0z10 =>
        intro w9 hSw
        obtain ⟨c0, c1, c2, c3, c4, c5, ff, lt1, lt2⟩ := hSw
        go_simp
        all_goals with_reducible rfl
      simp only [Act.put, List.setIfInBounds_toArray, List.set_cons_zero, List.set_cons_succ]
      refine wpAnyH_at (i := 1) (some 19) (v := ?v1z11) rfl rfl (by kernel_rfl) (by kernel_rfl) (by kernel_rfl) (fun _ _ _ h => h) (Or.inl ⟨by rfl, ?y1z11⟩) (by assumption) ?r1z11
      case y1z11 =>
        intro w9 hSw
        obtain ⟨c0, c1, c2, c3, c4, c5, ff, lt1, lt2⟩ := hSw
        go_simp
        all_goals with_reducible rfl
      simp only [Act.put, List.setIfInBounds_toArray, List.set_cons_zero, List.set_cons_succ]
      refine wpAnyH_at (i := 2) (some 20) (v := ?v2z12) rfl rfl (by kernel_rfl) (by kernel_rfl) (by kernel_rfl) (fun _ _ _ h => h) (Or.inl ⟨by rfl, ?y2z12⟩) (by assumption) ?r2z12
      case y2z12 =>
        intro w9 hSw
        obtain ⟨c0, c1, c2, c3, c4, c5, ff, lt1, lt2⟩ := hSw
        go_simp
        all_goals with_reducible rfl
      simp only [Act.put, List.setIfInBounds_toArray, List.set_cons_zero, List.set_cons_succ]
      refine wpAnyH_at (i := 3) (some 21) (v := ?v3z13) rfl rfl (by kernel_rfl) (by kernel_rfl) (by kernel_rfl) (fun _ _ _ h => h) (Or.inl ⟨by rfl, ?y3z13⟩) (by assumption) ?r3z13
      case y3z13 =>
        intro w9 hSw
        obtain ⟨c0, c1, c2, c3, c4, c5, ff, lt1, lt2⟩ := hSw
        go_simp
        all_goals with_reducible rfl
      simp only [Act.put, List.setIfInBounds_toArray, List.set_cons_zero, List.set_cons_succ]
      refine wpAnyH_at (i := 4) (some 22) (v := ?v4z14) rfl rfl (by kernel_rfl) (by kernel_rfl) (by kernel_rfl) (fun _ _ _ h => h) (Or.inl ⟨by rfl, ?y4z14⟩) (by assumption) ?r4z14
      case y4z14 =>
        intro w9 hSw
        obtain ⟨c0, c1, c2, c3, c4, c5, ff, lt1, lt2⟩ := hSw
        go_simp
        all_goals with_reducible rfl
      simp only [Act.put, List.setIfInBounds_toArray, List.set_cons_zero, List.set_cons_succ]
      refine wpAnyH_at (i := 5) (some 23) (v := ?v5z15) rfl rfl (by kernel_rfl) (by kernel_rfl) (by kernel_rfl) (fun _ _ _ h => h) (Or.inl ⟨by rfl, ?y5z15⟩) (by assumption) ?r5z15
      case y5z15 =>
        intro w9 hSw
        obtain ⟨c0, c1, c2, c3, c4, c5, ff, lt1, lt2⟩ := hSw
        go_simp
        all_goals with_reducible rfl
      simp only [Act.put, List.setIfInBounds_toArray, List.set_cons_zero, List.set_cons_succ]
      refine wpAnyH_at (i := 6) (some 24) (v := ?v6z16) rfl rfl (by kernel_rfl) (by kernel_rfl) (by kernel_rfl) (fun _ _ _ h => h) (Or.inl ⟨by rfl, ?y6z16⟩) (by assumption) ?r6z16
      case y6z16 =>
        intro w9 hSw
        obtain ⟨c0, c1, c2, c3, c4, c5, ff, lt1, lt2⟩ := hSw
        go_simp
        all_goals with_reducible rfl
      simp only [Act.put, List.setIfInBounds_toArray, List.set_cons_zero, List.set_cons_succ]
      refine wpAnyH_at (i := 7) (some 25) (v := ?v7z17) rfl rfl (by kernel_rfl) (by kernel_rfl) (by kernel_rfl) (fun _ _ _ h => h) (Or.inl ⟨by rfl, ?y7z17⟩) (by assumption) ?r7z17
      case y7z17 =>
        intro w9 hSw
        obtain ⟨c0, c1, c2, c3, c4, c5, ff, lt1, lt2⟩ := hSw
        go_simp
        all_goals with_reducible rfl
      simp only [Act.put, List.setIfInBounds_toArray, List.set_cons_zero, List.set_cons_succ]
      refine wpAnyH_one (i := 8) (by kernel_rfl) rfl ?_
      go_wp2_with fail
      refine (C1.out W0 k hHeld how hfl hsz.2 (by omega)).mono ?_
      rintro ev w2 ⟨rfl, m2, rfl⟩
      rw [hxy]
      have b2 := dN W0 m2
      replace hpw := hpw.below b2
      replace how := how.below b2 (Nat.le_refl _)
      replace hA := hA.below b2
      have hbs := hb.size
      replace hb := hb.trans (b2.mono hbs)
      have hH2 := hHeld.below b2
      clear hHeld b2 hbs
      generalize W0.drewN m2 = W2 at *
      go_wp2
      have hHeld := hH2
      refine ⟨hHeld, ?_⟩
      try simp only [Act.put, List.setIfInBounds_toArray, List.set_cons_zero, List.set_cons_succ]
      refine wpAnyH_one (i := 9) (by kernel_rfl) rfl ?_
      go_wp2_with fail
      refine (B.out (x : Int) W2 hpw).mono ?_
      rintro ev w3 ⟨A, m, cc, xs, rfl, o3, b3, hxs⟩
      obtain rfl := hxs x rfl hxl
      obtain ⟨-, -, hgl⟩ := hA.cell hkn
      replace o3 := o3.lower (show w.heap.size + 1 ≤ W2.heap.size by omega)
      replace hA := hA.below b3
      have hbs := hb.size
      replace hb := hb.trans (b3.mono hbs)
      have hH3 := hHeld.below b3
      clear hHeld hH2 b3 hbs hpw how hxs
      have hA3 := hA.store hkn (by rw [HX.out]; exact o3)
      obtain ⟨⟨v, hcv⟩, hcf, -⟩ := hA.cell hkn
      have hbk := hA3.2.below (B := w.heap.size) (by have := hb.size; omega) (fun k e => by omega)
      have hb4 := hb.trans hbk
      have hAA := hA3.1
      have hqn : q ≠ w.heap.size := by omega
      have hH5 := hH3.kept hA3.2 hqn
      clear hA hA3 hb hbk o3 hxl HX
      generalize takenB L (x : Int) = tk at *
      go_wp2
      have hHeld := hH3
      refine ⟨hHeld, ?_⟩
      try simp only [Act.put, List.setIfInBounds_toArray, List.set_cons_zero, List.set_cons_succ]
      refine wpAnyH_at (i := 10) (some 17) (v := ?v10z18) rfl rfl (by kernel_rfl) (by kernel_rfl) (by kernel_rfl) (fun _ _ _ h => h) (Or.inl ⟨by rfl, ?y10z18⟩) (by assumption) ?r10z18
      case y10z18 =>
        intro w9 hSw
        clear hSw
        go_simp
        all_goals with_reducible rfl
      simp only [Act.put, List.setIfInBounds_toArray, List.set_cons_zero, List.set_cons_succ]
      refine wpAnyH_at (i := 11) (some 28) (v := ?v11z19) rfl rfl (by kernel_rfl) (by kernel_rfl) (by kernel_rfl) (fun _ _ _ h => h) (Or.inl ⟨by rfl, ?y11z19⟩) (by assumption) ?r11z19
      case y11z19 =>
        intro w9 hSw
        clear hSw
        go_simp
        all_goals with_reducible rfl
      simp only [Act.put, List.setIfInBounds_toArray, List.set_cons_zero, List.set_cons_succ]
      refine wpAnyH_at (i := 12) (some 29) (v := ?v12z20) rfl rfl (by kernel_rfl) (by kernel_rfl) (by kernel_rfl) (fun _ _ _ h => h) (Or.inl ⟨by rfl, ?y12z20⟩) (by assumption) ?r12z20
      case y12z20 =>
        intro w9 hSw
        clear hSw
        go_simp
        all_goals with_reducible rfl
      simp only [Act.put, List.setIfInBounds_toArray, List.set_cons_zero, List.set_cons_succ]
      refine wpAnyH_at (i := 13) (some 30) (v := ?v13z21) rfl rfl (by kernel_rfl) (by kernel_rfl) (by kernel_rfl) (fun _ _ _ h => h) (Or.inl ⟨by rfl, ?y13z21⟩) (by assumption) ?r13z21
      case y13z21 =>
        intro w9 hSw
        clear hSw
        go_simp
        all_goals with_reducible rfl
      simp only [Act.put, List.setIfInBounds_toArray, List.set_cons_zero, List.set_cons_succ]
      refine wpAnyH_one (i := 14) (by kernel_rfl) rfl ?_
      go_wp2
      have hHeld := hH5
      refine ⟨hHeld, ?_⟩
      refine wpAnyH_done (by kernel_rfl) ?_ _
      clear hHeld hH5 hH3 hcv hcf
      generalize World.setCell w3 ⟨w.heap.size, k, none⟩ (.slice A m cc) = W5 at *
      go_wp2
      go_roundw
      case rel => exact ⟨k + 1, by omega, by go_num, hb4, hAA⟩
      case measure => simp [intOf]; omega
    · obtain rfl : k = n := by omega
      have G := Lib.hid hA
      clear hA
      go_wp2
      go_ret
      exact ⟨_, rfl, G.out, Nat.le_refl _, hb⟩
theorem kAllO {w W : World} {p g m q s z : Nat} {o : Int} {L : Slots} {R : List Nat} {d : Nat} (k : KA w p g m q s z o L R d W) (hR : ∀ x ∈ R, x < L.length) : Calls Try.prog 27 #[ptr q] W fun e w' => ∃ gg, e = .returned (.slice (some ⟨gg, 0, none⟩) R.length R.length) ∧ AllAt w' gg R.length R.length L R ∧ (g < gg ∧ q < gg ∧ s < gg) ∧ KA w p g m q s z o L R d w' ∧ Below W.heap.size W w' := by
  refine (allO_any q p s z o R d g m L Tr W k.rg k.pp hR).mono ?_
  rintro e w' ⟨gg, rfl, ho, h1, hb⟩
  have := k.pp.lt
  have := k.rg.lt
  exact ⟨gg, rfl, ho, by omega, k.step hb, hb⟩
end Go.Proofs.Ytjaiagocbldbgaa
