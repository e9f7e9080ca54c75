/-
  The contract of the program's ring's All.
-/
import Derived.Test.YtjaiagocbldbgaaRLay
import Derived.Test.YtjaiagocbldbgaaRowsB
namespace Go.Proofs.Ytjaiagocbldbgaa
open Go.RowKit
set_option linter.unusedVariables false

theorem info23 : (Try.prog.info? 23).map (fun i => (i.zero, i.size, i.bytes)) = some (some (.slice none 0 0), 1, 24) := by kernel_rfl
theorem mkR_run (n : Nat) (hn : n ≤ 1024) (w : World) :
    (Instr.makeSlice 48 (.int .i64 (n : Int)) (.int .i64 (n : Int))).run Try.prog w = .ok (.slice (some ⟨w.heap.size, 0, none⟩) n n) (w.alloc (.cells (madeCells #[.slice none 0 0] n) 23)) := by
  have := run_make_row' (P := Try.prog) 48 23 (.slice none 0 0) 24 Try.underlying48 info23 rfl .i64 .i64 n (by omega) (by omega) w
  simpa using this
/-- The bytes of a ring's buffers. -/
def bytsOf (L : Slots) (R : List Nat) : List (List Int) := R.map (byt L)
theorem bytsOf_get {L : Slots} {R : List Nat} {i : Nat} (hi : i < R.length) : (bytsOf L R).getD i [] = byt L (R.getD i 0) := by
  simp [bytsOf, List.getD, hi]
/-- The row g of n slices of bytes, the first k of which are those of the ring's buffers. -/
def AllAt (w : World) (g n k : Nat) (L : Slots) (R : List Nat) : Prop :=
  ∃ cur : Array Value, w.heap[g]? = some (.cells cur 23 (0, 0)) ∧ cur.size = n ∧ ∀ i, i < k → ∃ A m c, cur[i]? = some (.slice A m c) ∧ Out .u8 5 w (g + 1) A m c (byt L (R.getD i 0))
theorem AllAt.below {w w' : World} {g n k : Nat} {L : Slots} {R : List Nat} (h : AllAt w g n k L R) (hb : Below w.heap.size w w') : AllAt w' g n k L R := by
  obtain ⟨cur, h1, h2, h3⟩ := h
  refine ⟨cur, (hb.block g (Array.getElem?_eq_some_iff.1 h1).1).trans h1, h2, fun i hi => ?_⟩
  obtain ⟨A, m, c, a, b⟩ := h3 i hi
  exact ⟨A, m, c, a, b.below hb (Nat.le_refl _)⟩
theorem AllAt.store {w : World} {g n k : Nat} {L : Slots} {R : List Nat} {A : Option Addr} {m c : Nat} (h : AllAt w g n k L R) (hk : k < n) (ho : Out .u8 5 w (g + 1) A m c (byt L (R.getD k 0))) :
    AllAt (w.setCell ⟨g, k, none⟩ (.slice A m c)) g n (k + 1) L R ∧ Kept (· = g) w (w.setCell ⟨g, k, none⟩ (.slice A m c)) := by
  have hK : Kept (· = g) w (w.setCell ⟨g, k, none⟩ (.slice A m c)) := Kept.setCell (S := (· = g)) w _ _ rfl
  obtain ⟨cur, h1, h2, h3⟩ := h
  refine ⟨⟨cur.setIfInBounds k (.slice A m c), ?_, by simp [h2], fun i hi => ?_⟩, hK⟩
  · rw [setCell_eq_setRow w g k _ 23 (0, 0) _ h1]
    exact setRow_heap w g _ _ 23 (0, 0) h1
  · by_cases e : i = k
    · subst e
      exact ⟨A, m, c, Array.getElem?_setIfInBounds_self_of_lt (by omega), ho.kept hK (fun ad e e' => by have := (ho.block ad e).1; have h2 : ad.block = g := e'; omega)⟩
    · obtain ⟨A', m', c', a, b⟩ := h3 i (by omega)
      exact ⟨A', m', c', by rw [Array.getElem?_setIfInBounds_ne (by omega)]; exact a, b.kept hK (fun ad e e' => by have := (b.block ad e).1; have h2 : ad.block = g := e'; omega)⟩
theorem AllAt.cell {w : World} {g n k : Nat} {L : Slots} {R : List Nat} (h : AllAt w g n k L R) (hk : k < n) : (∃ v, w.cell? ⟨g, k, none⟩ = some v) ∧ w.frozen? ⟨g, k, none⟩ = false ∧ g < w.heap.size := by
  obtain ⟨cur, h1, h2, h3⟩ := h
  refine ⟨⟨cur[k]'(by omega), ?_⟩, by simp [World.frozen?, h1], (Array.getElem?_eq_some_iff.1 h1).1⟩
  rw [cell_of_row w g k _ 23 (0, 0) h1]
  exact Array.getElem?_eq_getElem _
theorem AllAt.rows {w : World} {g : Nat} {L : Slots} {R : List Nat} (h : AllAt w g R.length R.length L R) (hR : R.length ≤ 1024) : BRows w w.heap.size (some ⟨g, 0, none⟩) R.length R.length (bytsOf L R) := by
  obtain ⟨cur, h1, h2, h3⟩ := h
  refine ⟨by simp [bytsOf], ⟨Nat.le_refl _, by unfold maxLen; omega⟩, fun i hi => ?_⟩
  obtain ⟨A, m, c, a, b⟩ := h3 i hi
  refine ⟨g, 0, A, m, c, rfl, (Array.getElem?_eq_some_iff.1 h1).1, ?_, by rw [bytsOf_get hi]; exact b.rd⟩
  rw [cell_of_row w g _ _ 23 (0, 0) h1, Nat.zero_add]
  exact a
set_option maxRecDepth 100000 in
set_option maxHeartbeats 2000000 in
theorem all_any (q p s z : Nat) (o : Int) (R : List Nat) (d g cp : Nat) (L : Slots) (F : Nat → Prop) (w : World) (h : RgAt w q p s z o R d) (hp : Pp w p g cp L F) (hR : ∀ x ∈ R, x < L.length) :
    Calls Try.prog 27 #[ptr q] w fun e w' => ∃ A c, e = .returned (.slice A R.length c) ∧ BRows w' w'.heap.size A R.length c (bytsOf L R) ∧ Below w.heap.size w w' := by
  obtain ⟨f, c, ys, h⟩ := h
  have hle := h.le
  have hsz := h.size
  have hfl := h.flt
  have hc := h.cells
  have ho := h.out
  obtain ⟨n, hn⟩ : ∃ n, R.length = n := ⟨_, rfl⟩
  have hl : Hid (∀ k, k < n → ys.getD (slotN f k z) 0 = (R.getD k 0 : Nat)) := Lib.hid (fun k hk => h.lies k (by omega))
  have hRm : Hid (∀ k, k < n → R.getD k 0 < L.length) := Lib.hid (fun k hk => hR _ (by
    have e : R.getD k 0 = R[k]'(by omega) := by simp [List.getD, show k < R.length by omega]
    rw [e]; exact List.getElem_mem _))
  have C1 := Lib.hid (fun W i k => at_any q p s f c n z i o d ys W k)
  have B := Lib.hid (fun x W k => bytes_any p g cp L F x W k)
  have hmk := fun W => mkR_run n (by omega) W
  have HB : Hid (∀ W, AllAt W w.heap.size n n L R → BRows W W.heap.size (some ⟨w.heap.size, 0, none⟩) n n (bytsOf L R)) := Lib.hid (fun W q => by
    subst hn
    exact q.rows (by omega))
  have b0 := alloc_below w (.cells (madeCells #[.slice none 0 0] n) 23)
  have r0 : AllAt (w.alloc (.cells (madeCells #[.slice none 0 0] n) 23)) w.heap.size n 0 L R := ⟨_, heap_alloc_new w _, by simp [madeCells], fun i hi => by omega⟩
  rw [hn] at hc hle
  rw [hn]
  have hc0 := hc.below b0
  obtain ⟨c0, c1, c2, c3, c4, c5, ff, lt1, lt2⟩ := hc
  have c3' := hc0.c3
  have HC := Lib.hid ((⟨c0, c1, c2, c3, c4, c5, ff, ⟨lt1, lt2⟩⟩ : RgCells w q p s f c n z o d))
  clear h hn hR
  go_enter Try.func27, Try.ntmps27
  go_wp2
  go_loopw [14] (fun i wr => ∃ k : Nat, k ≤ n ∧ i = .int .i64 k ∧ Below w.heap.size w wr ∧ AllAt wr w.heap.size n k L R) (fun i _ => n - (intOf i).toNat)
  case atStart => exact ⟨0, Nat.zero_le _, rfl, b0, r0⟩
  case round =>
    obtain ⟨k, hk, rfl, hb, hA⟩ := hrel
    clear r0 b0 hc0 c3' hmk c0 c1 c2 c3 c4 c5 ff
    by_cases hkn : k < n
    · have hc := RgCells.below (w := w) (w' := wr) (q := q) (p := p) (s := s) (f := f) (c := c) (n := n) (z := z) (o := o) (d := d) HC.out hb
      have hpw := hp.below hb
      have how := ho.below hb (Nat.le_refl _)
      obtain ⟨x, hx⟩ : ∃ x, R.getD k 0 = x := ⟨_, rfl⟩
      have hxl := hRm.out k hkn
      have hxy := hl.out k hkn
      rw [hx] at hxl hxy
      have hbs := hb.size
      have HX := Lib.hid hx
      clear hx
      go_wp2
      refine wp_region_held_drew (S := fun w' => RgCells w' q p s f c n z o d) (by kernel_rfl) (hc.below (below_drew _)) (fun hHeld => ?_)
      replace hpw := hpw.below (below_drew wr)
      replace how := how.below (below_drew wr) (Nat.le_refl _)
      replace hA := hA.below (below_drew wr)
      replace hb := hb.trans ((below_drew wr).mono hbs)
      clear hc hbs
      change wpAnyH _ _ _ _ _ _ _ _ (World.drew _)
      generalize World.drew wr = W0 at *
      refine wpAnyH_at (i := 0) (some 18) (v := ?v0z10) rfl rfl (by kernel_rfl) (by kernel_rfl) (by kernel_rfl) (fun _ _ _ h => h) (Or.inl ⟨by rfl, ?y0z10⟩) (by assumption) ?r0z10
      case y0z10 =>
        intro w9 hSw
        obtain ⟨c0, c1, c2, c3, c4, c5, ff, lt1, lt2⟩ := hSw
        go_simp
        all_goals with_reducible rfl
      simp only [Act.put, List.setIfInBounds_toArray, List.set_cons_zero, List.set_cons_succ]
      refine wpAnyH_at (i := 1) (some 19) (v := ?v1z11) rfl rfl (by kernel_rfl) (by kernel_rfl) (by kernel_rfl) (fun _ _ _ h => h) (Or.inl ⟨by rfl, ?y1z11⟩) (by assumption) ?r1z11
      case y1z11 =>
        intro w9 hSw
        obtain ⟨c0, c1, c2, c3, c4, c5, ff, lt1, lt2⟩ := hSw
        go_simp
        all_goals with_reducible rfl
      simp only [Act.put, List.setIfInBounds_toArray, List.set_cons_zero, List.set_cons_succ]
      refine wpAnyH_at (i := 2) (some 20) (v := ?v2z12) rfl rfl (by kernel_rfl) (by kernel_rfl) (by kernel_rfl) (fun _ _ _ h => h) (Or.inl ⟨by rfl, ?y2z12⟩) (by assumption) ?r2z12
      case y2z12 =>
        intro w9 hSw
        obtain ⟨c0, c1, c2, c3, c4, c5, ff, lt1, lt2⟩ := hSw
        go_simp
        all_goals with_reducible rfl
      simp only [Act.put, List.setIfInBounds_toArray, List.set_cons_zero, List.set_cons_succ]
      refine wpAnyH_at (i := 3) (some 21) (v := ?v3z13) rfl rfl (by kernel_rfl) (by kernel_rfl) (by kernel_rfl) (fun _ _ _ h => h) (Or.inl ⟨by rfl, ?y3z13⟩) (by assumption) ?r3z13
      case y3z13 =>
        intro w9 hSw
        obtain ⟨c0, c1, c2, c3, c4, c5, ff, lt1, lt2⟩ := hSw
        go_simp
        all_goals with_reducible rfl
      simp only [Act.put, List.setIfInBounds_toArray, List.set_cons_zero, List.set_cons_succ]
      refine wpAnyH_at (i := 4) (some 22) (v := ?v4z14) rfl rfl (by kernel_rfl) (by kernel_rfl) (by kernel_rfl) (fun _ _ _ h => h) (Or.inl ⟨by rfl, ?y4z14⟩) (by assumption) ?r4z14
      case y4z14 =>
        intro w9 hSw
        obtain ⟨c0, c1, c2, c3, c4, c5, ff, lt1, lt2⟩ := hSw
        go_simp
        all_goals with_reducible rfl
      simp only [Act.put, List.setIfInBounds_toArray, List.set_cons_zero, List.set_cons_succ]
      refine wpAnyH_at (i := 5) (some 23) (v := ?v5z15) rfl rfl (by kernel_rfl) (by kernel_rfl) (by kernel_rfl) (fun _ _ _ h => h) (Or.inl ⟨by rfl, ?y5z15⟩) (by assumption) ?r5z15
      case y5z15 =>
        intro w9 hSw
        obtain ⟨c0, c1, c2, c3, c4, c5, ff, lt1, lt2⟩ := hSw
        go_simp
        all_goals with_reducible rfl
      simp only [Act.put, List.setIfInBounds_toArray, List.set_cons_zero, List.set_cons_succ]
      refine wpAnyH_at (i := 6) (some 24) (v := ?v6z16) rfl rfl (by kernel_rfl) (by kernel_rfl) (by kernel_rfl) (fun _ _ _ h => h) (Or.inl ⟨by rfl, ?y6z16⟩) (by assumption) ?r6z16
      case y6z16 =>
        intro w9 hSw
        obtain ⟨c0, c1, c2, c3, c4, c5, ff, lt1, lt2⟩ := hSw
        go_simp
        all_goals with_reducible rfl
      simp only [Act.put, List.setIfInBounds_toArray, List.set_cons_zero, List.set_cons_succ]
      refine wpAnyH_at (i := 7) (some 25) (v := ?v7z17) rfl rfl (by kernel_rfl) (by kernel_rfl) (by kernel_rfl) (fun _ _ _ h => h) (Or.inl ⟨by rfl, ?y7z17⟩) (by assumption) ?r7z17
      case y7z17 =>
        intro w9 hSw
        obtain ⟨c0, c1, c2, c3, c4, c5, ff, lt1, lt2⟩ := hSw
        go_simp
        all_goals with_reducible rfl
      simp only [Act.put, List.setIfInBounds_toArray, List.set_cons_zero, List.set_cons_succ]
      refine wpAnyH_one (i := 8) (by kernel_rfl) rfl ?_
      go_wp2_with fail
      refine (C1.out W0 k hHeld how hfl hsz.2 (by omega)).mono ?_
      rintro ev w2 ⟨rfl, m2, rfl⟩
      rw [hxy]
      have b2 := dN W0 m2
      replace hpw := hpw.below b2
      replace how := how.below b2 (Nat.le_refl _)
      replace hA := hA.below b2
      have hbs := hb.size
      replace hb := hb.trans (b2.mono hbs)
      have hH2 := hHeld.below b2
      clear hHeld b2 hbs
      generalize W0.drewN m2 = W2 at *
      go_wp2
      have hHeld := hH2
      refine ⟨hHeld, ?_⟩
      try simp only [Act.put, List.setIfInBounds_toArray, List.set_cons_zero, List.set_cons_succ]
      refine wpAnyH_one (i := 9) (by kernel_rfl) rfl ?_
      go_wp2_with fail
      refine (B.out (x : Int) W2 hpw).mono ?_
      rintro ev w3 ⟨A, m, cc, xs, rfl, o3, b3, hxs⟩
      obtain rfl := hxs x rfl hxl
      obtain ⟨-, -, hgl⟩ := hA.cell hkn
      replace o3 := o3.lower (show w.heap.size + 1 ≤ W2.heap.size by omega)
      replace hA := hA.below b3
      have hbs := hb.size
      replace hb := hb.trans (b3.mono hbs)
      have hH3 := hHeld.below b3
      clear hHeld hH2 b3 hbs hpw how hxs
      have hA3 := hA.store hkn (by rw [HX.out]; exact o3)
      obtain ⟨⟨v, hcv⟩, hcf, -⟩ := hA.cell hkn
      have hbk := hA3.2.below (B := w.heap.size) (by have := hb.size; omega) (fun k e => by omega)
      have hb4 := hb.trans hbk
      have hAA := hA3.1
      have hqn : q ≠ w.heap.size := by omega
      have hH5 := hH3.kept hA3.2 hqn
      clear hA hA3 hb hbk o3 hxl HX
      generalize takenB L (x : Int) = tk at *
      go_wp2
      have hHeld := hH3
      refine ⟨hHeld, ?_⟩
      try simp only [Act.put, List.setIfInBounds_toArray, List.set_cons_zero, List.set_cons_succ]
      refine wpAnyH_at (i := 10) (some 17) (v := ?v10z18) rfl rfl (by kernel_rfl) (by kernel_rfl) (by kernel_rfl) (fun _ _ _ h => h) (Or.inl ⟨by rfl, ?y10z18⟩) (by assumption) ?r10z18
      case y10z18 =>
        intro w9 hSw
        clear hSw
        go_simp
        all_goals with_reducible rfl
      simp only [Act.put, List.setIfInBounds_toArray, List.set_cons_zero, List.set_cons_succ]
      refine wpAnyH_at (i := 11) (some 28) (v := ?v11z19) rfl rfl (by kernel_rfl) (by kernel_rfl) (by kernel_rfl) (fun _ _ _ h => h) (Or.inl ⟨by rfl, ?y11z19⟩) (by assumption) ?r11z19
      case y11z19 =>
        intro w9 hSw
        clear hSw
        go_simp
        all_goals with_reducible rfl
      simp only [Act.put, List.setIfInBounds_toArray, List.set_cons_zero, List.set_cons_succ]
      refine wpAnyH_at (i := 12) (some 29) (v := ?v12z20) rfl rfl (by kernel_rfl) (by kernel_rfl) (by kernel_rfl) (fun _ _ _ h => h) (Or.inl ⟨by rfl, ?y12z20⟩) (by assumption) ?r12z20
      case y12z20 =>
        intro w9 hSw
        clear hSw
        go_simp
        all_goals with_reducible rfl
      simp only [Act.put, List.setIfInBounds_toArray, List.set_cons_zero, List.set_cons_succ]
      refine wpAnyH_at (i := 13) (some 30) (v := ?v13z21) rfl rfl (by kernel_rfl) (by kernel_rfl) (by kernel_rfl) (fun _ _ _ h => h) (Or.inl ⟨by rfl, ?y13z21⟩) (by assumption) ?r13z21
      case y13z21 =>
        intro w9 hSw
        clear hSw
        go_simp
        all_goals with_reducible rfl
      simp only [Act.put, List.setIfInBounds_toArray, List.set_cons_zero, List.set_cons_succ]
      refine wpAnyH_one (i := 14) (by kernel_rfl) rfl ?_
      go_wp2
      have hHeld := hH5
      refine ⟨hHeld, ?_⟩
      refine wpAnyH_done (by kernel_rfl) ?_ _
      clear hHeld hH5 hH3 hcv hcf
      generalize World.setCell w3 ⟨w.heap.size, k, none⟩ (.slice A m cc) = W5 at *
      go_wp2
      go_roundw
      case rel => exact ⟨k + 1, by omega, by go_num, hb4, hAA⟩
      case measure => simp [intOf]; omega
    · obtain rfl : k = n := by omega
      have G := Lib.hid (HB.out _ hA)
      clear hA HB
      go_wp2
      go_ret
      exact ⟨_, k, rfl, G.out, hb⟩
end Go.Proofs.Ytjaiagocbldbgaa
