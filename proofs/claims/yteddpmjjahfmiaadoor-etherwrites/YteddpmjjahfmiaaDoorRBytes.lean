/-
  Contract of the document's Bytes.
-/
import Derived.Test.YteddpmjjahfmiaaDoorRParse
namespace Go.Proofs.YteddpmjjahfmiaaDoor
open Go.RowKit

/-- What the walk knows: the frame's box, the fault's block, the body. -/
structure SB (w : World) (t f : Mac6) (k : Int) (A : Option Addr) (n c : Nat) (xs : List Int) (W : World) : Prop where
  fr : FrAt W w.heap.size 35 t f k A n c
  y : W.heap[w.heap.size + 1]? = some (.cells (flC none 0 0 0) 39 (0, 0))
  rd : Rd .u8 W w.heap.size A n c xs
  below : Below w.heap.size w W
  sz : w.heap.size + 2 ≤ W.heap.size
section
variable {w W V : World} {t f : Mac6} {k : Int} {A : Option Addr} {n c : Nat} {xs : List Int}
theorem SB.low (h : SB w t f k A n c xs W) (hb : Below (w.heap.size + 2) W V) : SB w t f k A n c xs V :=
  ⟨h.fr.below hb (by omega), (hb.block _ (by omega)).trans h.y, h.rd.below hb (by omega), h.below.trans (hb.mono (by omega)), Nat.le_trans h.sz hb.size⟩
theorem SB.step (h : SB w t f k A n c xs W) (hb : Below W.heap.size W V) : SB w t f k A n c xs V := h.low (hb.mono h.sz)
theorem SB.start (w : World) (t f : Mac6) (k : Int) (A : Option Addr) (n c : Nat) (xs : List Int) (hr : Rd .u8 w w.heap.size A n c xs) : SB w t f k A n c xs ((w.alloc (.cells (frC t f k A n c) 35)).alloc (.cells (flC none 0 0 0) 39)) :=
  have hb : Below w.heap.size w ((w.alloc (.cells (frC t f k A n c) 35)).alloc (.cells (flC none 0 0 0) 39)) := (alloc_below w _).alloc (by simp) _
  ⟨(FrAt.new w 35 t f k A n c).step (alloc_below _ _), by simpa using heap_alloc_new (w.alloc (.cells (frC t f k A n c) 35)) (.cells (flC none 0 0 0) 39), hr.below hb (Nat.le_refl _), hb, by simp⟩
end
set_option maxHeartbeats 1000000 in
theorem refBytes_long (t f : Mac6) (k : Int) (A : Option Addr) (n c : Nat) (xs : List Int) (w : World) (hr : Rd .u8 w w.heap.size A n c xs) (hn : 1500 < n) :
    Calls Tryd.prog 17 #[frV t f k A n c] w (GivesRE w (.slice none 0 0) 11) := by
  have st := SB.start w t f k A n c xs hr
  clear hr
  go_enter Tryd.func17, Tryd.ntmps17
  go_wp2_with fail
  refine (refNew_one 11 (by decide) _).mono ?_
  rintro ev w1 ⟨A1, n1, c1, rfl, rd1, new1, hb1⟩
  replace st := st.step hb1
  have far : A1 = none ∨ ∃ ad, A1 = some ad ∧ ad.block ≠ w.heap.size + 1 := by
    rcases new1 with h | h | ⟨ad, h, h1, _⟩
    · exact .inl h
    · exact .inl h
    · refine .inr ⟨ad, h, ?_⟩
      simp at h1
      omega
  have fin2 : ∀ (w3 : World), Only (w.heap.size + 1) w1 w3 → Rd .i64 w3 w3.heap.size A1 n1 c1 [1] ∧ Below w.heap.size w w3 := fun w3 ho =>
    ⟨by rw [ho.size]; exact rd1.other ho.other far, st.below.trans (ho.below.mono (by omega))⟩
  have yy := st.y
  clear hb1 new1 far rd1 st
  go_wp2_with (first
    | (refine wpList_stF rfl rfl 39 _ _ rfl (w.heap.size + 1) (flC A1 n1 c1 11) rfl rfl 39 _ yy (by kernel_rfl) rfl (flC_one _ _ _ _) ?_; intro w3 y3 hb3 ho3 hs3; obtain ⟨r3, b3⟩ := fin2 w3 ⟨hb3, ho3, hs3⟩; clear fin2 hb3 ho3 hs3 yy))
  have b0 : w3.cell? ⟨w.heap.size + 1, 0, none⟩ = some (.slice A1 n1 c1) := blk_cell y3 rfl
  have b1 : w3.cell? ⟨w.heap.size + 1, 1, none⟩ = some (.int .i64 11) := blk_cell y3 rfl
  exact bodyPost_ret (v := .tuple #[.slice none 0 0, .agg #[.slice A1 n1 c1, .int .i64 11]]) (by simp [results, Tryd.results17, go_sem, *]) rfl ⟨A1, n1, c1, rfl, r3, b3⟩

set_option maxRecDepth 100000 in
set_option maxHeartbeats 4000000 in
theorem refBytes_ok (t f : Mac6) (k : Int) (A : Option Addr) (n c : Nat) (xs : List Int) (w : World) (hr : Rd .u8 w w.heap.size A n c xs) (hn : n ≤ 1500) (ht : t.ok) (hf : f.ok) (hk : 0 ≤ k ∧ k ≤ 65535) :
    Calls Tryd.prog 17 #[frV t f k A n c] w fun ev w' => ∃ A' n' c', ev = .returned (.tuple #[.slice A' n' c', .agg #[.slice none 0 0, .int .i64 0]]) ∧ Out .u8 5 w' w.heap.size A' n' c' (hdr t f k xs) ∧ Below w.heap.size w w' := by
  have st := (SB.start w t f k A n c xs hr).step (below_drew _)
  have hcap := hr.cap
  have hmax := hr.max
  have HL := Lib.hid hr.len
  have Hh : Hid (hdr t f k xs = ((t.l ++ f.l) ++ [k / 256, k % 256]) ++ xs) := Lib.hid rfl
  have kw1 : (Lit.int .u8 (k / 256)).wf = true := u8_mk (by omega)
  have kw2 : (Lit.int .u8 (k % 256)).wf = true := u8_mk (by omega)
  have e1 : k.tdiv 256 = k / 256 := Int.tdiv_eq_ediv_of_nonneg hk.1
  have e2 : k.tmod 256 = k % 256 := Int.tmod_eq_emod_of_nonneg hk.1
  have e3 : IntKind.u16.wrap (k / 256) = k / 256 := by rw [IntKind.wrap_u16]; omega
  have e4 : IntKind.u16.wrap (k % 256) = k % 256 := by rw [IntKind.wrap_u16]; omega
  have e5 : IntKind.u8.wrap (k / 256) = k / 256 := by rw [IntKind.wrap_u8']; omega
  have e6 : IntKind.u8.wrap (k % 256) = k % 256 := by rw [IntKind.wrap_u8']; omega
  clear hr
  go_enter Tryd.func17, Tryd.ntmps17
  go_wp2_with fail
  refine wp_region_held_drew (S := fun w' => SB w t f k A n c xs w') (by kernel_rfl) st (fun hHeld => ?_)
  change wpAnyH _ _ _ _ _ _ _ _ ((w.alloc (.cells (frC t f k A n c) 35)).alloc (.cells (flC none 0 0 0) 39)).drew
  clear hHeld
  generalize ((w.alloc (.cells (frC t f k A n c) 35)).alloc (.cells (flC none 0 0 0) 39)).drew = W1 at *
  refine wpAnyH_at (i := 1) (some 11) (v := ?v1z1) rfl rfl (by kernel_rfl) (by kernel_rfl) (by kernel_rfl) (fun _ _ _ h => h) (Or.inl ⟨by rfl, ?y1z1⟩) (by assumption) ?r1z1
  case y1z1 =>
    intro w9 hSw
    clear hSw
    go_simp
    all_goals with_reducible rfl
  simp only [Act.put, List.setIfInBounds_toArray, List.set_cons_zero, List.set_cons_succ]
  refine wpAnyH_at (i := 2) (some 12) (v := ?v2z2) rfl rfl (by kernel_rfl) (by kernel_rfl) (by kernel_rfl) (fun _ _ _ h => h) (Or.inl ⟨by rfl, ?y2z2⟩) (by assumption) ?r2z2
  case y2z2 =>
    intro w9 hSw
    clear hSw
    go_simp
    all_goals with_reducible rfl
  simp only [Act.put, List.setIfInBounds_toArray, List.set_cons_zero, List.set_cons_succ]
  refine wpAnyH_at (i := 4) (some 14) (v := ?v4z3) rfl rfl (by kernel_rfl) (by kernel_rfl) (by kernel_rfl) (fun _ _ _ h => h) (Or.inl ⟨by rfl, ?y4z3⟩) (by assumption) ?r4z3
  case y4z3 =>
    intro w9 hSw
    clear hSw
    go_simp
    all_goals with_reducible rfl
  simp only [Act.put, List.setIfInBounds_toArray, List.set_cons_zero, List.set_cons_succ]
  refine wpAnyH_at (i := 5) (some 15) (v := ?v5z4) rfl rfl (by kernel_rfl) (by kernel_rfl) (by kernel_rfl) (fun _ _ _ h => h) (Or.inl ⟨by rfl, ?y5z4⟩) (by assumption) ?r5z4
  case y5z4 =>
    intro w9 hSw
    clear hSw
    go_simp
    all_goals with_reducible rfl
  simp only [Act.put, List.setIfInBounds_toArray, List.set_cons_zero, List.set_cons_succ]
  refine wpAnyH_one (i := 0) (by kernel_rfl) rfl ?_
  have o0 := Out.lit0 .u8 5 W1 (w.heap.size + 2) st.sz
  replace st := st.step (alloc_below W1 (.cells #[] 5))
  go_wp2
  refine ⟨st, ?_⟩
  change wpAnyH _ _ _ _ _ _ _ _ (W1.alloc (.cells #[] 5))
  generalize W1.alloc (.cells #[] 5) = w2 at *
  refine wpAnyH_one (i := 3) (by kernel_rfl) rfl ?_
  refine wpList_appD (some 13) rfl rfl (.tmp 10) (.tmp 12) 22 rfl (w.heap.size + 2) Tryd.underlying22 info5 (by omega) (some ⟨W1.heap.size, 0, none⟩) 0 0 [] rfl o0 (some ⟨w.heap.size, 0, none⟩) 6 6 (w.heap.size + 1) t.l rfl (st.fr.rdTo ht) (by omega) st.sz ?_
  intro A1 n1 c1 w3 o1 hgr
  rw [List.nil_append] at o1
  replace st := st.low (grown_low o0 hgr st.sz)
  have L1 : n1 ≤ 6 := by have := o1.len; simp [Mac6.l] at this; omega
  clear o0 hgr
  go_wp2
  refine ⟨st, ?_⟩
  refine wpAnyH_one (i := 6) (by kernel_rfl) rfl ?_
  refine wpList_appD (some 16) rfl rfl (.tmp 13) (.tmp 15) 22 rfl (w.heap.size + 2) Tryd.underlying22 info5 (by omega) A1 n1 c1 t.l rfl o1 (some ⟨w.heap.size, 6, none⟩) 6 6 (w.heap.size + 1) f.l rfl (st.fr.rdFrom hf) (by omega) st.sz ?_
  intro A2 n2 c2 w4 o2 hgr
  replace st := st.low (grown_low o1 hgr st.sz)
  have L2 : n2 ≤ 12 := by have := o2.len; simp [Mac6.l] at this; omega
  clear o1 hgr
  go_wp2
  refine ⟨st, ?_⟩
  refine wpAnyH_one (i := 7) (by kernel_rfl) rfl ?_
  go_wp2
  refine ⟨st, ?_⟩
  refine wpAnyH_done (by kernel_rfl) ?_ _
  go_wp2_with fail
  refine wp_region_held_drew (S := fun w' => SB w t f k A n c xs w') (by kernel_rfl) (st.step (below_drew _)) (fun hHeld => ?_)
  replace st := st.step (below_drew _)
  replace o2 := o2.below (below_drew _) (Nat.le_refl _)
  clear hHeld
  generalize w4.drew = W4 at *
  refine wpAnyH_at (i := 0) (some 17) (v := ?v0z5) rfl rfl (by kernel_rfl) (by kernel_rfl) (by kernel_rfl) (fun _ _ _ h => h) (Or.inl ⟨by rfl, ?y0z5⟩) (by assumption) ?r0z5
  case y0z5 =>
    intro w9 hSw
    clear hSw
    go_simp
    all_goals with_reducible rfl
  simp only [Act.put, List.setIfInBounds_toArray, List.set_cons_zero, List.set_cons_succ]
  refine wpAnyH_at (i := 1) (some 18) (v := ?v1z6) rfl rfl (by kernel_rfl) (by kernel_rfl) (by kernel_rfl) (fun _ _ _ h => h) (Or.inl ⟨by rfl, ?y1z6⟩) (by assumption) ?r1z6
  case y1z6 =>
    intro w9 hSw
    clear hSw
    go_simp
    all_goals with_reducible rfl
  simp only [Act.put, List.setIfInBounds_toArray, List.set_cons_zero, List.set_cons_succ]
  refine wpAnyH_at (i := 2) (some 19) (v := ?v2z7) rfl rfl (by kernel_rfl) (by kernel_rfl) (by kernel_rfl) (fun _ _ _ h => h) (Or.inl ⟨by rfl, ?y2z7⟩) (by assumption) ?r2z7
  case y2z7 =>
    intro w9 hSw
    (obtain ⟨a0, a1, a2, a3, a4, a5, a6, a7, a8, a9, a10, a11, a12, a13⟩ := hSw.fr.cells); clear hSw
    go_simp
    all_goals with_reducible rfl
  simp only [Act.put, List.setIfInBounds_toArray, List.set_cons_zero, List.set_cons_succ]
  refine wpAnyH_at (i := 3) (some 20) (v := ?v3z8) rfl rfl (by kernel_rfl) (by kernel_rfl) (by kernel_rfl) (fun _ _ _ h => h) (Or.inl ⟨by rfl, ?y3z8⟩) (by assumption) ?r3z8
  case y3z8 =>
    intro w9 hSw
    clear hSw
    go_simp
    all_goals with_reducible rfl
  simp only [Act.put, List.setIfInBounds_toArray, List.set_cons_zero, List.set_cons_succ]
  refine wpAnyH_at (i := 4) (some 21) (v := ?v4z9) rfl rfl (by kernel_rfl) (by kernel_rfl) (by kernel_rfl) (fun _ _ _ h => h) (Or.inl ⟨by rfl, ?y4z9⟩) (by assumption) ?r4z9
  case y4z9 =>
    intro w9 hSw
    clear hSw
    go_simp
    all_goals with_reducible rfl
  simp only [Act.put, List.setIfInBounds_toArray, List.set_cons_zero, List.set_cons_succ]
  refine wpAnyH_at (i := 5) (some 22) (v := ?v5z10) rfl rfl (by kernel_rfl) (by kernel_rfl) (by kernel_rfl) (fun _ _ _ h => h) (Or.inl ⟨by rfl, ?y5z10⟩) (by assumption) ?r5z10
  case y5z10 =>
    intro w9 hSw
    clear hSw
    go_simp
    all_goals with_reducible rfl
  simp only [Act.put, List.setIfInBounds_toArray, List.set_cons_zero, List.set_cons_succ]
  refine wpAnyH_at (i := 6) (some 23) (v := ?v6z11) rfl rfl (by kernel_rfl) (by kernel_rfl) (by kernel_rfl) (fun _ _ _ h => h) (Or.inl ⟨by rfl, ?y6z11⟩) (by assumption) ?r6z11
  case y6z11 =>
    intro w9 hSw
    (obtain ⟨a0, a1, a2, a3, a4, a5, a6, a7, a8, a9, a10, a11, a12, a13⟩ := hSw.fr.cells); clear hSw
    go_simp
    all_goals with_reducible rfl
  simp only [Act.put, List.setIfInBounds_toArray, List.set_cons_zero, List.set_cons_succ]
  refine wpAnyH_at (i := 7) (some 24) (v := ?v7z12) rfl rfl (by kernel_rfl) (by kernel_rfl) (by kernel_rfl) (fun _ _ _ h => h) (Or.inl ⟨by rfl, ?y7z12⟩) (by assumption) ?r7z12
  case y7z12 =>
    intro w9 hSw
    clear hSw
    go_simp
    all_goals with_reducible rfl
  simp only [Act.put, List.setIfInBounds_toArray, List.set_cons_zero, List.set_cons_succ]
  refine wpAnyH_at (i := 8) (some 25) (v := ?v8z13) rfl rfl (by kernel_rfl) (by kernel_rfl) (by kernel_rfl) (fun _ _ _ h => h) (Or.inl ⟨by rfl, ?y8z13⟩) (by assumption) ?r8z13
  case y8z13 =>
    intro w9 hSw
    clear hSw
    go_simp
    all_goals with_reducible rfl
  simp only [Act.put, List.setIfInBounds_toArray, List.set_cons_zero, List.set_cons_succ]
  refine wpAnyH_at (i := 11) (some 28) (v := ?v11z14) rfl rfl (by kernel_rfl) (by kernel_rfl) (by kernel_rfl) (fun _ _ _ h => h) (Or.inl ⟨by rfl, ?y11z14⟩) (by assumption) ?r11z14
  case y11z14 =>
    intro w9 hSw
    clear hSw
    go_simp
    all_goals with_reducible rfl
  simp only [Act.put, List.setIfInBounds_toArray, List.set_cons_zero, List.set_cons_succ]
  refine wpAnyH_at (i := 12) (some 29) (v := ?v12z15) rfl rfl (by kernel_rfl) (by kernel_rfl) (by kernel_rfl) (fun _ _ _ h => h) (Or.inl ⟨by rfl, ?y12z15⟩) (by assumption) ?r12z15
  case y12z15 =>
    intro w9 hSw
    (obtain ⟨a0, a1, a2, a3, a4, a5, a6, a7, a8, a9, a10, a11, a12, a13⟩ := hSw.fr.cells); clear hSw
    go_simp
    all_goals with_reducible rfl
  simp only [Act.put, List.setIfInBounds_toArray, List.set_cons_zero, List.set_cons_succ]
  refine wpAnyH_at (i := 14) (some 31) (v := ?v14z16) rfl rfl (by kernel_rfl) (by kernel_rfl) (by kernel_rfl) (fun _ _ _ h => h) (Or.inl ⟨by rfl, ?y14z16⟩) (by assumption) ?r14z16
  case y14z16 =>
    intro w9 hSw
    clear hSw
    go_simp
    all_goals with_reducible rfl
  simp only [Act.put, List.setIfInBounds_toArray, List.set_cons_zero, List.set_cons_succ]
  refine wpAnyH_one (i := 9) (by kernel_rfl) rfl ?_
  have rl := rd_lit .u8 5 W4 [k / 256, k % 256] 2 rfl (by omega) (by intro z hz; simp at hz; rcases hz with rfl | rfl <;> assumption)
  simp only [List.map_cons, List.map_nil, List.toArray] at rl
  replace o2 := o2.below (alloc_below W4 (.cells #[.int .u8 (k / 256), .int .u8 (k % 256)] 5)) (Nat.le_refl _)
  replace st := st.step (alloc_below W4 (.cells #[.int .u8 (k / 256), .int .u8 (k % 256)] 5))
  go_wp2
  refine ⟨st, ?_⟩
  change wpAnyH _ _ _ _ _ _ _ _ (W4.alloc (.cells #[.int .u8 (k / 256), .int .u8 (k % 256)] 5))
  generalize W4.alloc (.cells #[.int .u8 (k / 256), .int .u8 (k % 256)] 5) = w5 at *
  refine wpAnyH_one (i := 10) (by kernel_rfl) rfl ?_
  refine wpList_appD (some 27) rfl rfl (.tmp 17) (.tmp 26) 22 rfl (w.heap.size + 2) Tryd.underlying22 info5 (by omega) A2 n2 c2 (t.l ++ f.l) rfl o2 (some ⟨W4.heap.size, 0, none⟩) 2 2 (W4.heap.size + 1) [k / 256, k % 256] rfl rl (by omega) st.sz ?_
  intro A3 n3 c3 w6 o3 hgr
  replace st := st.low (grown_low o2 hgr st.sz)
  have L3 : n3 ≤ 14 := by have := o3.len; simp [Mac6.l] at this; omega
  clear o2 hgr rl
  go_wp2
  refine ⟨st, ?_⟩
  refine wpAnyH_one (i := 13) (by kernel_rfl) rfl ?_
  refine wpList_appD (some 30) rfl rfl (.tmp 27) (.tmp 29) 22 rfl (w.heap.size + 2) Tryd.underlying22 info5 (by omega) A3 n3 c3 ((t.l ++ f.l) ++ [k / 256, k % 256]) rfl o3 A n c w.heap.size xs rfl st.rd (by omega) st.sz ?_
  intro A4 n4 c4 w7 o4 hgr
  replace st := st.low (grown_low o3 hgr st.sz)
  rw [← Hh.out] at o4
  clear o3 hgr
  go_wp2
  refine ⟨st, ?_⟩
  refine wpAnyH_one (i := 15) (by kernel_rfl) rfl ?_
  go_wp2
  refine ⟨st, ?_⟩
  refine wpAnyH_one (i := 16) (by kernel_rfl) rfl ?_
  refine wpList_stF rfl rfl 39 _ _ rfl (w.heap.size + 1) (flC none 0 0 0) rfl rfl 39 _ st.y (by kernel_rfl) rfl (flC_one _ _ _ _) ?_
  intro w8 y8 hb8 ho8 hs8
  have st8 : SB w t f k A n c xs w8 := ⟨st.fr.below hb8 (by omega), y8, st.rd.below hb8 (by omega), st.below.trans (hb8.mono (by omega)), by have := st.sz; omega⟩
  have o8 : Out .u8 5 w8 w.heap.size A4 n4 c4 (hdr t f k xs) := (o4.other (fun j hj => ho8 j (by omega))).rebase (by omega)
  clear o4 hb8 ho8 hs8 st
  go_wp2
  refine ⟨st8, ?_⟩
  refine wpAnyH_done (by kernel_rfl) ?_ _
  have b0 : w8.cell? ⟨w.heap.size + 1, 0, none⟩ = some (.slice none 0 0) := blk_cell y8 rfl
  have b1 : w8.cell? ⟨w.heap.size + 1, 1, none⟩ = some (.int .i64 0) := blk_cell y8 rfl
  go_wp2
  exact bodyPost_ret (v := .tuple #[.slice A4 n4 c4, .agg #[.slice none 0 0, .int .i64 0]]) (by simp [results, Tryd.results17, go_sem, *]) rfl ⟨A4, n4, c4, rfl, o8, st8.below⟩
end Go.Proofs.YteddpmjjahfmiaaDoor
