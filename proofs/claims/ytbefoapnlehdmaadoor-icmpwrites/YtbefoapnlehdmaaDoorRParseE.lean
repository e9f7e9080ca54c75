/-
  Contract of the document's Parse and Peek, where there is no packet.
-/
import Derived.Test.YtbefoapnlehdmaaDoorRHead
import Derived.Test.YtbefoapnlehdmaaDoorPP
namespace Go.Proofs.YtbefoapnlehdmaaDoor
open Go.RowKit
set_option linter.unusedVariables false

/-- A slice that lies in no block below B. -/
def Far (B : Nat) (A : Option Addr) : Prop := A = none ∨ ∃ ad, A = some ad ∧ B ≤ ad.block
theorem Far.less {B B' : Nat} {A : Option Addr} (h : Far B A) (hB : B' ≤ B) : Far B' A := h.imp id fun ⟨ad, e, q⟩ => ⟨ad, e, by omega⟩
/-- A value that an operation yields without touching the world, as a step of the walk. -/
theorem wpList_run {P : Program} {w : World} {ops : Array Oper} {rest : List Oper} {o : Oper} {a : Act} {Q : Exit → Act → World → Prop} {dd : Option Tmp} {v : Value} (hgd : o.guard = none) (hdd : o.dst = dd) (hrun : Sem.run P (execOp a.eval o) w = .ok (.value v) w) (h : wpList P ops Q rest (a.put dd v) w) : wpList P ops Q (o :: rest) a w := by
  subst hdd
  refine wpList_plain hgd fun K hK => ?_
  unfold Oper.wp
  have hrun' : (execOp a.eval o).run P w = .ok (.value v) w := hrun
  rw [hrun']
  exact hK _ _ h
/-- No packet: the document's answer. -/
def GivesN (w : World) (r e : Int) (ev : Ending) (w' : World) : Prop :=
  Below w.heap.size w w' ∧ ∃ A n c, ev = .returned (.tuple #[zeroP, .agg #[.slice A n c, .int .i64 e]]) ∧ Rd .i64 w' w'.heap.size A n c [r] ∧ Far w.heap.size A
/-- A packet. -/
def GivesY (w : World) (h : Hd) (ys : List Int) (ev : Ending) (w' : World) : Prop :=
  Below w.heap.size w w' ∧ ∃ A n c, ev = .returned (.tuple #[pkV h A n c, .agg #[.slice none 0 0, .int .i64 0]]) ∧ Out .u8 5 w' w.heap.size A n c ys
/-- The two answers' blocks, as they lie at first. -/
structure RZ (w W : World) : Prop where
  z : PkAt W w.heap.size 63 zeroH none 0 0
  y : W.heap[w.heap.size + 1]? = some (.cells (flC none 0 0 0) 36 (0, 0))
  below : Below w.heap.size w W
theorem RZ.step {w W V : World} (h : RZ w W) (hb : Below W.heap.size W V) : RZ w V := ⟨h.z.step hb, (hb.block _ (blk_lt h.y)).trans h.y, h.below.trans (hb.mono h.below.size)⟩
theorem RZ.start (w : World) : RZ w ((w.alloc (.cells (pkC zeroH none 0 0) 63)).alloc (.cells (flC none 0 0 0) 36)) :=
  ⟨(PkAt.new w 63 zeroH none 0 0).step (alloc_below _ _), by simpa using heap_alloc_new (w.alloc (.cells (pkC zeroH none 0 0) 63)) (.cells (flC none 0 0 0) 36), (alloc_below w _).alloc (by simp) _⟩
/-- Behind the two stores. -/
structure RE (w : World) (r e : Int) (A : Option Addr) (n c : Nat) (W : World) : Prop where
  z : PkAt W w.heap.size 63 zeroH none 0 0
  y : W.heap[w.heap.size + 1]? = some (.cells (flC A n c e) 36 (0, 0))
  rd : Rd .i64 W W.heap.size A n c [r]
  below : Below w.heap.size w W
/-- What the walk knows. -/
structure R0 (w : World) (A : Option Addr) (n c : Nat) (xs : List Int) (W : World) : Prop where
  z : RZ w W
  rd : Rd .u8 W w.heap.size A n c xs
section
variable {w W V : World} {A : Option Addr} {n c : Nat} {xs : List Int}
theorem R0.sz (h : R0 w A n c xs W) : w.heap.size + 2 ≤ W.heap.size := blk_lt h.z.y
theorem R0.step (h : R0 w A n c xs W) (hb : Below W.heap.size W V) : R0 w A n c xs V := ⟨h.z.step hb, h.rd.below hb h.z.below.size⟩
theorem R0.low {B : Nat} (h : R0 w A n c xs W) (hB : w.heap.size + 2 ≤ B) (hb : Below B W V) : R0 w A n c xs V := ⟨⟨h.z.z.below hb (by omega), (hb.block _ (by omega)).trans h.z.y, h.z.below.trans (hb.mono (by omega))⟩, h.rd.below hb (by omega)⟩
theorem R0.start (hr : Rd .u8 w w.heap.size A n c xs) : R0 w A n c xs ((w.alloc (.cells (pkC zeroH none 0 0) 63)).alloc (.cells (flC none 0 0 0) 36)) := ⟨RZ.start w, hr.below (RZ.start w).below (Nat.le_refl _)⟩
end
/-- The bytes by which a packet is told, as the walk has them. -/
structure Fx (w : World) (b o n c : Nat) (xs : List Int) (v0 v2 v3 v6 v7 : Int) (H T : Nat) (f : Int) : Prop where
  e0 : xs.getD 0 0 = v0
  w0 : 0 ≤ v0 ∧ v0 ≤ 255
  w2 : 0 ≤ v2 ∧ v2 ≤ 255
  w3 : 0 ≤ v3 ∧ v3 ≤ 255
  w6 : 0 ≤ v6 ∧ v6 ≤ 255
  w7 : 0 ≤ v7 ∧ v7 ≤ 255
  hH : v0 % 16 * 4 = (H : Int)
  hT : v2 * 256 + v3 = (T : Int)
  hf : v6 * 256 + v7 = f
  eH : hdL xs = H
  eT : told xs = T
  ef : flg xs = f
  cells : ∀ W, Rd .u8 W w.heap.size (some ⟨b, o, none⟩) n c xs → W.cell? ⟨b, o, none⟩ = some (.int .u8 v0) ∧ W.cell? ⟨b, o + 2, none⟩ = some (.int .u8 v2) ∧ W.cell? ⟨b, o + 3, none⟩ = some (.int .u8 v3) ∧ W.cell? ⟨b, o + 6, none⟩ = some (.int .u8 v6) ∧ W.cell? ⟨b, o + 7, none⟩ = some (.int .u8 v7)
theorem fx_any {w : World} {b o n c : Nat} {xs : List Int} (hr : Rd .u8 w w.heap.size (some ⟨b, o, none⟩) n c xs) (hn : 20 ≤ n) : ∃ v0 v2 v3 v6 v7 H T f, Fx w b o n c xs v0 v2 v3 v6 v7 H T f := by
  have w0 := u8_bd (hr.wf (i := 0) (by omega))
  have w2 := u8_bd (hr.wf (i := 2) (by omega))
  have w3 := u8_bd (hr.wf (i := 3) (by omega))
  have w6 := u8_bd (hr.wf (i := 6) (by omega))
  have w7 := u8_bd (hr.wf (i := 7) (by omega))
  have d2 : (xs.drop 2).getD 0 0 = xs.getD 2 0 := getD_drop xs 2 0
  have d3 : (xs.drop 2).getD 1 0 = xs.getD 3 0 := getD_drop xs 2 1
  have d6 : (xs.drop 6).getD 0 0 = xs.getD 6 0 := getD_drop xs 6 0
  have d7 : (xs.drop 6).getD 1 0 = xs.getD 7 0 := getD_drop xs 6 1
  refine ⟨_, _, _, _, _, _, _, _, rfl, w0, w2, w3, w6, w7, hdL_int w0.1, ?_, ?_, rfl, rfl, rfl, fun W h => ⟨h.cellAt (i := 0) (by omega), h.cellAt (by omega), h.cellAt (by omega), h.cellAt (by omega), h.cellAt (by omega)⟩⟩
  · have := told_int (xs := xs) (by unfold num2; rw [d2, d3]; omega)
    unfold num2 at this
    rw [d2, d3] at this
    exact this
  · unfold flg num2
    rw [d6, d7]

set_option maxRecDepth 100000 in
set_option maxHeartbeats 4000000 in
theorem refP_short (b : Bool) (A : Option Addr) (n c : Nat) (xs : List Int) (w : World) (hr : Rd .u8 w w.heap.size A n c xs) (hn : n < 20) : Calls Tryd.prog 65 #[.slice A n c, .bool b] w (GivesN w 1 12) := by
  have st0 := R0.start hr
  have n1 : (n : Int) < 20 := by omega
  clear hr
  go_enter Tryd.func65, Tryd.ntmps65
  go_wp2_with fail
  refine (refNew_at 1 12 (by decide) (by decide) (by decide) _).mono ?_
  rintro ev w1 ⟨A1, n1, c1, rfl, rd1, new1, hb1⟩
  have hsz := st0.sz
  have st := st0.z.step hb1
  have far : Far (w.heap.size + 2) A1 := by
    rcases new1 with h | h | ⟨ad, h, h1, _⟩
    · exact .inl h
    · exact .inl h
    · exact .inr ⟨ad, h, Nat.le_trans hsz h1⟩
  have fin : ∀ (w2 : World), w2.heap[w.heap.size]? = some (.cells (pkC zeroH none 0 0) 63 (0, 0)) → Below w.heap.size w1 w2 → (∀ j, j ≠ w.heap.size → w2.heap[j]? = w1.heap[j]?) → w2.heap.size = w1.heap.size → RZ w w2 ∧ Rd .i64 w2 w2.heap.size A1 n1 c1 [1] := fun w2 h1 h2 h3 h4 =>
    ⟨⟨h1, (h3 _ (by omega)).trans st.y, st.below.trans h2⟩, by rw [h4]; exact rd1.other h3 (far.imp id fun ⟨ad, h, h'⟩ => ⟨ad, h, by omega⟩)⟩
  have fin2 : ∀ (w2 w3 : World), RZ w w2 → Rd .i64 w2 w2.heap.size A1 n1 c1 [1] → w3.heap[w.heap.size + 1]? = some (.cells (flC A1 n1 c1 12) 36 (0, 0)) → Below (w.heap.size + 1) w2 w3 → (∀ j, j ≠ w.heap.size + 1 → w3.heap[j]? = w2.heap[j]?) → w3.heap.size = w2.heap.size → RE w 1 12 A1 n1 c1 w3 := fun w2 w3 z2 r2 h1 h2 h3 h4 =>
    ⟨z2.z.below h2 (by omega), h1, by rw [h4]; exact r2.other h3 (far.imp id fun ⟨ad, h, h'⟩ => ⟨ad, h, by omega⟩), z2.below.trans (h2.mono (by omega))⟩
  have z1 := st.z
  replace far : Far w.heap.size A1 := far.less (by omega)
  clear hb1 new1 rd1
  go_wp2_with (first
    | (refine wpList_stF rfl rfl 63 _ _ rfl w.heap.size (pkC zeroH none 0 0) rfl rfl 63 _ z1 (by kernel_rfl) rfl (pkC_one ..) ?_; intro w2 f2 hb2 ho2 hs2; obtain ⟨z2, r2⟩ := fin w2 f2 hb2 ho2 hs2; clear fin f2 hb2 ho2 hs2; have y2 := z2.y)
    | (refine wpList_stF rfl rfl 36 _ _ rfl (w.heap.size + 1) (flC A1 n1 c1 12) rfl rfl 36 _ y2 (by kernel_rfl) rfl (flC_one _ _ _ _) ?_; intro w3 f3 hb3 ho3 hs3; have re := fin2 w2 w3 z2 r2 f3 hb3 ho3 hs3; clear fin2 f3 hb3 ho3 hs3 y2))
  obtain ⟨a0, a1, a2, a3, a4, a5, a6, a7⟩ := re.z.cells
  have b0 : w3.cell? ⟨w.heap.size + 1, 0, none⟩ = some (.slice A1 n1 c1) := blk_cell re.y rfl
  have b1 : w3.cell? ⟨w.heap.size + 1, 1, none⟩ = some (.int .i64 12) := blk_cell re.y rfl
  exact bodyPost_ret (v := .tuple #[zeroP, .agg #[.slice A1 n1 c1, .int .i64 12]]) (by simp [results, Tryd.results65, go_sem, b0, b1, a0, a1, a2, a3, a4, a5, a6, a7]) rfl ⟨re.below, A1, n1, c1, rfl, re.rd, far⟩

set_option maxRecDepth 100000 in
set_option maxHeartbeats 4000000 in
theorem refP_version (bl : Bool) (b o n c : Nat) (xs : List Int) (w : World) (v0 v2 v3 v6 v7 : Int) (H T : Nat) (f : Int) (hr : Rd .u8 w w.heap.size (some ⟨b, o, none⟩) n c xs) (hn : 20 ≤ n) (fx : Fx w b o n c xs v0 v2 v3 v6 v7 H T f) (h : ¬ xs.getD 0 0 / 16 = 4) : Calls Tryd.prog 65 #[.slice (some ⟨b, o, none⟩) n c, .bool bl] w (GivesN w 3 15) := by
  obtain ⟨e0, w0, w2, w3, w6, w7, hH, hT, hf, eH, eT, ef, cells⟩ := fx
  have st0 := R0.start hr
  obtain ⟨k0, k2, k3, k6, k7⟩ := cells _ st0.rd
  have hcap := hr.cap
  have hmax := hr.max
  have n1 : ¬ (n : Int) < 20 := by omega
  have i0 : 0 < n := by omega
  have i2 : (2 : Int) < (n : Int) := by omega
  have i3 : (3 : Int) < (n : Int) := by omega
  have i6 : (6 : Int) < (n : Int) := by omega
  have i7 : (7 : Int) < (n : Int) := by omega
  obtain ⟨D, hD⟩ : ∃ D, v0 / 16 = D := ⟨_, rfl⟩
  obtain ⟨R, hR⟩ : ∃ R, v0 % 16 = R := ⟨_, rfl⟩
  rw [hR] at hH
  have a1 : v0.tdiv 16 = D := by rw [Int.tdiv_eq_ediv_of_nonneg (by omega)]; exact hD
  have a2 : v0.tmod 16 = R := by rw [Int.tmod_eq_emod_of_nonneg (by omega)]; exact hR
  have u1 : IntKind.u8.wrap D = D := by rw [IntKind.wrap_u8]; omega
  have u2 : IntKind.u8.wrap R = R := by rw [IntKind.wrap_u8]; omega
  have u3 : IntKind.i64.wrap R = R := by rw [IntKind.wrap_i64]; omega
  have u4 : IntKind.i64.wrap (H : Int) = (H : Int) := by rw [IntKind.wrap_i64]; omega
  have u5 : IntKind.i64.wrap v2 = v2 := by rw [IntKind.wrap_i64]; omega
  have u6 : IntKind.i64.wrap v3 = v3 := by rw [IntKind.wrap_i64]; omega
  have u7 : IntKind.i64.wrap (v2 * 256) = v2 * 256 := by rw [IntKind.wrap_i64]; omega
  have u8 : IntKind.i64.wrap (T : Int) = (T : Int) := by rw [IntKind.wrap_i64]; omega
  have u9 : IntKind.i64.wrap v6 = v6 := by rw [IntKind.wrap_i64]; omega
  have u10 : IntKind.i64.wrap v7 = v7 := by rw [IntKind.wrap_i64]; omega
  have u11 : IntKind.i64.wrap (v6 * 256) = v6 * 256 := by rw [IntKind.wrap_i64]; omega
  have u12 : IntKind.i64.wrap f = f := by rw [IntKind.wrap_i64]; omega
  have hTb : T ≤ 65535 := by omega
  have hHb : H ≤ 60 := by omega
  have q1 : ¬ D = 4 := by rw [← hD, ← e0]; exact h
  have q2 : (D != 4) = true := by simpa using q1
  clear hr hn e0 w0 w2 w3 w6 w7 eH eT ef cells hD hR h
  go_enter Tryd.func65, Tryd.ntmps65
  go_wp2_with fail
  refine (refNew_at 3 15 (by decide) (by decide) (by decide) _).mono ?_
  rintro ev w1 ⟨A1, n1, c1, rfl, rd1, new1, hb1⟩
  have hsz := st0.sz
  have st := st0.z.step hb1
  have far : Far (w.heap.size + 2) A1 := by
    rcases new1 with h | h | ⟨ad, h, h1, _⟩
    · exact .inl h
    · exact .inl h
    · exact .inr ⟨ad, h, Nat.le_trans hsz h1⟩
  have fin : ∀ (w2 : World), w2.heap[w.heap.size]? = some (.cells (pkC zeroH none 0 0) 63 (0, 0)) → Below w.heap.size w1 w2 → (∀ j, j ≠ w.heap.size → w2.heap[j]? = w1.heap[j]?) → w2.heap.size = w1.heap.size → RZ w w2 ∧ Rd .i64 w2 w2.heap.size A1 n1 c1 [3] := fun w2 h1 h2 h3 h4 =>
    ⟨⟨h1, (h3 _ (by omega)).trans st.y, st.below.trans h2⟩, by rw [h4]; exact rd1.other h3 (far.imp id fun ⟨ad, h, h'⟩ => ⟨ad, h, by omega⟩)⟩
  have fin2 : ∀ (w2 w3 : World), RZ w w2 → Rd .i64 w2 w2.heap.size A1 n1 c1 [3] → w3.heap[w.heap.size + 1]? = some (.cells (flC A1 n1 c1 15) 36 (0, 0)) → Below (w.heap.size + 1) w2 w3 → (∀ j, j ≠ w.heap.size + 1 → w3.heap[j]? = w2.heap[j]?) → w3.heap.size = w2.heap.size → RE w 3 15 A1 n1 c1 w3 := fun w2 w3 z2 r2 h1 h2 h3 h4 =>
    ⟨z2.z.below h2 (by omega), h1, by rw [h4]; exact r2.other h3 (far.imp id fun ⟨ad, h, h'⟩ => ⟨ad, h, by omega⟩), z2.below.trans (h2.mono (by omega))⟩
  have z1 := st.z
  replace far : Far w.heap.size A1 := far.less (by omega)
  clear hb1 new1 rd1
  go_wp2_with (first
    | (refine wpList_stF rfl rfl 63 _ _ rfl w.heap.size (pkC zeroH none 0 0) rfl rfl 63 _ z1 (by kernel_rfl) rfl (pkC_one ..) ?_; intro w2 f2 hb2 ho2 hs2; obtain ⟨z2, r2⟩ := fin w2 f2 hb2 ho2 hs2; clear fin f2 hb2 ho2 hs2; have y2 := z2.y)
    | (refine wpList_stF rfl rfl 36 _ _ rfl (w.heap.size + 1) (flC A1 n1 c1 15) rfl rfl 36 _ y2 (by kernel_rfl) rfl (flC_one _ _ _ _) ?_; intro w3 f3 hb3 ho3 hs3; have re := fin2 w2 w3 z2 r2 f3 hb3 ho3 hs3; clear fin2 f3 hb3 ho3 hs3 y2))
  obtain ⟨a0, a1, a2, a3, a4, a5, a6, a7⟩ := re.z.cells
  have b0 : w3.cell? ⟨w.heap.size + 1, 0, none⟩ = some (.slice A1 n1 c1) := blk_cell re.y rfl
  have b1 : w3.cell? ⟨w.heap.size + 1, 1, none⟩ = some (.int .i64 15) := blk_cell re.y rfl
  exact bodyPost_ret (v := .tuple #[zeroP, .agg #[.slice A1 n1 c1, .int .i64 15]]) (by simp [results, Tryd.results65, go_sem, b0, b1, a0, a1, a2, a3, a4, a5, a6, a7]) rfl ⟨re.below, A1, n1, c1, rfl, re.rd, far⟩

set_option maxRecDepth 100000 in
set_option maxHeartbeats 4000000 in
theorem refP_form (bl : Bool) (b o n c : Nat) (xs : List Int) (w : World) (v0 v2 v3 v6 v7 : Int) (H T : Nat) (f : Int) (hr : Rd .u8 w w.heap.size (some ⟨b, o, none⟩) n c xs) (hn : 20 ≤ n) (fx : Fx w b o n c xs v0 v2 v3 v6 v7 H T f) (h4 : xs.getD 0 0 / 16 = 4) (h : hdL xs < 20) : Calls Tryd.prog 65 #[.slice (some ⟨b, o, none⟩) n c, .bool bl] w (GivesN w 1 10) := by
  obtain ⟨e0, w0, w2, w3, w6, w7, hH, hT, hf, eH, eT, ef, cells⟩ := fx
  have st0 := R0.start hr
  obtain ⟨k0, k2, k3, k6, k7⟩ := cells _ st0.rd
  have hcap := hr.cap
  have hmax := hr.max
  have n1 : ¬ (n : Int) < 20 := by omega
  have i0 : 0 < n := by omega
  have i2 : (2 : Int) < (n : Int) := by omega
  have i3 : (3 : Int) < (n : Int) := by omega
  have i6 : (6 : Int) < (n : Int) := by omega
  have i7 : (7 : Int) < (n : Int) := by omega
  obtain ⟨D, hD⟩ : ∃ D, v0 / 16 = D := ⟨_, rfl⟩
  obtain ⟨R, hR⟩ : ∃ R, v0 % 16 = R := ⟨_, rfl⟩
  rw [hR] at hH
  have a1 : v0.tdiv 16 = D := by rw [Int.tdiv_eq_ediv_of_nonneg (by omega)]; exact hD
  have a2 : v0.tmod 16 = R := by rw [Int.tmod_eq_emod_of_nonneg (by omega)]; exact hR
  have u1 : IntKind.u8.wrap D = D := by rw [IntKind.wrap_u8]; omega
  have u2 : IntKind.u8.wrap R = R := by rw [IntKind.wrap_u8]; omega
  have u3 : IntKind.i64.wrap R = R := by rw [IntKind.wrap_i64]; omega
  have u4 : IntKind.i64.wrap (H : Int) = (H : Int) := by rw [IntKind.wrap_i64]; omega
  have u5 : IntKind.i64.wrap v2 = v2 := by rw [IntKind.wrap_i64]; omega
  have u6 : IntKind.i64.wrap v3 = v3 := by rw [IntKind.wrap_i64]; omega
  have u7 : IntKind.i64.wrap (v2 * 256) = v2 * 256 := by rw [IntKind.wrap_i64]; omega
  have u8 : IntKind.i64.wrap (T : Int) = (T : Int) := by rw [IntKind.wrap_i64]; omega
  have u9 : IntKind.i64.wrap v6 = v6 := by rw [IntKind.wrap_i64]; omega
  have u10 : IntKind.i64.wrap v7 = v7 := by rw [IntKind.wrap_i64]; omega
  have u11 : IntKind.i64.wrap (v6 * 256) = v6 * 256 := by rw [IntKind.wrap_i64]; omega
  have u12 : IntKind.i64.wrap f = f := by rw [IntKind.wrap_i64]; omega
  have hTb : T ≤ 65535 := by omega
  have hHb : H ≤ 60 := by omega
  obtain rfl : D = 4 := by rw [← hD, ← e0]; exact h4
  have q1 : (H : Int) < 20 := by omega
  clear hr hn e0 w0 w2 w3 w6 w7 eH eT ef cells hD hR h4 h
  go_enter Tryd.func65, Tryd.ntmps65
  go_wp2_with fail
  refine (refNew_at 1 10 (by decide) (by decide) (by decide) _).mono ?_
  rintro ev w1 ⟨A1, n1, c1, rfl, rd1, new1, hb1⟩
  have hsz := st0.sz
  have st := st0.z.step hb1
  have far : Far (w.heap.size + 2) A1 := by
    rcases new1 with h | h | ⟨ad, h, h1, _⟩
    · exact .inl h
    · exact .inl h
    · exact .inr ⟨ad, h, Nat.le_trans hsz h1⟩
  have fin : ∀ (w2 : World), w2.heap[w.heap.size]? = some (.cells (pkC zeroH none 0 0) 63 (0, 0)) → Below w.heap.size w1 w2 → (∀ j, j ≠ w.heap.size → w2.heap[j]? = w1.heap[j]?) → w2.heap.size = w1.heap.size → RZ w w2 ∧ Rd .i64 w2 w2.heap.size A1 n1 c1 [1] := fun w2 h1 h2 h3 h4 =>
    ⟨⟨h1, (h3 _ (by omega)).trans st.y, st.below.trans h2⟩, by rw [h4]; exact rd1.other h3 (far.imp id fun ⟨ad, h, h'⟩ => ⟨ad, h, by omega⟩)⟩
  have fin2 : ∀ (w2 w3 : World), RZ w w2 → Rd .i64 w2 w2.heap.size A1 n1 c1 [1] → w3.heap[w.heap.size + 1]? = some (.cells (flC A1 n1 c1 10) 36 (0, 0)) → Below (w.heap.size + 1) w2 w3 → (∀ j, j ≠ w.heap.size + 1 → w3.heap[j]? = w2.heap[j]?) → w3.heap.size = w2.heap.size → RE w 1 10 A1 n1 c1 w3 := fun w2 w3 z2 r2 h1 h2 h3 h4 =>
    ⟨z2.z.below h2 (by omega), h1, by rw [h4]; exact r2.other h3 (far.imp id fun ⟨ad, h, h'⟩ => ⟨ad, h, by omega⟩), z2.below.trans (h2.mono (by omega))⟩
  have z1 := st.z
  replace far : Far w.heap.size A1 := far.less (by omega)
  clear hb1 new1 rd1
  go_wp2_with (first
    | (refine wpList_stF rfl rfl 63 _ _ rfl w.heap.size (pkC zeroH none 0 0) rfl rfl 63 _ z1 (by kernel_rfl) rfl (pkC_one ..) ?_; intro w2 f2 hb2 ho2 hs2; obtain ⟨z2, r2⟩ := fin w2 f2 hb2 ho2 hs2; clear fin f2 hb2 ho2 hs2; have y2 := z2.y)
    | (refine wpList_stF rfl rfl 36 _ _ rfl (w.heap.size + 1) (flC A1 n1 c1 10) rfl rfl 36 _ y2 (by kernel_rfl) rfl (flC_one _ _ _ _) ?_; intro w3 f3 hb3 ho3 hs3; have re := fin2 w2 w3 z2 r2 f3 hb3 ho3 hs3; clear fin2 f3 hb3 ho3 hs3 y2))
  obtain ⟨a0, a1, a2, a3, a4, a5, a6, a7⟩ := re.z.cells
  have b0 : w3.cell? ⟨w.heap.size + 1, 0, none⟩ = some (.slice A1 n1 c1) := blk_cell re.y rfl
  have b1 : w3.cell? ⟨w.heap.size + 1, 1, none⟩ = some (.int .i64 10) := blk_cell re.y rfl
  exact bodyPost_ret (v := .tuple #[zeroP, .agg #[.slice A1 n1 c1, .int .i64 10]]) (by simp [results, Tryd.results65, go_sem, b0, b1, a0, a1, a2, a3, a4, a5, a6, a7]) rfl ⟨re.below, A1, n1, c1, rfl, re.rd, far⟩

set_option maxRecDepth 100000 in
set_option maxHeartbeats 4000000 in
theorem refP_endh (bl : Bool) (b o n c : Nat) (xs : List Int) (w : World) (v0 v2 v3 v6 v7 : Int) (H T : Nat) (f : Int) (hr : Rd .u8 w w.heap.size (some ⟨b, o, none⟩) n c xs) (hn : 20 ≤ n) (fx : Fx w b o n c xs v0 v2 v3 v6 v7 H T f) (h4 : xs.getD 0 0 / 16 = 4) (hh : 20 ≤ hdL xs) (h : n < hdL xs) : Calls Tryd.prog 65 #[.slice (some ⟨b, o, none⟩) n c, .bool bl] w (GivesN w 1 12) := by
  obtain ⟨e0, w0, w2, w3, w6, w7, hH, hT, hf, eH, eT, ef, cells⟩ := fx
  have st0 := R0.start hr
  obtain ⟨k0, k2, k3, k6, k7⟩ := cells _ st0.rd
  have hcap := hr.cap
  have hmax := hr.max
  have n1 : ¬ (n : Int) < 20 := by omega
  have i0 : 0 < n := by omega
  have i2 : (2 : Int) < (n : Int) := by omega
  have i3 : (3 : Int) < (n : Int) := by omega
  have i6 : (6 : Int) < (n : Int) := by omega
  have i7 : (7 : Int) < (n : Int) := by omega
  obtain ⟨D, hD⟩ : ∃ D, v0 / 16 = D := ⟨_, rfl⟩
  obtain ⟨R, hR⟩ : ∃ R, v0 % 16 = R := ⟨_, rfl⟩
  rw [hR] at hH
  have a1 : v0.tdiv 16 = D := by rw [Int.tdiv_eq_ediv_of_nonneg (by omega)]; exact hD
  have a2 : v0.tmod 16 = R := by rw [Int.tmod_eq_emod_of_nonneg (by omega)]; exact hR
  have u1 : IntKind.u8.wrap D = D := by rw [IntKind.wrap_u8]; omega
  have u2 : IntKind.u8.wrap R = R := by rw [IntKind.wrap_u8]; omega
  have u3 : IntKind.i64.wrap R = R := by rw [IntKind.wrap_i64]; omega
  have u4 : IntKind.i64.wrap (H : Int) = (H : Int) := by rw [IntKind.wrap_i64]; omega
  have u5 : IntKind.i64.wrap v2 = v2 := by rw [IntKind.wrap_i64]; omega
  have u6 : IntKind.i64.wrap v3 = v3 := by rw [IntKind.wrap_i64]; omega
  have u7 : IntKind.i64.wrap (v2 * 256) = v2 * 256 := by rw [IntKind.wrap_i64]; omega
  have u8 : IntKind.i64.wrap (T : Int) = (T : Int) := by rw [IntKind.wrap_i64]; omega
  have u9 : IntKind.i64.wrap v6 = v6 := by rw [IntKind.wrap_i64]; omega
  have u10 : IntKind.i64.wrap v7 = v7 := by rw [IntKind.wrap_i64]; omega
  have u11 : IntKind.i64.wrap (v6 * 256) = v6 * 256 := by rw [IntKind.wrap_i64]; omega
  have u12 : IntKind.i64.wrap f = f := by rw [IntKind.wrap_i64]; omega
  have hTb : T ≤ 65535 := by omega
  have hHb : H ≤ 60 := by omega
  obtain rfl : D = 4 := by rw [← hD, ← e0]; exact h4
  have q1 : ¬ (H : Int) < 20 := by omega
  have q2 : (n : Int) < (H : Int) := by omega
  clear hr hn e0 w0 w2 w3 w6 w7 eH eT ef cells hD hR h4 hh h
  go_enter Tryd.func65, Tryd.ntmps65
  go_wp2_with fail
  go_quiet (fail)
  go_wp2_with fail
  refine (refNew_at 1 12 (by decide) (by decide) (by decide) _).mono ?_
  rintro ev w1 ⟨A1, n1, c1, rfl, rd1, new1, hb1⟩
  have hsz := st0.sz
  have st := (st0.step (Still.drewN _ _).below).z.step hb1
  have far : Far (w.heap.size + 2) A1 := by
    rcases new1 with h | h | ⟨ad, h, h1, _⟩
    · exact .inl h
    · exact .inl h
    · exact .inr ⟨ad, h, Nat.le_trans hsz h1⟩
  have fin : ∀ (w2 : World), w2.heap[w.heap.size]? = some (.cells (pkC zeroH none 0 0) 63 (0, 0)) → Below w.heap.size w1 w2 → (∀ j, j ≠ w.heap.size → w2.heap[j]? = w1.heap[j]?) → w2.heap.size = w1.heap.size → RZ w w2 ∧ Rd .i64 w2 w2.heap.size A1 n1 c1 [1] := fun w2 h1 h2 h3 h4 =>
    ⟨⟨h1, (h3 _ (by omega)).trans st.y, st.below.trans h2⟩, by rw [h4]; exact rd1.other h3 (far.imp id fun ⟨ad, h, h'⟩ => ⟨ad, h, by omega⟩)⟩
  have fin2 : ∀ (w2 w3 : World), RZ w w2 → Rd .i64 w2 w2.heap.size A1 n1 c1 [1] → w3.heap[w.heap.size + 1]? = some (.cells (flC A1 n1 c1 12) 36 (0, 0)) → Below (w.heap.size + 1) w2 w3 → (∀ j, j ≠ w.heap.size + 1 → w3.heap[j]? = w2.heap[j]?) → w3.heap.size = w2.heap.size → RE w 1 12 A1 n1 c1 w3 := fun w2 w3 z2 r2 h1 h2 h3 h4 =>
    ⟨z2.z.below h2 (by omega), h1, by rw [h4]; exact r2.other h3 (far.imp id fun ⟨ad, h, h'⟩ => ⟨ad, h, by omega⟩), z2.below.trans (h2.mono (by omega))⟩
  have z1 := st.z
  replace far : Far w.heap.size A1 := far.less (by omega)
  clear hb1 new1 rd1
  go_wp2_with (first
    | (refine wpList_stF rfl rfl 63 _ _ rfl w.heap.size (pkC zeroH none 0 0) rfl rfl 63 _ z1 (by kernel_rfl) rfl (pkC_one ..) ?_; intro w2 f2 hb2 ho2 hs2; obtain ⟨z2, r2⟩ := fin w2 f2 hb2 ho2 hs2; clear fin f2 hb2 ho2 hs2; have y2 := z2.y)
    | (refine wpList_stF rfl rfl 36 _ _ rfl (w.heap.size + 1) (flC A1 n1 c1 12) rfl rfl 36 _ y2 (by kernel_rfl) rfl (flC_one _ _ _ _) ?_; intro w3 f3 hb3 ho3 hs3; have re := fin2 w2 w3 z2 r2 f3 hb3 ho3 hs3; clear fin2 f3 hb3 ho3 hs3 y2))
  obtain ⟨a0, a1, a2, a3, a4, a5, a6, a7⟩ := re.z.cells
  have b0 : w3.cell? ⟨w.heap.size + 1, 0, none⟩ = some (.slice A1 n1 c1) := blk_cell re.y rfl
  have b1 : w3.cell? ⟨w.heap.size + 1, 1, none⟩ = some (.int .i64 12) := blk_cell re.y rfl
  exact bodyPost_ret (v := .tuple #[zeroP, .agg #[.slice A1 n1 c1, .int .i64 12]]) (by simp [results, Tryd.results65, go_sem, b0, b1, a0, a1, a2, a3, a4, a5, a6, a7]) rfl ⟨re.below, A1, n1, c1, rfl, re.rd, far⟩

set_option maxRecDepth 100000 in
set_option maxHeartbeats 4000000 in
theorem refP_lessF (b o n c : Nat) (xs : List Int) (w : World) (v0 v2 v3 v6 v7 : Int) (H T : Nat) (f : Int) (hr : Rd .u8 w w.heap.size (some ⟨b, o, none⟩) n c xs) (hn : 20 ≤ n) (fx : Fx w b o n c xs v0 v2 v3 v6 v7 H T f) (h4 : xs.getD 0 0 / 16 = 4) (hh : 20 ≤ hdL xs) (hq : hdL xs ≤ n) (h : told xs < hdL xs) : Calls Tryd.prog 65 #[.slice (some ⟨b, o, none⟩) n c, .bool false] w (GivesN w 1 10) := by
  obtain ⟨e0, w0, w2, w3, w6, w7, hH, hT, hf, eH, eT, ef, cells⟩ := fx
  have st0 := R0.start hr
  obtain ⟨k0, k2, k3, k6, k7⟩ := cells _ st0.rd
  have hcap := hr.cap
  have hmax := hr.max
  have n1 : ¬ (n : Int) < 20 := by omega
  have i0 : 0 < n := by omega
  have i2 : (2 : Int) < (n : Int) := by omega
  have i3 : (3 : Int) < (n : Int) := by omega
  have i6 : (6 : Int) < (n : Int) := by omega
  have i7 : (7 : Int) < (n : Int) := by omega
  obtain ⟨D, hD⟩ : ∃ D, v0 / 16 = D := ⟨_, rfl⟩
  obtain ⟨R, hR⟩ : ∃ R, v0 % 16 = R := ⟨_, rfl⟩
  rw [hR] at hH
  have a1 : v0.tdiv 16 = D := by rw [Int.tdiv_eq_ediv_of_nonneg (by omega)]; exact hD
  have a2 : v0.tmod 16 = R := by rw [Int.tmod_eq_emod_of_nonneg (by omega)]; exact hR
  have u1 : IntKind.u8.wrap D = D := by rw [IntKind.wrap_u8]; omega
  have u2 : IntKind.u8.wrap R = R := by rw [IntKind.wrap_u8]; omega
  have u3 : IntKind.i64.wrap R = R := by rw [IntKind.wrap_i64]; omega
  have u4 : IntKind.i64.wrap (H : Int) = (H : Int) := by rw [IntKind.wrap_i64]; omega
  have u5 : IntKind.i64.wrap v2 = v2 := by rw [IntKind.wrap_i64]; omega
  have u6 : IntKind.i64.wrap v3 = v3 := by rw [IntKind.wrap_i64]; omega
  have u7 : IntKind.i64.wrap (v2 * 256) = v2 * 256 := by rw [IntKind.wrap_i64]; omega
  have u8 : IntKind.i64.wrap (T : Int) = (T : Int) := by rw [IntKind.wrap_i64]; omega
  have u9 : IntKind.i64.wrap v6 = v6 := by rw [IntKind.wrap_i64]; omega
  have u10 : IntKind.i64.wrap v7 = v7 := by rw [IntKind.wrap_i64]; omega
  have u11 : IntKind.i64.wrap (v6 * 256) = v6 * 256 := by rw [IntKind.wrap_i64]; omega
  have u12 : IntKind.i64.wrap f = f := by rw [IntKind.wrap_i64]; omega
  have hTb : T ≤ 65535 := by omega
  have hHb : H ≤ 60 := by omega
  obtain rfl : D = 4 := by rw [← hD, ← e0]; exact h4
  have q1 : ¬ (H : Int) < 20 := by omega
  have q2 : ¬ (n : Int) < (H : Int) := by omega
  have q4 : (T : Int) < (H : Int) := by omega
  clear hr hn e0 w0 w2 w3 w6 w7 eH eT ef cells hD hR h4 hh hq h
  go_enter Tryd.func65, Tryd.ntmps65
  go_wp2_with fail
  go_quiet (fail)
  go_wp2_with fail
  refine (refNew_at 1 10 (by decide) (by decide) (by decide) _).mono ?_
  rintro ev w1 ⟨A1, n1, c1, rfl, rd1, new1, hb1⟩
  have hsz := st0.sz
  have st := (st0.step (Still.drewN _ _).below).z.step hb1
  have far : Far (w.heap.size + 2) A1 := by
    rcases new1 with h | h | ⟨ad, h, h1, _⟩
    · exact .inl h
    · exact .inl h
    · exact .inr ⟨ad, h, Nat.le_trans hsz h1⟩
  have fin : ∀ (w2 : World), w2.heap[w.heap.size]? = some (.cells (pkC zeroH none 0 0) 63 (0, 0)) → Below w.heap.size w1 w2 → (∀ j, j ≠ w.heap.size → w2.heap[j]? = w1.heap[j]?) → w2.heap.size = w1.heap.size → RZ w w2 ∧ Rd .i64 w2 w2.heap.size A1 n1 c1 [1] := fun w2 h1 h2 h3 h4 =>
    ⟨⟨h1, (h3 _ (by omega)).trans st.y, st.below.trans h2⟩, by rw [h4]; exact rd1.other h3 (far.imp id fun ⟨ad, h, h'⟩ => ⟨ad, h, by omega⟩)⟩
  have fin2 : ∀ (w2 w3 : World), RZ w w2 → Rd .i64 w2 w2.heap.size A1 n1 c1 [1] → w3.heap[w.heap.size + 1]? = some (.cells (flC A1 n1 c1 10) 36 (0, 0)) → Below (w.heap.size + 1) w2 w3 → (∀ j, j ≠ w.heap.size + 1 → w3.heap[j]? = w2.heap[j]?) → w3.heap.size = w2.heap.size → RE w 1 10 A1 n1 c1 w3 := fun w2 w3 z2 r2 h1 h2 h3 h4 =>
    ⟨z2.z.below h2 (by omega), h1, by rw [h4]; exact r2.other h3 (far.imp id fun ⟨ad, h, h'⟩ => ⟨ad, h, by omega⟩), z2.below.trans (h2.mono (by omega))⟩
  have z1 := st.z
  replace far : Far w.heap.size A1 := far.less (by omega)
  clear hb1 new1 rd1
  go_wp2_with (first
    | (refine wpList_stF rfl rfl 63 _ _ rfl w.heap.size (pkC zeroH none 0 0) rfl rfl 63 _ z1 (by kernel_rfl) rfl (pkC_one ..) ?_; intro w2 f2 hb2 ho2 hs2; obtain ⟨z2, r2⟩ := fin w2 f2 hb2 ho2 hs2; clear fin f2 hb2 ho2 hs2; have y2 := z2.y)
    | (refine wpList_stF rfl rfl 36 _ _ rfl (w.heap.size + 1) (flC A1 n1 c1 10) rfl rfl 36 _ y2 (by kernel_rfl) rfl (flC_one _ _ _ _) ?_; intro w3 f3 hb3 ho3 hs3; have re := fin2 w2 w3 z2 r2 f3 hb3 ho3 hs3; clear fin2 f3 hb3 ho3 hs3 y2))
  obtain ⟨a0, a1, a2, a3, a4, a5, a6, a7⟩ := re.z.cells
  have b0 : w3.cell? ⟨w.heap.size + 1, 0, none⟩ = some (.slice A1 n1 c1) := blk_cell re.y rfl
  have b1 : w3.cell? ⟨w.heap.size + 1, 1, none⟩ = some (.int .i64 10) := blk_cell re.y rfl
  exact bodyPost_ret (v := .tuple #[zeroP, .agg #[.slice A1 n1 c1, .int .i64 10]]) (by simp [results, Tryd.results65, go_sem, b0, b1, a0, a1, a2, a3, a4, a5, a6, a7]) rfl ⟨re.below, A1, n1, c1, rfl, re.rd, far⟩

set_option maxRecDepth 100000 in
set_option maxHeartbeats 4000000 in
theorem refP_optF (b o n c : Nat) (xs : List Int) (w : World) (v0 v2 v3 v6 v7 : Int) (H T : Nat) (f : Int) (hr : Rd .u8 w w.heap.size (some ⟨b, o, none⟩) n c xs) (hn : 20 ≤ n) (fx : Fx w b o n c xs v0 v2 v3 v6 v7 H T f) (h4 : xs.getD 0 0 / 16 = 4) (hh : 20 ≤ hdL xs) (hq : hdL xs ≤ n) (hl : hdL xs ≤ told xs) (h : 20 < hdL xs) : Calls Tryd.prog 65 #[.slice (some ⟨b, o, none⟩) n c, .bool false] w (GivesN w 4 21) := by
  obtain ⟨e0, w0, w2, w3, w6, w7, hH, hT, hf, eH, eT, ef, cells⟩ := fx
  have st0 := R0.start hr
  obtain ⟨k0, k2, k3, k6, k7⟩ := cells _ st0.rd
  have hcap := hr.cap
  have hmax := hr.max
  have n1 : ¬ (n : Int) < 20 := by omega
  have i0 : 0 < n := by omega
  have i2 : (2 : Int) < (n : Int) := by omega
  have i3 : (3 : Int) < (n : Int) := by omega
  have i6 : (6 : Int) < (n : Int) := by omega
  have i7 : (7 : Int) < (n : Int) := by omega
  obtain ⟨D, hD⟩ : ∃ D, v0 / 16 = D := ⟨_, rfl⟩
  obtain ⟨R, hR⟩ : ∃ R, v0 % 16 = R := ⟨_, rfl⟩
  rw [hR] at hH
  have a1 : v0.tdiv 16 = D := by rw [Int.tdiv_eq_ediv_of_nonneg (by omega)]; exact hD
  have a2 : v0.tmod 16 = R := by rw [Int.tmod_eq_emod_of_nonneg (by omega)]; exact hR
  have u1 : IntKind.u8.wrap D = D := by rw [IntKind.wrap_u8]; omega
  have u2 : IntKind.u8.wrap R = R := by rw [IntKind.wrap_u8]; omega
  have u3 : IntKind.i64.wrap R = R := by rw [IntKind.wrap_i64]; omega
  have u4 : IntKind.i64.wrap (H : Int) = (H : Int) := by rw [IntKind.wrap_i64]; omega
  have u5 : IntKind.i64.wrap v2 = v2 := by rw [IntKind.wrap_i64]; omega
  have u6 : IntKind.i64.wrap v3 = v3 := by rw [IntKind.wrap_i64]; omega
  have u7 : IntKind.i64.wrap (v2 * 256) = v2 * 256 := by rw [IntKind.wrap_i64]; omega
  have u8 : IntKind.i64.wrap (T : Int) = (T : Int) := by rw [IntKind.wrap_i64]; omega
  have u9 : IntKind.i64.wrap v6 = v6 := by rw [IntKind.wrap_i64]; omega
  have u10 : IntKind.i64.wrap v7 = v7 := by rw [IntKind.wrap_i64]; omega
  have u11 : IntKind.i64.wrap (v6 * 256) = v6 * 256 := by rw [IntKind.wrap_i64]; omega
  have u12 : IntKind.i64.wrap f = f := by rw [IntKind.wrap_i64]; omega
  have hTb : T ≤ 65535 := by omega
  have hHb : H ≤ 60 := by omega
  obtain rfl : D = 4 := by rw [← hD, ← e0]; exact h4
  have q1 : ¬ (H : Int) < 20 := by omega
  have q2 : ¬ (n : Int) < (H : Int) := by omega
  have q4 : ¬ (T : Int) < (H : Int) := by omega
  have q7 : (20 : Int) < (H : Int) := by omega
  clear hr hn e0 w0 w2 w3 w6 w7 eH eT ef cells hD hR h4 hh hq hl h
  go_enter Tryd.func65, Tryd.ntmps65
  go_wp2_with fail
  go_quiet (fail)
  go_wp2_with fail
  refine (refNew_at 4 21 (by decide) (by decide) (by decide) _).mono ?_
  rintro ev w1 ⟨A1, n1, c1, rfl, rd1, new1, hb1⟩
  have hsz := st0.sz
  have st := (st0.step (Still.drewN _ _).below).z.step hb1
  have far : Far (w.heap.size + 2) A1 := by
    rcases new1 with h | h | ⟨ad, h, h1, _⟩
    · exact .inl h
    · exact .inl h
    · exact .inr ⟨ad, h, Nat.le_trans hsz h1⟩
  have fin : ∀ (w2 : World), w2.heap[w.heap.size]? = some (.cells (pkC zeroH none 0 0) 63 (0, 0)) → Below w.heap.size w1 w2 → (∀ j, j ≠ w.heap.size → w2.heap[j]? = w1.heap[j]?) → w2.heap.size = w1.heap.size → RZ w w2 ∧ Rd .i64 w2 w2.heap.size A1 n1 c1 [4] := fun w2 h1 h2 h3 h4 =>
    ⟨⟨h1, (h3 _ (by omega)).trans st.y, st.below.trans h2⟩, by rw [h4]; exact rd1.other h3 (far.imp id fun ⟨ad, h, h'⟩ => ⟨ad, h, by omega⟩)⟩
  have fin2 : ∀ (w2 w3 : World), RZ w w2 → Rd .i64 w2 w2.heap.size A1 n1 c1 [4] → w3.heap[w.heap.size + 1]? = some (.cells (flC A1 n1 c1 21) 36 (0, 0)) → Below (w.heap.size + 1) w2 w3 → (∀ j, j ≠ w.heap.size + 1 → w3.heap[j]? = w2.heap[j]?) → w3.heap.size = w2.heap.size → RE w 4 21 A1 n1 c1 w3 := fun w2 w3 z2 r2 h1 h2 h3 h4 =>
    ⟨z2.z.below h2 (by omega), h1, by rw [h4]; exact r2.other h3 (far.imp id fun ⟨ad, h, h'⟩ => ⟨ad, h, by omega⟩), z2.below.trans (h2.mono (by omega))⟩
  have z1 := st.z
  replace far : Far w.heap.size A1 := far.less (by omega)
  clear hb1 new1 rd1
  go_wp2_with (first
    | (refine wpList_stF rfl rfl 63 _ _ rfl w.heap.size (pkC zeroH none 0 0) rfl rfl 63 _ z1 (by kernel_rfl) rfl (pkC_one ..) ?_; intro w2 f2 hb2 ho2 hs2; obtain ⟨z2, r2⟩ := fin w2 f2 hb2 ho2 hs2; clear fin f2 hb2 ho2 hs2; have y2 := z2.y)
    | (refine wpList_stF rfl rfl 36 _ _ rfl (w.heap.size + 1) (flC A1 n1 c1 21) rfl rfl 36 _ y2 (by kernel_rfl) rfl (flC_one _ _ _ _) ?_; intro w3 f3 hb3 ho3 hs3; have re := fin2 w2 w3 z2 r2 f3 hb3 ho3 hs3; clear fin2 f3 hb3 ho3 hs3 y2))
  obtain ⟨a0, a1, a2, a3, a4, a5, a6, a7⟩ := re.z.cells
  have b0 : w3.cell? ⟨w.heap.size + 1, 0, none⟩ = some (.slice A1 n1 c1) := blk_cell re.y rfl
  have b1 : w3.cell? ⟨w.heap.size + 1, 1, none⟩ = some (.int .i64 21) := blk_cell re.y rfl
  exact bodyPost_ret (v := .tuple #[zeroP, .agg #[.slice A1 n1 c1, .int .i64 21]]) (by simp [results, Tryd.results65, go_sem, b0, b1, a0, a1, a2, a3, a4, a5, a6, a7]) rfl ⟨re.below, A1, n1, c1, rfl, re.rd, far⟩

set_option maxRecDepth 100000 in
set_option maxHeartbeats 4000000 in
theorem refP_fragF (b o n c : Nat) (xs : List Int) (w : World) (v0 v2 v3 v6 v7 : Int) (H T : Nat) (f : Int) (hr : Rd .u8 w w.heap.size (some ⟨b, o, none⟩) n c xs) (hn : 20 ≤ n) (fx : Fx w b o n c xs v0 v2 v3 v6 v7 H T f) (h4 : xs.getD 0 0 / 16 = 4) (hh : 20 ≤ hdL xs) (hq : hdL xs ≤ n) (hl : hdL xs ≤ told xs) (h20 : hdL xs = 20) (h : ¬ (flg xs = 0 ∨ flg xs = 16384)) : Calls Tryd.prog 65 #[.slice (some ⟨b, o, none⟩) n c, .bool false] w (GivesN w 5 20) := by
  obtain ⟨e0, w0, w2, w3, w6, w7, hH, hT, hf, eH, eT, ef, cells⟩ := fx
  have st0 := R0.start hr
  obtain ⟨k0, k2, k3, k6, k7⟩ := cells _ st0.rd
  have hcap := hr.cap
  have hmax := hr.max
  have n1 : ¬ (n : Int) < 20 := by omega
  have i0 : 0 < n := by omega
  have i2 : (2 : Int) < (n : Int) := by omega
  have i3 : (3 : Int) < (n : Int) := by omega
  have i6 : (6 : Int) < (n : Int) := by omega
  have i7 : (7 : Int) < (n : Int) := by omega
  obtain ⟨D, hD⟩ : ∃ D, v0 / 16 = D := ⟨_, rfl⟩
  obtain ⟨R, hR⟩ : ∃ R, v0 % 16 = R := ⟨_, rfl⟩
  rw [hR] at hH
  have a1 : v0.tdiv 16 = D := by rw [Int.tdiv_eq_ediv_of_nonneg (by omega)]; exact hD
  have a2 : v0.tmod 16 = R := by rw [Int.tmod_eq_emod_of_nonneg (by omega)]; exact hR
  have u1 : IntKind.u8.wrap D = D := by rw [IntKind.wrap_u8]; omega
  have u2 : IntKind.u8.wrap R = R := by rw [IntKind.wrap_u8]; omega
  have u3 : IntKind.i64.wrap R = R := by rw [IntKind.wrap_i64]; omega
  have u4 : IntKind.i64.wrap (H : Int) = (H : Int) := by rw [IntKind.wrap_i64]; omega
  have u5 : IntKind.i64.wrap v2 = v2 := by rw [IntKind.wrap_i64]; omega
  have u6 : IntKind.i64.wrap v3 = v3 := by rw [IntKind.wrap_i64]; omega
  have u7 : IntKind.i64.wrap (v2 * 256) = v2 * 256 := by rw [IntKind.wrap_i64]; omega
  have u8 : IntKind.i64.wrap (T : Int) = (T : Int) := by rw [IntKind.wrap_i64]; omega
  have u9 : IntKind.i64.wrap v6 = v6 := by rw [IntKind.wrap_i64]; omega
  have u10 : IntKind.i64.wrap v7 = v7 := by rw [IntKind.wrap_i64]; omega
  have u11 : IntKind.i64.wrap (v6 * 256) = v6 * 256 := by rw [IntKind.wrap_i64]; omega
  have u12 : IntKind.i64.wrap f = f := by rw [IntKind.wrap_i64]; omega
  have hTb : T ≤ 65535 := by omega
  have hHb : H ≤ 60 := by omega
  obtain rfl : D = 4 := by rw [← hD, ← e0]; exact h4
  have q1 : ¬ (H : Int) < 20 := by omega
  have q2 : ¬ (n : Int) < (H : Int) := by omega
  have q4 : ¬ (T : Int) < (H : Int) := by omega
  obtain rfl : H = 20 := by omega
  have q7 : ¬ f = 0 ∧ ¬ f = 16384 := by rw [← ef]; exact ⟨fun q => h (.inl q), fun q => h (.inr q)⟩
  have q8 : (f != 0) = true := by simpa using q7.1
  have q9 : (f != 16384) = true := by simpa using q7.2
  clear hr hn e0 w0 w2 w3 w6 w7 eH eT ef cells hD hR h4 hh hq hl h20 h q7
  go_enter Tryd.func65, Tryd.ntmps65
  go_wp2_with fail
  go_quiet (fail)
  go_wp2_with fail
  go_quiet (fail)
  go_wp2_with fail
  refine (refNew_at 5 20 (by decide) (by decide) (by decide) _).mono ?_
  rintro ev w1 ⟨A1, n1, c1, rfl, rd1, new1, hb1⟩
  have hsz := st0.sz
  have st := (st0.step (Still.drewN _ _).below).z.step hb1
  have far : Far (w.heap.size + 2) A1 := by
    rcases new1 with h | h | ⟨ad, h, h1, _⟩
    · exact .inl h
    · exact .inl h
    · exact .inr ⟨ad, h, Nat.le_trans hsz h1⟩
  have fin : ∀ (w2 : World), w2.heap[w.heap.size]? = some (.cells (pkC zeroH none 0 0) 63 (0, 0)) → Below w.heap.size w1 w2 → (∀ j, j ≠ w.heap.size → w2.heap[j]? = w1.heap[j]?) → w2.heap.size = w1.heap.size → RZ w w2 ∧ Rd .i64 w2 w2.heap.size A1 n1 c1 [5] := fun w2 h1 h2 h3 h4 =>
    ⟨⟨h1, (h3 _ (by omega)).trans st.y, st.below.trans h2⟩, by rw [h4]; exact rd1.other h3 (far.imp id fun ⟨ad, h, h'⟩ => ⟨ad, h, by omega⟩)⟩
  have fin2 : ∀ (w2 w3 : World), RZ w w2 → Rd .i64 w2 w2.heap.size A1 n1 c1 [5] → w3.heap[w.heap.size + 1]? = some (.cells (flC A1 n1 c1 20) 36 (0, 0)) → Below (w.heap.size + 1) w2 w3 → (∀ j, j ≠ w.heap.size + 1 → w3.heap[j]? = w2.heap[j]?) → w3.heap.size = w2.heap.size → RE w 5 20 A1 n1 c1 w3 := fun w2 w3 z2 r2 h1 h2 h3 h4 =>
    ⟨z2.z.below h2 (by omega), h1, by rw [h4]; exact r2.other h3 (far.imp id fun ⟨ad, h, h'⟩ => ⟨ad, h, by omega⟩), z2.below.trans (h2.mono (by omega))⟩
  have z1 := st.z
  replace far : Far w.heap.size A1 := far.less (by omega)
  clear hb1 new1 rd1
  go_wp2_with (first
    | (refine wpList_stF rfl rfl 63 _ _ rfl w.heap.size (pkC zeroH none 0 0) rfl rfl 63 _ z1 (by kernel_rfl) rfl (pkC_one ..) ?_; intro w2 f2 hb2 ho2 hs2; obtain ⟨z2, r2⟩ := fin w2 f2 hb2 ho2 hs2; clear fin f2 hb2 ho2 hs2; have y2 := z2.y)
    | (refine wpList_stF rfl rfl 36 _ _ rfl (w.heap.size + 1) (flC A1 n1 c1 20) rfl rfl 36 _ y2 (by kernel_rfl) rfl (flC_one _ _ _ _) ?_; intro w3 f3 hb3 ho3 hs3; have re := fin2 w2 w3 z2 r2 f3 hb3 ho3 hs3; clear fin2 f3 hb3 ho3 hs3 y2))
  obtain ⟨a0, a1, a2, a3, a4, a5, a6, a7⟩ := re.z.cells
  have b0 : w3.cell? ⟨w.heap.size + 1, 0, none⟩ = some (.slice A1 n1 c1) := blk_cell re.y rfl
  have b1 : w3.cell? ⟨w.heap.size + 1, 1, none⟩ = some (.int .i64 20) := blk_cell re.y rfl
  exact bodyPost_ret (v := .tuple #[zeroP, .agg #[.slice A1 n1 c1, .int .i64 20]]) (by simp [results, Tryd.results65, go_sem, b0, b1, a0, a1, a2, a3, a4, a5, a6, a7]) rfl ⟨re.below, A1, n1, c1, rfl, re.rd, far⟩
end Go.Proofs.YtbefoapnlehdmaaDoor

namespace Go.Proofs.YtbefoapnlehdmaaDoor
open Go.RowKit

theorem min_run (pos : String) (aft) (w : World) (T n M : Nat) (tm : Array Value) (d) (h97 : tm[97]? = some (.int .i64 (T : Int))) (h99 : tm[99]? = some (.int .i64 (n : Int))) (hMc : ((T : Int) < (n : Int) ∧ M = T) ∨ ((n : Int) < (T : Int) ∧ M = n) ∨ (T = n ∧ M = n)) :
    Sem.run Tryd.prog (execOp ({ tmps := tm, defers := d } : Act).eval ⟨some 100, Op.call { callee := .builtin .min, args := #[.tmp 97, .tmp 99], argTypes := #[3, 3] }, 3, pos, aft, none⟩) w = .ok (.value (.int .i64 (M : Int))) w := by
  rcases hMc with ⟨q, rfl⟩ | ⟨q, rfl⟩ | ⟨rfl, rfl⟩
  · have q' : ¬ (n : Int) < (M : Int) := by omega
    go_simp
  · go_simp
  · go_simp
theorem cut_run (pos : String) (aft) (w : World) (b o n c M : Nat) (tm : Array Value) (d) (h95 : tm[95]? = some (.slice (some ⟨b, o, none⟩) n c)) (h96 : tm[96]? = some (.int .i64 20)) (h100 : tm[100]? = some (.int .i64 (M : Int))) (m1 : 20 ≤ M) (m3 : M ≤ c) :
    Sem.run Tryd.prog (execOp ({ tmps := tm, defers := d } : Act).eval ⟨some 101, Op.slice 22 (.tmp 95) (some (.tmp 96)) (some (.tmp 100)) none, 22, pos, aft, none⟩) w = .ok (.value (.slice (cutA (some ⟨b, o, none⟩) c 20) (M - 20) (c - 20))) w := by
  have k1 : (20 : Int) ≤ (M : Int) := by omega
  have k2 : (M : Int) ≤ (c : Int) := by omega
  by_cases hq : c = 20
  · rw [cutA_eq hq]
    subst hq
    obtain rfl : M = 20 := by omega
    go_simp
  · rw [cutA_ne hq]
    go_simp
end Go.Proofs.YtbefoapnlehdmaaDoor

namespace Go.Proofs.YtbefoapnlehdmaaDoor
open Go.RowKit
set_option linter.unusedVariables false
theorem build33 (pos : String) (aft) (w : World) (x1 id x8 x9 src dst : Int) (fb : Bool) (A : Option Addr) (n c : Nat) (tm : Array Value) (d) (h22 : tm[105]? = some (.int .u8 x1)) (h25 : tm[116]? = some (.int .u16 id)) (h27 : tm[118]? = some (.bool fb)) (h30 : tm[121]? = some (.int .u8 x8)) (h33 : tm[124]? = some (.int .u8 x9)) (h36 : tm[127]? = some (.int .u32 src)) (h39 : tm[130]? = some (.int .u32 dst)) (h44 : tm[131]? = some (.slice A n c)) :
    Sem.run Tryd.prog (execOp ({ tmps := tm, defers := d } : Act).eval ⟨some 132, Op.build 63 #[(0, .tmp 105), (1, .tmp 116), (2, .tmp 118), (3, .tmp 121), (4, .tmp 124), (5, .tmp 127), (6, .tmp 130), (7, .tmp 131)], 63, pos, aft, none⟩) w = .ok (.value (pkV ⟨x1, id, fb, x8, x9, src, dst⟩ A n c)) w := by
  go_simp
end Go.Proofs.YtbefoapnlehdmaaDoor
