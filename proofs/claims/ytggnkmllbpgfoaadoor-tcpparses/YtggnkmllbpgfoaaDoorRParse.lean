/-
  Contract of the document's Parse.
-/
import Derived.Test.YtggnkmllbpgfoaaDoorRSums
namespace Go.Proofs.YtggnkmllbpgfoaaDoor
open Go.RowKit
set_option linter.unusedVariables false

/-- No segment: the document's answer. -/
def GivesN (w : World) (r e : Int) (ev : Ending) (w' : World) : Prop :=
  Below w.heap.size w w' ∧ ∃ A n c, ev = .returned (.tuple #[zeroP, .agg #[.slice A n c, .int .i64 e]]) ∧ Rd .i64 w' w'.heap.size A n c [r] ∧ Far w.heap.size A
/-- A segment. -/
def GivesY (w : World) (h : Hd) (ys : List Int) (ev : Ending) (w' : World) : Prop :=
  Below w.heap.size w w' ∧ ∃ A n c, ev = .returned (.tuple #[pkV h A n c, .agg #[.slice none 0 0, .int .i64 0]]) ∧ Out .u8 5 w' w.heap.size A n c ys
/-- The two answers' blocks, as they lie at first. -/
structure RZ (w W : World) : Prop where
  z : PkAt W w.heap.size 33 zeroH none 0 0
  y : W.heap[w.heap.size + 1]? = some (.cells (flC none 0 0 0) 37 (0, 0))
  below : Below w.heap.size w W
theorem RZ.step {w W V : World} (h : RZ w W) (hb : Below W.heap.size W V) : RZ w V := ⟨h.z.step hb, (hb.block _ (blk_lt h.y)).trans h.y, h.below.trans (hb.mono h.below.size)⟩
theorem RZ.start (w : World) : RZ w ((w.alloc (.cells (pkC zeroH none 0 0) 33)).alloc (.cells (flC none 0 0 0) 37)) :=
  ⟨(PkAt.new w 33 zeroH none 0 0).step (alloc_below _ _), by simpa using heap_alloc_new (w.alloc (.cells (pkC zeroH none 0 0) 33)) (.cells (flC none 0 0 0) 37), (alloc_below w _).alloc (by simp) _⟩
/-- Behind the two stores. -/
structure RE (w : World) (r e : Int) (A : Option Addr) (n c : Nat) (W : World) : Prop where
  z : PkAt W w.heap.size 33 zeroH none 0 0
  y : W.heap[w.heap.size + 1]? = some (.cells (flC A n c e) 37 (0, 0))
  rd : Rd .i64 W W.heap.size A n c [r]
  below : Below w.heap.size w W
/-- What the walk knows. -/
structure R0 (w : World) (A : Option Addr) (n c : Nat) (xs : List Int) (W : World) : Prop where
  z : RZ w W
  rd : Rd .u8 W w.heap.size A n c xs
section
variable {w W V : World} {A : Option Addr} {n c : Nat} {xs : List Int}
theorem RZ.sz (h : RZ w W) : w.heap.size + 2 ≤ W.heap.size := blk_lt h.y
theorem R0.sz (h : R0 w A n c xs W) : w.heap.size + 2 ≤ W.heap.size := blk_lt h.z.y
theorem R0.step (h : R0 w A n c xs W) (hb : Below W.heap.size W V) : R0 w A n c xs V := ⟨h.z.step hb, h.rd.below hb h.z.below.size⟩
theorem R0.low {B : Nat} (h : R0 w A n c xs W) (hB : w.heap.size + 2 ≤ B) (hb : Below B W V) : R0 w A n c xs V := ⟨⟨h.z.z.below hb (by omega), (hb.block _ (by omega)).trans h.z.y, h.z.below.trans (hb.mono (by omega))⟩, h.rd.below hb (by omega)⟩
theorem R0.start (hr : Rd .u8 w w.heap.size A n c xs) : R0 w A n c xs ((w.alloc (.cells (pkC zeroH none 0 0) 33)).alloc (.cells (flC none 0 0 0) 37)) := ⟨RZ.start w, hr.below (RZ.start w).below (Nat.le_refl _)⟩
end

theorem hdOf_ok {w : World} {B : Nat} {A : Option Addr} {n c : Nat} {xs : List Int} (h : Rd .u8 w B A n c xs) (hn : 14 ≤ n) : (hdOf xs).ok :=
  ⟨num2_bd rfl h (by omega), num2_bd rfl (h.cutFrom 2 (by omega)) (by omega), u8_bd (h.wf (i := 13) (by omega))⟩
set_option maxRecDepth 100000 in
set_option maxHeartbeats 4000000 in
theorem refP_short (A : Option Addr) (n c : Nat) (xs : List Int) (f t : Int) (w : World) (hr : Rd .u8 w w.heap.size A n c xs) (hn : n < 20) : Calls Tryd.prog 8 #[.slice A n c, .int .u32 f, .int .u32 t] w (GivesN w 1 12) := by
  have st := R0.start hr
  have n1 : (n : Int) < 20 := by omega
  clear hr
  go_enter Tryd.func8, Tryd.ntmps8
  go_wp2_with fail
  refine (refNew_at 1 12 (by decide) (by decide) (by decide) _).mono ?_
  rintro ev w1 ⟨A1, n1, c1, rfl, rd1, new1, hb1⟩
  have hsz := st.sz
  have far : Far (w.heap.size + 2) A1 := by
    rcases new1 with h | h | ⟨ad, h, h1, _⟩
    · exact .inl h
    · exact .inl h
    · exact .inr ⟨ad, h, Nat.le_trans hsz h1⟩
  replace st := st.z.step hb1
  have fin : ∀ (w2 : World), w2.heap[w.heap.size]? = some (.cells (pkC zeroH none 0 0) 33 (0, 0)) → Below w.heap.size w1 w2 → (∀ j, j ≠ w.heap.size → w2.heap[j]? = w1.heap[j]?) → w2.heap.size = w1.heap.size → RZ w w2 ∧ Rd .i64 w2 w2.heap.size A1 n1 c1 [1] := fun w2 h1 h2 h3 h4 =>
    ⟨⟨h1, (h3 _ (by omega)).trans st.y, st.below.trans h2⟩, by rw [h4]; exact rd1.other h3 (far.imp id fun ⟨ad, h, h'⟩ => ⟨ad, h, by omega⟩)⟩
  have fin2 : ∀ (w2 w3 : World), RZ w w2 → Rd .i64 w2 w2.heap.size A1 n1 c1 [1] → w3.heap[w.heap.size + 1]? = some (.cells (flC A1 n1 c1 12) 37 (0, 0)) → Below (w.heap.size + 1) w2 w3 → (∀ j, j ≠ w.heap.size + 1 → w3.heap[j]? = w2.heap[j]?) → w3.heap.size = w2.heap.size → RE w 1 12 A1 n1 c1 w3 := fun w2 w3 z2 r2 h1 h2 h3 h4 =>
    ⟨z2.z.below h2 (by omega), h1, by rw [h4]; exact r2.other h3 (far.imp id fun ⟨ad, h, h'⟩ => ⟨ad, h, by omega⟩), z2.below.trans (h2.mono (by omega))⟩
  have z1 := st.z
  replace far : Far w.heap.size A1 := far.less (by omega)
  clear hb1 new1 rd1 st hsz
  go_wp2_with (first
    | (refine wpList_stF rfl rfl 33 _ _ rfl w.heap.size (pkC zeroH none 0 0) rfl rfl 33 _ z1 (by kernel_rfl) rfl (pkC_one ..) ?_; intro w2 f2 hb2 ho2 hs2; obtain ⟨z2, r2⟩ := fin w2 f2 hb2 ho2 hs2; clear fin f2 hb2 ho2 hs2; have y2 := z2.y)
    | (refine wpList_stF rfl rfl 37 _ _ rfl (w.heap.size + 1) (flC A1 n1 c1 12) rfl rfl 37 _ y2 (by kernel_rfl) rfl (flC_one _ _ _ _) ?_; intro w3 f3 hb3 ho3 hs3; have re := fin2 w2 w3 z2 r2 f3 hb3 ho3 hs3; clear fin2 f3 hb3 ho3 hs3 y2))
  obtain ⟨a0, a1, a2, a3⟩ := re.z.cells
  have b0 : w3.cell? ⟨w.heap.size + 1, 0, none⟩ = some (.slice A1 n1 c1) := blk_cell re.y rfl
  have b1 : w3.cell? ⟨w.heap.size + 1, 1, none⟩ = some (.int .i64 12) := blk_cell re.y rfl
  exact bodyPost_ret (v := .tuple #[zeroP, .agg #[.slice A1 n1 c1, .int .i64 12]]) (by simp [results, Tryd.results8, go_sem, b0, b1, a0, a1, a2, a3]) rfl ⟨re.below, A1, n1, c1, rfl, re.rd, far⟩

set_option maxRecDepth 100000 in
set_option maxHeartbeats 4000000 in
theorem refP_form (b o n c : Nat) (xs : List Int) (f t : Int) (w : World) (hr : Rd .u8 w w.heap.size (some ⟨b, o, none⟩) n c xs) (hn : 20 ≤ n) (h1 : headN xs < 20) : Calls Tryd.prog 8 #[.slice (some ⟨b, o, none⟩) n c, .int .u32 f, .int .u32 t] w (GivesN w 1 10) := by
  have hcap := hr.cap
  have hmax := hr.max
  have hl := hr.len
  have st := R0.start hr
  have n1 : ¬ (n : Int) < 20 := by omega
  have i12 : (12 : Int) < (n : Int) := by omega
  have w0 := u8_bd (hr.wf (i := 12) (by omega))
  have c0 := st.rd.cellAt (i := 12) (by omega)
  unfold headN at *
  generalize xs.getD 12 0 = x at *
  have u1 : x.tdiv 16 = x / 16 := by rw [Int.tdiv_eq_ediv_of_nonneg (by omega)]
  have v0 : IntKind.u8.wrap (x / 16) = x / 16 := by rw [IntKind.wrap_u8]; omega
  have v1 : IntKind.i64.wrap (x / 16) = x / 16 := by rw [IntKind.wrap_i64]; omega
  have v2 : IntKind.i64.wrap (x / 16 * 4) = x / 16 * 4 := by rw [IntKind.wrap_i64]; omega
  clear hr hl
  go_enter Tryd.func8, Tryd.ntmps8
  go_wp2_with fail
  refine (refNew_at 1 10 (by decide) (by decide) (by decide) _).mono ?_
  rintro ev w1 ⟨A1, n1, c1, rfl, rd1, new1, hb1⟩
  have hsz := st.sz
  have far : Far (w.heap.size + 2) A1 := by
    rcases new1 with h | h | ⟨ad, h, h1, _⟩
    · exact .inl h
    · exact .inl h
    · exact .inr ⟨ad, h, Nat.le_trans hsz h1⟩
  replace st := st.z.step hb1
  have fin : ∀ (w2 : World), w2.heap[w.heap.size]? = some (.cells (pkC zeroH none 0 0) 33 (0, 0)) → Below w.heap.size w1 w2 → (∀ j, j ≠ w.heap.size → w2.heap[j]? = w1.heap[j]?) → w2.heap.size = w1.heap.size → RZ w w2 ∧ Rd .i64 w2 w2.heap.size A1 n1 c1 [1] := fun w2 h1 h2 h3 h4 =>
    ⟨⟨h1, (h3 _ (by omega)).trans st.y, st.below.trans h2⟩, by rw [h4]; exact rd1.other h3 (far.imp id fun ⟨ad, h, h'⟩ => ⟨ad, h, by omega⟩)⟩
  have fin2 : ∀ (w2 w3 : World), RZ w w2 → Rd .i64 w2 w2.heap.size A1 n1 c1 [1] → w3.heap[w.heap.size + 1]? = some (.cells (flC A1 n1 c1 10) 37 (0, 0)) → Below (w.heap.size + 1) w2 w3 → (∀ j, j ≠ w.heap.size + 1 → w3.heap[j]? = w2.heap[j]?) → w3.heap.size = w2.heap.size → RE w 1 10 A1 n1 c1 w3 := fun w2 w3 z2 r2 h1 h2 h3 h4 =>
    ⟨z2.z.below h2 (by omega), h1, by rw [h4]; exact r2.other h3 (far.imp id fun ⟨ad, h, h'⟩ => ⟨ad, h, by omega⟩), z2.below.trans (h2.mono (by omega))⟩
  have z1 := st.z
  replace far : Far w.heap.size A1 := far.less (by omega)
  clear hb1 new1 rd1 st hsz
  go_wp2_with (first
    | (refine wpList_stF rfl rfl 33 _ _ rfl w.heap.size (pkC zeroH none 0 0) rfl rfl 33 _ z1 (by kernel_rfl) rfl (pkC_one ..) ?_; intro w2 f2 hb2 ho2 hs2; obtain ⟨z2, r2⟩ := fin w2 f2 hb2 ho2 hs2; clear fin f2 hb2 ho2 hs2; have y2 := z2.y)
    | (refine wpList_stF rfl rfl 37 _ _ rfl (w.heap.size + 1) (flC A1 n1 c1 10) rfl rfl 37 _ y2 (by kernel_rfl) rfl (flC_one _ _ _ _) ?_; intro w3 f3 hb3 ho3 hs3; have re := fin2 w2 w3 z2 r2 f3 hb3 ho3 hs3; clear fin2 f3 hb3 ho3 hs3 y2))
  obtain ⟨a0, a1, a2, a3⟩ := re.z.cells
  have b0 : w3.cell? ⟨w.heap.size + 1, 0, none⟩ = some (.slice A1 n1 c1) := blk_cell re.y rfl
  have b1 : w3.cell? ⟨w.heap.size + 1, 1, none⟩ = some (.int .i64 10) := blk_cell re.y rfl
  exact bodyPost_ret (v := .tuple #[zeroP, .agg #[.slice A1 n1 c1, .int .i64 10]]) (by simp [results, Tryd.results8, go_sem, b0, b1, a0, a1, a2, a3]) rfl ⟨re.below, A1, n1, c1, rfl, re.rd, far⟩

set_option maxRecDepth 100000 in
set_option maxHeartbeats 4000000 in
theorem refP_end (b o n c : Nat) (xs : List Int) (f t : Int) (w : World) (hr : Rd .u8 w w.heap.size (some ⟨b, o, none⟩) n c xs) (hn : 20 ≤ n) (h1 : 20 ≤ headN xs) (h2 : (n : Int) < headN xs) : Calls Tryd.prog 8 #[.slice (some ⟨b, o, none⟩) n c, .int .u32 f, .int .u32 t] w (GivesN w 1 12) := by
  have hcap := hr.cap
  have hmax := hr.max
  have hl := hr.len
  have st := R0.start hr
  have n1 : ¬ (n : Int) < 20 := by omega
  have i12 : (12 : Int) < (n : Int) := by omega
  have w0 := u8_bd (hr.wf (i := 12) (by omega))
  have c0 := st.rd.cellAt (i := 12) (by omega)
  unfold headN at *
  generalize xs.getD 12 0 = x at *
  have u1 : x.tdiv 16 = x / 16 := by rw [Int.tdiv_eq_ediv_of_nonneg (by omega)]
  have v0 : IntKind.u8.wrap (x / 16) = x / 16 := by rw [IntKind.wrap_u8]; omega
  have v1 : IntKind.i64.wrap (x / 16) = x / 16 := by rw [IntKind.wrap_i64]; omega
  have v2 : IntKind.i64.wrap (x / 16 * 4) = x / 16 * 4 := by rw [IntKind.wrap_i64]; omega
  have k2 : ¬ x / 16 * 4 < 20 := by omega
  clear hr hl
  go_enter Tryd.func8, Tryd.ntmps8
  go_wp2_with fail
  refine (refNew_at 1 12 (by decide) (by decide) (by decide) _).mono ?_
  rintro ev w1 ⟨A1, n1, c1, rfl, rd1, new1, hb1⟩
  have hsz := st.sz
  have far : Far (w.heap.size + 2) A1 := by
    rcases new1 with h | h | ⟨ad, h, h1, _⟩
    · exact .inl h
    · exact .inl h
    · exact .inr ⟨ad, h, Nat.le_trans hsz h1⟩
  replace st := st.z.step hb1
  have fin : ∀ (w2 : World), w2.heap[w.heap.size]? = some (.cells (pkC zeroH none 0 0) 33 (0, 0)) → Below w.heap.size w1 w2 → (∀ j, j ≠ w.heap.size → w2.heap[j]? = w1.heap[j]?) → w2.heap.size = w1.heap.size → RZ w w2 ∧ Rd .i64 w2 w2.heap.size A1 n1 c1 [1] := fun w2 h1 h2 h3 h4 =>
    ⟨⟨h1, (h3 _ (by omega)).trans st.y, st.below.trans h2⟩, by rw [h4]; exact rd1.other h3 (far.imp id fun ⟨ad, h, h'⟩ => ⟨ad, h, by omega⟩)⟩
  have fin2 : ∀ (w2 w3 : World), RZ w w2 → Rd .i64 w2 w2.heap.size A1 n1 c1 [1] → w3.heap[w.heap.size + 1]? = some (.cells (flC A1 n1 c1 12) 37 (0, 0)) → Below (w.heap.size + 1) w2 w3 → (∀ j, j ≠ w.heap.size + 1 → w3.heap[j]? = w2.heap[j]?) → w3.heap.size = w2.heap.size → RE w 1 12 A1 n1 c1 w3 := fun w2 w3 z2 r2 h1 h2 h3 h4 =>
    ⟨z2.z.below h2 (by omega), h1, by rw [h4]; exact r2.other h3 (far.imp id fun ⟨ad, h, h'⟩ => ⟨ad, h, by omega⟩), z2.below.trans (h2.mono (by omega))⟩
  have z1 := st.z
  replace far : Far w.heap.size A1 := far.less (by omega)
  clear hb1 new1 rd1 st hsz
  go_wp2_with (first
    | (refine wpList_stF rfl rfl 33 _ _ rfl w.heap.size (pkC zeroH none 0 0) rfl rfl 33 _ z1 (by kernel_rfl) rfl (pkC_one ..) ?_; intro w2 f2 hb2 ho2 hs2; obtain ⟨z2, r2⟩ := fin w2 f2 hb2 ho2 hs2; clear fin f2 hb2 ho2 hs2; have y2 := z2.y)
    | (refine wpList_stF rfl rfl 37 _ _ rfl (w.heap.size + 1) (flC A1 n1 c1 12) rfl rfl 37 _ y2 (by kernel_rfl) rfl (flC_one _ _ _ _) ?_; intro w3 f3 hb3 ho3 hs3; have re := fin2 w2 w3 z2 r2 f3 hb3 ho3 hs3; clear fin2 f3 hb3 ho3 hs3 y2))
  obtain ⟨a0, a1, a2, a3⟩ := re.z.cells
  have b0 : w3.cell? ⟨w.heap.size + 1, 0, none⟩ = some (.slice A1 n1 c1) := blk_cell re.y rfl
  have b1 : w3.cell? ⟨w.heap.size + 1, 1, none⟩ = some (.int .i64 12) := blk_cell re.y rfl
  exact bodyPost_ret (v := .tuple #[zeroP, .agg #[.slice A1 n1 c1, .int .i64 12]]) (by simp [results, Tryd.results8, go_sem, b0, b1, a0, a1, a2, a3]) rfl ⟨re.below, A1, n1, c1, rfl, re.rd, far⟩

set_option maxRecDepth 100000 in
set_option maxHeartbeats 4000000 in
theorem refP_far (b o n c : Nat) (xs : List Int) (f t : Int) (w : World) (hr : Rd .u8 w w.heap.size (some ⟨b, o, none⟩) n c xs) (hn : 20 ≤ n) (h1 : 20 ≤ headN xs) (h2 : headN xs ≤ (n : Int)) (h3 : 1480 < n) : Calls Tryd.prog 8 #[.slice (some ⟨b, o, none⟩) n c, .int .u32 f, .int .u32 t] w (GivesN w 1 11) := by
  have hcap := hr.cap
  have hmax := hr.max
  have hl := hr.len
  have st := R0.start hr
  have n1 : ¬ (n : Int) < 20 := by omega
  have i12 : (12 : Int) < (n : Int) := by omega
  have w0 := u8_bd (hr.wf (i := 12) (by omega))
  have c0 := st.rd.cellAt (i := 12) (by omega)
  unfold headN at *
  generalize xs.getD 12 0 = x at *
  have u1 : x.tdiv 16 = x / 16 := by rw [Int.tdiv_eq_ediv_of_nonneg (by omega)]
  have v0 : IntKind.u8.wrap (x / 16) = x / 16 := by rw [IntKind.wrap_u8]; omega
  have v1 : IntKind.i64.wrap (x / 16) = x / 16 := by rw [IntKind.wrap_i64]; omega
  have v2 : IntKind.i64.wrap (x / 16 * 4) = x / 16 * 4 := by rw [IntKind.wrap_i64]; omega
  have k2 : ¬ x / 16 * 4 < 20 := by omega
  have k3 : ¬ (n : Int) < x / 16 * 4 := by omega
  have k4 : (1480 : Int) < (n : Int) := by omega
  clear hr hl
  go_enter Tryd.func8, Tryd.ntmps8
  go_wp2_with fail
  refine (refNew_at 1 11 (by decide) (by decide) (by decide) _).mono ?_
  rintro ev w1 ⟨A1, n1, c1, rfl, rd1, new1, hb1⟩
  have hsz := st.sz
  have far : Far (w.heap.size + 2) A1 := by
    rcases new1 with h | h | ⟨ad, h, h1, _⟩
    · exact .inl h
    · exact .inl h
    · exact .inr ⟨ad, h, Nat.le_trans hsz h1⟩
  replace st := st.z.step hb1
  have fin : ∀ (w2 : World), w2.heap[w.heap.size]? = some (.cells (pkC zeroH none 0 0) 33 (0, 0)) → Below w.heap.size w1 w2 → (∀ j, j ≠ w.heap.size → w2.heap[j]? = w1.heap[j]?) → w2.heap.size = w1.heap.size → RZ w w2 ∧ Rd .i64 w2 w2.heap.size A1 n1 c1 [1] := fun w2 h1 h2 h3 h4 =>
    ⟨⟨h1, (h3 _ (by omega)).trans st.y, st.below.trans h2⟩, by rw [h4]; exact rd1.other h3 (far.imp id fun ⟨ad, h, h'⟩ => ⟨ad, h, by omega⟩)⟩
  have fin2 : ∀ (w2 w3 : World), RZ w w2 → Rd .i64 w2 w2.heap.size A1 n1 c1 [1] → w3.heap[w.heap.size + 1]? = some (.cells (flC A1 n1 c1 11) 37 (0, 0)) → Below (w.heap.size + 1) w2 w3 → (∀ j, j ≠ w.heap.size + 1 → w3.heap[j]? = w2.heap[j]?) → w3.heap.size = w2.heap.size → RE w 1 11 A1 n1 c1 w3 := fun w2 w3 z2 r2 h1 h2 h3 h4 =>
    ⟨z2.z.below h2 (by omega), h1, by rw [h4]; exact r2.other h3 (far.imp id fun ⟨ad, h, h'⟩ => ⟨ad, h, by omega⟩), z2.below.trans (h2.mono (by omega))⟩
  have z1 := st.z
  replace far : Far w.heap.size A1 := far.less (by omega)
  clear hb1 new1 rd1 st hsz
  go_wp2_with (first
    | (refine wpList_stF rfl rfl 33 _ _ rfl w.heap.size (pkC zeroH none 0 0) rfl rfl 33 _ z1 (by kernel_rfl) rfl (pkC_one ..) ?_; intro w2 f2 hb2 ho2 hs2; obtain ⟨z2, r2⟩ := fin w2 f2 hb2 ho2 hs2; clear fin f2 hb2 ho2 hs2; have y2 := z2.y)
    | (refine wpList_stF rfl rfl 37 _ _ rfl (w.heap.size + 1) (flC A1 n1 c1 11) rfl rfl 37 _ y2 (by kernel_rfl) rfl (flC_one _ _ _ _) ?_; intro w3 f3 hb3 ho3 hs3; have re := fin2 w2 w3 z2 r2 f3 hb3 ho3 hs3; clear fin2 f3 hb3 ho3 hs3 y2))
  obtain ⟨a0, a1, a2, a3⟩ := re.z.cells
  have b0 : w3.cell? ⟨w.heap.size + 1, 0, none⟩ = some (.slice A1 n1 c1) := blk_cell re.y rfl
  have b1 : w3.cell? ⟨w.heap.size + 1, 1, none⟩ = some (.int .i64 11) := blk_cell re.y rfl
  exact bodyPost_ret (v := .tuple #[zeroP, .agg #[.slice A1 n1 c1, .int .i64 11]]) (by simp [results, Tryd.results8, go_sem, b0, b1, a0, a1, a2, a3]) rfl ⟨re.below, A1, n1, c1, rfl, re.rd, far⟩

set_option maxRecDepth 100000 in
set_option maxHeartbeats 4000000 in
theorem refP_sum (b o n c : Nat) (xs : List Int) (f t : Int) (w : World) (hr : Rd .u8 w w.heap.size (some ⟨b, o, none⟩) n c xs) (hn : 20 ≤ n) (h1 : 20 ≤ headN xs) (h2 : headN xs ≤ (n : Int)) (h3 : n ≤ 1480) (hf : Ip f) (ht : Ip t) (hs : sumB f t xs = false) : Calls Tryd.prog 8 #[.slice (some ⟨b, o, none⟩) n c, .int .u32 f, .int .u32 t] w (GivesN w 2 13) := by
  have hcap := hr.cap
  have hmax := hr.max
  have hl := hr.len
  have st := R0.start hr
  have n1 : ¬ (n : Int) < 20 := by omega
  have i12 : (12 : Int) < (n : Int) := by omega
  have w0 := u8_bd (hr.wf (i := 12) (by omega))
  have c0 := st.rd.cellAt (i := 12) (by omega)
  unfold headN at *
  generalize xs.getD 12 0 = x at *
  have u1 : x.tdiv 16 = x / 16 := by rw [Int.tdiv_eq_ediv_of_nonneg (by omega)]
  have v0 : IntKind.u8.wrap (x / 16) = x / 16 := by rw [IntKind.wrap_u8]; omega
  have v1 : IntKind.i64.wrap (x / 16) = x / 16 := by rw [IntKind.wrap_i64]; omega
  have v2 : IntKind.i64.wrap (x / 16 * 4) = x / 16 * 4 := by rw [IntKind.wrap_i64]; omega
  have k2 : ¬ x / 16 * 4 < 20 := by omega
  have k3 : ¬ (n : Int) < x / 16 * 4 := by omega
  have k4 : ¬ (1480 : Int) < (n : Int) := by omega
  have cs : Hid (∀ W, R0 w (some ⟨b, o, none⟩) n c xs W → Calls Tryd.prog 15 #[.slice (some ⟨b, o, none⟩) n c, .int .u32 f, .int .u32 t] W fun e w' => e = .returned (.bool false) ∧ Below W.heap.size W w') := Lib.hid (fun W k => by
    have := refSums_any (some ⟨b, o, none⟩) n c xs f t W (k.rd.more k.z.below.size) hf ht (by omega)
    rwa [hs] at this)
  clear hs
  clear hr hl
  go_enter Tryd.func8, Tryd.ntmps8
  go_wp2_with fail
  with_reducible refine (cs.out _ st).mono ?_
  rintro e w2 ⟨rfl, hb⟩
  replace st := st.step hb
  clear hb cs c0
  go_wp2_with fail
  refine (refNew_at 2 13 (by decide) (by decide) (by decide) _).mono ?_
  rintro ev w1 ⟨A1, n1, c1, rfl, rd1, new1, hb1⟩
  have hsz := st.sz
  have far : Far (w.heap.size + 2) A1 := by
    rcases new1 with h | h | ⟨ad, h, h1, _⟩
    · exact .inl h
    · exact .inl h
    · exact .inr ⟨ad, h, Nat.le_trans hsz h1⟩
  replace st := st.z.step hb1
  have fin : ∀ (w2 : World), w2.heap[w.heap.size]? = some (.cells (pkC zeroH none 0 0) 33 (0, 0)) → Below w.heap.size w1 w2 → (∀ j, j ≠ w.heap.size → w2.heap[j]? = w1.heap[j]?) → w2.heap.size = w1.heap.size → RZ w w2 ∧ Rd .i64 w2 w2.heap.size A1 n1 c1 [2] := fun w2 h1 h2 h3 h4 =>
    ⟨⟨h1, (h3 _ (by omega)).trans st.y, st.below.trans h2⟩, by rw [h4]; exact rd1.other h3 (far.imp id fun ⟨ad, h, h'⟩ => ⟨ad, h, by omega⟩)⟩
  have fin2 : ∀ (w2 w3 : World), RZ w w2 → Rd .i64 w2 w2.heap.size A1 n1 c1 [2] → w3.heap[w.heap.size + 1]? = some (.cells (flC A1 n1 c1 13) 37 (0, 0)) → Below (w.heap.size + 1) w2 w3 → (∀ j, j ≠ w.heap.size + 1 → w3.heap[j]? = w2.heap[j]?) → w3.heap.size = w2.heap.size → RE w 2 13 A1 n1 c1 w3 := fun w2 w3 z2 r2 h1 h2 h3 h4 =>
    ⟨z2.z.below h2 (by omega), h1, by rw [h4]; exact r2.other h3 (far.imp id fun ⟨ad, h, h'⟩ => ⟨ad, h, by omega⟩), z2.below.trans (h2.mono (by omega))⟩
  have z1 := st.z
  replace far : Far w.heap.size A1 := far.less (by omega)
  clear hb1 new1 rd1 st hsz
  go_wp2_with (first
    | (refine wpList_stF rfl rfl 33 _ _ rfl w.heap.size (pkC zeroH none 0 0) rfl rfl 33 _ z1 (by kernel_rfl) rfl (pkC_one ..) ?_; intro w2 f2 hb2 ho2 hs2; obtain ⟨z2, r2⟩ := fin w2 f2 hb2 ho2 hs2; clear fin f2 hb2 ho2 hs2; have y2 := z2.y)
    | (refine wpList_stF rfl rfl 37 _ _ rfl (w.heap.size + 1) (flC A1 n1 c1 13) rfl rfl 37 _ y2 (by kernel_rfl) rfl (flC_one _ _ _ _) ?_; intro w3 f3 hb3 ho3 hs3; have re := fin2 w2 w3 z2 r2 f3 hb3 ho3 hs3; clear fin2 f3 hb3 ho3 hs3 y2))
  obtain ⟨a0, a1, a2, a3⟩ := re.z.cells
  have b0 : w3.cell? ⟨w.heap.size + 1, 0, none⟩ = some (.slice A1 n1 c1) := blk_cell re.y rfl
  have b1 : w3.cell? ⟨w.heap.size + 1, 1, none⟩ = some (.int .i64 13) := blk_cell re.y rfl
  exact bodyPost_ret (v := .tuple #[zeroP, .agg #[.slice A1 n1 c1, .int .i64 13]]) (by simp [results, Tryd.results8, go_sem, b0, b1, a0, a1, a2, a3]) rfl ⟨re.below, A1, n1, c1, rfl, re.rd, far⟩

set_option maxRecDepth 100000 in
set_option maxHeartbeats 4000000 in
theorem refP_good (b o n c : Nat) (xs : List Int) (f t : Int) (w : World) (hr : Rd .u8 w w.heap.size (some ⟨b, o, none⟩) n c xs) (hn : 20 ≤ n) (h1 : 20 ≤ headN xs) (h2 : headN xs ≤ (n : Int)) (h3 : n ≤ 1480) (hf : Ip f) (ht : Ip t) (hs : sumB f t xs = true) : Calls Tryd.prog 8 #[.slice (some ⟨b, o, none⟩) n c, .int .u32 f, .int .u32 t] w (GivesY w (hdOf xs) xs) := by
  have hH := hdOf_ok hr (by omega)
  have hcap := hr.cap
  have hmax := hr.max
  have hl := hr.len
  have st := R0.start hr
  have n1 : ¬ (n : Int) < 20 := by omega
  have i12 : (12 : Int) < (n : Int) := by omega
  have w0 := u8_bd (hr.wf (i := 12) (by omega))
  have c0 := st.rd.cellAt (i := 12) (by omega)
  unfold headN at *
  generalize xs.getD 12 0 = x at *
  have u1 : x.tdiv 16 = x / 16 := by rw [Int.tdiv_eq_ediv_of_nonneg (by omega)]
  have v0 : IntKind.u8.wrap (x / 16) = x / 16 := by rw [IntKind.wrap_u8]; omega
  have v1 : IntKind.i64.wrap (x / 16) = x / 16 := by rw [IntKind.wrap_i64]; omega
  have v2 : IntKind.i64.wrap (x / 16 * 4) = x / 16 * 4 := by rw [IntKind.wrap_i64]; omega
  have k2 : ¬ x / 16 * 4 < 20 := by omega
  have k3 : ¬ (n : Int) < x / 16 * 4 := by omega
  have k4 : ¬ (1480 : Int) < (n : Int) := by omega
  have cs : Hid (∀ W, R0 w (some ⟨b, o, none⟩) n c xs W → Calls Tryd.prog 15 #[.slice (some ⟨b, o, none⟩) n c, .int .u32 f, .int .u32 t] W fun e w' => e = .returned (.bool true) ∧ Below W.heap.size W w') := Lib.hid (fun W k => by
    have := refSums_any (some ⟨b, o, none⟩) n c xs f t W (k.rd.more k.z.below.size) hf ht (by omega)
    rwa [hs] at this)
  clear hs
  have k2' : ¬ c = 2 := by omega
  have j2 : (2 : Int) ≤ (n : Int) := by omega
  have j13 : (13 : Int) < (n : Int) := by omega
  have t0 : ∀ W, Rd .u8 W w.heap.size (some ⟨b, o, none⟩) n c xs → Calls Tryd.prog 25 #[.slice (some ⟨b, o, none⟩) n c] W fun e w' => e = .returned (.int .i64 (hdOf xs).src) ∧ ∃ m', w' = W.drewN m' := fun W k => num_any _ n c w.heap.size xs W k (by omega)
  have t2 : ∀ W, Rd .u8 W w.heap.size (some ⟨b, o, none⟩) n c xs → Calls Tryd.prog 25 #[.slice (some ⟨b, o + 2, none⟩) (n - 2) (c - 2)] W fun e w' => e = .returned (.int .i64 (hdOf xs).dst) ∧ ∃ m', w' = W.drewN m' := fun W k => num_any _ (n - 2) (c - 2) w.heap.size (xs.drop 2) W (k.cutS 2 (by omega) k2') (by omega)
  have t13 : ∀ W, Rd .u8 W w.heap.size (some ⟨b, o, none⟩) n c xs → W.cell? ⟨b, o + 13, none⟩ = some (.int .u8 (hdOf xs).flags) := fun W k => k.cellAt (by omega)
  generalize hdOf xs = h at *
  obtain ⟨pf, pt, pl⟩ := h
  have q0 := hH.src
  have q1 := hH.dst
  dsimp only at q0 q1 t0 t2 t13
  have y0 : IntKind.u16.wrap pf = pf := by rw [IntKind.wrap_u16]; omega
  have y1 : IntKind.u16.wrap pt = pt := by rw [IntKind.wrap_u16]; omega
  clear hr hl hH q0 q1
  go_enter Tryd.func8, Tryd.ntmps8
  go_wp2_with fail
  with_reducible refine (cs.out _ st).mono ?_
  rintro e w2 ⟨rfl, hb⟩
  replace st := st.step hb
  clear hb cs c0
  go_wp2_with fail
  refine wp_region_held_drew (S := fun w' => Rd .u8 w' w.heap.size (some ⟨b, o, none⟩) n c xs) (by kernel_rfl) (st.step (below_drew _)).rd (fun hHeld => ?_)
  replace st := st.step (below_drew _)
  change wpAnyH _ _ _ _ _ _ _ _ (World.drew _)
  generalize World.drew _ = W1 at *
  refine wpAnyH_at (i := 0) (some 42) (v := ?v0z1) rfl rfl (by kernel_rfl) (by kernel_rfl) (by kernel_rfl) (fun _ _ _ h => h) (Or.inl ⟨by rfl, ?y0z1⟩) (by assumption) ?r0z1
  case y0z1 =>
    intro w9 hSw
    clear hSw
    go_simp
    all_goals with_reducible rfl
  simp only [Act.put, List.setIfInBounds_toArray, List.set_cons_zero, List.set_cons_succ]
  refine wpAnyH_at (i := 3) (some 45) (v := ?v3z2) rfl rfl (by kernel_rfl) (by kernel_rfl) (by kernel_rfl) (fun _ _ _ h => h) (Or.inl ⟨by rfl, ?y3z2⟩) (by assumption) ?r3z2
  case y3z2 =>
    intro w9 hSw
    clear hSw
    go_simp
    all_goals with_reducible rfl
  simp only [Act.put, List.setIfInBounds_toArray, List.set_cons_zero, List.set_cons_succ]
  refine wpAnyH_at (i := 4) (some 46) (v := ?v4z3) rfl rfl (by kernel_rfl) (by kernel_rfl) (by kernel_rfl) (fun _ _ _ h => h) (Or.inl ⟨by rfl, ?y4z3⟩) (by assumption) ?r4z3
  case y4z3 =>
    intro w9 hSw
    clear hSw
    go_simp
    all_goals with_reducible rfl
  simp only [Act.put, List.setIfInBounds_toArray, List.set_cons_zero, List.set_cons_succ]
  refine wpAnyH_at (i := 7) (some 49) (v := ?v7z4) rfl rfl (by kernel_rfl) (by kernel_rfl) (by kernel_rfl) (fun _ _ _ h => h) (Or.inl ⟨by rfl, ?y7z4⟩) (by assumption) ?r7z4
  case y7z4 =>
    intro w9 hSw
    clear hSw
    go_simp
    all_goals with_reducible rfl
  simp only [Act.put, List.setIfInBounds_toArray, List.set_cons_zero, List.set_cons_succ]
  refine wpAnyH_at (i := 8) (some 50) (v := ?v8z5) rfl rfl (by kernel_rfl) (by kernel_rfl) (by kernel_rfl) (fun _ _ _ h => h) (Or.inl ⟨by rfl, ?y8z5⟩) (by assumption) ?r8z5
  case y8z5 =>
    intro w9 hSw
    clear hSw
    go_simp
    all_goals with_reducible rfl
  simp only [Act.put, List.setIfInBounds_toArray, List.set_cons_zero, List.set_cons_succ]
  refine wpAnyH_at (i := 9) (some 51) (v := ?v9z6) rfl rfl (by kernel_rfl) (by kernel_rfl) (by kernel_rfl) (fun _ _ _ h => h) (Or.inl ⟨by rfl, ?y9z6⟩) (by assumption) ?r9z6
  case y9z6 =>
    intro w9 hSw
    have c13 := t13 _ hSw; clear hSw
    go_simp
    all_goals with_reducible rfl
  simp only [Act.put, List.setIfInBounds_toArray, List.set_cons_zero, List.set_cons_succ]
  refine wpAnyH_at (i := 11) (some 53) (v := ?v11z7) rfl rfl (by kernel_rfl) (by kernel_rfl) (by kernel_rfl) (fun _ _ _ h => h) (Or.inl ⟨by rfl, ?y11z7⟩) (by assumption) ?r11z7
  case y11z7 =>
    intro w9 hSw
    clear hSw
    go_simp
    all_goals with_reducible rfl
  simp only [Act.put, List.setIfInBounds_toArray, List.set_cons_zero, List.set_cons_succ]
  refine wpAnyH_at (i := 14) (some 56) (v := ?v14z8) rfl rfl (by kernel_rfl) (by kernel_rfl) (by kernel_rfl) (fun _ _ _ h => h) (Or.inl ⟨by rfl, ?y14z8⟩) (by assumption) ?r14z8
  case y14z8 =>
    intro w9 hSw
    clear hSw
    go_simp
    all_goals with_reducible rfl
  simp only [Act.put, List.setIfInBounds_toArray, List.set_cons_zero, List.set_cons_succ]
  refine wpAnyH_two (i := 1) (j := 10) (by kernel_rfl) rfl rfl ?_ ?_
  · as_aux_lemma =>
      go_wp2_with (go_at_call 25; refine (t0 _ st.rd).mono ?_; rintro ev w9 ⟨rfl, m9, rfl⟩)
      replace st := st.step (Still.drewN _ m9).below
      clear hHeld
      have hHeld := st.rd
      refine ⟨hHeld, ?_⟩
      generalize W1.drewN m9 = W2 at *
      try simp only [Act.put, List.setIfInBounds_toArray, List.set_cons_zero, List.set_cons_succ]
      refine wpAnyH_at (i := 2) (some 44) (v := ?v2z9) rfl rfl (by kernel_rfl) (by kernel_rfl) (by kernel_rfl) (fun _ _ _ h => h) (Or.inl ⟨by rfl, ?y2z9⟩) (by assumption) ?r2z9
      case y2z9 =>
        intro w9 hSw
        clear hSw
        go_simp
        all_goals with_reducible rfl
      simp only [Act.put, List.setIfInBounds_toArray, List.set_cons_zero, List.set_cons_succ]
      refine wpAnyH_two (i := 5) (j := 10) (by kernel_rfl) rfl rfl ?_ ?_
      · as_aux_lemma =>
          go_wp2_with (go_at_call 25; refine (t2 _ st.rd).mono ?_; rintro ev w9 ⟨rfl, m9, rfl⟩)
          replace st := st.step (Still.drewN _ m9).below
          clear hHeld
          have hHeld := st.rd
          refine ⟨hHeld, ?_⟩
          generalize W2.drewN m9 = W3 at *
          try simp only [Act.put, List.setIfInBounds_toArray, List.set_cons_zero, List.set_cons_succ]
          refine wpAnyH_at (i := 6) (some 48) (v := ?v6z10) rfl rfl (by kernel_rfl) (by kernel_rfl) (by kernel_rfl) (fun _ _ _ h => h) (Or.inl ⟨by rfl, ?y6z10⟩) (by assumption) ?r6z10
          case y6z10 =>
            intro w9 hSw
            clear hSw
            go_simp
            all_goals with_reducible rfl
          simp only [Act.put, List.setIfInBounds_toArray, List.set_cons_zero, List.set_cons_succ]
          refine wpAnyH_one (i := 10) (by kernel_rfl) rfl ?_
          have hb2 := alloc_below W3 (.cells #[] 5)
          have o1 := Out.lit0 .u8 5 W3 (w.heap.size + 2) st.sz
          replace st := st.step hb2
          clear hHeld hb2
          have hHeld := st.rd
          go_wp2
          refine ⟨hHeld, ?_⟩
          change wpAnyH _ _ _ _ _ _ _ _ (W3.alloc (.cells #[] 5))
          generalize (W3.alloc (.cells #[] 5)) = W4 at *
          generalize W3.heap.size = gE at *
          try simp only [Act.put, List.setIfInBounds_toArray, List.set_cons_zero, List.set_cons_succ]
          refine wpAnyH_one (i := 12) (by kernel_rfl) rfl ?_
          refine wpList_appD (some 54) rfl rfl (.tmp 52) (.tmp 53) 22 rfl (w.heap.size + 2) Tryd.underlying22 info5 (by omega) (some ⟨gE, 0, none⟩) 0 0 [] rfl o1 (some ⟨b, o, none⟩) n c w.heap.size xs rfl st.rd (by omega) st.sz ?_
          intro A1 n1 c1 W24 o2 hgr
          replace st := st.low (Nat.le_refl _) (grown_low o1 hgr st.sz)
          rw [List.nil_append] at o2
          clear hgr o1 hHeld
          have hHeld := st.rd
          go_wp2
          refine ⟨hHeld, ?_⟩
          try simp only [Act.put, List.setIfInBounds_toArray, List.set_cons_zero, List.set_cons_succ]
          refine wpAnyH_at (i := 13) (some 55) (v := pkV ⟨pf, pt, pl⟩ A1 n1 c1) rfl rfl (by kernel_rfl) (by kernel_rfl) (by kernel_rfl) (fun _ _ _ h => h) (Or.inl ⟨by rfl, fun w9 _ => ?_⟩) (by assumption) ?_
          · go_simp
          simp only [Act.put, List.setIfInBounds_toArray, List.set_cons_zero, List.set_cons_succ]
          refine wpAnyH_one (i := 15) (by kernel_rfl) rfl ?_
          refine wpList_stF rfl rfl 33 _ _ rfl w.heap.size (pkC ⟨pf, pt, pl⟩ A1 n1 c1) rfl rfl 33 _ st.z.z (by kernel_rfl) rfl (pkC_one ..) ?_
          intro wA fA hbA hoA hsA
          have yA := (hoA (w.heap.size + 1) (by omega)).trans st.z.y
          have bA := st.z.below.trans hbA
          have rA := st.rd.below hbA (Nat.le_refl _)
          replace o2 := o2.other (fun j hj => hoA j (by omega))
          clear hHeld hbA hoA hsA st
          go_wp2
          refine ⟨rA, ?_⟩
          refine wpAnyH_one (i := 16) (by kernel_rfl) rfl ?_
          refine wpList_stF rfl rfl 37 _ _ rfl (w.heap.size + 1) (flC none 0 0 0) rfl rfl 37 _ yA (by kernel_rfl) rfl (flC_one _ _ _ _) ?_
          intro wB fB hbB hoB hsB
          have zB : PkAt wB w.heap.size 33 ⟨pf, pt, pl⟩ A1 n1 c1 := (hoB w.heap.size (by omega)).trans fA
          have bB := bA.trans (hbB.mono (by omega))
          have rB := rA.below hbB (by omega)
          replace o2 := o2.other (fun j hj => hoB j (by omega))
          clear hbB hoB hsB bA rA yA fA
          go_wp2
          refine ⟨rB, ?_⟩
          refine wpAnyH_done (by kernel_rfl) ?_ _
          go_wp2
          obtain ⟨a0, a1, a2, a3⟩ := zB.cells
          have b0 : wB.cell? ⟨w.heap.size + 1, 0, none⟩ = some (.slice none 0 0) := blk_cell fB rfl
          have b1 : wB.cell? ⟨w.heap.size + 1, 1, none⟩ = some (.int .i64 0) := blk_cell fB rfl
          exact bodyPost_ret (v := .tuple #[pkV ⟨pf, pt, pl⟩ A1 n1 c1, .agg #[.slice none 0 0, .int .i64 0]]) (by simp [results, Tryd.results8, go_sem, b0, b1, a0, a1, a2, a3]) rfl ⟨bB, A1, n1, c1, rfl, o2.rebase (by omega)⟩
      · as_aux_lemma =>
          have hb2 := alloc_below W2 (.cells #[] 5)
          have o1 := Out.lit0 .u8 5 W2 (w.heap.size + 2) st.sz
          replace st := st.step hb2
          clear hHeld hb2
          have hHeld := st.rd
          go_wp2
          refine ⟨hHeld, ?_⟩
          change wpAnyH _ _ _ _ _ _ _ _ (W2.alloc (.cells #[] 5))
          generalize (W2.alloc (.cells #[] 5)) = W3 at *
          generalize W2.heap.size = gE at *
          try simp only [Act.put, List.setIfInBounds_toArray, List.set_cons_zero, List.set_cons_succ]
          refine wpAnyH_one (i := 5) (by kernel_rfl) rfl ?_
          go_wp2_with (go_at_call 25; refine (t2 _ st.rd).mono ?_; rintro ev w9 ⟨rfl, m9, rfl⟩)
          replace st := st.step (Still.drewN _ m9).below
          replace o1 := o1.below (Still.drewN _ m9).below (Nat.le_refl _)
          clear hHeld
          have hHeld := st.rd
          refine ⟨hHeld, ?_⟩
          generalize W3.drewN m9 = W4 at *
          try simp only [Act.put, List.setIfInBounds_toArray, List.set_cons_zero, List.set_cons_succ]
          refine wpAnyH_at (i := 6) (some 48) (v := ?v6z11) rfl rfl (by kernel_rfl) (by kernel_rfl) (by kernel_rfl) (fun _ _ _ h => h) (Or.inl ⟨by rfl, ?y6z11⟩) (by assumption) ?r6z11
          case y6z11 =>
            intro w9 hSw
            clear hSw
            go_simp
            all_goals with_reducible rfl
          simp only [Act.put, List.setIfInBounds_toArray, List.set_cons_zero, List.set_cons_succ]
          refine wpAnyH_one (i := 12) (by kernel_rfl) rfl ?_
          refine wpList_appD (some 54) rfl rfl (.tmp 52) (.tmp 53) 22 rfl (w.heap.size + 2) Tryd.underlying22 info5 (by omega) (some ⟨gE, 0, none⟩) 0 0 [] rfl o1 (some ⟨b, o, none⟩) n c w.heap.size xs rfl st.rd (by omega) st.sz ?_
          intro A1 n1 c1 W24 o2 hgr
          replace st := st.low (Nat.le_refl _) (grown_low o1 hgr st.sz)
          rw [List.nil_append] at o2
          clear hgr o1 hHeld
          have hHeld := st.rd
          go_wp2
          refine ⟨hHeld, ?_⟩
          try simp only [Act.put, List.setIfInBounds_toArray, List.set_cons_zero, List.set_cons_succ]
          refine wpAnyH_at (i := 13) (some 55) (v := pkV ⟨pf, pt, pl⟩ A1 n1 c1) rfl rfl (by kernel_rfl) (by kernel_rfl) (by kernel_rfl) (fun _ _ _ h => h) (Or.inl ⟨by rfl, fun w9 _ => ?_⟩) (by assumption) ?_
          · go_simp
          simp only [Act.put, List.setIfInBounds_toArray, List.set_cons_zero, List.set_cons_succ]
          refine wpAnyH_one (i := 15) (by kernel_rfl) rfl ?_
          refine wpList_stF rfl rfl 33 _ _ rfl w.heap.size (pkC ⟨pf, pt, pl⟩ A1 n1 c1) rfl rfl 33 _ st.z.z (by kernel_rfl) rfl (pkC_one ..) ?_
          intro wA fA hbA hoA hsA
          have yA := (hoA (w.heap.size + 1) (by omega)).trans st.z.y
          have bA := st.z.below.trans hbA
          have rA := st.rd.below hbA (Nat.le_refl _)
          replace o2 := o2.other (fun j hj => hoA j (by omega))
          clear hHeld hbA hoA hsA st
          go_wp2
          refine ⟨rA, ?_⟩
          refine wpAnyH_one (i := 16) (by kernel_rfl) rfl ?_
          refine wpList_stF rfl rfl 37 _ _ rfl (w.heap.size + 1) (flC none 0 0 0) rfl rfl 37 _ yA (by kernel_rfl) rfl (flC_one _ _ _ _) ?_
          intro wB fB hbB hoB hsB
          have zB : PkAt wB w.heap.size 33 ⟨pf, pt, pl⟩ A1 n1 c1 := (hoB w.heap.size (by omega)).trans fA
          have bB := bA.trans (hbB.mono (by omega))
          have rB := rA.below hbB (by omega)
          replace o2 := o2.other (fun j hj => hoB j (by omega))
          clear hbB hoB hsB bA rA yA fA
          go_wp2
          refine ⟨rB, ?_⟩
          refine wpAnyH_done (by kernel_rfl) ?_ _
          go_wp2
          obtain ⟨a0, a1, a2, a3⟩ := zB.cells
          have b0 : wB.cell? ⟨w.heap.size + 1, 0, none⟩ = some (.slice none 0 0) := blk_cell fB rfl
          have b1 : wB.cell? ⟨w.heap.size + 1, 1, none⟩ = some (.int .i64 0) := blk_cell fB rfl
          exact bodyPost_ret (v := .tuple #[pkV ⟨pf, pt, pl⟩ A1 n1 c1, .agg #[.slice none 0 0, .int .i64 0]]) (by simp [results, Tryd.results8, go_sem, b0, b1, a0, a1, a2, a3]) rfl ⟨bB, A1, n1, c1, rfl, o2.rebase (by omega)⟩
  · as_aux_lemma =>
      have hb2 := alloc_below W1 (.cells #[] 5)
      have o1 := Out.lit0 .u8 5 W1 (w.heap.size + 2) st.sz
      replace st := st.step hb2
      clear hHeld hb2
      have hHeld := st.rd
      go_wp2
      refine ⟨hHeld, ?_⟩
      change wpAnyH _ _ _ _ _ _ _ _ (W1.alloc (.cells #[] 5))
      generalize (W1.alloc (.cells #[] 5)) = W2 at *
      generalize W1.heap.size = gE at *
      try simp only [Act.put, List.setIfInBounds_toArray, List.set_cons_zero, List.set_cons_succ]
      refine wpAnyH_one (i := 1) (by kernel_rfl) rfl ?_
      go_wp2_with (go_at_call 25; refine (t0 _ st.rd).mono ?_; rintro ev w9 ⟨rfl, m9, rfl⟩)
      replace st := st.step (Still.drewN _ m9).below
      replace o1 := o1.below (Still.drewN _ m9).below (Nat.le_refl _)
      clear hHeld
      have hHeld := st.rd
      refine ⟨hHeld, ?_⟩
      generalize W2.drewN m9 = W3 at *
      try simp only [Act.put, List.setIfInBounds_toArray, List.set_cons_zero, List.set_cons_succ]
      refine wpAnyH_at (i := 2) (some 44) (v := ?v2z12) rfl rfl (by kernel_rfl) (by kernel_rfl) (by kernel_rfl) (fun _ _ _ h => h) (Or.inl ⟨by rfl, ?y2z12⟩) (by assumption) ?r2z12
      case y2z12 =>
        intro w9 hSw
        clear hSw
        go_simp
        all_goals with_reducible rfl
      simp only [Act.put, List.setIfInBounds_toArray, List.set_cons_zero, List.set_cons_succ]
      refine wpAnyH_one (i := 5) (by kernel_rfl) rfl ?_
      go_wp2_with (go_at_call 25; refine (t2 _ st.rd).mono ?_; rintro ev w9 ⟨rfl, m9, rfl⟩)
      replace st := st.step (Still.drewN _ m9).below
      replace o1 := o1.below (Still.drewN _ m9).below (Nat.le_refl _)
      clear hHeld
      have hHeld := st.rd
      refine ⟨hHeld, ?_⟩
      generalize W3.drewN m9 = W4 at *
      try simp only [Act.put, List.setIfInBounds_toArray, List.set_cons_zero, List.set_cons_succ]
      refine wpAnyH_at (i := 6) (some 48) (v := ?v6z13) rfl rfl (by kernel_rfl) (by kernel_rfl) (by kernel_rfl) (fun _ _ _ h => h) (Or.inl ⟨by rfl, ?y6z13⟩) (by assumption) ?r6z13
      case y6z13 =>
        intro w9 hSw
        clear hSw
        go_simp
        all_goals with_reducible rfl
      simp only [Act.put, List.setIfInBounds_toArray, List.set_cons_zero, List.set_cons_succ]
      refine wpAnyH_one (i := 12) (by kernel_rfl) rfl ?_
      refine wpList_appD (some 54) rfl rfl (.tmp 52) (.tmp 53) 22 rfl (w.heap.size + 2) Tryd.underlying22 info5 (by omega) (some ⟨gE, 0, none⟩) 0 0 [] rfl o1 (some ⟨b, o, none⟩) n c w.heap.size xs rfl st.rd (by omega) st.sz ?_
      intro A1 n1 c1 W24 o2 hgr
      replace st := st.low (Nat.le_refl _) (grown_low o1 hgr st.sz)
      rw [List.nil_append] at o2
      clear hgr o1 hHeld
      have hHeld := st.rd
      go_wp2
      refine ⟨hHeld, ?_⟩
      try simp only [Act.put, List.setIfInBounds_toArray, List.set_cons_zero, List.set_cons_succ]
      refine wpAnyH_at (i := 13) (some 55) (v := pkV ⟨pf, pt, pl⟩ A1 n1 c1) rfl rfl (by kernel_rfl) (by kernel_rfl) (by kernel_rfl) (fun _ _ _ h => h) (Or.inl ⟨by rfl, fun w9 _ => ?_⟩) (by assumption) ?_
      · go_simp
      simp only [Act.put, List.setIfInBounds_toArray, List.set_cons_zero, List.set_cons_succ]
      refine wpAnyH_one (i := 15) (by kernel_rfl) rfl ?_
      refine wpList_stF rfl rfl 33 _ _ rfl w.heap.size (pkC ⟨pf, pt, pl⟩ A1 n1 c1) rfl rfl 33 _ st.z.z (by kernel_rfl) rfl (pkC_one ..) ?_
      intro wA fA hbA hoA hsA
      have yA := (hoA (w.heap.size + 1) (by omega)).trans st.z.y
      have bA := st.z.below.trans hbA
      have rA := st.rd.below hbA (Nat.le_refl _)
      replace o2 := o2.other (fun j hj => hoA j (by omega))
      clear hHeld hbA hoA hsA st
      go_wp2
      refine ⟨rA, ?_⟩
      refine wpAnyH_one (i := 16) (by kernel_rfl) rfl ?_
      refine wpList_stF rfl rfl 37 _ _ rfl (w.heap.size + 1) (flC none 0 0 0) rfl rfl 37 _ yA (by kernel_rfl) rfl (flC_one _ _ _ _) ?_
      intro wB fB hbB hoB hsB
      have zB : PkAt wB w.heap.size 33 ⟨pf, pt, pl⟩ A1 n1 c1 := (hoB w.heap.size (by omega)).trans fA
      have bB := bA.trans (hbB.mono (by omega))
      have rB := rA.below hbB (by omega)
      replace o2 := o2.other (fun j hj => hoB j (by omega))
      clear hbB hoB hsB bA rA yA fA
      go_wp2
      refine ⟨rB, ?_⟩
      refine wpAnyH_done (by kernel_rfl) ?_ _
      go_wp2
      obtain ⟨a0, a1, a2, a3⟩ := zB.cells
      have b0 : wB.cell? ⟨w.heap.size + 1, 0, none⟩ = some (.slice none 0 0) := blk_cell fB rfl
      have b1 : wB.cell? ⟨w.heap.size + 1, 1, none⟩ = some (.int .i64 0) := blk_cell fB rfl
      exact bodyPost_ret (v := .tuple #[pkV ⟨pf, pt, pl⟩ A1 n1 c1, .agg #[.slice none 0 0, .int .i64 0]]) (by simp [results, Tryd.results8, go_sem, b0, b1, a0, a1, a2, a3]) rfl ⟨bB, A1, n1, c1, rfl, o2.rebase (by omega)⟩

theorem refParse_all (A : Option Addr) (n c : Nat) (xs : List Int) (f t : Int) (w : World) (hr : Rd .u8 w w.heap.size A n c xs) (hf : Ip f) (ht : Ip t) :
    (¬ (pE f t xs).2 = 0 ∧ Calls Tryd.prog 8 #[.slice A n c, .int .u32 f, .int .u32 t] w (GivesN w (pE f t xs).1 (pE f t xs).2)) ∨ ((pE f t xs).2 = 0 ∧ Calls Tryd.prog 8 #[.slice A n c, .int .u32 f, .int .u32 t] w (GivesY w (hdOf xs) xs)) := by
  have hl := hr.len
  rcases bE_cases xs with ⟨h1, e⟩ | hrest
  · left
    rw [pE_bad (by rw [e]; decide), e]
    exact ⟨by decide, refP_short A n c xs f t w hr (by omega)⟩
  have h20 : 20 ≤ n := by rw [← hl]; rcases hrest with h | h | h | h <;> exact h.1
  obtain ⟨b, o, rfl, -, -⟩ := hr.at_ (i := 0) (by omega)
  rw [hl] at hrest
  rcases hrest with ⟨_, h2, e⟩ | ⟨_, h2, h3, e⟩ | ⟨_, h2, h3, h4, e⟩ | ⟨_, h2, h3, h4, e⟩
  · left
    rw [pE_bad (by rw [e]; decide), e]
    exact ⟨by decide, refP_form b o n c xs f t w hr h20 h2⟩
  · left
    rw [pE_bad (by rw [e]; decide), e]
    exact ⟨by decide, refP_end b o n c xs f t w hr h20 h2 h3⟩
  · left
    rw [pE_bad (by rw [e]; decide), e]
    exact ⟨by decide, refP_far b o n c xs f t w hr h20 h2 h3 h4⟩
  · have h0 : (bE xs).2 = 0 := by rw [e]
    by_cases hs : sumB f t xs = true
    · right
      rw [pE_yes h0 hs]
      exact ⟨rfl, refP_good b o n c xs f t w hr h20 h2 h3 h4 hf ht hs⟩
    · left
      have hs' : sumB f t xs = false := by simpa using hs
      rw [pE_sum h0 hs']
      exact ⟨by decide, refP_sum b o n c xs f t w hr h20 h2 h3 h4 hf ht hs'⟩
end Go.Proofs.YtggnkmllbpgfoaaDoor
