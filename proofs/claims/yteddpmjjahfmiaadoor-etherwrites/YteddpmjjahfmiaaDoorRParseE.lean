/-
  Contract of the document's Parse, where there is an error.
-/
import Derived.Test.YteddpmjjahfmiaaDoorBytes
namespace Go.Proofs.YteddpmjjahfmiaaDoor
open Go.RowKit

theorem Rd.other {k : IntKind} {w w' : World} {g B : Nat} {A : Option Addr} {n c : Nat} {xs : List Int} (h : Rd k w B A n c xs) (ho : ∀ j, j ≠ g → w'.heap[j]? = w.heap[j]?) (hg : A = none ∨ ∃ ad, A = some ad ∧ ad.block ≠ g) : Rd k w' B A n c xs :=
  ⟨h.1, h.2.1, h.2.2.1, h.2.2.2.1, fun i hi => by
    obtain ⟨b, o', e, hb, hc⟩ := h.2.2.2.2 i hi
    refine ⟨b, o', e, hb, ?_⟩
    rcases hg with hg | ⟨ad, hg, hne⟩
    · rw [hg] at e; cases e
    · rw [e] at hg
      injection hg with hg
      subst hg
      exact (World.cell?_of_block (a := ⟨b, o' + i, none⟩) (ho b hne)).trans hc⟩
/-- A fault of the document's. -/
@[reducible] def flC (A : Option Addr) (n c : Nat) (e : Int) : Array Value := #[.slice A n c, .int .i64 e]
theorem flC_one (A : Option Addr) (n c : Nat) (e : Int) : (flC A n c e).all (·.oneCell') = true := by simp [Value.oneCell']
/-- What the document's calls answer with an error. -/
def GivesRE (w : World) (v : Value) (e : Int) (ev : Ending) (w' : World) : Prop :=
  ∃ A n c, ev = .returned (.tuple #[v, .agg #[.slice A n c, .int .i64 e]]) ∧ Rd .i64 w' w'.heap.size A n c [1] ∧ Below w.heap.size w w'
theorem refNew_one (e : Int) (he : ¬ e = 0) (w : World) : Calls Tryd.prog 25 #[.int .i64 1, .int .i64 e] w (GivesF w none [1] e) := by
  have := refNew_any 1 e w (by decide)
  rwa [if_neg (by simp [he, isR]), if_neg (by simp [he, isR])] at this
/-- The two answers' blocks, as they lie at first. -/
structure RZ (w W : World) : Prop where
  z : FrAt W w.heap.size 35 zero6 zero6 0 none 0 0
  y : W.heap[w.heap.size + 1]? = some (.cells (flC none 0 0 0) 39 (0, 0))
  below : Below w.heap.size w W
theorem RZ.step {w W V : World} (h : RZ w W) (hb : Below W.heap.size W V) : RZ w V := ⟨h.z.step hb, (hb.block _ (blk_lt h.y)).trans h.y, h.below.trans (hb.mono h.below.size)⟩
theorem RZ.start (w : World) : RZ w ((w.alloc (.cells (frC zero6 zero6 0 none 0 0) 35)).alloc (.cells (flC none 0 0 0) 39)) :=
  ⟨(FrAt.new w 35 zero6 zero6 0 none 0 0).step (alloc_below _ _), by simpa using heap_alloc_new (w.alloc (.cells (frC zero6 zero6 0 none 0 0) 35)) (.cells (flC none 0 0 0) 39), (alloc_below w _).alloc (by simp) _⟩
/-- Behind the two stores. -/
structure RE (w : World) (e : Int) (A : Option Addr) (n c : Nat) (W : World) : Prop where
  z : FrAt W w.heap.size 35 zero6 zero6 0 none 0 0
  y : W.heap[w.heap.size + 1]? = some (.cells (flC A n c e) 39 (0, 0))
  rd : Rd .i64 W W.heap.size A n c [1]
  below : Below w.heap.size w W
set_option maxHeartbeats 2000000 in
theorem refParse_short (A : Option Addr) (n c : Nat) (w : World) (hn : n < 14) : Calls Tryd.prog 10 #[.slice A n c] w (GivesRE w (frV zero6 zero6 0 none 0 0) 12) := by
  have st := RZ.start w
  go_enter Tryd.func10, Tryd.ntmps10
  go_wp2_with fail
  refine (refNew_one 12 (by decide) _).mono ?_
  rintro ev w1 ⟨A1, n1, c1, rfl, rd1, new1, hb1⟩
  replace st := st.step hb1
  have far : A1 = none ∨ ∃ ad, A1 = some ad ∧ w.heap.size + 2 ≤ ad.block := by
    rcases new1 with h | h | ⟨ad, h, h1, _⟩
    · exact .inl h
    · exact .inl h
    · exact .inr ⟨ad, h, by simpa using h1⟩
  have fin : ∀ (w2 : World), w2.heap[w.heap.size]? = some (.cells (frC zero6 zero6 0 none 0 0) 35 (0, 0)) → Below w.heap.size w1 w2 → (∀ j, j ≠ w.heap.size → w2.heap[j]? = w1.heap[j]?) → w2.heap.size = w1.heap.size → RZ w w2 ∧ Rd .i64 w2 w2.heap.size A1 n1 c1 [1] := fun w2 h1 h2 h3 h4 =>
    ⟨⟨h1, (h3 _ (by omega)).trans st.y, st.below.trans h2⟩, by rw [h4]; exact rd1.other h3 (far.imp id fun ⟨ad, h, h'⟩ => ⟨ad, h, by omega⟩)⟩
  have fin2 : ∀ (w2 w3 : World), RZ w w2 → Rd .i64 w2 w2.heap.size A1 n1 c1 [1] → w3.heap[w.heap.size + 1]? = some (.cells (flC A1 n1 c1 12) 39 (0, 0)) → Below (w.heap.size + 1) w2 w3 → (∀ j, j ≠ w.heap.size + 1 → w3.heap[j]? = w2.heap[j]?) → w3.heap.size = w2.heap.size → RE w 12 A1 n1 c1 w3 := fun w2 w3 z2 r2 h1 h2 h3 h4 =>
    ⟨z2.z.below h2 (by omega), h1, by rw [h4]; exact r2.other h3 (far.imp id fun ⟨ad, h, h'⟩ => ⟨ad, h, by omega⟩), z2.below.trans (h2.mono (by omega))⟩
  have z1 := st.z
  clear hb1 new1 far rd1
  go_wp2_with (first
    | (refine wpList_stF rfl rfl 35 _ _ rfl w.heap.size (frC zero6 zero6 0 none 0 0) rfl rfl 35 _ z1 (by kernel_rfl) rfl (frC_one _ _ _ _ _ _) ?_; intro w2 f2 hb2 ho2 hs2; obtain ⟨z2, r2⟩ := fin w2 f2 hb2 ho2 hs2; clear fin f2 hb2 ho2 hs2; have y2 := z2.y)
    | (refine wpList_stF rfl rfl 39 _ _ rfl (w.heap.size + 1) (flC A1 n1 c1 12) rfl rfl 39 _ y2 (by kernel_rfl) rfl (flC_one _ _ _ _) ?_; intro w3 f3 hb3 ho3 hs3; have re := fin2 w2 w3 z2 r2 f3 hb3 ho3 hs3; clear fin2 f3 hb3 ho3 hs3 y2))
  obtain ⟨a0, a1, a2, a3, a4, a5, a6, a7, a8, a9, a10, a11, a12, a13⟩ := re.z.cells
  have b0 : w3.cell? ⟨w.heap.size + 1, 0, none⟩ = some (.slice A1 n1 c1) := blk_cell re.y rfl
  have b1 : w3.cell? ⟨w.heap.size + 1, 1, none⟩ = some (.int .i64 12) := blk_cell re.y rfl
  exact bodyPost_ret (v := .tuple #[frV zero6 zero6 0 none 0 0, .agg #[.slice A1 n1 c1, .int .i64 12]]) (by simp [results, Tryd.results10, go_sem, *]) rfl ⟨A1, n1, c1, rfl, re.rd, re.below⟩
set_option maxHeartbeats 2000000 in
theorem refParse_long (A : Option Addr) (n c : Nat) (w : World) (hn : 1514 < n) : Calls Tryd.prog 10 #[.slice A n c] w (GivesRE w (frV zero6 zero6 0 none 0 0) 11) := by
  have st := RZ.start w
  go_enter Tryd.func10, Tryd.ntmps10
  go_wp2_with fail
  refine (refNew_one 11 (by decide) _).mono ?_
  rintro ev w1 ⟨A1, n1, c1, rfl, rd1, new1, hb1⟩
  replace st := st.step hb1
  have far : A1 = none ∨ ∃ ad, A1 = some ad ∧ w.heap.size + 2 ≤ ad.block := by
    rcases new1 with h | h | ⟨ad, h, h1, _⟩
    · exact .inl h
    · exact .inl h
    · exact .inr ⟨ad, h, by simpa using h1⟩
  have fin : ∀ (w2 : World), w2.heap[w.heap.size]? = some (.cells (frC zero6 zero6 0 none 0 0) 35 (0, 0)) → Below w.heap.size w1 w2 → (∀ j, j ≠ w.heap.size → w2.heap[j]? = w1.heap[j]?) → w2.heap.size = w1.heap.size → RZ w w2 ∧ Rd .i64 w2 w2.heap.size A1 n1 c1 [1] := fun w2 h1 h2 h3 h4 =>
    ⟨⟨h1, (h3 _ (by omega)).trans st.y, st.below.trans h2⟩, by rw [h4]; exact rd1.other h3 (far.imp id fun ⟨ad, h, h'⟩ => ⟨ad, h, by omega⟩)⟩
  have fin2 : ∀ (w2 w3 : World), RZ w w2 → Rd .i64 w2 w2.heap.size A1 n1 c1 [1] → w3.heap[w.heap.size + 1]? = some (.cells (flC A1 n1 c1 11) 39 (0, 0)) → Below (w.heap.size + 1) w2 w3 → (∀ j, j ≠ w.heap.size + 1 → w3.heap[j]? = w2.heap[j]?) → w3.heap.size = w2.heap.size → RE w 11 A1 n1 c1 w3 := fun w2 w3 z2 r2 h1 h2 h3 h4 =>
    ⟨z2.z.below h2 (by omega), h1, by rw [h4]; exact r2.other h3 (far.imp id fun ⟨ad, h, h'⟩ => ⟨ad, h, by omega⟩), z2.below.trans (h2.mono (by omega))⟩
  have z1 := st.z
  clear hb1 new1 far rd1
  go_wp2_with (first
    | (refine wpList_stF rfl rfl 35 _ _ rfl w.heap.size (frC zero6 zero6 0 none 0 0) rfl rfl 35 _ z1 (by kernel_rfl) rfl (frC_one _ _ _ _ _ _) ?_; intro w2 f2 hb2 ho2 hs2; obtain ⟨z2, r2⟩ := fin w2 f2 hb2 ho2 hs2; clear fin f2 hb2 ho2 hs2; have y2 := z2.y)
    | (refine wpList_stF rfl rfl 39 _ _ rfl (w.heap.size + 1) (flC A1 n1 c1 11) rfl rfl 39 _ y2 (by kernel_rfl) rfl (flC_one _ _ _ _) ?_; intro w3 f3 hb3 ho3 hs3; have re := fin2 w2 w3 z2 r2 f3 hb3 ho3 hs3; clear fin2 f3 hb3 ho3 hs3 y2))
  obtain ⟨a0, a1, a2, a3, a4, a5, a6, a7, a8, a9, a10, a11, a12, a13⟩ := re.z.cells
  have b0 : w3.cell? ⟨w.heap.size + 1, 0, none⟩ = some (.slice A1 n1 c1) := blk_cell re.y rfl
  have b1 : w3.cell? ⟨w.heap.size + 1, 1, none⟩ = some (.int .i64 11) := blk_cell re.y rfl
  exact bodyPost_ret (v := .tuple #[frV zero6 zero6 0 none 0 0, .agg #[.slice A1 n1 c1, .int .i64 11]]) (by simp [results, Tryd.results10, go_sem, *]) rfl ⟨A1, n1, c1, rfl, re.rd, re.below⟩
set_option maxHeartbeats 2000000 in
theorem refParse_group (A : Option Addr) (n c : Nat) (w : World) (xs : List Int) (hr : Rd .u8 w w.heap.size A n c xs) (hn : 14 ≤ n) (hm : n ≤ 1514) (hg : grpV (six (xs.drop 6)) = true) : Calls Tryd.prog 10 #[.slice A n c] w (GivesRE w (frV zero6 zero6 0 none 0 0) 10) := by
  obtain ⟨b, o, rfl, hb, hc6⟩ := hr.at_ (i := 6) (by omega)
  have hx6 := u8_bd (hr.wf (i := 6) (by omega))
  have hg6 : (xs.getD 6 0 % 2 == 1) = true := by
    have e : (six (xs.drop 6)).a = xs.getD 6 0 := by simp [six, List.getD]
    have h := hg
    unfold grpV at h
    rwa [e] at h
  have hmax := hr.max
  have hcap := hr.cap
  generalize xs.getD 6 0 = x at *
  have i6 : (6 : Int) < (n : Int) := by omega
  clear hr hg
  have st := RZ.start w
  go_enter Tryd.func10, Tryd.ntmps10
  go_wp2_with fail
  refine (refNew_one 10 (by decide) _).mono ?_
  rintro ev w1 ⟨A1, n1, c1, rfl, rd1, new1, hb1⟩
  replace st := st.step hb1
  have far : A1 = none ∨ ∃ ad, A1 = some ad ∧ w.heap.size + 2 ≤ ad.block := by
    rcases new1 with h | h | ⟨ad, h, h1, _⟩
    · exact .inl h
    · exact .inl h
    · exact .inr ⟨ad, h, by simpa using h1⟩
  have fin : ∀ (w2 : World), w2.heap[w.heap.size]? = some (.cells (frC zero6 zero6 0 none 0 0) 35 (0, 0)) → Below w.heap.size w1 w2 → (∀ j, j ≠ w.heap.size → w2.heap[j]? = w1.heap[j]?) → w2.heap.size = w1.heap.size → RZ w w2 ∧ Rd .i64 w2 w2.heap.size A1 n1 c1 [1] := fun w2 h1 h2 h3 h4 =>
    ⟨⟨h1, (h3 _ (by omega)).trans st.y, st.below.trans h2⟩, by rw [h4]; exact rd1.other h3 (far.imp id fun ⟨ad, h, h'⟩ => ⟨ad, h, by omega⟩)⟩
  have fin2 : ∀ (w2 w3 : World), RZ w w2 → Rd .i64 w2 w2.heap.size A1 n1 c1 [1] → w3.heap[w.heap.size + 1]? = some (.cells (flC A1 n1 c1 10) 39 (0, 0)) → Below (w.heap.size + 1) w2 w3 → (∀ j, j ≠ w.heap.size + 1 → w3.heap[j]? = w2.heap[j]?) → w3.heap.size = w2.heap.size → RE w 10 A1 n1 c1 w3 := fun w2 w3 z2 r2 h1 h2 h3 h4 =>
    ⟨z2.z.below h2 (by omega), h1, by rw [h4]; exact r2.other h3 (far.imp id fun ⟨ad, h, h'⟩ => ⟨ad, h, by omega⟩), z2.below.trans (h2.mono (by omega))⟩
  have z1 := st.z
  clear hb1 new1 far rd1
  go_wp2_with (first
    | (refine wpList_stF rfl rfl 35 _ _ rfl w.heap.size (frC zero6 zero6 0 none 0 0) rfl rfl 35 _ z1 (by kernel_rfl) rfl (frC_one _ _ _ _ _ _) ?_; intro w2 f2 hb2 ho2 hs2; obtain ⟨z2, r2⟩ := fin w2 f2 hb2 ho2 hs2; clear fin f2 hb2 ho2 hs2; have y2 := z2.y)
    | (refine wpList_stF rfl rfl 39 _ _ rfl (w.heap.size + 1) (flC A1 n1 c1 10) rfl rfl 39 _ y2 (by kernel_rfl) rfl (flC_one _ _ _ _) ?_; intro w3 f3 hb3 ho3 hs3; have re := fin2 w2 w3 z2 r2 f3 hb3 ho3 hs3; clear fin2 f3 hb3 ho3 hs3 y2))
  obtain ⟨a0, a1, a2, a3, a4, a5, a6, a7, a8, a9, a10, a11, a12, a13⟩ := re.z.cells
  have b0 : w3.cell? ⟨w.heap.size + 1, 0, none⟩ = some (.slice A1 n1 c1) := blk_cell re.y rfl
  have b1 : w3.cell? ⟨w.heap.size + 1, 1, none⟩ = some (.int .i64 10) := blk_cell re.y rfl
  exact bodyPost_ret (v := .tuple #[frV zero6 zero6 0 none 0 0, .agg #[.slice A1 n1 c1, .int .i64 10]]) (by simp [results, Tryd.results10, go_sem, *]) rfl ⟨A1, n1, c1, rfl, re.rd, re.below⟩
end Go.Proofs.YteddpmjjahfmiaaDoor
