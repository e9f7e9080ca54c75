/-
  Contract of the document's Parse.
-/
import Derived.Test.YtgjfhgipgcdddaaDoorParse
import Derived.Test.YtgjfhgipgcdddaaDoorRefF
namespace Go.Proofs.YtgjfhgipgcdddaaDoor
open Go.RowKit

theorem Rd.other {k : IntKind} {w w' : World} {g B : Nat} {A : Option Addr} {n c : Nat} {xs : List Int} (h : Rd k w B A n c xs) (ho : ∀ j, j ≠ g → w'.heap[j]? = w.heap[j]?) (hg : A = none ∨ ∃ ad, A = some ad ∧ ad.block ≠ g) : Rd k w' B A n c xs :=
  ⟨h.1, h.2.1, h.2.2.1, h.2.2.2.1, fun i hi => by
    obtain ⟨b, o', e, hb, hc⟩ := h.2.2.2.2 i hi
    refine ⟨b, o', e, hb, ?_⟩
    rcases hg with hg | ⟨ad, hg, hne⟩
    · rw [hg] at e; cases e
    · rw [e] at hg
      injection hg with hg
      subst hg
      exact (World.cell?_of_block (a := ⟨b, o' + i, none⟩) (ho b hne)).trans hc⟩
/-- A fault of the document's. -/
@[reducible] def flC (A : Option Addr) (n c : Nat) (e : Int) : Array Value := #[.slice A n c, .int .i64 e]
theorem flC_one (A : Option Addr) (n c : Nat) (e : Int) : (flC A n c e).all (·.oneCell') = true := by simp [Value.oneCell']
theorem refNew_at (r e : Int) (hwf : (Lit.int .i64 r).wf = true) (hr : isR r = true) (he : ¬ e = 0) (w : World) : Calls Tryd.prog 26 #[.int .i64 r, .int .i64 e] w (GivesF w none [r] e) := by
  have := refNew_any r e w hwf
  rwa [if_neg (by simp [he, hr]), if_neg (by simp [he, hr])] at this
/-- What the document's Parse answers. -/
def GivesRP (w : World) (xs : List Int) (ev : Ending) (w' : World) : Prop :=
  Below w.heap.size w w' ∧ ((¬ (pE xs).2 = 0 ∧ ∃ A n c, ev = .returned (.tuple #[zeroP, .agg #[.slice A n c, .int .i64 (pE xs).2]]) ∧ Rd .i64 w' w'.heap.size A n c [(pE xs).1]) ∨ ((pE xs).2 = 0 ∧ ev = .returned (.tuple #[pkOf xs, .agg #[.slice none 0 0, .int .i64 0]])))
/-- The two answers' blocks, as they lie at first. -/
structure RZ (w W : World) : Prop where
  z : PkAt W w.heap.size 35 0 zero6 0 zero6 0
  y : W.heap[w.heap.size + 1]? = some (.cells (flC none 0 0 0) 39 (0, 0))
  below : Below w.heap.size w W
theorem RZ.step {w W V : World} (h : RZ w W) (hb : Below W.heap.size W V) : RZ w V := ⟨h.z.step hb, (hb.block _ (blk_lt h.y)).trans h.y, h.below.trans (hb.mono h.below.size)⟩
theorem RZ.start (w : World) : RZ w ((w.alloc (.cells (pkC 0 zero6 0 zero6 0) 35)).alloc (.cells (flC none 0 0 0) 39)) :=
  ⟨(PkAt.new w 35 0 zero6 0 zero6 0).step (alloc_below _ _), by simpa using heap_alloc_new (w.alloc (.cells (pkC 0 zero6 0 zero6 0) 35)) (.cells (flC none 0 0 0) 39), (alloc_below w _).alloc (by simp) _⟩
/-- Behind the two stores. -/
structure RE (w : World) (r e : Int) (A : Option Addr) (n c : Nat) (W : World) : Prop where
  z : PkAt W w.heap.size 35 0 zero6 0 zero6 0
  y : W.heap[w.heap.size + 1]? = some (.cells (flC A n c e) 39 (0, 0))
  rd : Rd .i64 W W.heap.size A n c [r]
  below : Below w.heap.size w W
/-- What the walk knows ahead of the packet. -/
structure R0 (w : World) (A : Option Addr) (n c : Nat) (xs : List Int) (W : World) : Prop where
  z : RZ w W
  rd : Rd .u8 W w.heap.size A n c xs
  sz : w.heap.size + 2 ≤ W.heap.size
/-- And behind it: its block g. -/
structure RK (w : World) (A : Option Addr) (n c : Nat) (xs : List Int) (g : Nat) (op : Int) (m : Mac6) (ip : Int) (t : Mac6) (ti : Int) (W : World) : Prop where
  z : RZ w W
  rd : Rd .u8 W w.heap.size A n c xs
  pk : PkAt W g 35 op m ip t ti
  ng : w.heap.size + 1 < g
section
variable {w W V : World} {A : Option Addr} {n c g : Nat} {xs : List Int} {op op' : Int} {m m' : Mac6} {ip ip' : Int} {t t' : Mac6} {ti ti' : Int}
theorem R0.step (h : R0 w A n c xs W) (hb : Below W.heap.size W V) : R0 w A n c xs V := ⟨h.z.step hb, h.rd.below hb h.z.below.size, Nat.le_trans h.sz hb.size⟩
theorem R0.alloc (h : R0 w A n c xs W) : RK w A n c xs W.heap.size 0 zero6 0 zero6 0 (W.alloc (.cells (pkC 0 zero6 0 zero6 0) 35)) :=
  ⟨h.z.step (alloc_below _ _), h.rd.below (alloc_below _ _) h.z.below.size, PkAt.new W 35 0 zero6 0 zero6 0, h.sz⟩
theorem RK.step (h : RK w A n c xs g op m ip t ti W) (hb : Below W.heap.size W V) : RK w A n c xs g op m ip t ti V := ⟨h.z.step hb, h.rd.below hb h.z.below.size, h.pk.step hb, h.ng⟩
theorem RK.only (h : RK w A n c xs g op m ip t ti W) (ho : Only g W V) (hp : PkAt V g 35 op' m' ip' t' ti') : RK w A n c xs g op' m' ip' t' ti' V :=
  ⟨⟨h.z.z.below ho.below (by have := h.ng; omega), (ho.other _ (by have := h.ng; omega)).trans h.z.y, h.z.below.trans (ho.below.mono (by have := h.ng; omega))⟩, h.rd.below ho.below (by have := h.ng; omega), hp, h.ng⟩
end
theorem blk_set {w : World} {g : Nat} {cs : Array Value} {t : TypeId} (h : w.heap[g]? = some (.cells cs t (0, 0))) (i : Nat) (v : Value) : (w.setCell ⟨g, i, none⟩ v).heap[g]? = some (.cells (cs.setIfInBounds i v) t (0, 0)) := by
  simp [World.setCell, Array.getElem?_modify, h]
/-- The first j of six, noughts behind them. -/
def fill (j : Nat) (m : Mac6) : Mac6 := ⟨if 0 < j then m.a else 0, if 1 < j then m.b else 0, if 2 < j then m.c else 0, if 3 < j then m.d else 0, if 4 < j then m.e else 0, if 5 < j then m.f else 0⟩
theorem fill_6 (m : Mac6) : fill 6 m = m := by simp [fill]
theorem Row.rdAll {w : World} {g : Nat} {xs : List Int} {n : Nat} (h : Row w g xs) (hn : xs.length = n) (hm : n ≤ 100000) (hw : ∀ x ∈ xs, (Lit.int .u8 x).wf = true) : Rd .u8 w w.heap.size (some ⟨g, 0, none⟩) n n xs := by
  have := h.rd 0 n n (by omega) (Nat.le_refl _) (by unfold maxLen; omega) hw
  rwa [List.drop_zero, List.take_of_length_le (by omega)] at this
theorem RK.put0 {w W : World} {A : Option Addr} {n c : Nat} {xs : List Int} {g : Nat} {op ip ti : Int} {t f : Mac6} (h : RK w A n c xs g op (fill 0 t) ip (fill 0 f) ti W) : RK w A n c xs g op (fill 1 t) ip (fill 1 f) ti ((W.setCell ⟨g, 1, none⟩ (.int .u8 t.a)).setCell ⟨g, 8, none⟩ (.int .u8 f.a)) :=
  h.only ((Only.setCell g 1 W _).trans (Only.setCell g 8 _ _)) (blk_set (blk_set h.pk 1 _) 8 _)
theorem RK.put1 {w W : World} {A : Option Addr} {n c : Nat} {xs : List Int} {g : Nat} {op ip ti : Int} {t f : Mac6} (h : RK w A n c xs g op (fill 1 t) ip (fill 1 f) ti W) : RK w A n c xs g op (fill 2 t) ip (fill 2 f) ti ((W.setCell ⟨g, 2, none⟩ (.int .u8 t.b)).setCell ⟨g, 9, none⟩ (.int .u8 f.b)) :=
  h.only ((Only.setCell g 2 W _).trans (Only.setCell g 9 _ _)) (blk_set (blk_set h.pk 2 _) 9 _)
theorem RK.put2 {w W : World} {A : Option Addr} {n c : Nat} {xs : List Int} {g : Nat} {op ip ti : Int} {t f : Mac6} (h : RK w A n c xs g op (fill 2 t) ip (fill 2 f) ti W) : RK w A n c xs g op (fill 3 t) ip (fill 3 f) ti ((W.setCell ⟨g, 3, none⟩ (.int .u8 t.c)).setCell ⟨g, 10, none⟩ (.int .u8 f.c)) :=
  h.only ((Only.setCell g 3 W _).trans (Only.setCell g 10 _ _)) (blk_set (blk_set h.pk 3 _) 10 _)
theorem RK.put3 {w W : World} {A : Option Addr} {n c : Nat} {xs : List Int} {g : Nat} {op ip ti : Int} {t f : Mac6} (h : RK w A n c xs g op (fill 3 t) ip (fill 3 f) ti W) : RK w A n c xs g op (fill 4 t) ip (fill 4 f) ti ((W.setCell ⟨g, 4, none⟩ (.int .u8 t.d)).setCell ⟨g, 11, none⟩ (.int .u8 f.d)) :=
  h.only ((Only.setCell g 4 W _).trans (Only.setCell g 11 _ _)) (blk_set (blk_set h.pk 4 _) 11 _)
theorem RK.put4 {w W : World} {A : Option Addr} {n c : Nat} {xs : List Int} {g : Nat} {op ip ti : Int} {t f : Mac6} (h : RK w A n c xs g op (fill 4 t) ip (fill 4 f) ti W) : RK w A n c xs g op (fill 5 t) ip (fill 5 f) ti ((W.setCell ⟨g, 5, none⟩ (.int .u8 t.e)).setCell ⟨g, 12, none⟩ (.int .u8 f.e)) :=
  h.only ((Only.setCell g 5 W _).trans (Only.setCell g 12 _ _)) (blk_set (blk_set h.pk 5 _) 12 _)
theorem RK.put5 {w W : World} {A : Option Addr} {n c : Nat} {xs : List Int} {g : Nat} {op ip ti : Int} {t f : Mac6} (h : RK w A n c xs g op (fill 5 t) ip (fill 5 f) ti W) : RK w A n c xs g op (fill 6 t) ip (fill 6 f) ti ((W.setCell ⟨g, 6, none⟩ (.int .u8 t.f)).setCell ⟨g, 13, none⟩ (.int .u8 f.f)) :=
  h.only ((Only.setCell g 6 W _).trans (Only.setCell g 13 _ _)) (blk_set (blk_set h.pk 6 _) 13 _)

set_option maxHeartbeats 2000000 in
theorem refParse_short (A : Option Addr) (n c : Nat) (xs : List Int) (w : World) (hn : n < 28) (hE : pE xs = (1, 12)) : Calls Tryd.prog 10 #[.slice A n c] w (GivesRP w xs) := by
  have st0 : RZ w ((w.alloc (.cells (pkC 0 zero6 0 zero6 0) 35)).alloc (.cells (flC none 0 0 0) 39)) ∧ w.heap.size + 2 ≤ ((w.alloc (.cells (pkC 0 zero6 0 zero6 0) 35)).alloc (.cells (flC none 0 0 0) 39)).heap.size := ⟨RZ.start w, by simp⟩
  go_enter Tryd.func10, Tryd.ntmps10
  go_wp2_with fail
  refine (refNew_at 1 12 (by decide) (by decide) (by decide) _).mono ?_
  rintro ev w1 ⟨A1, n1, c1, rfl, rd1, new1, hb1⟩
  have hsz := st0.2
  have st := st0.1.step hb1
  have far : A1 = none ∨ ∃ ad, A1 = some ad ∧ w.heap.size + 2 ≤ ad.block := by
    rcases new1 with h | h | ⟨ad, h, h1, _⟩
    · exact .inl h
    · exact .inl h
    · exact .inr ⟨ad, h, Nat.le_trans hsz h1⟩
  have fin : ∀ (w2 : World), w2.heap[w.heap.size]? = some (.cells (pkC 0 zero6 0 zero6 0) 35 (0, 0)) → Below w.heap.size w1 w2 → (∀ j, j ≠ w.heap.size → w2.heap[j]? = w1.heap[j]?) → w2.heap.size = w1.heap.size → RZ w w2 ∧ Rd .i64 w2 w2.heap.size A1 n1 c1 [1] := fun w2 h1 h2 h3 h4 =>
    ⟨⟨h1, (h3 _ (by omega)).trans st.y, st.below.trans h2⟩, by rw [h4]; exact rd1.other h3 (far.imp id fun ⟨ad, h, h'⟩ => ⟨ad, h, by omega⟩)⟩
  have fin2 : ∀ (w2 w3 : World), RZ w w2 → Rd .i64 w2 w2.heap.size A1 n1 c1 [1] → w3.heap[w.heap.size + 1]? = some (.cells (flC A1 n1 c1 12) 39 (0, 0)) → Below (w.heap.size + 1) w2 w3 → (∀ j, j ≠ w.heap.size + 1 → w3.heap[j]? = w2.heap[j]?) → w3.heap.size = w2.heap.size → RE w 1 12 A1 n1 c1 w3 := fun w2 w3 z2 r2 h1 h2 h3 h4 =>
    ⟨z2.z.below h2 (by omega), h1, by rw [h4]; exact r2.other h3 (far.imp id fun ⟨ad, h, h'⟩ => ⟨ad, h, by omega⟩), z2.below.trans (h2.mono (by omega))⟩
  have z1 := st.z
  clear hb1 new1 far rd1
  go_wp2_with (first
    | (refine wpList_stF rfl rfl 35 _ _ rfl w.heap.size (pkC 0 zero6 0 zero6 0) rfl rfl 35 _ z1 (by kernel_rfl) rfl (pkC_one ..) ?_; intro w2 f2 hb2 ho2 hs2; obtain ⟨z2, r2⟩ := fin w2 f2 hb2 ho2 hs2; clear fin f2 hb2 ho2 hs2; have y2 := z2.y)
    | (refine wpList_stF rfl rfl 39 _ _ rfl (w.heap.size + 1) (flC A1 n1 c1 12) rfl rfl 39 _ y2 (by kernel_rfl) rfl (flC_one _ _ _ _) ?_; intro w3 f3 hb3 ho3 hs3; have re := fin2 w2 w3 z2 r2 f3 hb3 ho3 hs3; clear fin2 f3 hb3 ho3 hs3 y2))
  obtain ⟨a0, a1, a2, a3, a4, a5, a6, a7, a8, a9, a10, a11, a12, a13, a14⟩ := re.z.cells
  have b0 : w3.cell? ⟨w.heap.size + 1, 0, none⟩ = some (.slice A1 n1 c1) := blk_cell re.y rfl
  have b1 : w3.cell? ⟨w.heap.size + 1, 1, none⟩ = some (.int .i64 12) := blk_cell re.y rfl
  exact bodyPost_ret (v := .tuple #[zeroP, .agg #[.slice A1 n1 c1, .int .i64 12]]) (by simp [results, Tryd.results10, go_sem, *]) rfl ⟨re.below, .inl ⟨by rw [hE]; decide, A1, n1, c1, by rw [hE], by rw [hE]; exact re.rd⟩⟩

theorem op_case (q : Int) : (q < 1 ∧ opB q = false) ∨ (¬ q < 1 ∧ 2 < q ∧ opB q = false) ∨ (¬ q < 1 ∧ ¬ 2 < q ∧ opB q = true) := by
  unfold opB
  by_cases h1 : q < 1
  · exact .inl ⟨h1, by simp; omega⟩
  · by_cases h2 : 2 < q
    · exact .inr (.inl ⟨h1, h2, by simp; omega⟩)
    · exact .inr (.inr ⟨h1, h2, by simp; omega⟩)

set_option maxRecDepth 100000 in
set_option maxHeartbeats 4000000 in
theorem refParse_long (A : Option Addr) (n c : Nat) (xs : List Int) (w : World) (hr : Rd .u8 w w.heap.size A n c xs) (h28 : 28 ≤ n) : Calls Tryd.prog 10 #[.slice A n c] w (GivesRP w xs) := by
  obtain ⟨b, o, rfl, hb, -⟩ := hr.at_ (i := 6) (by omega)
  have hx6 := u8_bd (hr.wf (i := 6) (by omega))
  have hx7 := u8_bd (hr.wf (i := 7) (by omega))
  have hx8 := u8_bd (hr.wf (i := 8) (by omega))
  have hcap := hr.cap
  have hmax := hr.max
  have HC := pE_cases xs
  rw [hr.len] at HC
  have Hg : Hid (grpV (six (xs.drop 8)) = (xs.getD 8 0 % 2 == 1)) := Lib.hid (by unfold grpV; rw [six_at])
  obtain ⟨v, hv⟩ : ∃ v : Nat → Int, ∀ i, v i = xs.getD i 0 := ⟨_, fun _ => rfl⟩
  have hT : Hid (six (xs.drop 8) = (⟨v 8, v 9, v 10, v 11, v 12, v 13⟩ : Mac6)) := Lib.hid (by simp [six, hv, List.getD])
  have hF : Hid (six (xs.drop 18) = (⟨v 18, v 19, v 20, v 21, v 22, v 23⟩ : Mac6)) := Lib.hid (by simp [six, hv, List.getD])
  have Hk : Hid (opOf xs = v 6 * 256 + v 7) := Lib.hid (by simp [opOf, hv])
  rw [← hv] at hx6 hx7 hx8 Hg
  have Hc : Hid (∀ W, Rd .u8 W w.heap.size (some ⟨b, o, none⟩) n c xs → ∀ i, i < 28 → W.cell? ⟨b, o + i, none⟩ = some (.int .u8 (v i))) := Lib.hid (by
    intro W h i hi
    obtain ⟨b', o', e', -, hc⟩ := h.at_ (i := i) (by omega)
    injection e' with e'
    injection e' with e1 e2
    subst e1 e2
    rw [hv]
    exact hc)
  clear hv
  replace HC := Lib.hid HC
  have f3 := str_eq (hr.cutTo 6 (by omega)).2.2.2.1 head6_wf
  have v1 : IntKind.i64.wrap (v 6) = v 6 := by rw [IntKind.wrap_i64]; omega
  have v2 : IntKind.i64.wrap (v 7) = v 7 := by rw [IntKind.wrap_i64]; omega
  have v3 : IntKind.i64.wrap (v 6 * 256) = v 6 * 256 := by rw [IntKind.wrap_i64]; omega
  have v4 : IntKind.i64.wrap (v 6 * 256 + v 7) = v 6 * 256 + v 7 := by rw [IntKind.wrap_i64]; omega
  have i1 : (6 : Int) < (n : Int) := by omega
  have i2 : (7 : Int) < (n : Int) := by omega
  have i8 : (8 : Int) < (n : Int) := by omega
  have i3 : ¬ (n : Int) < 28 := by omega
  have j6 : (6 : Int) ≤ (n : Int) := by omega
  have j6c : (6 : Int) ≤ (c : Int) := by omega
  have k14 : ¬ c = 14 := by omega
  have j14 : (14 : Int) ≤ (n : Int) := by omega
  have k24 : ¬ c = 24 := by omega
  have j24 : (24 : Int) ≤ (n : Int) := by omega
  have r0 : R0 w (some ⟨b, o, none⟩) n c xs ((w.alloc (.cells (pkC 0 zero6 0 zero6 0) 35)).alloc (.cells (flC none 0 0 0) 39)) := ⟨RZ.start w, hr.below (RZ.start w).below (Nat.le_refl _), by simp⟩
  clear hr
  go_enter Tryd.func10, Tryd.ntmps10
  go_wp2_with fail
  go_cut [4] from 12 to 21 (fun x4 wc => x4 = .int .i64 (opOf xs) ∧ R0 w (some ⟨b, o, none⟩) n c xs wc)
  case first =>
    refine wp_region_held_drew (S := fun w' => R0 w (some ⟨b, o, none⟩) n c xs w') (by kernel_rfl) (r0.step (below_drew _)) (fun hHeld => ?_)
    change wpAnyH _ _ _ _ _ _ _ _ ((w.alloc (.cells (pkC 0 zero6 0 zero6 0) 35)).alloc (.cells (flC none 0 0 0) 39)).drew
    clear r0
    generalize ((w.alloc (.cells (pkC 0 zero6 0 zero6 0) 35)).alloc (.cells (flC none 0 0 0) 39)).drew = W1 at *
    refine wpAnyH_at (i := 0) (some 12) (v := ?v0z1) rfl rfl (by kernel_rfl) (by kernel_rfl) (by kernel_rfl) (fun _ _ _ h => h) (Or.inl ⟨by rfl, ?y0z1⟩) (by assumption) ?r0z1
    case y0z1 =>
      intro w9 hSw
      clear hSw
      go_simp
      all_goals with_reducible rfl
    simp only [Act.put, List.setIfInBounds_toArray, List.set_cons_zero, List.set_cons_succ]
    refine wpAnyH_at (i := 1) (some 13) (v := ?v1z2) rfl rfl (by kernel_rfl) (by kernel_rfl) (by kernel_rfl) (fun _ _ _ h => h) (Or.inl ⟨by rfl, ?y1z2⟩) (by assumption) ?r1z2
    case y1z2 =>
      intro w9 hSw
      clear hSw
      go_simp
      all_goals with_reducible rfl
    simp only [Act.put, List.setIfInBounds_toArray, List.set_cons_zero, List.set_cons_succ]
    refine wpAnyH_at (i := 2) (some 14) (v := ?v2z3) rfl rfl (by kernel_rfl) (by kernel_rfl) (by kernel_rfl) (fun _ _ _ h => h) (Or.inl ⟨by rfl, ?y2z3⟩) (by assumption) ?r2z3
    case y2z3 =>
      intro w9 hSw
      have p1 := Hc.out _ (show R0 w (some ⟨b, o, none⟩) n c xs w9 from hSw).rd 6 (by omega); clear hSw
      go_simp
      all_goals with_reducible rfl
    simp only [Act.put, List.setIfInBounds_toArray, List.set_cons_zero, List.set_cons_succ]
    refine wpAnyH_at (i := 3) (some 15) (v := ?v3z4) rfl rfl (by kernel_rfl) (by kernel_rfl) (by kernel_rfl) (fun _ _ _ h => h) (Or.inl ⟨by rfl, ?y3z4⟩) (by assumption) ?r3z4
    case y3z4 =>
      intro w9 hSw
      clear hSw
      go_simp
      all_goals with_reducible rfl
    simp only [Act.put, List.setIfInBounds_toArray, List.set_cons_zero, List.set_cons_succ]
    refine wpAnyH_at (i := 4) (some 16) (v := ?v4z5) rfl rfl (by kernel_rfl) (by kernel_rfl) (by kernel_rfl) (fun _ _ _ h => h) (Or.inl ⟨by rfl, ?y4z5⟩) (by assumption) ?r4z5
    case y4z5 =>
      intro w9 hSw
      clear hSw
      go_simp
      all_goals with_reducible rfl
    simp only [Act.put, List.setIfInBounds_toArray, List.set_cons_zero, List.set_cons_succ]
    refine wpAnyH_at (i := 5) (some 17) (v := ?v5z6) rfl rfl (by kernel_rfl) (by kernel_rfl) (by kernel_rfl) (fun _ _ _ h => h) (Or.inl ⟨by rfl, ?y5z6⟩) (by assumption) ?r5z6
    case y5z6 =>
      intro w9 hSw
      clear hSw
      go_simp
      all_goals with_reducible rfl
    simp only [Act.put, List.setIfInBounds_toArray, List.set_cons_zero, List.set_cons_succ]
    refine wpAnyH_at (i := 6) (some 18) (v := ?v6z7) rfl rfl (by kernel_rfl) (by kernel_rfl) (by kernel_rfl) (fun _ _ _ h => h) (Or.inl ⟨by rfl, ?y6z7⟩) (by assumption) ?r6z7
    case y6z7 =>
      intro w9 hSw
      clear hSw
      go_simp
      all_goals with_reducible rfl
    simp only [Act.put, List.setIfInBounds_toArray, List.set_cons_zero, List.set_cons_succ]
    refine wpAnyH_at (i := 7) (some 19) (v := ?v7z8) rfl rfl (by kernel_rfl) (by kernel_rfl) (by kernel_rfl) (fun _ _ _ h => h) (Or.inl ⟨by rfl, ?y7z8⟩) (by assumption) ?r7z8
    case y7z8 =>
      intro w9 hSw
      have p1 := Hc.out _ (show R0 w (some ⟨b, o, none⟩) n c xs w9 from hSw).rd 7 (by omega); clear hSw
      go_simp
      all_goals with_reducible rfl
    simp only [Act.put, List.setIfInBounds_toArray, List.set_cons_zero, List.set_cons_succ]
    refine wpAnyH_at (i := 8) (some 20) (v := ?v8z9) rfl rfl (by kernel_rfl) (by kernel_rfl) (by kernel_rfl) (fun _ _ _ h => h) (Or.inl ⟨by rfl, ?y8z9⟩) (by assumption) ?r8z9
    case y8z9 =>
      intro w9 hSw
      clear hSw
      go_simp
      all_goals with_reducible rfl
    simp only [Act.put, List.setIfInBounds_toArray, List.set_cons_zero, List.set_cons_succ]
    refine wpAnyH_at (i := 9) (some 21) (v := ?v9z10) rfl rfl (by kernel_rfl) (by kernel_rfl) (by kernel_rfl) (fun _ _ _ h => h) (Or.inl ⟨by rfl, ?y9z10⟩) (by assumption) ?r9z10
    case y9z10 =>
      intro w9 hSw
      clear hSw
      go_simp
      all_goals with_reducible rfl
    simp only [Act.put, List.setIfInBounds_toArray, List.set_cons_zero, List.set_cons_succ]
    refine wpAnyH_at (i := 10) (some 4) (v := ?v10z11) rfl rfl (by kernel_rfl) (by kernel_rfl) (by kernel_rfl) (fun _ _ _ h => h) (Or.inl ⟨by rfl, ?y10z11⟩) (by assumption) ?r10z11
    case y10z11 =>
      intro w9 hSw
      clear hSw
      go_simp
      all_goals with_reducible rfl
    simp only [Act.put, List.setIfInBounds_toArray, List.set_cons_zero, List.set_cons_succ]
    refine wpAnyH_done (by kernel_rfl) ?_ _
    go_wp2_with fail
    go_meet
    case rel => exact ⟨by rw [Hk.out], hHeld⟩
  case rest =>
    obtain ⟨rfl, r1⟩ := hcut
    clear r0 v1 v2 v3 v4 Hk hx6 hx7
    generalize hopx : opOf xs = q at *
    go_wp2_with fail
    go_cut [35] from 22 to 34 (fun x35 wc => x35 = .bool (!kindB xs) ∧ R0 w (some ⟨b, o, none⟩) n c xs wc)
    case first =>
      refine wp_region_held_drew (S := fun w' => R0 w (some ⟨b, o, none⟩) n c xs w') (by kernel_rfl) (r1.step (below_drew _)) (fun hHeld => ?_)
      replace r1 := r1.step (below_drew _)
      generalize wc.drew = W1 at *
      refine wpAnyH_at (i := 0) (some 22) (v := ?v0z12) rfl rfl (by kernel_rfl) (by kernel_rfl) (by kernel_rfl) (fun _ _ _ h => h) (Or.inl ⟨by rfl, ?y0z12⟩) (by assumption) ?r0z12
      case y0z12 =>
        intro w9 hSw
        clear hSw
        go_simp
        all_goals with_reducible rfl
      simp only [Act.put, List.setIfInBounds_toArray, List.set_cons_zero, List.set_cons_succ]
      refine wpAnyH_at (i := 1) (some 23) (v := ?v1z13) rfl rfl (by kernel_rfl) (by kernel_rfl) (by kernel_rfl) (fun _ _ _ h => h) (Or.inl ⟨by rfl, ?y1z13⟩) (by assumption) ?r1z13
      case y1z13 =>
        intro w9 hSw
        clear hSw
        go_simp
        all_goals with_reducible rfl
      simp only [Act.put, List.setIfInBounds_toArray, List.set_cons_zero, List.set_cons_succ]
      refine wpAnyH_at (i := 2) (some 24) (v := ?v2z14) rfl rfl (by kernel_rfl) (by kernel_rfl) (by kernel_rfl) (fun _ _ _ h => h) (Or.inl ⟨by rfl, ?y2z14⟩) (by assumption) ?r2z14
      case y2z14 =>
        intro w9 hSw
        have f1 := conv_str ((show R0 w (some ⟨b, o, none⟩) n c xs w9 from hSw).rd.cutTo 6 (by omega)); clear hSw
        go_simp
        all_goals with_reducible rfl
      simp only [Act.put, List.setIfInBounds_toArray, List.set_cons_zero, List.set_cons_succ]
      refine wpAnyH_one (i := 3) (by kernel_rfl) rfl ?_
      go_wp2_with (go_at_call 27; refine (head_any _).mono ?_; rintro e W2 ⟨g2, rfl, row2, hg2, hb2⟩)
      replace r1 := r1.step hb2
      clear hb2 hHeld hg2
      have hHeld := r1
      refine ⟨hHeld, ?_⟩
      refine wpAnyH_one (i := 4) (by kernel_rfl) rfl ?_
      have f2 := conv_str (row2.rdAll (n := 6) rfl (by omega) head6_wf)
      go_wp2
      refine ⟨hHeld, ?_⟩
      clear f2 row2
      by_cases hq : bEq (xs.take 6) head6 = true
      case' neg =>
        replace hq : bEq (xs.take 6) head6 = false := by simpa using hq
        have hK : kindB xs = false := by simp [kindB, hq]
        refine wpAnyH_at (i := 5) (some 27) (v := ?v5z15) rfl rfl (by kernel_rfl) (by kernel_rfl) (by kernel_rfl) (fun _ _ _ h => h) (Or.inl ⟨by rfl, ?y5z15⟩) (by assumption) ?r5z15
        case y5z15 =>
          intro w9 hSw
          clear hSw
          go_simp
          all_goals with_reducible rfl
        simp only [Act.put, List.setIfInBounds_toArray, List.set_cons_zero, List.set_cons_succ]
        refine wpAnyH_at (i := 6) (some 28) (v := ?v6z16) rfl rfl (by kernel_rfl) (by kernel_rfl) (by kernel_rfl) (fun _ _ _ h => h) (Or.inl ⟨by rfl, ?y6z16⟩) (by assumption) ?r6z16
        case y6z16 =>
          intro w9 hSw
          clear hSw
          go_simp
          all_goals with_reducible rfl
        simp only [Act.put, List.setIfInBounds_toArray, List.set_cons_zero, List.set_cons_succ]
        refine wpAnyH_at (i := 7) (some 29) (v := undef) rfl rfl (by kernel_rfl) (by kernel_rfl) (by kernel_rfl) (fun _ _ _ h => h) (Or.inr ⟨by rfl, rfl⟩) (by assumption) ?_
        simp only [Act.put, List.setIfInBounds_toArray, List.set_cons_zero, List.set_cons_succ]
        refine wpAnyH_at (i := 8) (some 30) (v := undef) rfl rfl (by kernel_rfl) (by kernel_rfl) (by kernel_rfl) (fun _ _ _ h => h) (Or.inr ⟨by rfl, rfl⟩) (by assumption) ?_
        simp only [Act.put, List.setIfInBounds_toArray, List.set_cons_zero, List.set_cons_succ]
        refine wpAnyH_at (i := 9) (some 31) (v := ?v9z17) rfl rfl (by kernel_rfl) (by kernel_rfl) (by kernel_rfl) (fun _ _ _ h => h) (Or.inl ⟨by rfl, ?y9z17⟩) (by assumption) ?r9z17
        case y9z17 =>
          intro w9 hSw
          clear hSw
          go_simp
          all_goals with_reducible rfl
        simp only [Act.put, List.setIfInBounds_toArray, List.set_cons_zero, List.set_cons_succ]
        refine wpAnyH_at (i := 10) (some 32) (v := ?v10z18) rfl rfl (by kernel_rfl) (by kernel_rfl) (by kernel_rfl) (fun _ _ _ h => h) (Or.inl ⟨by rfl, ?y10z18⟩) (by assumption) ?r10z18
        case y10z18 =>
          intro w9 hSw
          clear hSw
          go_simp
          all_goals with_reducible rfl
        simp only [Act.put, List.setIfInBounds_toArray, List.set_cons_zero, List.set_cons_succ]
        refine wpAnyH_at (i := 11) (some 33) (v := undef) rfl rfl (by kernel_rfl) (by kernel_rfl) (by kernel_rfl) (fun _ _ _ h => h) (Or.inr ⟨by rfl, rfl⟩) (by assumption) ?_
        simp only [Act.put, List.setIfInBounds_toArray, List.set_cons_zero, List.set_cons_succ]
        refine wpAnyH_at (i := 12) (some 34) (v := undef) rfl rfl (by kernel_rfl) (by kernel_rfl) (by kernel_rfl) (fun _ _ _ h => h) (Or.inr ⟨by rfl, rfl⟩) (by assumption) ?_
        simp only [Act.put, List.setIfInBounds_toArray, List.set_cons_zero, List.set_cons_succ]
        refine wpAnyH_at (i := 13) (some 35) (v := ?v13z19) rfl rfl (by kernel_rfl) (by kernel_rfl) (by kernel_rfl) (fun _ _ _ h => h) (Or.inl ⟨by rfl, ?y13z19⟩) (by assumption) ?r13z19
        case y13z19 =>
          intro w9 hSw
          clear hSw
          go_simp
          all_goals with_reducible rfl
        simp only [Act.put, List.setIfInBounds_toArray, List.set_cons_zero, List.set_cons_succ]
        refine wpAnyH_done (by kernel_rfl) ?_ _
        go_wp2_with fail
        go_meet
        case rel => exact ⟨by rw [hK]; rfl, r1⟩
      rcases op_case q with ⟨h1, h2⟩ | ⟨h1, h3, h2⟩ | ⟨h1, h3, h2⟩
      · have hK : kindB xs = false := by unfold kindB; rw [hq, hopx, h2]; rfl
        refine wpAnyH_at (i := 5) (some 27) (v := ?v5z20) rfl rfl (by kernel_rfl) (by kernel_rfl) (by kernel_rfl) (fun _ _ _ h => h) (Or.inl ⟨by rfl, ?y5z20⟩) (by assumption) ?r5z20
        case y5z20 =>
          intro w9 hSw
          clear hSw
          go_simp
          all_goals with_reducible rfl
        simp only [Act.put, List.setIfInBounds_toArray, List.set_cons_zero, List.set_cons_succ]
        refine wpAnyH_at (i := 6) (some 28) (v := ?v6z21) rfl rfl (by kernel_rfl) (by kernel_rfl) (by kernel_rfl) (fun _ _ _ h => h) (Or.inl ⟨by rfl, ?y6z21⟩) (by assumption) ?r6z21
        case y6z21 =>
          intro w9 hSw
          clear hSw
          go_simp
          all_goals with_reducible rfl
        simp only [Act.put, List.setIfInBounds_toArray, List.set_cons_zero, List.set_cons_succ]
        refine wpAnyH_at (i := 7) (some 29) (v := ?v7z22) rfl rfl (by kernel_rfl) (by kernel_rfl) (by kernel_rfl) (fun _ _ _ h => h) (Or.inl ⟨by rfl, ?y7z22⟩) (by assumption) ?r7z22
        case y7z22 =>
          intro w9 hSw
          clear hSw
          go_simp
          all_goals with_reducible rfl
        simp only [Act.put, List.setIfInBounds_toArray, List.set_cons_zero, List.set_cons_succ]
        refine wpAnyH_at (i := 8) (some 30) (v := ?v8z23) rfl rfl (by kernel_rfl) (by kernel_rfl) (by kernel_rfl) (fun _ _ _ h => h) (Or.inl ⟨by rfl, ?y8z23⟩) (by assumption) ?r8z23
        case y8z23 =>
          intro w9 hSw
          clear hSw
          go_simp
          all_goals with_reducible rfl
        simp only [Act.put, List.setIfInBounds_toArray, List.set_cons_zero, List.set_cons_succ]
        refine wpAnyH_at (i := 9) (some 31) (v := ?v9z24) rfl rfl (by kernel_rfl) (by kernel_rfl) (by kernel_rfl) (fun _ _ _ h => h) (Or.inl ⟨by rfl, ?y9z24⟩) (by assumption) ?r9z24
        case y9z24 =>
          intro w9 hSw
          clear hSw
          go_simp
          all_goals with_reducible rfl
        simp only [Act.put, List.setIfInBounds_toArray, List.set_cons_zero, List.set_cons_succ]
        refine wpAnyH_at (i := 10) (some 32) (v := ?v10z25) rfl rfl (by kernel_rfl) (by kernel_rfl) (by kernel_rfl) (fun _ _ _ h => h) (Or.inl ⟨by rfl, ?y10z25⟩) (by assumption) ?r10z25
        case y10z25 =>
          intro w9 hSw
          clear hSw
          go_simp
          all_goals with_reducible rfl
        simp only [Act.put, List.setIfInBounds_toArray, List.set_cons_zero, List.set_cons_succ]
        refine wpAnyH_at (i := 11) (some 33) (v := undef) rfl rfl (by kernel_rfl) (by kernel_rfl) (by kernel_rfl) (fun _ _ _ h => h) (Or.inr ⟨by rfl, rfl⟩) (by assumption) ?_
        simp only [Act.put, List.setIfInBounds_toArray, List.set_cons_zero, List.set_cons_succ]
        refine wpAnyH_at (i := 12) (some 34) (v := undef) rfl rfl (by kernel_rfl) (by kernel_rfl) (by kernel_rfl) (fun _ _ _ h => h) (Or.inr ⟨by rfl, rfl⟩) (by assumption) ?_
        simp only [Act.put, List.setIfInBounds_toArray, List.set_cons_zero, List.set_cons_succ]
        refine wpAnyH_at (i := 13) (some 35) (v := ?v13z26) rfl rfl (by kernel_rfl) (by kernel_rfl) (by kernel_rfl) (fun _ _ _ h => h) (Or.inl ⟨by rfl, ?y13z26⟩) (by assumption) ?r13z26
        case y13z26 =>
          intro w9 hSw
          clear hSw
          go_simp
          all_goals with_reducible rfl
        simp only [Act.put, List.setIfInBounds_toArray, List.set_cons_zero, List.set_cons_succ]
        refine wpAnyH_done (by kernel_rfl) ?_ _
        go_wp2_with fail
        go_meet
        case rel => exact ⟨by rw [hK]; rfl, r1⟩
      · have hK : kindB xs = false := by unfold kindB; rw [hq, hopx, h2]; rfl
        refine wpAnyH_at (i := 5) (some 27) (v := ?v5z27) rfl rfl (by kernel_rfl) (by kernel_rfl) (by kernel_rfl) (fun _ _ _ h => h) (Or.inl ⟨by rfl, ?y5z27⟩) (by assumption) ?r5z27
        case y5z27 =>
          intro w9 hSw
          clear hSw
          go_simp
          all_goals with_reducible rfl
        simp only [Act.put, List.setIfInBounds_toArray, List.set_cons_zero, List.set_cons_succ]
        refine wpAnyH_at (i := 6) (some 28) (v := ?v6z28) rfl rfl (by kernel_rfl) (by kernel_rfl) (by kernel_rfl) (fun _ _ _ h => h) (Or.inl ⟨by rfl, ?y6z28⟩) (by assumption) ?r6z28
        case y6z28 =>
          intro w9 hSw
          clear hSw
          go_simp
          all_goals with_reducible rfl
        simp only [Act.put, List.setIfInBounds_toArray, List.set_cons_zero, List.set_cons_succ]
        refine wpAnyH_at (i := 7) (some 29) (v := ?v7z29) rfl rfl (by kernel_rfl) (by kernel_rfl) (by kernel_rfl) (fun _ _ _ h => h) (Or.inl ⟨by rfl, ?y7z29⟩) (by assumption) ?r7z29
        case y7z29 =>
          intro w9 hSw
          clear hSw
          go_simp
          all_goals with_reducible rfl
        simp only [Act.put, List.setIfInBounds_toArray, List.set_cons_zero, List.set_cons_succ]
        refine wpAnyH_at (i := 8) (some 30) (v := ?v8z30) rfl rfl (by kernel_rfl) (by kernel_rfl) (by kernel_rfl) (fun _ _ _ h => h) (Or.inl ⟨by rfl, ?y8z30⟩) (by assumption) ?r8z30
        case y8z30 =>
          intro w9 hSw
          clear hSw
          go_simp
          all_goals with_reducible rfl
        simp only [Act.put, List.setIfInBounds_toArray, List.set_cons_zero, List.set_cons_succ]
        refine wpAnyH_at (i := 9) (some 31) (v := ?v9z31) rfl rfl (by kernel_rfl) (by kernel_rfl) (by kernel_rfl) (fun _ _ _ h => h) (Or.inl ⟨by rfl, ?y9z31⟩) (by assumption) ?r9z31
        case y9z31 =>
          intro w9 hSw
          clear hSw
          go_simp
          all_goals with_reducible rfl
        simp only [Act.put, List.setIfInBounds_toArray, List.set_cons_zero, List.set_cons_succ]
        refine wpAnyH_at (i := 10) (some 32) (v := ?v10z32) rfl rfl (by kernel_rfl) (by kernel_rfl) (by kernel_rfl) (fun _ _ _ h => h) (Or.inl ⟨by rfl, ?y10z32⟩) (by assumption) ?r10z32
        case y10z32 =>
          intro w9 hSw
          clear hSw
          go_simp
          all_goals with_reducible rfl
        simp only [Act.put, List.setIfInBounds_toArray, List.set_cons_zero, List.set_cons_succ]
        refine wpAnyH_at (i := 11) (some 33) (v := ?v11z33) rfl rfl (by kernel_rfl) (by kernel_rfl) (by kernel_rfl) (fun _ _ _ h => h) (Or.inl ⟨by rfl, ?y11z33⟩) (by assumption) ?r11z33
        case y11z33 =>
          intro w9 hSw
          clear hSw
          go_simp
          all_goals with_reducible rfl
        simp only [Act.put, List.setIfInBounds_toArray, List.set_cons_zero, List.set_cons_succ]
        refine wpAnyH_at (i := 12) (some 34) (v := ?v12z34) rfl rfl (by kernel_rfl) (by kernel_rfl) (by kernel_rfl) (fun _ _ _ h => h) (Or.inl ⟨by rfl, ?y12z34⟩) (by assumption) ?r12z34
        case y12z34 =>
          intro w9 hSw
          clear hSw
          go_simp
          all_goals with_reducible rfl
        simp only [Act.put, List.setIfInBounds_toArray, List.set_cons_zero, List.set_cons_succ]
        refine wpAnyH_at (i := 13) (some 35) (v := ?v13z35) rfl rfl (by kernel_rfl) (by kernel_rfl) (by kernel_rfl) (fun _ _ _ h => h) (Or.inl ⟨by rfl, ?y13z35⟩) (by assumption) ?r13z35
        case y13z35 =>
          intro w9 hSw
          clear hSw
          go_simp
          all_goals with_reducible rfl
        simp only [Act.put, List.setIfInBounds_toArray, List.set_cons_zero, List.set_cons_succ]
        refine wpAnyH_done (by kernel_rfl) ?_ _
        go_wp2_with fail
        go_meet
        case rel => exact ⟨by rw [hK]; rfl, r1⟩
      · have hK : kindB xs = true := by unfold kindB; rw [hq, hopx, h2]; rfl
        refine wpAnyH_at (i := 5) (some 27) (v := ?v5z36) rfl rfl (by kernel_rfl) (by kernel_rfl) (by kernel_rfl) (fun _ _ _ h => h) (Or.inl ⟨by rfl, ?y5z36⟩) (by assumption) ?r5z36
        case y5z36 =>
          intro w9 hSw
          clear hSw
          go_simp
          all_goals with_reducible rfl
        simp only [Act.put, List.setIfInBounds_toArray, List.set_cons_zero, List.set_cons_succ]
        refine wpAnyH_at (i := 6) (some 28) (v := ?v6z37) rfl rfl (by kernel_rfl) (by kernel_rfl) (by kernel_rfl) (fun _ _ _ h => h) (Or.inl ⟨by rfl, ?y6z37⟩) (by assumption) ?r6z37
        case y6z37 =>
          intro w9 hSw
          clear hSw
          go_simp
          all_goals with_reducible rfl
        simp only [Act.put, List.setIfInBounds_toArray, List.set_cons_zero, List.set_cons_succ]
        refine wpAnyH_at (i := 7) (some 29) (v := ?v7z38) rfl rfl (by kernel_rfl) (by kernel_rfl) (by kernel_rfl) (fun _ _ _ h => h) (Or.inl ⟨by rfl, ?y7z38⟩) (by assumption) ?r7z38
        case y7z38 =>
          intro w9 hSw
          clear hSw
          go_simp
          all_goals with_reducible rfl
        simp only [Act.put, List.setIfInBounds_toArray, List.set_cons_zero, List.set_cons_succ]
        refine wpAnyH_at (i := 8) (some 30) (v := ?v8z39) rfl rfl (by kernel_rfl) (by kernel_rfl) (by kernel_rfl) (fun _ _ _ h => h) (Or.inl ⟨by rfl, ?y8z39⟩) (by assumption) ?r8z39
        case y8z39 =>
          intro w9 hSw
          clear hSw
          go_simp
          all_goals with_reducible rfl
        simp only [Act.put, List.setIfInBounds_toArray, List.set_cons_zero, List.set_cons_succ]
        refine wpAnyH_at (i := 9) (some 31) (v := ?v9z40) rfl rfl (by kernel_rfl) (by kernel_rfl) (by kernel_rfl) (fun _ _ _ h => h) (Or.inl ⟨by rfl, ?y9z40⟩) (by assumption) ?r9z40
        case y9z40 =>
          intro w9 hSw
          clear hSw
          go_simp
          all_goals with_reducible rfl
        simp only [Act.put, List.setIfInBounds_toArray, List.set_cons_zero, List.set_cons_succ]
        refine wpAnyH_at (i := 10) (some 32) (v := ?v10z41) rfl rfl (by kernel_rfl) (by kernel_rfl) (by kernel_rfl) (fun _ _ _ h => h) (Or.inl ⟨by rfl, ?y10z41⟩) (by assumption) ?r10z41
        case y10z41 =>
          intro w9 hSw
          clear hSw
          go_simp
          all_goals with_reducible rfl
        simp only [Act.put, List.setIfInBounds_toArray, List.set_cons_zero, List.set_cons_succ]
        refine wpAnyH_at (i := 11) (some 33) (v := ?v11z42) rfl rfl (by kernel_rfl) (by kernel_rfl) (by kernel_rfl) (fun _ _ _ h => h) (Or.inl ⟨by rfl, ?y11z42⟩) (by assumption) ?r11z42
        case y11z42 =>
          intro w9 hSw
          clear hSw
          go_simp
          all_goals with_reducible rfl
        simp only [Act.put, List.setIfInBounds_toArray, List.set_cons_zero, List.set_cons_succ]
        refine wpAnyH_at (i := 12) (some 34) (v := ?v12z43) rfl rfl (by kernel_rfl) (by kernel_rfl) (by kernel_rfl) (fun _ _ _ h => h) (Or.inl ⟨by rfl, ?y12z43⟩) (by assumption) ?r12z43
        case y12z43 =>
          intro w9 hSw
          clear hSw
          go_simp
          all_goals with_reducible rfl
        simp only [Act.put, List.setIfInBounds_toArray, List.set_cons_zero, List.set_cons_succ]
        refine wpAnyH_at (i := 13) (some 35) (v := ?v13z44) rfl rfl (by kernel_rfl) (by kernel_rfl) (by kernel_rfl) (fun _ _ _ h => h) (Or.inl ⟨by rfl, ?y13z44⟩) (by assumption) ?r13z44
        case y13z44 =>
          intro w9 hSw
          clear hSw
          go_simp
          all_goals with_reducible rfl
        simp only [Act.put, List.setIfInBounds_toArray, List.set_cons_zero, List.set_cons_succ]
        refine wpAnyH_done (by kernel_rfl) ?_ _
        go_wp2_with fail
        go_meet
        case rel => exact ⟨by rw [hK]; rfl, r1⟩
    case rest =>
      obtain ⟨rfl, r2⟩ := hcut
      clear r1 f3
      have HCo := HC.out
      cases hK : kindB xs
      case' false =>
        have hE : pE xs = (16, 14) := by
          rcases HCo with h | h | h | h
          · omega
          · exact h.2.2
          · rw [hK] at h; cases h.2.1
          · rw [hK] at h; cases h.2.1
        clear HCo
        go_wp2_with fail
        refine (refNew_at 16 14 (by decide) (by decide) (by decide) _).mono ?_
        rintro ev w1 ⟨A1, n1, c1, rfl, rd1, new1, hb1⟩
        have hsz := r2.sz
        have st := r2.z.step hb1
        have far : A1 = none ∨ ∃ ad, A1 = some ad ∧ w.heap.size + 2 ≤ ad.block := by
          rcases new1 with h | h | ⟨ad, h, h1, _⟩
          · exact .inl h
          · exact .inl h
          · exact .inr ⟨ad, h, Nat.le_trans hsz h1⟩
        have fin : ∀ (w2 : World), w2.heap[w.heap.size]? = some (.cells (pkC 0 zero6 0 zero6 0) 35 (0, 0)) → Below w.heap.size w1 w2 → (∀ j, j ≠ w.heap.size → w2.heap[j]? = w1.heap[j]?) → w2.heap.size = w1.heap.size → RZ w w2 ∧ Rd .i64 w2 w2.heap.size A1 n1 c1 [16] := fun w2 h1 h2 h3 h4 =>
          ⟨⟨h1, (h3 _ (by omega)).trans st.y, st.below.trans h2⟩, by rw [h4]; exact rd1.other h3 (far.imp id fun ⟨ad, h, h'⟩ => ⟨ad, h, by omega⟩)⟩
        have fin2 : ∀ (w2 w3 : World), RZ w w2 → Rd .i64 w2 w2.heap.size A1 n1 c1 [16] → w3.heap[w.heap.size + 1]? = some (.cells (flC A1 n1 c1 14) 39 (0, 0)) → Below (w.heap.size + 1) w2 w3 → (∀ j, j ≠ w.heap.size + 1 → w3.heap[j]? = w2.heap[j]?) → w3.heap.size = w2.heap.size → RE w 16 14 A1 n1 c1 w3 := fun w2 w3 z2 r2 h1 h2 h3 h4 =>
          ⟨z2.z.below h2 (by omega), h1, by rw [h4]; exact r2.other h3 (far.imp id fun ⟨ad, h, h'⟩ => ⟨ad, h, by omega⟩), z2.below.trans (h2.mono (by omega))⟩
        have z1 := st.z
        clear hb1 new1 far rd1
        go_wp2_with (first
          | (refine wpList_stF rfl rfl 35 _ _ rfl w.heap.size (pkC 0 zero6 0 zero6 0) rfl rfl 35 _ z1 (by kernel_rfl) rfl (pkC_one ..) ?_; intro w2 f2 hb2 ho2 hs2; obtain ⟨z2, r2⟩ := fin w2 f2 hb2 ho2 hs2; clear fin f2 hb2 ho2 hs2; have y2 := z2.y)
          | (refine wpList_stF rfl rfl 39 _ _ rfl (w.heap.size + 1) (flC A1 n1 c1 14) rfl rfl 39 _ y2 (by kernel_rfl) rfl (flC_one _ _ _ _) ?_; intro w3 f3 hb3 ho3 hs3; have re := fin2 w2 w3 z2 r2 f3 hb3 ho3 hs3; clear fin2 f3 hb3 ho3 hs3 y2))
        obtain ⟨a0, a1, a2, a3, a4, a5, a6, a7, a8, a9, a10, a11, a12, a13, a14⟩ := re.z.cells
        have b0 : w3.cell? ⟨w.heap.size + 1, 0, none⟩ = some (.slice A1 n1 c1) := blk_cell re.y rfl
        have b1 : w3.cell? ⟨w.heap.size + 1, 1, none⟩ = some (.int .i64 14) := blk_cell re.y rfl
        exact bodyPost_ret (v := .tuple #[zeroP, .agg #[.slice A1 n1 c1, .int .i64 14]]) (by simp [results, Tryd.results10, go_sem, *]) rfl ⟨re.below, .inl ⟨by rw [hE]; decide, A1, n1, c1, by rw [hE], by rw [hE]; exact re.rd⟩⟩

      have c8 := Hc.out _ r2.rd 8 (by omega)
      by_cases hgr : grpV (six (xs.drop 8)) = true
      case' pos =>
        have hE : pE xs = (1, 10) := by
          rcases HCo with h | h | h | h
          · omega
          · rw [hK] at h; cases h.2.1
          · exact h.2.2.2
          · rw [hgr] at h; cases h.2.2.1
        clear HCo
        have hg8 : (v 8 % 2 == 1) = true := Hg.out.symm.trans hgr
        go_wp2_with fail
        refine (refNew_at 1 10 (by decide) (by decide) (by decide) _).mono ?_
        rintro ev w1 ⟨A1, n1, c1, rfl, rd1, new1, hb1⟩
        have hsz := r2.sz
        have st := r2.z.step hb1
        have far : A1 = none ∨ ∃ ad, A1 = some ad ∧ w.heap.size + 2 ≤ ad.block := by
          rcases new1 with h | h | ⟨ad, h, h1, _⟩
          · exact .inl h
          · exact .inl h
          · exact .inr ⟨ad, h, Nat.le_trans hsz h1⟩
        have fin : ∀ (w2 : World), w2.heap[w.heap.size]? = some (.cells (pkC 0 zero6 0 zero6 0) 35 (0, 0)) → Below w.heap.size w1 w2 → (∀ j, j ≠ w.heap.size → w2.heap[j]? = w1.heap[j]?) → w2.heap.size = w1.heap.size → RZ w w2 ∧ Rd .i64 w2 w2.heap.size A1 n1 c1 [1] := fun w2 h1 h2 h3 h4 =>
          ⟨⟨h1, (h3 _ (by omega)).trans st.y, st.below.trans h2⟩, by rw [h4]; exact rd1.other h3 (far.imp id fun ⟨ad, h, h'⟩ => ⟨ad, h, by omega⟩)⟩
        have fin2 : ∀ (w2 w3 : World), RZ w w2 → Rd .i64 w2 w2.heap.size A1 n1 c1 [1] → w3.heap[w.heap.size + 1]? = some (.cells (flC A1 n1 c1 10) 39 (0, 0)) → Below (w.heap.size + 1) w2 w3 → (∀ j, j ≠ w.heap.size + 1 → w3.heap[j]? = w2.heap[j]?) → w3.heap.size = w2.heap.size → RE w 1 10 A1 n1 c1 w3 := fun w2 w3 z2 r2 h1 h2 h3 h4 =>
          ⟨z2.z.below h2 (by omega), h1, by rw [h4]; exact r2.other h3 (far.imp id fun ⟨ad, h, h'⟩ => ⟨ad, h, by omega⟩), z2.below.trans (h2.mono (by omega))⟩
        have z1 := st.z
        clear hb1 new1 far rd1
        go_wp2_with (first
          | (refine wpList_stF rfl rfl 35 _ _ rfl w.heap.size (pkC 0 zero6 0 zero6 0) rfl rfl 35 _ z1 (by kernel_rfl) rfl (pkC_one ..) ?_; intro w2 f2 hb2 ho2 hs2; obtain ⟨z2, r2⟩ := fin w2 f2 hb2 ho2 hs2; clear fin f2 hb2 ho2 hs2; have y2 := z2.y)
          | (refine wpList_stF rfl rfl 39 _ _ rfl (w.heap.size + 1) (flC A1 n1 c1 10) rfl rfl 39 _ y2 (by kernel_rfl) rfl (flC_one _ _ _ _) ?_; intro w3 f3 hb3 ho3 hs3; have re := fin2 w2 w3 z2 r2 f3 hb3 ho3 hs3; clear fin2 f3 hb3 ho3 hs3 y2))
        obtain ⟨a0, a1, a2, a3, a4, a5, a6, a7, a8, a9, a10, a11, a12, a13, a14⟩ := re.z.cells
        have b0 : w3.cell? ⟨w.heap.size + 1, 0, none⟩ = some (.slice A1 n1 c1) := blk_cell re.y rfl
        have b1 : w3.cell? ⟨w.heap.size + 1, 1, none⟩ = some (.int .i64 10) := blk_cell re.y rfl
        exact bodyPost_ret (v := .tuple #[zeroP, .agg #[.slice A1 n1 c1, .int .i64 10]]) (by simp [results, Tryd.results10, go_sem, *]) rfl ⟨re.below, .inl ⟨by rw [hE]; decide, A1, n1, c1, by rw [hE], by rw [hE]; exact re.rd⟩⟩

      replace hgr : grpV (six (xs.drop 8)) = false := by simpa using hgr
      have hE : pE xs = (0, 0) := by
        rcases HCo with h | h | h | h
        · omega
        · rw [hK] at h; cases h.2.1
        · rw [hgr] at h; cases h.2.2.1
        · exact h.2.2.2
      clear HCo
      have hg8 : (v 8 % 2 == 1) = false := Hg.out.symm.trans hgr
      go_wp2_with fail
      clear c8 hg8
      go_cut [5] from 45 to 52 (fun x5 wc => ∃ g, x5 = .pointer (some ⟨g, 0, none⟩) ∧ RK w (some ⟨b, o, none⟩) n c xs g q zero6 (num4 (xs.drop 14)) zero6 (num4 (xs.drop 24)) wc)
      case first =>
        refine wp_region_held_drew (S := fun w' => Rd .u8 w' w.heap.size (some ⟨b, o, none⟩) n c xs) (by kernel_rfl) (r2.step (below_drew _)).rd (fun hHeld => ?_)
        replace r2 := r2.step (below_drew _)
        generalize wc.drew = W1 at *
        refine wpAnyH_at (i := 0) (some 45) (v := ?v0z45) rfl rfl (by kernel_rfl) (by kernel_rfl) (by kernel_rfl) (fun _ _ _ h => h) (Or.inl ⟨by rfl, ?y0z45⟩) (by assumption) ?r0z45
        case y0z45 =>
          intro w9 hSw
          clear hSw
          go_simp
          all_goals with_reducible rfl
        simp only [Act.put, List.setIfInBounds_toArray, List.set_cons_zero, List.set_cons_succ]
        refine wpAnyH_at (i := 1) (some 46) (v := ?v1z46) rfl rfl (by kernel_rfl) (by kernel_rfl) (by kernel_rfl) (fun _ _ _ h => h) (Or.inl ⟨by rfl, ?y1z46⟩) (by assumption) ?r1z46
        case y1z46 =>
          intro w9 hSw
          clear hSw
          go_simp
          all_goals with_reducible rfl
        simp only [Act.put, List.setIfInBounds_toArray, List.set_cons_zero, List.set_cons_succ]
        refine wpAnyH_at (i := 2) (some 47) (v := .slice (cutA (some ⟨b, o, none⟩) c 14) (n - 14) (c - 14)) rfl rfl (by kernel_rfl) (by kernel_rfl) (by kernel_rfl) (fun _ _ _ h => h) (Or.inl ⟨by rfl, ?y2z47⟩) (by assumption) ?r2z47
        case y2z47 =>
          intro w9 hSw
          clear hSw
          rw [cutA_ne k14]
          go_simp
        simp only [Act.put, List.setIfInBounds_toArray, List.set_cons_zero, List.set_cons_succ]
        refine wpAnyH_at (i := 4) (some 49) (v := ?v4z48) rfl rfl (by kernel_rfl) (by kernel_rfl) (by kernel_rfl) (fun _ _ _ h => h) (Or.inl ⟨by rfl, ?y4z48⟩) (by assumption) ?r4z48
        case y4z48 =>
          intro w9 hSw
          clear hSw
          go_simp
          all_goals with_reducible rfl
        simp only [Act.put, List.setIfInBounds_toArray, List.set_cons_zero, List.set_cons_succ]
        refine wpAnyH_at (i := 5) (some 50) (v := .slice (cutA (some ⟨b, o, none⟩) c 24) (n - 24) (c - 24)) rfl rfl (by kernel_rfl) (by kernel_rfl) (by kernel_rfl) (fun _ _ _ h => h) (Or.inl ⟨by rfl, ?y5z49⟩) (by assumption) ?r5z49
        case y5z49 =>
          intro w9 hSw
          clear hSw
          rw [cutA_ne k24]
          go_simp
        simp only [Act.put, List.setIfInBounds_toArray, List.set_cons_zero, List.set_cons_succ]
        refine wpAnyH_two (i := 3) (j := 8) (by kernel_rfl) rfl rfl ?_ ?_
        · go_wp2_with (go_at_call 28; refine (num_any _ _ _ _ (xs.drop 14) _ (r2.rd.cutFrom 14 (by omega)) (by omega)).mono ?_; rintro e W2 ⟨rfl, hs9⟩)
          replace r2 := r2.step hs9.below
          clear hs9 hHeld
          have hHeld := r2.rd
          refine ⟨hHeld, ?_⟩
          try simp only [Act.put, List.setIfInBounds_toArray, List.set_cons_zero, List.set_cons_succ]
          refine wpAnyH_two (i := 6) (j := 8) (by kernel_rfl) rfl rfl ?_ ?_
          · go_wp2_with (go_at_call 28; refine (num_any _ _ _ _ (xs.drop 24) _ (r2.rd.cutFrom 24 (by omega)) (by omega)).mono ?_; rintro e W3 ⟨rfl, hs9⟩)
            replace r2 := r2.step hs9.below
            clear hs9 hHeld
            have hHeld := r2.rd
            refine ⟨hHeld, ?_⟩
            try simp only [Act.put, List.setIfInBounds_toArray, List.set_cons_zero, List.set_cons_succ]
            refine wpAnyH_at (i := 7) (some 52) (v := ?v7z50) rfl rfl (by kernel_rfl) (by kernel_rfl) (by kernel_rfl) (fun _ _ _ h => h) (Or.inl ⟨by rfl, ?y7z50⟩) (by assumption) ?r7z50
            case y7z50 =>
              intro w9 hSw
              clear hSw
              go_simp
              all_goals with_reducible rfl
            simp only [Act.put, List.setIfInBounds_toArray, List.set_cons_zero, List.set_cons_succ]
            refine wpAnyH_one (i := 8) (by kernel_rfl) rfl ?_
            replace r2 := r2.alloc
            clear hHeld
            have hHeld := r2.rd
            go_wp2
            refine ⟨hHeld, ?_⟩
            change wpAnyH _ _ _ _ _ _ _ _ (W3.alloc (.cells (pkC 0 zero6 0 zero6 0) 35))
            generalize (W3.alloc (.cells (pkC 0 zero6 0 zero6 0) 35)) = VW3 at *
            generalize W3.heap.size = g at *
            try simp only [Act.put, List.setIfInBounds_toArray, List.set_cons_zero, List.set_cons_succ]
            refine wpAnyH_one (i := 9) (by kernel_rfl) rfl ?_
            refine wpList_stF rfl rfl 35 _ _ rfl g (pkC q zero6 (num4 (xs.drop 14)) zero6 (num4 (xs.drop 24))) rfl rfl 35 _ r2.pk (by kernel_rfl) rfl (pkC_one ..) ?_
            intro w4 f4 hb4 ho4 hs4
            replace r2 := r2.only ⟨hb4, ho4, hs4⟩ f4
            clear hHeld
            have hHeld := r2.rd
            go_wp2
            refine ⟨hHeld, ?_⟩
            refine wpAnyH_done (by kernel_rfl) ?_ _
            go_wp2_with fail
            go_meet
            case rel => exact ⟨_, rfl, r2⟩
          · replace r2 := r2.alloc
            clear hHeld
            have hHeld := r2.rd
            go_wp2
            refine ⟨hHeld, ?_⟩
            change wpAnyH _ _ _ _ _ _ _ _ (W2.alloc (.cells (pkC 0 zero6 0 zero6 0) 35))
            generalize (W2.alloc (.cells (pkC 0 zero6 0 zero6 0) 35)) = VW2 at *
            generalize W2.heap.size = g at *
            try simp only [Act.put, List.setIfInBounds_toArray, List.set_cons_zero, List.set_cons_succ]
            refine wpAnyH_one (i := 6) (by kernel_rfl) rfl ?_
            go_wp2_with (go_at_call 28; refine (num_any _ _ _ _ (xs.drop 24) _ (r2.rd.cutFrom 24 (by omega)) (by omega)).mono ?_; rintro e W3 ⟨rfl, hs9⟩)
            replace r2 := r2.step hs9.below
            clear hs9 hHeld
            have hHeld := r2.rd
            refine ⟨hHeld, ?_⟩
            try simp only [Act.put, List.setIfInBounds_toArray, List.set_cons_zero, List.set_cons_succ]
            refine wpAnyH_at (i := 7) (some 52) (v := ?v7z51) rfl rfl (by kernel_rfl) (by kernel_rfl) (by kernel_rfl) (fun _ _ _ h => h) (Or.inl ⟨by rfl, ?y7z51⟩) (by assumption) ?r7z51
            case y7z51 =>
              intro w9 hSw
              clear hSw
              go_simp
              all_goals with_reducible rfl
            simp only [Act.put, List.setIfInBounds_toArray, List.set_cons_zero, List.set_cons_succ]
            refine wpAnyH_one (i := 9) (by kernel_rfl) rfl ?_
            refine wpList_stF rfl rfl 35 _ _ rfl g (pkC q zero6 (num4 (xs.drop 14)) zero6 (num4 (xs.drop 24))) rfl rfl 35 _ r2.pk (by kernel_rfl) rfl (pkC_one ..) ?_
            intro w4 f4 hb4 ho4 hs4
            replace r2 := r2.only ⟨hb4, ho4, hs4⟩ f4
            clear hHeld
            have hHeld := r2.rd
            go_wp2
            refine ⟨hHeld, ?_⟩
            refine wpAnyH_done (by kernel_rfl) ?_ _
            go_wp2_with fail
            go_meet
            case rel => exact ⟨_, rfl, r2⟩
        · replace r2 := r2.alloc
          clear hHeld
          have hHeld := r2.rd
          go_wp2
          refine ⟨hHeld, ?_⟩
          change wpAnyH _ _ _ _ _ _ _ _ (W1.alloc (.cells (pkC 0 zero6 0 zero6 0) 35))
          generalize (W1.alloc (.cells (pkC 0 zero6 0 zero6 0) 35)) = VW1 at *
          generalize W1.heap.size = g at *
          try simp only [Act.put, List.setIfInBounds_toArray, List.set_cons_zero, List.set_cons_succ]
          refine wpAnyH_one (i := 3) (by kernel_rfl) rfl ?_
          go_wp2_with (go_at_call 28; refine (num_any _ _ _ _ (xs.drop 14) _ (r2.rd.cutFrom 14 (by omega)) (by omega)).mono ?_; rintro e W2 ⟨rfl, hs9⟩)
          replace r2 := r2.step hs9.below
          clear hs9 hHeld
          have hHeld := r2.rd
          refine ⟨hHeld, ?_⟩
          try simp only [Act.put, List.setIfInBounds_toArray, List.set_cons_zero, List.set_cons_succ]
          refine wpAnyH_one (i := 6) (by kernel_rfl) rfl ?_
          go_wp2_with (go_at_call 28; refine (num_any _ _ _ _ (xs.drop 24) _ (r2.rd.cutFrom 24 (by omega)) (by omega)).mono ?_; rintro e W3 ⟨rfl, hs9⟩)
          replace r2 := r2.step hs9.below
          clear hs9 hHeld
          have hHeld := r2.rd
          refine ⟨hHeld, ?_⟩
          try simp only [Act.put, List.setIfInBounds_toArray, List.set_cons_zero, List.set_cons_succ]
          refine wpAnyH_at (i := 7) (some 52) (v := ?v7z52) rfl rfl (by kernel_rfl) (by kernel_rfl) (by kernel_rfl) (fun _ _ _ h => h) (Or.inl ⟨by rfl, ?y7z52⟩) (by assumption) ?r7z52
          case y7z52 =>
            intro w9 hSw
            clear hSw
            go_simp
            all_goals with_reducible rfl
          simp only [Act.put, List.setIfInBounds_toArray, List.set_cons_zero, List.set_cons_succ]
          refine wpAnyH_one (i := 9) (by kernel_rfl) rfl ?_
          refine wpList_stF rfl rfl 35 _ _ rfl g (pkC q zero6 (num4 (xs.drop 14)) zero6 (num4 (xs.drop 24))) rfl rfl 35 _ r2.pk (by kernel_rfl) rfl (pkC_one ..) ?_
          intro w4 f4 hb4 ho4 hs4
          replace r2 := r2.only ⟨hb4, ho4, hs4⟩ f4
          clear hHeld
          have hHeld := r2.rd
          go_wp2
          refine ⟨hHeld, ?_⟩
          refine wpAnyH_done (by kernel_rfl) ?_ _
          go_wp2_with fail
          go_meet
          case rel => exact ⟨_, rfl, r2⟩
      case rest =>
        obtain ⟨g, rfl, rk⟩ := hcut
        clear r2
        replace rk : RK w (some ⟨b, o, none⟩) n c xs g q (fill 0 (⟨v 8, v 9, v 10, v 11, v 12, v 13⟩ : Mac6)) (num4 (xs.drop 14)) (fill 0 (⟨v 18, v 19, v 20, v 21, v 22, v 23⟩ : Mac6)) (num4 (xs.drop 24)) wc := rk
        have hbg : ¬ b = g := by have := rk.ng; omega
        have hgb : ¬ g = b := fun h => hbg h.symm
        go_wp2_with fail
        go_loopw [6] (fun i wr => ∃ j : Nat, i = .int .i64 j ∧ j ≤ 6 ∧ RK w (some ⟨b, o, none⟩) n c xs g q (fill j (⟨v 8, v 9, v 10, v 11, v 12, v 13⟩ : Mac6)) (num4 (xs.drop 14)) (fill j (⟨v 18, v 19, v 20, v 21, v 22, v 23⟩ : Mac6)) (num4 (xs.drop 24)) wr) (fun i _ => 6 - (intOf i).toNat)
        case atStart => exact ⟨0, rfl, by omega, rk⟩
        case round =>
          clear rk
          obtain ⟨j, rfl, hj, rk⟩ := hrel
          have hcase : j = 0 ∨ j = 1 ∨ j = 2 ∨ j = 3 ∨ j = 4 ∨ j = 5 ∨ j = 6 := by omega
          rcases hcase with rfl | rfl | rfl | rfl | rfl | rfl | rfl
          · have c1 := Hc.out _ rk.rd 8 (by omega)
            have c2 := Hc.out _ rk.rd 18 (by omega)
            have s1 := blk_cell rk.pk (i := 1) rfl
            have s2 := blk_cell rk.pk (i := 8) rfl
            have z1 := blk_frozen rk.pk (i := 1)
            have z2 := blk_frozen rk.pk (i := 8)
            have rk' := rk.put0
            have j1 : (8 : Int) < (n : Int) := by omega
            have j2 : (18 : Int) < (n : Int) := by omega
            clear rk
            go_wp2
            go_roundw
            case rel => exact ⟨1, rfl, by omega, rk'⟩
            case measure => simp [intOf]
          · have c1 := Hc.out _ rk.rd 9 (by omega)
            have c2 := Hc.out _ rk.rd 19 (by omega)
            have s1 := blk_cell rk.pk (i := 2) rfl
            have s2 := blk_cell rk.pk (i := 9) rfl
            have z1 := blk_frozen rk.pk (i := 2)
            have z2 := blk_frozen rk.pk (i := 9)
            have rk' := rk.put1
            have j1 : (9 : Int) < (n : Int) := by omega
            have j2 : (19 : Int) < (n : Int) := by omega
            clear rk
            go_wp2
            go_roundw
            case rel => exact ⟨2, rfl, by omega, rk'⟩
            case measure => simp [intOf]
          · have c1 := Hc.out _ rk.rd 10 (by omega)
            have c2 := Hc.out _ rk.rd 20 (by omega)
            have s1 := blk_cell rk.pk (i := 3) rfl
            have s2 := blk_cell rk.pk (i := 10) rfl
            have z1 := blk_frozen rk.pk (i := 3)
            have z2 := blk_frozen rk.pk (i := 10)
            have rk' := rk.put2
            have j1 : (10 : Int) < (n : Int) := by omega
            have j2 : (20 : Int) < (n : Int) := by omega
            clear rk
            go_wp2
            go_roundw
            case rel => exact ⟨3, rfl, by omega, rk'⟩
            case measure => simp [intOf]
          · have c1 := Hc.out _ rk.rd 11 (by omega)
            have c2 := Hc.out _ rk.rd 21 (by omega)
            have s1 := blk_cell rk.pk (i := 4) rfl
            have s2 := blk_cell rk.pk (i := 11) rfl
            have z1 := blk_frozen rk.pk (i := 4)
            have z2 := blk_frozen rk.pk (i := 11)
            have rk' := rk.put3
            have j1 : (11 : Int) < (n : Int) := by omega
            have j2 : (21 : Int) < (n : Int) := by omega
            clear rk
            go_wp2
            go_roundw
            case rel => exact ⟨4, rfl, by omega, rk'⟩
            case measure => simp [intOf]
          · have c1 := Hc.out _ rk.rd 12 (by omega)
            have c2 := Hc.out _ rk.rd 22 (by omega)
            have s1 := blk_cell rk.pk (i := 5) rfl
            have s2 := blk_cell rk.pk (i := 12) rfl
            have z1 := blk_frozen rk.pk (i := 5)
            have z2 := blk_frozen rk.pk (i := 12)
            have rk' := rk.put4
            have j1 : (12 : Int) < (n : Int) := by omega
            have j2 : (22 : Int) < (n : Int) := by omega
            clear rk
            go_wp2
            go_roundw
            case rel => exact ⟨5, rfl, by omega, rk'⟩
            case measure => simp [intOf]
          · have c1 := Hc.out _ rk.rd 13 (by omega)
            have c2 := Hc.out _ rk.rd 23 (by omega)
            have s1 := blk_cell rk.pk (i := 6) rfl
            have s2 := blk_cell rk.pk (i := 13) rfl
            have z1 := blk_frozen rk.pk (i := 6)
            have z2 := blk_frozen rk.pk (i := 13)
            have rk' := rk.put5
            have j1 : (13 : Int) < (n : Int) := by omega
            have j2 : (23 : Int) < (n : Int) := by omega
            clear rk
            go_wp2
            go_roundw
            case rel => exact ⟨6, rfl, by omega, rk'⟩
            case measure => simp [intOf]
          · rw [fill_6, fill_6] at rk
            obtain ⟨a0, a1, a2, a3, a4, a5, a6, a7, a8, a9, a10, a11, a12, a13, a14⟩ := rk.pk.cells
            have fin : ∀ (w9 : World), w9.heap[w.heap.size]? = some (.cells (pkC q (⟨v 8, v 9, v 10, v 11, v 12, v 13⟩ : Mac6) (num4 (xs.drop 14)) (⟨v 18, v 19, v 20, v 21, v 22, v 23⟩ : Mac6) (num4 (xs.drop 24))) 35 (0, 0)) → Only w.heap.size wr w9 → PkAt w9 w.heap.size 35 q (⟨v 8, v 9, v 10, v 11, v 12, v 13⟩ : Mac6) (num4 (xs.drop 14)) (⟨v 18, v 19, v 20, v 21, v 22, v 23⟩ : Mac6) (num4 (xs.drop 24)) ∧ Below w.heap.size w w9 ∧ w9.heap[w.heap.size + 1]? = some (.cells (flC none 0 0 0) 39 (0, 0)) := fun w9 h1 ho =>
              ⟨h1, rk.z.below.trans ho.below, (ho.other _ (by omega)).trans rk.z.y⟩
            have fin2 : ∀ (w8 w9 : World), PkAt w8 w.heap.size 35 q (⟨v 8, v 9, v 10, v 11, v 12, v 13⟩ : Mac6) (num4 (xs.drop 14)) (⟨v 18, v 19, v 20, v 21, v 22, v 23⟩ : Mac6) (num4 (xs.drop 24)) → Below w.heap.size w w8 → Only (w.heap.size + 1) w8 w9 → PkAt w9 w.heap.size 35 q (⟨v 8, v 9, v 10, v 11, v 12, v 13⟩ : Mac6) (num4 (xs.drop 14)) (⟨v 18, v 19, v 20, v 21, v 22, v 23⟩ : Mac6) (num4 (xs.drop 24)) ∧ Below w.heap.size w w9 := fun w8 w9 h1 h2 ho =>
              ⟨h1.below ho.below (by omega), h2.trans (ho.below.mono (by omega))⟩
            have zz := rk.z.z
            clear rk
            go_wp2_with (first
              | (refine wpList_stF rfl rfl 35 _ _ rfl w.heap.size (pkC q (⟨v 8, v 9, v 10, v 11, v 12, v 13⟩ : Mac6) (num4 (xs.drop 14)) (⟨v 18, v 19, v 20, v 21, v 22, v 23⟩ : Mac6) (num4 (xs.drop 24))) rfl rfl 35 _ zz (by kernel_rfl) rfl (pkC_one ..) ?_; intro w8 f8 hb8 ho8 hs8; obtain ⟨f8, b8, y8⟩ := fin w8 f8 ⟨hb8, ho8, hs8⟩; clear fin zz hb8 ho8 hs8; clear a0 a1 a2 a3 a4 a5 a6 a7 a8 a9 a10 a11 a12 a13 a14)
              | (refine wpList_stF rfl rfl 39 _ _ rfl (w.heap.size + 1) (flC none 0 0 0) rfl rfl 39 _ y8 (by kernel_rfl) rfl (flC_one _ _ _ _) ?_; intro w9 y9 hb9 ho9 hs9; obtain ⟨f9, b9⟩ := fin2 w8 w9 f8 b8 ⟨hb9, ho9, hs9⟩; clear fin2 f8 b8 y8 hb9 ho9 hs9))
            obtain ⟨a0, a1, a2, a3, a4, a5, a6, a7, a8, a9, a10, a11, a12, a13, a14⟩ := f9.cells
            have p0 : w9.cell? ⟨w.heap.size + 1, 0, none⟩ = some (.slice none 0 0) := blk_cell y9 rfl
            have p1 : w9.cell? ⟨w.heap.size + 1, 1, none⟩ = some (.int .i64 0) := blk_cell y9 rfl
            refine bodyPost_ret (v := .tuple #[pkV q (⟨v 8, v 9, v 10, v 11, v 12, v 13⟩ : Mac6) (num4 (xs.drop 14)) (⟨v 18, v 19, v 20, v 21, v 22, v 23⟩ : Mac6) (num4 (xs.drop 24)), .agg #[.slice none 0 0, .int .i64 0]]) (by simp [results, Tryd.results10, go_sem, *]) rfl ⟨b9, .inr ⟨by rw [hE], ?_⟩⟩
            rw [pkOf, hopx, hT.out, hF.out]
theorem refParse_any (A : Option Addr) (n c : Nat) (xs : List Int) (w : World) (hr : Rd .u8 w w.heap.size A n c xs) : Calls Tryd.prog 10 #[.slice A n c] w (GivesRP w xs) := by
  by_cases h : n < 28
  · exact refParse_short A n c xs w h (by unfold pE; rw [hr.len, if_pos h])
  · exact refParse_long A n c xs w hr (by omega)
end Go.Proofs.YtgjfhgipgcdddaaDoor
