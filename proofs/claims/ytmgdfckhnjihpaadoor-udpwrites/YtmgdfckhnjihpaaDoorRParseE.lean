/-
  Contracts of the document's Ends, and of its Parse where there is no datagram.
-/
import Derived.Test.YtmgdfckhnjihpaaDoorRApp
import Derived.Test.YtmgdfckhnjihpaaDoorSRefs
import Derived.Test.YtmgdfckhnjihpaaDoorRefF
import Derived.Test.YtmgdfckhnjihpaaDoorForce
import Derived.Deep.CutRange
namespace Go.Proofs.YtmgdfckhnjihpaaDoor
open Go.RowKit
set_option linter.unusedVariables false

theorem refNew_at (r e : Int) (hwf : (Lit.int .i64 r).wf = true) (hr : isR r = true) (he : ¬ e = 0) (w : World) : Calls Tryd.prog 25 #[.int .i64 r, .int .i64 e] w (GivesF w none [r] e) := by
  have := refNew_any r e w hwf
  rwa [if_neg (by simp [he, hr]), if_neg (by simp [he, hr])] at this
@[reducible] def flC (A : Option Addr) (n c : Nat) (e : Int) : Array Value := #[.slice A n c, .int .i64 e]
theorem flC_one (A : Option Addr) (n c : Nat) (e : Int) : (flC A n c e).all (·.oneCell') = true := by simp [Value.oneCell']
theorem Rd.other {k : IntKind} {w w' : World} {g B : Nat} {A : Option Addr} {n c : Nat} {xs : List Int} (h : Rd k w B A n c xs) (ho : ∀ j, j ≠ g → w'.heap[j]? = w.heap[j]?) (hg : A = none ∨ ∃ ad, A = some ad ∧ ad.block ≠ g) : Rd k w' B A n c xs :=
  ⟨h.1, h.2.1, h.2.2.1, h.2.2.2.1, fun i hi => by
    obtain ⟨b, o', e, hb, hc⟩ := h.2.2.2.2 i hi
    refine ⟨b, o', e, hb, ?_⟩
    rcases hg with hg | ⟨ad, hg, hne⟩
    · rw [hg] at e; cases e
    · rw [e] at hg
      injection hg with hg
      subst hg
      exact (World.cell?_of_block (a := ⟨b, o' + i, none⟩) (ho b hne)).trans hc⟩
/-- append as a step of the walk, behind a guard that says yes, its slot as a letter. -/
theorem wpList_appGD (dd : Option Tmp) {P : Program} {w : World} {ops : Array Oper} {rest : List Oper} {o : Oper} {a : Act} {Q : Exit → Act → World → Prop} (hgd : Region.wanted o (yielded ops a.tmps) = true) (hdd : o.dst = dd) (s x : Operand) (t : TypeId)
    (ho : o.op = .call { callee := .builtin .append, args := #[s, x], argTypes := #[t, t] }) (base : Nat) {k : IntKind} {e : TypeId} {by_ : Nat} (ht : P.underlying t = some (.slice e))
    (hinfo : (P.info? e).map (fun i => (i.zero, i.size, i.bytes)) = some (some (.int k 0), 1, by_)) (hby8 : by_ ≤ 8)
    (A0 : Option Addr) (n0 c0 : Nat) (xs : List Int) (hs : a.eval s = .slice A0 n0 c0) (hown : Out k e w base A0 n0 c0 xs)
    (A : Option Addr) (m c B : Nat) (ys : List Int) (hx : a.eval x = .slice A m c) (hr : Rd k w B A m c ys) (hsum : n0 + m ≤ 100000000) (hbase : base ≤ w.heap.size)
    (h : ∀ A' n' c' w', Out k e w' base A' n' c' (xs ++ ys) → w.grownBy w' (Value.slice A0 n0 c0).ownBlock → wpList P ops Q rest (a.put dd (.slice A' n' c')) w') : wpList P ops Q (o :: rest) a w := by
  subst hdd
  exact wpList_appG hgd s x t ho base ht hinfo hby8 A0 n0 c0 xs hs hown A m c B ys hx hr hsum hbase h
/-- A slice that lies in no block below B. -/
def Far (B : Nat) (A : Option Addr) : Prop := A = none ∨ ∃ ad, A = some ad ∧ B ≤ ad.block
theorem Far.less {B B' : Nat} {A : Option Addr} (h : Far B A) (hB : B' ≤ B) : Far B' A := h.imp id fun ⟨ad, e, q⟩ => ⟨ad, e, by omega⟩

set_option maxRecDepth 100000 in
set_option maxHeartbeats 4000000 in
theorem ends_any (f t : Int) (n : Int) (w : World) (hf : Ip f) (ht : Ip t) (hn : 0 ≤ n ∧ n ≤ 65535) : Calls Tryd.prog 28 #[.int .u32 f, .int .u32 t, .int .i64 17, .int .i64 n] w fun ev w' => ∃ A c, ev = .returned (.slice A 12 c) ∧ Out .u8 5 w' w.heap.size A 12 c (epR f t n) ∧ Below w.heap.size w w' := by
  have w17 : ∀ x ∈ two2 17, (Lit.int .u8 x).wf = true := two2_wf (by omega)
  go_enter Tryd.func28, Tryd.ntmps28
  go_wp2_with fail
  refine (four_any f _ hf).mono ?_
  rintro ev w1 ⟨g1, rfl, r1, hg1, b⟩
  go_wp2_with fail
  refine (four_any t _ ht).mono ?_
  rintro ev w2 ⟨g2, rfl, r2, -, hb2⟩
  replace r1 := r1.below hb2 r1.lt
  replace b := b.trans (hb2.mono b.size)
  have o1 := r1.own (n := 4) hg1 rfl (by omega) (four_wf hf)
  have d2 := r2.rdW (n := 4) rfl (by omega) (four_wf ht)
  clear hb2 r1 r2 hg1
  go_wp2_with (at_builtin; refine wpList_app rfl (.tmp 11) (.tmp 13) 22 rfl w.heap.size Tryd.underlying22 info5 (by omega) (some ⟨g1, 0, none⟩) 4 4 _ rfl o1 (some ⟨g2, 0, none⟩) 4 4 _ _ rfl d2 (by omega) b.size ?_; intro A3 n3 c3 w3 o3 hgr; replace b := b.trans (grown_low o1 hgr b.size))
  obtain rfl : 8 = n3 := o3.len
  clear o1 d2 hgr
  refine (refTwo_any 17 _ (by omega)).mono ?_
  rintro ev w4 ⟨g4, rfl, r4, -, hb4⟩
  replace o3 := o3.below hb4 (Nat.le_refl _)
  replace b := b.trans (hb4.mono b.size)
  have d4 := r4.rdW (n := 2) rfl (by omega) w17
  clear hb4 r4
  go_wp2_with (at_builtin; refine wpList_app rfl (.tmp 15) (.tmp 17) 22 rfl w.heap.size Tryd.underlying22 info5 (by omega) A3 8 c3 _ rfl o3 (some ⟨g4, 0, none⟩) 2 2 _ _ rfl d4 (by omega) b.size ?_; intro A5 n5 c5 w5 o5 hgr; replace b := b.trans (grown_low o3 hgr b.size))
  obtain rfl : 10 = n5 := o5.len
  clear o3 d4 hgr
  refine (refTwo_any n _ hn).mono ?_
  rintro ev w6 ⟨g6, rfl, r6, -, hb6⟩
  replace o5 := o5.below hb6 (Nat.le_refl _)
  replace b := b.trans (hb6.mono b.size)
  have d6 := r6.rdW (n := 2) rfl (by omega) (two2_wf hn)
  clear hb6 r6
  go_wp2_with (at_builtin; refine wpList_app rfl (.tmp 18) (.tmp 20) 22 rfl w.heap.size Tryd.underlying22 info5 (by omega) A5 10 c5 _ rfl o5 (some ⟨g6, 0, none⟩) 2 2 _ _ rfl d6 (by omega) b.size ?_; intro A7 n7 c7 w7 o7 hgr; replace b := b.trans (grown_low o5 hgr b.size))
  obtain rfl : 12 = n7 := o7.len
  clear o5 d6 hgr
  go_ret
  exact ⟨A7, c7, rfl, o7, b⟩

/-- No datagram: the document's answer. -/
def GivesN (w : World) (r e : Int) (ev : Ending) (w' : World) : Prop :=
  Below w.heap.size w w' ∧ ∃ A n c, ev = .returned (.tuple #[zeroP, .agg #[.slice A n c, .int .i64 e]]) ∧ Rd .i64 w' w'.heap.size A n c [r] ∧ Far w.heap.size A
/-- A datagram. -/
def GivesY (w : World) (h : Hd) (ys : List Int) (ev : Ending) (w' : World) : Prop :=
  Below w.heap.size w w' ∧ ∃ A n c, ev = .returned (.tuple #[pkV h A n c, .agg #[.slice none 0 0, .int .i64 0]]) ∧ Out .u8 5 w' w.heap.size A n c ys
/-- The two answers' blocks, as they lie at first. -/
structure RZ (w W : World) : Prop where
  z : PkAt W w.heap.size 33 zeroH none 0 0
  y : W.heap[w.heap.size + 1]? = some (.cells (flC none 0 0 0) 37 (0, 0))
  below : Below w.heap.size w W
theorem RZ.step {w W V : World} (h : RZ w W) (hb : Below W.heap.size W V) : RZ w V := ⟨h.z.step hb, (hb.block _ (blk_lt h.y)).trans h.y, h.below.trans (hb.mono h.below.size)⟩
theorem RZ.start (w : World) : RZ w ((w.alloc (.cells (pkC zeroH none 0 0) 33)).alloc (.cells (flC none 0 0 0) 37)) :=
  ⟨(PkAt.new w 33 zeroH none 0 0).step (alloc_below _ _), by simpa using heap_alloc_new (w.alloc (.cells (pkC zeroH none 0 0) 33)) (.cells (flC none 0 0 0) 37), (alloc_below w _).alloc (by simp) _⟩
/-- Behind the two stores. -/
structure RE (w : World) (r e : Int) (A : Option Addr) (n c : Nat) (W : World) : Prop where
  z : PkAt W w.heap.size 33 zeroH none 0 0
  y : W.heap[w.heap.size + 1]? = some (.cells (flC A n c e) 37 (0, 0))
  rd : Rd .i64 W W.heap.size A n c [r]
  below : Below w.heap.size w W
/-- What the walk knows. -/
structure R0 (w : World) (A : Option Addr) (n c : Nat) (xs : List Int) (W : World) : Prop where
  z : RZ w W
  rd : Rd .u8 W w.heap.size A n c xs
section
variable {w W V : World} {A : Option Addr} {n c : Nat} {xs : List Int}
theorem R0.sz (h : R0 w A n c xs W) : w.heap.size + 2 ≤ W.heap.size := blk_lt h.z.y
theorem R0.step (h : R0 w A n c xs W) (hb : Below W.heap.size W V) : R0 w A n c xs V := ⟨h.z.step hb, h.rd.below hb h.z.below.size⟩
theorem R0.low {B : Nat} (h : R0 w A n c xs W) (hB : w.heap.size + 2 ≤ B) (hb : Below B W V) : R0 w A n c xs V := ⟨⟨h.z.z.below hb (by omega), (hb.block _ (by omega)).trans h.z.y, h.z.below.trans (hb.mono (by omega))⟩, h.rd.below hb (by omega)⟩
theorem R0.start (hr : Rd .u8 w w.heap.size A n c xs) : R0 w A n c xs ((w.alloc (.cells (pkC zeroH none 0 0) 33)).alloc (.cells (flC none 0 0 0) 37)) := ⟨RZ.start w, hr.below (RZ.start w).below (Nat.le_refl _)⟩
end

set_option maxRecDepth 100000 in
set_option maxHeartbeats 4000000 in
theorem refP_short (A : Option Addr) (n c : Nat) (xs : List Int) (f t : Int) (w : World) (hr : Rd .u8 w w.heap.size A n c xs) (hn : n < 8) : Calls Tryd.prog 10 #[.slice A n c, .int .u32 f, .int .u32 t] w (GivesN w 1 12) := by
  have st := R0.start hr
  have n1 : (n : Int) < 8 := by omega
  clear hr
  go_enter Tryd.func10, Tryd.ntmps10
  go_wp2_with fail
  refine (refNew_at 1 12 (by decide) (by decide) (by decide) _).mono ?_
  rintro ev w1 ⟨A1, n1, c1, rfl, rd1, new1, hb1⟩
  have hsz := st.sz
  have far : Far (w.heap.size + 2) A1 := by
    rcases new1 with h | h | ⟨ad, h, h1, _⟩
    · exact .inl h
    · exact .inl h
    · exact .inr ⟨ad, h, Nat.le_trans hsz h1⟩
  replace st := st.z.step hb1
  have fin : ∀ (w2 : World), w2.heap[w.heap.size]? = some (.cells (pkC zeroH none 0 0) 33 (0, 0)) → Below w.heap.size w1 w2 → (∀ j, j ≠ w.heap.size → w2.heap[j]? = w1.heap[j]?) → w2.heap.size = w1.heap.size → RZ w w2 ∧ Rd .i64 w2 w2.heap.size A1 n1 c1 [1] := fun w2 h1 h2 h3 h4 =>
    ⟨⟨h1, (h3 _ (by omega)).trans st.y, st.below.trans h2⟩, by rw [h4]; exact rd1.other h3 (far.imp id fun ⟨ad, h, h'⟩ => ⟨ad, h, by omega⟩)⟩
  have fin2 : ∀ (w2 w3 : World), RZ w w2 → Rd .i64 w2 w2.heap.size A1 n1 c1 [1] → w3.heap[w.heap.size + 1]? = some (.cells (flC A1 n1 c1 12) 37 (0, 0)) → Below (w.heap.size + 1) w2 w3 → (∀ j, j ≠ w.heap.size + 1 → w3.heap[j]? = w2.heap[j]?) → w3.heap.size = w2.heap.size → RE w 1 12 A1 n1 c1 w3 := fun w2 w3 z2 r2 h1 h2 h3 h4 =>
    ⟨z2.z.below h2 (by omega), h1, by rw [h4]; exact r2.other h3 (far.imp id fun ⟨ad, h, h'⟩ => ⟨ad, h, by omega⟩), z2.below.trans (h2.mono (by omega))⟩
  have z1 := st.z
  replace far : Far w.heap.size A1 := far.less (by omega)
  clear hb1 new1 rd1 st hsz
  go_wp2_with (first
    | (refine wpList_stF rfl rfl 33 _ _ rfl w.heap.size (pkC zeroH none 0 0) rfl rfl 33 _ z1 (by kernel_rfl) rfl (pkC_one ..) ?_; intro w2 f2 hb2 ho2 hs2; obtain ⟨z2, r2⟩ := fin w2 f2 hb2 ho2 hs2; clear fin f2 hb2 ho2 hs2; have y2 := z2.y)
    | (refine wpList_stF rfl rfl 37 _ _ rfl (w.heap.size + 1) (flC A1 n1 c1 12) rfl rfl 37 _ y2 (by kernel_rfl) rfl (flC_one _ _ _ _) ?_; intro w3 f3 hb3 ho3 hs3; have re := fin2 w2 w3 z2 r2 f3 hb3 ho3 hs3; clear fin2 f3 hb3 ho3 hs3 y2))
  obtain ⟨a0, a1, a2, a3⟩ := re.z.cells
  have b0 : w3.cell? ⟨w.heap.size + 1, 0, none⟩ = some (.slice A1 n1 c1) := blk_cell re.y rfl
  have b1 : w3.cell? ⟨w.heap.size + 1, 1, none⟩ = some (.int .i64 12) := blk_cell re.y rfl
  exact bodyPost_ret (v := .tuple #[zeroP, .agg #[.slice A1 n1 c1, .int .i64 12]]) (by simp [results, Tryd.results10, go_sem, b0, b1, a0, a1, a2, a3]) rfl ⟨re.below, A1, n1, c1, rfl, re.rd, far⟩

set_option maxRecDepth 100000 in
set_option maxHeartbeats 4000000 in
theorem refP_form (b o n c T : Nat) (xs : List Int) (f t : Int) (w : World) (hr : Rd .u8 w w.heap.size (some ⟨b, o, none⟩) n c xs) (hn : 8 ≤ n) (hT : told xs = T) (h : T < 8) : Calls Tryd.prog 10 #[.slice (some ⟨b, o, none⟩) n c, .int .u32 f, .int .u32 t] w (GivesN w 1 10) := by
  have hcap := hr.cap
  have hmax := hr.max
  have st := R0.start hr
  have n1 : ¬ (n : Int) < 8 := by omega
  have k4 : ¬ c = 4 := by omega
  have j4 : (4 : Int) ≤ (n : Int) := by omega
  have hb4 := num2_bd rfl (hr.cutS 4 (by omega) k4) (by omega)
  have e4 : num2 (xs.drop 4) = (T : Int) := by unfold told at hT; omega
  have t4 : ∀ W, Rd .u8 W w.heap.size (some ⟨b, o, none⟩) n c xs → Calls Tryd.prog 26 #[.slice (some ⟨b, o + 4, none⟩) (n - 4) (c - 4)] W fun e w' => e = .returned (.int .i64 (T : Int)) ∧ ∃ m', w' = W.drewN m' := fun W h => by
    rw [← e4]
    exact num_any _ (n - 4) (c - 4) w.heap.size (xs.drop 4) W (h.cutS 4 (by omega) k4) (by omega)
  have hT16 : T ≤ 65535 := by omega
  have q1 : (T : Int) < 8 := by omega
  clear hr hT e4 hb4
  go_enter Tryd.func10, Tryd.ntmps10
  go_wp2_with fail
  refine (t4 _ st.rd).mono ?_
  rintro ev w5 ⟨rfl, m, hw⟩
  replace st := st.step (Still.drewN _ m).below
  rw [← hw] at st
  clear hw t4
  go_wp2_with fail
  refine (refNew_at 1 10 (by decide) (by decide) (by decide) _).mono ?_
  rintro ev w1 ⟨A1, n1, c1, rfl, rd1, new1, hb1⟩
  have hsz := st.sz
  have far : Far (w.heap.size + 2) A1 := by
    rcases new1 with h | h | ⟨ad, h, h1, _⟩
    · exact .inl h
    · exact .inl h
    · exact .inr ⟨ad, h, Nat.le_trans hsz h1⟩
  replace st := st.z.step hb1
  have fin : ∀ (w2 : World), w2.heap[w.heap.size]? = some (.cells (pkC zeroH none 0 0) 33 (0, 0)) → Below w.heap.size w1 w2 → (∀ j, j ≠ w.heap.size → w2.heap[j]? = w1.heap[j]?) → w2.heap.size = w1.heap.size → RZ w w2 ∧ Rd .i64 w2 w2.heap.size A1 n1 c1 [1] := fun w2 h1 h2 h3 h4 =>
    ⟨⟨h1, (h3 _ (by omega)).trans st.y, st.below.trans h2⟩, by rw [h4]; exact rd1.other h3 (far.imp id fun ⟨ad, h, h'⟩ => ⟨ad, h, by omega⟩)⟩
  have fin2 : ∀ (w2 w3 : World), RZ w w2 → Rd .i64 w2 w2.heap.size A1 n1 c1 [1] → w3.heap[w.heap.size + 1]? = some (.cells (flC A1 n1 c1 10) 37 (0, 0)) → Below (w.heap.size + 1) w2 w3 → (∀ j, j ≠ w.heap.size + 1 → w3.heap[j]? = w2.heap[j]?) → w3.heap.size = w2.heap.size → RE w 1 10 A1 n1 c1 w3 := fun w2 w3 z2 r2 h1 h2 h3 h4 =>
    ⟨z2.z.below h2 (by omega), h1, by rw [h4]; exact r2.other h3 (far.imp id fun ⟨ad, h, h'⟩ => ⟨ad, h, by omega⟩), z2.below.trans (h2.mono (by omega))⟩
  have z1 := st.z
  replace far : Far w.heap.size A1 := far.less (by omega)
  clear hb1 new1 rd1 st hsz
  go_wp2_with (first
    | (refine wpList_stF rfl rfl 33 _ _ rfl w.heap.size (pkC zeroH none 0 0) rfl rfl 33 _ z1 (by kernel_rfl) rfl (pkC_one ..) ?_; intro w2 f2 hb2 ho2 hs2; obtain ⟨z2, r2⟩ := fin w2 f2 hb2 ho2 hs2; clear fin f2 hb2 ho2 hs2; have y2 := z2.y)
    | (refine wpList_stF rfl rfl 37 _ _ rfl (w.heap.size + 1) (flC A1 n1 c1 10) rfl rfl 37 _ y2 (by kernel_rfl) rfl (flC_one _ _ _ _) ?_; intro w3 f3 hb3 ho3 hs3; have re := fin2 w2 w3 z2 r2 f3 hb3 ho3 hs3; clear fin2 f3 hb3 ho3 hs3 y2))
  obtain ⟨a0, a1, a2, a3⟩ := re.z.cells
  have b0 : w3.cell? ⟨w.heap.size + 1, 0, none⟩ = some (.slice A1 n1 c1) := blk_cell re.y rfl
  have b1 : w3.cell? ⟨w.heap.size + 1, 1, none⟩ = some (.int .i64 10) := blk_cell re.y rfl
  exact bodyPost_ret (v := .tuple #[zeroP, .agg #[.slice A1 n1 c1, .int .i64 10]]) (by simp [results, Tryd.results10, go_sem, b0, b1, a0, a1, a2, a3]) rfl ⟨re.below, A1, n1, c1, rfl, re.rd, far⟩

set_option maxRecDepth 100000 in
set_option maxHeartbeats 4000000 in
theorem refP_end (b o n c T : Nat) (xs : List Int) (f t : Int) (w : World) (hr : Rd .u8 w w.heap.size (some ⟨b, o, none⟩) n c xs) (hn : 8 ≤ n) (hT : told xs = T) (h8 : 8 ≤ T) (h : n < T) : Calls Tryd.prog 10 #[.slice (some ⟨b, o, none⟩) n c, .int .u32 f, .int .u32 t] w (GivesN w 1 12) := by
  have hcap := hr.cap
  have hmax := hr.max
  have st := R0.start hr
  have n1 : ¬ (n : Int) < 8 := by omega
  have k4 : ¬ c = 4 := by omega
  have j4 : (4 : Int) ≤ (n : Int) := by omega
  have hb4 := num2_bd rfl (hr.cutS 4 (by omega) k4) (by omega)
  have e4 : num2 (xs.drop 4) = (T : Int) := by unfold told at hT; omega
  have t4 : ∀ W, Rd .u8 W w.heap.size (some ⟨b, o, none⟩) n c xs → Calls Tryd.prog 26 #[.slice (some ⟨b, o + 4, none⟩) (n - 4) (c - 4)] W fun e w' => e = .returned (.int .i64 (T : Int)) ∧ ∃ m', w' = W.drewN m' := fun W h => by
    rw [← e4]
    exact num_any _ (n - 4) (c - 4) w.heap.size (xs.drop 4) W (h.cutS 4 (by omega) k4) (by omega)
  have hT16 : T ≤ 65535 := by omega
  have q1 : ¬ (T : Int) < 8 := by omega
  have q2 : (n : Int) < (T : Int) := by omega
  clear hr hT e4 hb4
  go_enter Tryd.func10, Tryd.ntmps10
  go_wp2_with fail
  refine (t4 _ st.rd).mono ?_
  rintro ev w5 ⟨rfl, m, hw⟩
  replace st := st.step (Still.drewN _ m).below
  rw [← hw] at st
  clear hw t4
  go_wp2_with fail
  refine (refNew_at 1 12 (by decide) (by decide) (by decide) _).mono ?_
  rintro ev w1 ⟨A1, n1, c1, rfl, rd1, new1, hb1⟩
  have hsz := st.sz
  have far : Far (w.heap.size + 2) A1 := by
    rcases new1 with h | h | ⟨ad, h, h1, _⟩
    · exact .inl h
    · exact .inl h
    · exact .inr ⟨ad, h, Nat.le_trans hsz h1⟩
  replace st := st.z.step hb1
  have fin : ∀ (w2 : World), w2.heap[w.heap.size]? = some (.cells (pkC zeroH none 0 0) 33 (0, 0)) → Below w.heap.size w1 w2 → (∀ j, j ≠ w.heap.size → w2.heap[j]? = w1.heap[j]?) → w2.heap.size = w1.heap.size → RZ w w2 ∧ Rd .i64 w2 w2.heap.size A1 n1 c1 [1] := fun w2 h1 h2 h3 h4 =>
    ⟨⟨h1, (h3 _ (by omega)).trans st.y, st.below.trans h2⟩, by rw [h4]; exact rd1.other h3 (far.imp id fun ⟨ad, h, h'⟩ => ⟨ad, h, by omega⟩)⟩
  have fin2 : ∀ (w2 w3 : World), RZ w w2 → Rd .i64 w2 w2.heap.size A1 n1 c1 [1] → w3.heap[w.heap.size + 1]? = some (.cells (flC A1 n1 c1 12) 37 (0, 0)) → Below (w.heap.size + 1) w2 w3 → (∀ j, j ≠ w.heap.size + 1 → w3.heap[j]? = w2.heap[j]?) → w3.heap.size = w2.heap.size → RE w 1 12 A1 n1 c1 w3 := fun w2 w3 z2 r2 h1 h2 h3 h4 =>
    ⟨z2.z.below h2 (by omega), h1, by rw [h4]; exact r2.other h3 (far.imp id fun ⟨ad, h, h'⟩ => ⟨ad, h, by omega⟩), z2.below.trans (h2.mono (by omega))⟩
  have z1 := st.z
  replace far : Far w.heap.size A1 := far.less (by omega)
  clear hb1 new1 rd1 st hsz
  go_wp2_with (first
    | (refine wpList_stF rfl rfl 33 _ _ rfl w.heap.size (pkC zeroH none 0 0) rfl rfl 33 _ z1 (by kernel_rfl) rfl (pkC_one ..) ?_; intro w2 f2 hb2 ho2 hs2; obtain ⟨z2, r2⟩ := fin w2 f2 hb2 ho2 hs2; clear fin f2 hb2 ho2 hs2; have y2 := z2.y)
    | (refine wpList_stF rfl rfl 37 _ _ rfl (w.heap.size + 1) (flC A1 n1 c1 12) rfl rfl 37 _ y2 (by kernel_rfl) rfl (flC_one _ _ _ _) ?_; intro w3 f3 hb3 ho3 hs3; have re := fin2 w2 w3 z2 r2 f3 hb3 ho3 hs3; clear fin2 f3 hb3 ho3 hs3 y2))
  obtain ⟨a0, a1, a2, a3⟩ := re.z.cells
  have b0 : w3.cell? ⟨w.heap.size + 1, 0, none⟩ = some (.slice A1 n1 c1) := blk_cell re.y rfl
  have b1 : w3.cell? ⟨w.heap.size + 1, 1, none⟩ = some (.int .i64 12) := blk_cell re.y rfl
  exact bodyPost_ret (v := .tuple #[zeroP, .agg #[.slice A1 n1 c1, .int .i64 12]]) (by simp [results, Tryd.results10, go_sem, b0, b1, a0, a1, a2, a3]) rfl ⟨re.below, A1, n1, c1, rfl, re.rd, far⟩

set_option maxRecDepth 100000 in
set_option maxHeartbeats 4000000 in
theorem refP_far (b o n c T : Nat) (xs : List Int) (f t : Int) (w : World) (hr : Rd .u8 w w.heap.size (some ⟨b, o, none⟩) n c xs) (hn : 8 ≤ n) (hT : told xs = T) (h8 : 8 ≤ T) (hq : T ≤ n) (h : 1480 < T) : Calls Tryd.prog 10 #[.slice (some ⟨b, o, none⟩) n c, .int .u32 f, .int .u32 t] w (GivesN w 1 11) := by
  have hcap := hr.cap
  have hmax := hr.max
  have st := R0.start hr
  have n1 : ¬ (n : Int) < 8 := by omega
  have k4 : ¬ c = 4 := by omega
  have j4 : (4 : Int) ≤ (n : Int) := by omega
  have hb4 := num2_bd rfl (hr.cutS 4 (by omega) k4) (by omega)
  have e4 : num2 (xs.drop 4) = (T : Int) := by unfold told at hT; omega
  have t4 : ∀ W, Rd .u8 W w.heap.size (some ⟨b, o, none⟩) n c xs → Calls Tryd.prog 26 #[.slice (some ⟨b, o + 4, none⟩) (n - 4) (c - 4)] W fun e w' => e = .returned (.int .i64 (T : Int)) ∧ ∃ m', w' = W.drewN m' := fun W h => by
    rw [← e4]
    exact num_any _ (n - 4) (c - 4) w.heap.size (xs.drop 4) W (h.cutS 4 (by omega) k4) (by omega)
  have hT16 : T ≤ 65535 := by omega
  have q1 : ¬ (T : Int) < 8 := by omega
  have q2 : ¬ (n : Int) < (T : Int) := by omega
  have q3 : (1480 : Int) < (T : Int) := by omega
  clear hr hT e4 hb4
  go_enter Tryd.func10, Tryd.ntmps10
  go_wp2_with fail
  refine (t4 _ st.rd).mono ?_
  rintro ev w5 ⟨rfl, m, hw⟩
  replace st := st.step (Still.drewN _ m).below
  rw [← hw] at st
  clear hw t4
  go_wp2_with fail
  refine (refNew_at 1 11 (by decide) (by decide) (by decide) _).mono ?_
  rintro ev w1 ⟨A1, n1, c1, rfl, rd1, new1, hb1⟩
  have hsz := st.sz
  have far : Far (w.heap.size + 2) A1 := by
    rcases new1 with h | h | ⟨ad, h, h1, _⟩
    · exact .inl h
    · exact .inl h
    · exact .inr ⟨ad, h, Nat.le_trans hsz h1⟩
  replace st := st.z.step hb1
  have fin : ∀ (w2 : World), w2.heap[w.heap.size]? = some (.cells (pkC zeroH none 0 0) 33 (0, 0)) → Below w.heap.size w1 w2 → (∀ j, j ≠ w.heap.size → w2.heap[j]? = w1.heap[j]?) → w2.heap.size = w1.heap.size → RZ w w2 ∧ Rd .i64 w2 w2.heap.size A1 n1 c1 [1] := fun w2 h1 h2 h3 h4 =>
    ⟨⟨h1, (h3 _ (by omega)).trans st.y, st.below.trans h2⟩, by rw [h4]; exact rd1.other h3 (far.imp id fun ⟨ad, h, h'⟩ => ⟨ad, h, by omega⟩)⟩
  have fin2 : ∀ (w2 w3 : World), RZ w w2 → Rd .i64 w2 w2.heap.size A1 n1 c1 [1] → w3.heap[w.heap.size + 1]? = some (.cells (flC A1 n1 c1 11) 37 (0, 0)) → Below (w.heap.size + 1) w2 w3 → (∀ j, j ≠ w.heap.size + 1 → w3.heap[j]? = w2.heap[j]?) → w3.heap.size = w2.heap.size → RE w 1 11 A1 n1 c1 w3 := fun w2 w3 z2 r2 h1 h2 h3 h4 =>
    ⟨z2.z.below h2 (by omega), h1, by rw [h4]; exact r2.other h3 (far.imp id fun ⟨ad, h, h'⟩ => ⟨ad, h, by omega⟩), z2.below.trans (h2.mono (by omega))⟩
  have z1 := st.z
  replace far : Far w.heap.size A1 := far.less (by omega)
  clear hb1 new1 rd1 st hsz
  go_wp2_with (first
    | (refine wpList_stF rfl rfl 33 _ _ rfl w.heap.size (pkC zeroH none 0 0) rfl rfl 33 _ z1 (by kernel_rfl) rfl (pkC_one ..) ?_; intro w2 f2 hb2 ho2 hs2; obtain ⟨z2, r2⟩ := fin w2 f2 hb2 ho2 hs2; clear fin f2 hb2 ho2 hs2; have y2 := z2.y)
    | (refine wpList_stF rfl rfl 37 _ _ rfl (w.heap.size + 1) (flC A1 n1 c1 11) rfl rfl 37 _ y2 (by kernel_rfl) rfl (flC_one _ _ _ _) ?_; intro w3 f3 hb3 ho3 hs3; have re := fin2 w2 w3 z2 r2 f3 hb3 ho3 hs3; clear fin2 f3 hb3 ho3 hs3 y2))
  obtain ⟨a0, a1, a2, a3⟩ := re.z.cells
  have b0 : w3.cell? ⟨w.heap.size + 1, 0, none⟩ = some (.slice A1 n1 c1) := blk_cell re.y rfl
  have b1 : w3.cell? ⟨w.heap.size + 1, 1, none⟩ = some (.int .i64 11) := blk_cell re.y rfl
  exact bodyPost_ret (v := .tuple #[zeroP, .agg #[.slice A1 n1 c1, .int .i64 11]]) (by simp [results, Tryd.results10, go_sem, b0, b1, a0, a1, a2, a3]) rfl ⟨re.below, A1, n1, c1, rfl, re.rd, far⟩

set_option maxRecDepth 100000 in
set_option maxHeartbeats 4000000 in
theorem refP_sum (b o n c T : Nat) (xs : List Int) (f t : Int) (w : World) (hr : Rd .u8 w w.heap.size (some ⟨b, o, none⟩) n c xs) (hn : 8 ≤ n) (hT : told xs = T) (h8 : 8 ≤ T) (hq : T ≤ n) (hm : T ≤ 1480) (hf : Ip f) (ht : Ip t) (tt : Int) (hz : ¬ num2 (xs.drop 6) = 0) (hs : totV (epR f t T ++ xs.take T) = tt) (hne : ¬ tt = 65535) : Calls Tryd.prog 10 #[.slice (some ⟨b, o, none⟩) n c, .int .u32 f, .int .u32 t] w (GivesN w 2 13) := by
  have hcap := hr.cap
  have hmax := hr.max
  have st := R0.start hr
  have n1 : ¬ (n : Int) < 8 := by omega
  have k4 : ¬ c = 4 := by omega
  have j4 : (4 : Int) ≤ (n : Int) := by omega
  have hb4 := num2_bd rfl (hr.cutS 4 (by omega) k4) (by omega)
  have e4 : num2 (xs.drop 4) = (T : Int) := by unfold told at hT; omega
  have t4 : ∀ W, Rd .u8 W w.heap.size (some ⟨b, o, none⟩) n c xs → Calls Tryd.prog 26 #[.slice (some ⟨b, o + 4, none⟩) (n - 4) (c - 4)] W fun e w' => e = .returned (.int .i64 (T : Int)) ∧ ∃ m', w' = W.drewN m' := fun W h => by
    rw [← e4]
    exact num_any _ (n - 4) (c - 4) w.heap.size (xs.drop 4) W (h.cutS 4 (by omega) k4) (by omega)
  have hT16 : T ≤ 65535 := by omega
  have q1 : ¬ (T : Int) < 8 := by omega
  have q2 : ¬ (n : Int) < (T : Int) := by omega
  have q3 : ¬ (1480 : Int) < (T : Int) := by omega
  have k6 : ¬ c = 6 := by omega
  have j6 : (6 : Int) ≤ (n : Int) := by omega
  have t6 : ∀ W, Rd .u8 W w.heap.size (some ⟨b, o, none⟩) n c xs → Calls Tryd.prog 26 #[.slice (some ⟨b, o + 6, none⟩) (n - 6) (c - 6)] W fun e w' => e = .returned (.int .i64 (num2 (xs.drop 6))) ∧ ∃ m', w' = W.drewN m' := fun W h => num_any _ (n - 6) (c - 6) w.heap.size (xs.drop 6) W (h.cutS 6 (by omega) k6) (by omega)
  have j1 : (T : Int) ≤ (c : Int) := by omega
  have ce : Hid (∀ W, Calls Tryd.prog 28 #[.int .u32 f, .int .u32 t, .int .i64 17, .int .i64 T] W fun ev w' => ∃ A c, ev = .returned (.slice A 12 c) ∧ Out .u8 5 w' W.heap.size A 12 c (epR f t T) ∧ Below W.heap.size W w') := Lib.hid (fun W => ends_any f t T W hf ht (by omega))
  have cs : Hid (∀ W A n1 c1 , Out .u8 5 W (w.heap.size + 2) A n1 c1 (epR f t T ++ xs.take T) → Calls Tryd.prog 27 #[.slice A n1 c1] W fun ev w' => ev = .returned (.int .u16 tt) ∧ W = w') := Lib.hid (fun W A n1 c1 h => by
    have l := h.len
    rw [List.length_append, epR_len, List.length_take] at l
    have := refTotal_any A n1 c1 W.heap.size _ W h.rd (by omega)
    rwa [hs] at this)
  have EL : Hid ((epR f t T).length = 12) := Lib.hid rfl
  generalize num2 (xs.drop 6) = p6 at *
  have hzb : (p6 == 0) = false := by simpa using hz
  have hnb : (tt != 65535) = true := by simpa using hne
  clear hr hT e4 hb4 hs hf ht hne
  go_enter Tryd.func10, Tryd.ntmps10
  go_wp2_with fail
  refine (t4 _ st.rd).mono ?_
  rintro ev w5 ⟨rfl, m, hw⟩
  replace st := st.step (Still.drewN _ m).below
  rw [← hw] at st
  clear hw t4
  go_wp2_with fail
  refine (t6 _ st.rd).mono ?_
  rintro ev w6 ⟨rfl, m, hw⟩
  replace st := st.step (Still.drewN _ m).below
  rw [← hw] at st
  clear hw t6
  go_wp2_with fail
  refine wp_region_held_drew (S := fun w' => R0 w (some ⟨b, o, none⟩) n c xs w') (by kernel_rfl) (st.step (below_drew _)) (fun hHeld => ?_)
  replace st := st.step (below_drew _)
  change wpAnyH _ _ _ _ _ _ _ _ (World.drew _)
  generalize World.drew _ = W7 at *
  refine wpAnyH_at (i := 0) (some 36) (v := ?v0z1) rfl rfl (by kernel_rfl) (by kernel_rfl) (by kernel_rfl) (fun _ _ _ h => h) (Or.inl ⟨by rfl, ?y0z1⟩) (by assumption) ?r0z1
  case y0z1 =>
    intro w9 hSw
    clear hSw
    go_simp
    all_goals with_reducible rfl
  simp only [Act.put, List.setIfInBounds_toArray, List.set_cons_zero, List.set_cons_succ]
  refine wpAnyH_at (i := 1) (some 37) (v := ?v1z2) rfl rfl (by kernel_rfl) (by kernel_rfl) (by kernel_rfl) (fun _ _ _ h => h) (Or.inl ⟨by rfl, ?y1z2⟩) (by assumption) ?r1z2
  case y1z2 =>
    intro w9 hSw
    clear hSw
    go_simp
    all_goals with_reducible rfl
  simp only [Act.put, List.setIfInBounds_toArray, List.set_cons_zero, List.set_cons_succ]
  refine wpAnyH_at (i := 2) (some 38) (v := ?v2z3) rfl rfl (by kernel_rfl) (by kernel_rfl) (by kernel_rfl) (fun _ _ _ h => h) (Or.inl ⟨by rfl, ?y2z3⟩) (by assumption) ?r2z3
  case y2z3 =>
    intro w9 hSw
    clear hSw
    go_simp
    all_goals with_reducible rfl
  simp only [Act.put, List.setIfInBounds_toArray, List.set_cons_zero, List.set_cons_succ]
  refine wpAnyH_at (i := 3) (some 39) (v := ?v3z4) rfl rfl (by kernel_rfl) (by kernel_rfl) (by kernel_rfl) (fun _ _ _ h => h) (Or.inl ⟨by rfl, ?y3z4⟩) (by assumption) ?r3z4
  case y3z4 =>
    intro w9 hSw
    clear hSw
    go_simp
    all_goals with_reducible rfl
  simp only [Act.put, List.setIfInBounds_toArray, List.set_cons_zero, List.set_cons_succ]
  refine wpAnyH_at (i := 4) (some 40) (v := ?v4z5) rfl rfl (by kernel_rfl) (by kernel_rfl) (by kernel_rfl) (fun _ _ _ h => h) (Or.inl ⟨by rfl, ?y4z5⟩) (by assumption) ?r4z5
  case y4z5 =>
    intro w9 hSw
    clear hSw
    go_simp
    all_goals with_reducible rfl
  simp only [Act.put, List.setIfInBounds_toArray, List.set_cons_zero, List.set_cons_succ]
  refine wpAnyH_at (i := 5) (some 41) (v := ?v5z6) rfl rfl (by kernel_rfl) (by kernel_rfl) (by kernel_rfl) (fun _ _ _ h => h) (Or.inl ⟨by rfl, ?y5z6⟩) (by assumption) ?r5z6
  case y5z6 =>
    intro w9 hSw
    clear hSw
    go_simp
    all_goals with_reducible rfl
  simp only [Act.put, List.setIfInBounds_toArray, List.set_cons_zero, List.set_cons_succ]
  refine wpAnyH_at (i := 7) (some 43) (v := ?v7z7) rfl rfl (by kernel_rfl) (by kernel_rfl) (by kernel_rfl) (fun _ _ _ h => h) (Or.inl ⟨by rfl, ?y7z7⟩) (by assumption) ?r7z7
  case y7z7 =>
    intro w9 hSw
    clear hSw
    go_simp
    all_goals with_reducible rfl
  simp only [Act.put, List.setIfInBounds_toArray, List.set_cons_zero, List.set_cons_succ]
  refine wpAnyH_at (i := 8) (some 44) (v := ?v8z8) rfl rfl (by kernel_rfl) (by kernel_rfl) (by kernel_rfl) (fun _ _ _ h => h) (Or.inl ⟨by rfl, ?y8z8⟩) (by assumption) ?r8z8
  case y8z8 =>
    intro w9 hSw
    clear hSw
    go_simp
    all_goals with_reducible rfl
  simp only [Act.put, List.setIfInBounds_toArray, List.set_cons_zero, List.set_cons_succ]
  refine wpAnyH_at (i := 9) (some 45) (v := ?v9z9) rfl rfl (by kernel_rfl) (by kernel_rfl) (by kernel_rfl) (fun _ _ _ h => h) (Or.inl ⟨by rfl, ?y9z9⟩) (by assumption) ?r9z9
  case y9z9 =>
    intro w9 hSw
    clear hSw
    go_simp
    all_goals with_reducible rfl
  simp only [Act.put, List.setIfInBounds_toArray, List.set_cons_zero, List.set_cons_succ]
  refine wpAnyH_one (i := 6) (by kernel_rfl) rfl ?_
  go_wp2_with (go_at_call 28; refine (ce.out _).mono ?_; rintro ev W8 ⟨A1, c1, rfl, o1, hb⟩)
  have b7 := st.sz
  replace st := st.step hb
  replace o1 := o1.rebase b7
  clear hHeld hb ce b7
  have hHeld := st
  refine ⟨hHeld, ?_⟩
  try simp only [Act.put, List.setIfInBounds_toArray, List.set_cons_zero, List.set_cons_succ]
  refine wpAnyH_one (i := 10) (by kernel_rfl) rfl ?_
  refine wpList_appGD (some 46) (by rfl) rfl (.tmp 42) (.tmp 45) 22 rfl (w.heap.size + 2) Tryd.underlying22 info5 (by omega) A1 12 c1 (epR f t T) rfl o1 (some ⟨b, o, none⟩) T c w.heap.size (xs.take T) rfl (st.rd.cutTo T hq) (by omega) st.sz ?_
  intro A2 n2 c2 W9 o2 hgr
  replace st := st.low (Nat.le_refl _) (grown_low o1 hgr st.sz)
  clear hgr o1 hHeld
  have hHeld := st
  go_wp2
  refine ⟨hHeld, ?_⟩
  try simp only [Act.put, List.setIfInBounds_toArray, List.set_cons_zero, List.set_cons_succ]
  refine wpAnyH_one (i := 11) (by kernel_rfl) rfl ?_
  go_wp2_with (go_at_call 27; refine (cs.out _ _ _ _ o2).mono ?_; rintro ev W10 ⟨rfl, rfl⟩)
  refine ⟨hHeld, ?_⟩
  try simp only [Act.put, List.setIfInBounds_toArray, List.set_cons_zero, List.set_cons_succ]
  refine wpAnyH_at (i := 12) (some 48) (v := ?v12z10) rfl rfl (by kernel_rfl) (by kernel_rfl) (by kernel_rfl) (fun _ _ _ h => h) (Or.inl ⟨by rfl, ?y12z10⟩) (by assumption) ?r12z10
  case y12z10 =>
    intro w9 hSw
    clear hSw
    go_simp
    all_goals with_reducible rfl
  simp only [Act.put, List.setIfInBounds_toArray, List.set_cons_zero, List.set_cons_succ]
  refine wpAnyH_at (i := 13) (some 49) (v := ?v13z11) rfl rfl (by kernel_rfl) (by kernel_rfl) (by kernel_rfl) (fun _ _ _ h => h) (Or.inl ⟨by rfl, ?y13z11⟩) (by assumption) ?r13z11
  case y13z11 =>
    intro w9 hSw
    clear hSw
    go_simp
    all_goals with_reducible rfl
  simp only [Act.put, List.setIfInBounds_toArray, List.set_cons_zero, List.set_cons_succ]
  refine wpAnyH_done (by kernel_rfl) ?_ _
  clear hHeld o2 cs
  go_wp2_with fail
  refine (refNew_at 2 13 (by decide) (by decide) (by decide) _).mono ?_
  rintro ev w1 ⟨A1, n1, c1, rfl, rd1, new1, hb1⟩
  have hsz := st.sz
  have far : Far (w.heap.size + 2) A1 := by
    rcases new1 with h | h | ⟨ad, h, h1, _⟩
    · exact .inl h
    · exact .inl h
    · exact .inr ⟨ad, h, Nat.le_trans hsz h1⟩
  replace st := st.z.step hb1
  have fin : ∀ (w2 : World), w2.heap[w.heap.size]? = some (.cells (pkC zeroH none 0 0) 33 (0, 0)) → Below w.heap.size w1 w2 → (∀ j, j ≠ w.heap.size → w2.heap[j]? = w1.heap[j]?) → w2.heap.size = w1.heap.size → RZ w w2 ∧ Rd .i64 w2 w2.heap.size A1 n1 c1 [2] := fun w2 h1 h2 h3 h4 =>
    ⟨⟨h1, (h3 _ (by omega)).trans st.y, st.below.trans h2⟩, by rw [h4]; exact rd1.other h3 (far.imp id fun ⟨ad, h, h'⟩ => ⟨ad, h, by omega⟩)⟩
  have fin2 : ∀ (w2 w3 : World), RZ w w2 → Rd .i64 w2 w2.heap.size A1 n1 c1 [2] → w3.heap[w.heap.size + 1]? = some (.cells (flC A1 n1 c1 13) 37 (0, 0)) → Below (w.heap.size + 1) w2 w3 → (∀ j, j ≠ w.heap.size + 1 → w3.heap[j]? = w2.heap[j]?) → w3.heap.size = w2.heap.size → RE w 2 13 A1 n1 c1 w3 := fun w2 w3 z2 r2 h1 h2 h3 h4 =>
    ⟨z2.z.below h2 (by omega), h1, by rw [h4]; exact r2.other h3 (far.imp id fun ⟨ad, h, h'⟩ => ⟨ad, h, by omega⟩), z2.below.trans (h2.mono (by omega))⟩
  have z1 := st.z
  replace far : Far w.heap.size A1 := far.less (by omega)
  clear hb1 new1 rd1 st hsz
  go_wp2_with (first
    | (refine wpList_stF rfl rfl 33 _ _ rfl w.heap.size (pkC zeroH none 0 0) rfl rfl 33 _ z1 (by kernel_rfl) rfl (pkC_one ..) ?_; intro w2 f2 hb2 ho2 hs2; obtain ⟨z2, r2⟩ := fin w2 f2 hb2 ho2 hs2; clear fin f2 hb2 ho2 hs2; have y2 := z2.y)
    | (refine wpList_stF rfl rfl 37 _ _ rfl (w.heap.size + 1) (flC A1 n1 c1 13) rfl rfl 37 _ y2 (by kernel_rfl) rfl (flC_one _ _ _ _) ?_; intro w3 f3 hb3 ho3 hs3; have re := fin2 w2 w3 z2 r2 f3 hb3 ho3 hs3; clear fin2 f3 hb3 ho3 hs3 y2))
  obtain ⟨a0, a1, a2, a3⟩ := re.z.cells
  have b0 : w3.cell? ⟨w.heap.size + 1, 0, none⟩ = some (.slice A1 n1 c1) := blk_cell re.y rfl
  have b1 : w3.cell? ⟨w.heap.size + 1, 1, none⟩ = some (.int .i64 13) := blk_cell re.y rfl
  exact bodyPost_ret (v := .tuple #[zeroP, .agg #[.slice A1 n1 c1, .int .i64 13]]) (by simp [results, Tryd.results10, go_sem, b0, b1, a0, a1, a2, a3]) rfl ⟨re.below, A1, n1, c1, rfl, re.rd, far⟩
end Go.Proofs.YtmgdfckhnjihpaaDoor
