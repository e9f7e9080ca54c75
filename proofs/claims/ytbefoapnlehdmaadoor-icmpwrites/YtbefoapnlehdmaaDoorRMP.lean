/-
  Contract of the document's Bytes.
-/
import Derived.Test.YtbefoapnlehdmaaDoorMParse
import Derived.Test.YtbefoapnlehdmaaDoorRParse
import Derived.Laws.OwnMore
namespace Go.Proofs.YtbefoapnlehdmaaDoor
open Go.RowKit
set_option linter.unusedVariables false

theorem Out.set {w : World} {base g n c : Nat} {xs : List Int} (h : Out .u8 5 w base (some ⟨g, 0, none⟩) n c xs) (j : Nat) (x : Int) (hx : (Lit.int .u8 x).wf = true) :
    Out .u8 5 (w.setCell ⟨g, j, none⟩ (.int .u8 x)) base (some ⟨g, 0, none⟩) n c (xs.set j x) := by
  obtain ⟨h1, h2⟩ := h.1.stored j (.int .u8 x)
  refine ⟨by rw [List.map_set]; exact h1, fun y hy => ?_⟩
  rcases List.mem_or_eq_of_mem_set hy with hy | rfl
  · exact h.2 y hy
  · exact hx
/-- What the walk knows: the message's box, the fault's block. -/
structure KRb (w : World) (h : Ms) (A : Option Addr) (n c : Nat) (xs : List Int) (W : World) : Prop where
  ms : MsAt W w.heap.size 32 h A n c
  y : W.heap[w.heap.size + 1]? = some (.cells (flC none 0 0 0) 36 (0, 0))
  rd : Rd .u8 W w.heap.size A n c xs
  below : Below w.heap.size w W
section
variable {w W V : World} {h : Ms} {A : Option Addr} {n c B : Nat} {xs : List Int}
theorem KRb.sz (q : KRb w h A n c xs W) : w.heap.size + 2 ≤ W.heap.size := blk_lt q.y
theorem KRb.low (q : KRb w h A n c xs W) (hB : w.heap.size + 2 ≤ B) (hb : Below B W V) : KRb w h A n c xs V := ⟨q.ms.below hb (by omega), (hb.block _ (by omega)).trans q.y, q.rd.below hb (by omega), q.below.trans (hb.mono (by omega))⟩
theorem KRb.step (q : KRb w h A n c xs W) (hb : Below W.heap.size W V) : KRb w h A n c xs V := q.low q.sz hb
end
theorem KRb.start (h : Ms) (A : Option Addr) (n c : Nat) (xs : List Int) (w : World) (hr : Rd .u8 w w.heap.size A n c xs) : KRb w h A n c xs ((w.alloc (.cells (msC h A n c) 32)).alloc (.cells (flC none 0 0 0) 36)) :=
  ⟨(MsAt.new w 32 h A n c).step (alloc_below _ _), by simpa using heap_alloc_new (w.alloc (.cells (msC h A n c) 32)) (.cells (flC none 0 0 0) 36), (hr.below (alloc_below w (.cells (msC h A n c) 32)) (Nat.le_refl _)).below (alloc_below _ (.cells (flC none 0 0 0) 36)) (by simp), (alloc_below w _).alloc (by simp) _⟩
theorem raw_mset (h : Ms) (s : Int) (xs : List Int) : ((ahL h ++ xs).set 2 (s / 256)).set 3 (s % 256) = mhP h s ++ xs := by simp [ahL, mhP]
set_option maxRecDepth 100000 in
set_option maxHeartbeats 4000000 in
theorem refMBytes_far (h : Ms) (A : Option Addr) (n c : Nat) (xs : List Int) (w : World) (hr : Rd .u8 w w.heap.size A n c xs) (hn : 1472 < n) :
    Calls Tryd.prog 18 #[msV h A n c] w fun ev w' => ∃ A1 n1 c1, ev = .returned (.tuple #[.slice none 0 0, .agg #[.slice A1 n1 c1, .int .i64 11]]) ∧ Rd .i64 w' w'.heap.size A1 n1 c1 [1] ∧ Below w.heap.size w w' := by
  have st := KRb.start h A n c xs w hr
  have n1 : (1472 : Int) < (n : Int) := by omega
  have hmax := Nat.le_trans hr.cap hr.max
  clear hr
  obtain ⟨a0, a1, a2, a3, a4, a5, a6⟩ := st.ms.cells
  go_enter Tryd.func18, Tryd.ntmps18
  go_wp2_with fail
  refine (refNew_at 1 11 (by decide) (by decide) (by decide) _).mono ?_
  rintro ev w1 ⟨A1, n1, c1, rfl, rd1, new1, hb1⟩
  have hsz := st.sz
  clear a0 a1 a2 a3 a4 a5 a6
  replace st := st.step hb1
  have far : A1 = none ∨ ∃ ad, A1 = some ad ∧ ad.block ≠ w.heap.size + 1 := by
    rcases new1 with h | h | ⟨ad, h, h1, _⟩
    · exact .inl h
    · exact .inl h
    · have q2 := Nat.le_trans hsz h1
      exact .inr ⟨ad, h, by omega⟩
  have y1 := st.y
  clear hb1 new1
  go_wp2_with (refine wpList_stF rfl rfl 36 _ _ rfl (w.heap.size + 1) (flC A1 n1 c1 11) rfl rfl 36 _ y1 (by kernel_rfl) rfl (flC_one _ _ _ _) ?_; intro w3 f3 hb3 ho3 hs3)
  have b0 : w3.cell? ⟨w.heap.size + 1, 0, none⟩ = some (.slice A1 n1 c1) := blk_cell f3 rfl
  have b1 : w3.cell? ⟨w.heap.size + 1, 1, none⟩ = some (.int .i64 11) := blk_cell f3 rfl
  refine bodyPost_ret (v := .tuple #[.slice none 0 0, .agg #[.slice A1 n1 c1, .int .i64 11]]) (by simp [results, Tryd.results18, go_sem, b0, b1]) rfl ⟨A1, n1, c1, rfl, ?_, st.below.trans (hb3.mono (by omega))⟩
  rw [hs3]
  exact rd1.other ho3 far
/-- A message's bytes, as the document has them. -/
def GivesRB (w : World) (zs : List Int) (ev : Ending) (w' : World) : Prop :=
  ∃ A1 n1 c1, ev = .returned (.tuple #[.slice A1 n1 c1, .agg #[.slice none 0 0, .int .i64 0]]) ∧ Out .u8 5 w' w.heap.size A1 n1 c1 zs ∧ Below w.heap.size w w'
set_option maxRecDepth 100000 in
set_option maxHeartbeats 4000000 in
theorem refMBytes_near (h : Ms) (A : Option Addr) (n c m : Nat) (xs : List Int) (w : World) (hk : h.ok) (hr : Rd .u8 w w.heap.size A n c xs) (hn : n ≤ 1472) (hm : 8 + n = m) (s : Int) (hs : 65535 - totV (ahL h ++ xs) = s) (sb : 0 ≤ s ∧ s ≤ 65535) :
    Calls Tryd.prog 18 #[msV h A n c] w (GivesRB w (mhP h s ++ xs)) := by
  have st := KRb.start h A n c xs w hr
  have n1 : ¬ (1472 : Int) < (n : Int) := by omega
  have u1 : s.tdiv 256 = s / 256 := by rw [Int.tdiv_eq_ediv_of_nonneg (by omega)]
  have u2 : s.tmod 256 = s % 256 := by rw [Int.tmod_eq_emod_of_nonneg (by omega)]
  have v1 : IntKind.u16.wrap (s / 256) = s / 256 := by rw [IntKind.wrap_u16]; omega
  have v2 : IntKind.u8.wrap (s / 256) = s / 256 := by rw [IntKind.wrap_u8]; omega
  have v3 : IntKind.u16.wrap (s % 256) = s % 256 := by rw [IntKind.wrap_u16]; omega
  have v4 : IntKind.u8.wrap (s % 256) = s % 256 := by rw [IntKind.wrap_u8]; omega
  have f1 : (Lit.int .u8 (s / 256)).wf = true := u8_mk (by omega)
  have f2 : (Lit.int .u8 (s % 256)).wf = true := u8_mk (by omega)
  have wl := Lib.hid (bytes_of4 (r := 0) (s := 0) hk.ty hk.cd (by omega) (by omega))
  have m1 : m ≤ 1480 := by omega
  have m2 : 8 ≤ m := by omega
  have HM := Lib.hid hm
  have HX := Lib.hid hr.len
  have Hk := Lib.hid hk
  replace hs := Lib.hid hs
  clear hr hm hk
  obtain ⟨a0, a1, a2, a3, a4, a5, a6⟩ := st.ms.cells
  go_enter Tryd.func18, Tryd.ntmps18
  go_wp2_with fail
  clear a0 a1 a2 a3 a4 a5 a6
  refine wp_region_held_drew (S := fun w' => KRb w h A n c xs w') (by kernel_rfl) (st.step (below_drew _)) (fun hHeld => ?_)
  replace st := st.step (below_drew _)
  change wpAnyH _ _ _ _ _ _ _ _ (World.drew _)
  generalize World.drew _ = W0 at *
  refine wpAnyH_at (i := 0) (some 11) (v := ?v0z1) rfl rfl (by kernel_rfl) (by kernel_rfl) (by kernel_rfl) (fun _ _ _ h => h) (Or.inl ⟨by rfl, ?y0z1⟩) (by assumption) ?r0z1
  case y0z1 =>
    intro w9 hSw
    clear hSw
    go_simp
    all_goals with_reducible rfl
  simp only [Act.put, List.setIfInBounds_toArray, List.set_cons_zero, List.set_cons_succ]
  refine wpAnyH_at (i := 1) (some 12) (v := ?v1z2) rfl rfl (by kernel_rfl) (by kernel_rfl) (by kernel_rfl) (fun _ _ _ h => h) (Or.inl ⟨by rfl, ?y1z2⟩) (by assumption) ?r1z2
  case y1z2 =>
    intro w9 hSw
    (obtain ⟨a0, a1, a2, a3, a4, a5, a6⟩ := (show KRb w h A n c xs w9 from hSw).ms.cells); clear hSw
    go_simp
    all_goals with_reducible rfl
  simp only [Act.put, List.setIfInBounds_toArray, List.set_cons_zero, List.set_cons_succ]
  refine wpAnyH_at (i := 2) (some 13) (v := ?v2z3) rfl rfl (by kernel_rfl) (by kernel_rfl) (by kernel_rfl) (fun _ _ _ h => h) (Or.inl ⟨by rfl, ?y2z3⟩) (by assumption) ?r2z3
  case y2z3 =>
    intro w9 hSw
    clear hSw
    go_simp
    all_goals with_reducible rfl
  simp only [Act.put, List.setIfInBounds_toArray, List.set_cons_zero, List.set_cons_succ]
  refine wpAnyH_at (i := 3) (some 14) (v := ?v3z4) rfl rfl (by kernel_rfl) (by kernel_rfl) (by kernel_rfl) (fun _ _ _ h => h) (Or.inl ⟨by rfl, ?y3z4⟩) (by assumption) ?r3z4
  case y3z4 =>
    intro w9 hSw
    (obtain ⟨a0, a1, a2, a3, a4, a5, a6⟩ := (show KRb w h A n c xs w9 from hSw).ms.cells); clear hSw
    go_simp
    all_goals with_reducible rfl
  simp only [Act.put, List.setIfInBounds_toArray, List.set_cons_zero, List.set_cons_succ]
  refine wpAnyH_at (i := 5) (some 16) (v := ?v5z5) rfl rfl (by kernel_rfl) (by kernel_rfl) (by kernel_rfl) (fun _ _ _ h => h) (Or.inl ⟨by rfl, ?y5z5⟩) (by assumption) ?r5z5
  case y5z5 =>
    intro w9 hSw
    clear hSw
    go_simp
    all_goals with_reducible rfl
  simp only [Act.put, List.setIfInBounds_toArray, List.set_cons_zero, List.set_cons_succ]
  refine wpAnyH_at (i := 6) (some 17) (v := ?v6z6) rfl rfl (by kernel_rfl) (by kernel_rfl) (by kernel_rfl) (fun _ _ _ h => h) (Or.inl ⟨by rfl, ?y6z6⟩) (by assumption) ?r6z6
  case y6z6 =>
    intro w9 hSw
    clear hSw
    go_simp
    all_goals with_reducible rfl
  simp only [Act.put, List.setIfInBounds_toArray, List.set_cons_zero, List.set_cons_succ]
  refine wpAnyH_one (i := 4) (by kernel_rfl) rfl ?_
  have rl : Row (W0.alloc (.cells #[.int .u8 h.ty, .int .u8 h.cd, .int .u8 0, .int .u8 0] 5)) W0.heap.size [h.ty, h.cd, 0, 0] := heap_alloc_new W0 _
  have gl := st.sz
  have bl := alloc_below W0 (.cells #[.int .u8 h.ty, .int .u8 h.cd, .int .u8 0, .int .u8 0] 5)
  replace st := st.step bl
  clear hHeld bl
  have hHeld := st
  go_wp2
  refine ⟨hHeld, ?_⟩
  change wpAnyH _ _ _ _ _ _ _ _ (W0.alloc (.cells #[.int .u8 h.ty, .int .u8 h.cd, .int .u8 0, .int .u8 0] 5))
  generalize W0.alloc (.cells #[.int .u8 h.ty, .int .u8 h.cd, .int .u8 0, .int .u8 0] 5) = W1 at *
  generalize W0.heap.size = gL at *
  try simp only [Act.put, List.setIfInBounds_toArray, List.set_cons_zero, List.set_cons_succ]
  refine wpAnyH_one (i := 7) (by kernel_rfl) rfl ?_
  have ol := rl.own (n := 4) gl rfl (by omega) wl.out
  refine wpList_appD (some 18) rfl rfl (.tmp 15) (.tmp 17) 22 rfl (w.heap.size + 2) Tryd.underlying22 info5 (by omega) (some ⟨gL, 0, none⟩) 4 4 [h.ty, h.cd, 0, 0] rfl ol (some ⟨w.heap.size, 2, none⟩) 4 4 _ [h.r0, h.r1, h.r2, h.r3] rfl (st.ms.rest Hk.out) (by omega) st.sz ?_
  intro A1 n1 c1 W2 o1 hgr
  replace st := st.low (Nat.le_refl _) (grown_low ol hgr st.sz)
  obtain rfl : n1 = 8 := by have := o1.len; simpa using this.symm
  clear hgr ol rl hHeld
  have hHeld := st
  go_wp2
  refine ⟨hHeld, ?_⟩
  try simp only [Act.put, List.setIfInBounds_toArray, List.set_cons_zero, List.set_cons_succ]
  refine wpAnyH_at (i := 8) (some 4) (v := ?v8z7) rfl rfl (by kernel_rfl) (by kernel_rfl) (by kernel_rfl) (fun _ _ _ h => h) (Or.inl ⟨by rfl, ?y8z7⟩) (by assumption) ?r8z7
  case y8z7 =>
    intro w9 hSw
    clear hSw
    go_simp
    all_goals with_reducible rfl
  simp only [Act.put, List.setIfInBounds_toArray, List.set_cons_zero, List.set_cons_succ]
  refine wpAnyH_done (by kernel_rfl) ?_ _
  clear hHeld
  replace o1 : Out .u8 5 W2 (w.heap.size + 2) A1 8 c1 (ahL h) := o1
  obtain ⟨a0, a1, a2, a3, a4, a5, a6⟩ := st.ms.cells
  go_wp2_with (at_builtin; refine wpList_app rfl (.tmp 19) (.tmp 21) 22 rfl (w.heap.size + 2) Tryd.underlying22 info5 (by omega) A1 8 c1 _ rfl o1 A n c w.heap.size xs rfl st.rd (by omega) st.sz ?_; intro A2 n2 c2 w2 o2 hgr; replace st := st.low (Nat.le_refl _) (grown_low o1 hgr st.sz); obtain rfl : m = n2 := (by have q := o2.len; rw [List.length_append, ahL_len, HX.out] at q; rw [← HM.out]; exact q); clear o1 hgr a0 a1 a2 a3 a4 a5 a6)
  have cs := refSumOf_any A2 m c2 _ _ w2 o2.rd (by omega)
  rw [hs.out] at cs
  refine cs.mono ?_
  rintro ev w9 ⟨rfl, rfl⟩
  clear cs hs
  rcases o2.form with ⟨_, q, _⟩ | ⟨g, cur, rfl, hg, -⟩
  · omega
  have c2' := o2.rd.cellAt (i := 2) (by omega)
  have c3' := o2.rd.cellAt (i := 3) (by omega)
  rw [Nat.zero_add] at c2' c3'
  have z2 := o2.1.frozenAt 2
  have z3 := o2.1.frozenAt 3
  have oS := (o2.set 2 (s / 256) f1).set 3 (s % 256) f2
  rw [raw_mset] at oS
  have stS := (st.low (Nat.le_refl _) ((Only.setCell g 2 w2 (.int .u8 (s / 256))).below.mono hg)).low (Nat.le_refl _) ((Only.setCell g 3 _ (.int .u8 (s % 256))).below.mono hg)
  have i2' : 2 < m := by omega
  have i3' : 3 < m := by omega
  have i2 : (2 : Int) < (m : Int) := by omega
  have i3 : (3 : Int) < (m : Int) := by omega
  clear o2 st
  go_wp2_with (refine wpList_stF rfl rfl 36 _ _ rfl (w.heap.size + 1) (flC none 0 0 0) rfl rfl 36 _ stS.y (by kernel_rfl) rfl (flC_one _ _ _ _) ?_; intro wB fB hbB hoB hsB; have bB := stS.below.trans (hbB.mono (by omega)); have oB := oS.other (fun j hj => hoB j (by omega)); clear hbB hoB hsB stS oS)
  have b0 : wB.cell? ⟨w.heap.size + 1, 0, none⟩ = some (.slice none 0 0) := blk_cell fB rfl
  have b1 : wB.cell? ⟨w.heap.size + 1, 1, none⟩ = some (.int .i64 0) := blk_cell fB rfl
  exact bodyPost_ret (v := .tuple #[.slice (some ⟨g, 0, none⟩) m c2, .agg #[.slice none 0 0, .int .i64 0]]) (by simp [results, Tryd.results18, go_sem, b0, b1]) rfl ⟨_, _, _, rfl, oB.rebase (by omega), bB⟩
theorem refMBytes_ok (h : Ms) (A : Option Addr) (n c : Nat) (xs : List Int) (w : World) (hk : h.ok) (hr : Rd .u8 w w.heap.size A n c xs) (hn : n ≤ 1472) : Calls Tryd.prog 18 #[msV h A n c] w (GivesRB w (mR h xs)) :=
  refMBytes_near h A n c (8 + n) xs w hk hr hn rfl _ rfl (mS_bd hk hr.2.2.2.1)
end Go.Proofs.YtbefoapnlehdmaaDoor

namespace Go.Proofs.YtbefoapnlehdmaaDoor
open Go.RowKit
set_option linter.unusedVariables false

/-- No message: the document's answer. -/
def GivesMN (w : World) (r e : Int) (ev : Ending) (w' : World) : Prop :=
  Below w.heap.size w w' ∧ ∃ A n c, ev = .returned (.tuple #[zeroMV, .agg #[.slice A n c, .int .i64 e]]) ∧ Rd .i64 w' w'.heap.size A n c [r] ∧ Far w.heap.size A
/-- A message. -/
def GivesMY (w : World) (h : Ms) (ys : List Int) (ev : Ending) (w' : World) : Prop :=
  Below w.heap.size w w' ∧ ∃ A n c, ev = .returned (.tuple #[msV h A n c, .agg #[.slice none 0 0, .int .i64 0]]) ∧ Out .u8 5 w' w.heap.size A n c ys
/-- The two answers' blocks, as they lie at first. -/
structure RZm (w W : World) : Prop where
  z : MsAt W w.heap.size 32 zeroS none 0 0
  y : W.heap[w.heap.size + 1]? = some (.cells (flC none 0 0 0) 36 (0, 0))
  below : Below w.heap.size w W
theorem RZm.step {w W V : World} (h : RZm w W) (hb : Below W.heap.size W V) : RZm w V := ⟨h.z.step hb, (hb.block _ (blk_lt h.y)).trans h.y, h.below.trans (hb.mono h.below.size)⟩
theorem RZm.start (w : World) : RZm w ((w.alloc (.cells (msC zeroS none 0 0) 32)).alloc (.cells (flC none 0 0 0) 36)) :=
  ⟨(MsAt.new w 32 zeroS none 0 0).step (alloc_below _ _), by simpa using heap_alloc_new (w.alloc (.cells (msC zeroS none 0 0) 32)) (.cells (flC none 0 0 0) 36), (alloc_below w _).alloc (by simp) _⟩
/-- Behind the two stores. -/
structure REm (w : World) (r e : Int) (A : Option Addr) (n c : Nat) (W : World) : Prop where
  z : MsAt W w.heap.size 32 zeroS none 0 0
  y : W.heap[w.heap.size + 1]? = some (.cells (flC A n c e) 36 (0, 0))
  rd : Rd .i64 W W.heap.size A n c [r]
  below : Below w.heap.size w W
/-- What the walk knows. -/
structure R0m (w : World) (A : Option Addr) (n c : Nat) (xs : List Int) (W : World) : Prop where
  z : RZm w W
  rd : Rd .u8 W w.heap.size A n c xs
section
variable {w W V : World} {A : Option Addr} {n c : Nat} {xs : List Int}
theorem R0m.sz (h : R0m w A n c xs W) : w.heap.size + 2 ≤ W.heap.size := blk_lt h.z.y
theorem R0m.step (h : R0m w A n c xs W) (hb : Below W.heap.size W V) : R0m w A n c xs V := ⟨h.z.step hb, h.rd.below hb h.z.below.size⟩
theorem R0m.low {B : Nat} (h : R0m w A n c xs W) (hB : w.heap.size + 2 ≤ B) (hb : Below B W V) : R0m w A n c xs V := ⟨⟨h.z.z.below hb (by omega), (hb.block _ (by omega)).trans h.z.y, h.z.below.trans (hb.mono (by omega))⟩, h.rd.below hb (by omega)⟩
theorem R0m.start (hr : Rd .u8 w w.heap.size A n c xs) : R0m w A n c xs ((w.alloc (.cells (msC zeroS none 0 0) 32)).alloc (.cells (flC none 0 0 0) 36)) := ⟨RZm.start w, hr.below (RZm.start w).below (Nat.le_refl _)⟩
end
theorem Out.far32 {w : World} {base g : Nat} {A : Option Addr} {n c : Nat} {xs : List Int} {cs : Array Value} {T : TypeId} (h : Out .u8 5 w base A n c xs) (hf : w.heap[g]? = some (.cells cs T (0, 0))) (hT : T ≠ 5) : A = none ∨ ∃ ad, A = some ad ∧ ad.block ≠ g := by
  rcases h.form with ⟨rfl, _⟩ | ⟨q, cur, rfl, _, hh, _⟩
  · exact .inl rfl
  · refine .inr ⟨_, rfl, fun (e : q = g) => ?_⟩
    subst e
    rw [hh] at hf
    injection hf with hf
    injection hf with _ h2
    exact hT h2.symm
theorem Out.only {k : IntKind} {e : TypeId} {w w' : World} {base g : Nat} {A : Option Addr} {n c : Nat} {xs : List Int} (h : Out k e w base A n c xs) (ho : ∀ j, j ≠ g → w'.heap[j]? = w.heap[j]?) (hf : A = none ∨ ∃ ad, A = some ad ∧ ad.block ≠ g) : Out k e w' base A n c xs := by
  refine ⟨⟨h.1.1, ?_⟩, h.2⟩
  rcases h.1.2 with hv | ⟨q, cap, cur, hv, hbg, hh, r⟩
  · exact .inl hv
  · refine .inr ⟨q, cap, cur, hv, hbg, ?_, r⟩
    injection hv with e1 _ _
    rcases hf with hf | ⟨ad, hf, hne⟩
    · rw [hf] at e1; cases e1
    · rw [hf] at e1
      injection e1 with e1
      subst e1
      exact (ho q hne).trans hh
theorem Out.blk_lt {k : IntKind} {e : TypeId} {w : World} {base g n c : Nat} {xs : List Int} (h : Out k e w base (some ⟨g, 0, none⟩) n c xs) : g < w.heap.size := by
  rcases h.form with ⟨q, _⟩ | ⟨g', cur, q, _, hh, _⟩
  · cases q
  · injection q with q
    injection q with q
    subst q
    exact (Array.getElem?_eq_some_iff.1 hh).1
theorem MsAt.grown {w w' : World} {g : Nat} {T : TypeId} {h : Ms} {A : Option Addr} {n c : Nat} {row : Option Nat} (q : MsAt w g T h A n c) (hg : w.grownBy w' row) (hne : some g ≠ row) : MsAt w' g T h A n c := (hg.block _ q.lt hne).trans q
/-- What the walk knows of the message: its block g, its body's row. -/
structure RKm (w : World) (A : Option Addr) (n c : Nat) (xs : List Int) (g : Nat) (A' : Option Addr) (n' c' : Nat) (h : Ms) (W : World) : Prop where
  z : RZm w W
  fr : MsAt W g 32 h A' n' c'
  out : Out .u8 5 W (w.heap.size + 2) A' n' c' (xs.drop 8)
  rd : Rd .u8 W w.heap.size A n c xs
  far : A' = none ∨ ∃ ad, A' = some ad ∧ ad.block ≠ g
  ng : w.heap.size + 1 < g
theorem RKm.only {w W V : World} {A : Option Addr} {n c : Nat} {xs : List Int} {g : Nat} {A' : Option Addr} {n' c' : Nat} {h h' : Ms} (q : RKm w A n c xs g A' n' c' h W) (ho : Only g W V) (hf : MsAt V g 32 h' A' n' c') : RKm w A n c xs g A' n' c' h' V :=
  ⟨⟨q.z.z.below ho.below (by have := q.ng; omega), (ho.other _ (by have := q.ng; omega)).trans q.z.y, q.z.below.trans (ho.below.mono (by have := q.ng; omega))⟩, hf, q.out.only ho.other q.far, q.rd.below ho.below (by have := q.ng; omega), q.far, q.ng⟩
/-- The first j of four, noughts behind them. -/
def fillM (j : Nat) (m : Ms) : Ms := ⟨m.ty, m.cd, if 0 < j then m.r0 else 0, if 1 < j then m.r1 else 0, if 2 < j then m.r2 else 0, if 3 < j then m.r3 else 0⟩
theorem fillM_4 (m : Ms) : fillM 4 m = m := by simp [fillM]
theorem RKm.put0 {w W : World} {A : Option Addr} {n c : Nat} {xs : List Int} {g : Nat} {A' : Option Addr} {n' c' : Nat} {m : Ms} (h : RKm w A n c xs g A' n' c' (fillM 0 m) W) : RKm w A n c xs g A' n' c' (fillM 1 m) (W.setCell ⟨g, 2, none⟩ (.int .u8 m.r0)) :=
  h.only (Only.setCell g 2 W _) (heap_setCell h.fr _)
theorem RKm.put1 {w W : World} {A : Option Addr} {n c : Nat} {xs : List Int} {g : Nat} {A' : Option Addr} {n' c' : Nat} {m : Ms} (h : RKm w A n c xs g A' n' c' (fillM 1 m) W) : RKm w A n c xs g A' n' c' (fillM 2 m) (W.setCell ⟨g, 3, none⟩ (.int .u8 m.r1)) :=
  h.only (Only.setCell g 3 W _) (heap_setCell h.fr _)
theorem RKm.put2 {w W : World} {A : Option Addr} {n c : Nat} {xs : List Int} {g : Nat} {A' : Option Addr} {n' c' : Nat} {m : Ms} (h : RKm w A n c xs g A' n' c' (fillM 2 m) W) : RKm w A n c xs g A' n' c' (fillM 3 m) (W.setCell ⟨g, 4, none⟩ (.int .u8 m.r2)) :=
  h.only (Only.setCell g 4 W _) (heap_setCell h.fr _)
theorem RKm.put3 {w W : World} {A : Option Addr} {n c : Nat} {xs : List Int} {g : Nat} {A' : Option Addr} {n' c' : Nat} {m : Ms} (h : RKm w A n c xs g A' n' c' (fillM 3 m) W) : RKm w A n c xs g A' n' c' (fillM 4 m) (W.setCell ⟨g, 5, none⟩ (.int .u8 m.r3)) :=
  h.only (Only.setCell g 5 W _) (heap_setCell h.fr _)
set_option maxRecDepth 100000 in
set_option maxHeartbeats 4000000 in
theorem refM_short (A : Option Addr) (n c : Nat) (xs : List Int) (w : World) (hr : Rd .u8 w w.heap.size A n c xs) (hn : n < 8) : Calls Tryd.prog 11 #[.slice A n c] w (GivesMN w 1 12) := by
  have st := R0m.start hr
  have n1 : (n : Int) < 8 := by omega
  clear hr
  go_enter Tryd.func11, Tryd.ntmps11
  go_wp2_with fail
  refine (refNew_at 1 12 (by decide) (by decide) (by decide) _).mono ?_
  rintro ev w1 ⟨A1, n1, c1, rfl, rd1, new1, hb1⟩
  have hsz := st.sz
  have far : Far (w.heap.size + 2) A1 := by
    rcases new1 with h | h | ⟨ad, h, h1, _⟩
    · exact .inl h
    · exact .inl h
    · exact .inr ⟨ad, h, Nat.le_trans hsz h1⟩
  replace st := st.z.step hb1
  have fin : ∀ (w2 : World), w2.heap[w.heap.size]? = some (.cells (msC zeroS none 0 0) 32 (0, 0)) → Below w.heap.size w1 w2 → (∀ j, j ≠ w.heap.size → w2.heap[j]? = w1.heap[j]?) → w2.heap.size = w1.heap.size → RZm w w2 ∧ Rd .i64 w2 w2.heap.size A1 n1 c1 [1] := fun w2 h1 h2 h3 h4 =>
    ⟨⟨h1, (h3 _ (by omega)).trans st.y, st.below.trans h2⟩, by rw [h4]; exact rd1.other h3 (far.imp id fun ⟨ad, h, h'⟩ => ⟨ad, h, by omega⟩)⟩
  have fin2 : ∀ (w2 w3 : World), RZm w w2 → Rd .i64 w2 w2.heap.size A1 n1 c1 [1] → w3.heap[w.heap.size + 1]? = some (.cells (flC A1 n1 c1 12) 36 (0, 0)) → Below (w.heap.size + 1) w2 w3 → (∀ j, j ≠ w.heap.size + 1 → w3.heap[j]? = w2.heap[j]?) → w3.heap.size = w2.heap.size → REm w 1 12 A1 n1 c1 w3 := fun w2 w3 z2 r2 h1 h2 h3 h4 =>
    ⟨z2.z.below h2 (by omega), h1, by rw [h4]; exact r2.other h3 (far.imp id fun ⟨ad, h, h'⟩ => ⟨ad, h, by omega⟩), z2.below.trans (h2.mono (by omega))⟩
  have z1 := st.z
  replace far : Far w.heap.size A1 := far.less (by omega)
  clear hb1 new1 rd1 st hsz
  go_wp2_with (first
    | (refine wpList_stF rfl rfl 32 _ _ rfl w.heap.size (msC zeroS none 0 0) rfl rfl 32 _ z1 (by kernel_rfl) rfl (msC_one ..) ?_; intro w2 f2 hb2 ho2 hs2; obtain ⟨z2, r2⟩ := fin w2 f2 hb2 ho2 hs2; clear fin f2 hb2 ho2 hs2; have y2 := z2.y)
    | (refine wpList_stF rfl rfl 36 _ _ rfl (w.heap.size + 1) (flC A1 n1 c1 12) rfl rfl 36 _ y2 (by kernel_rfl) rfl (flC_one _ _ _ _) ?_; intro w3 f3 hb3 ho3 hs3; have re := fin2 w2 w3 z2 r2 f3 hb3 ho3 hs3; clear fin2 f3 hb3 ho3 hs3 y2))
  obtain ⟨a0, a1, a2, a3, a4, a5, a6⟩ := re.z.cells
  have b0 : w3.cell? ⟨w.heap.size + 1, 0, none⟩ = some (.slice A1 n1 c1) := blk_cell re.y rfl
  have b1 : w3.cell? ⟨w.heap.size + 1, 1, none⟩ = some (.int .i64 12) := blk_cell re.y rfl
  exact bodyPost_ret (v := .tuple #[zeroMV, .agg #[.slice A1 n1 c1, .int .i64 12]]) (by simp [results, Tryd.results11, go_sem, b0, b1, a0, a1, a2, a3, a4, a5, a6]) rfl ⟨re.below, A1, n1, c1, rfl, re.rd, far⟩

set_option maxRecDepth 100000 in
set_option maxHeartbeats 4000000 in
theorem refM_far (A : Option Addr) (n c : Nat) (xs : List Int) (w : World) (hr : Rd .u8 w w.heap.size A n c xs) (hn : 1480 < n) : Calls Tryd.prog 11 #[.slice A n c] w (GivesMN w 1 11) := by
  have st := R0m.start hr
  have n1 : ¬ (n : Int) < 8 := by omega
  have n2 : (1480 : Int) < (n : Int) := by omega
  clear hr
  go_enter Tryd.func11, Tryd.ntmps11
  go_wp2_with fail
  refine (refNew_at 1 11 (by decide) (by decide) (by decide) _).mono ?_
  rintro ev w1 ⟨A1, n1, c1, rfl, rd1, new1, hb1⟩
  have hsz := st.sz
  have far : Far (w.heap.size + 2) A1 := by
    rcases new1 with h | h | ⟨ad, h, h1, _⟩
    · exact .inl h
    · exact .inl h
    · exact .inr ⟨ad, h, Nat.le_trans hsz h1⟩
  replace st := st.z.step hb1
  have fin : ∀ (w2 : World), w2.heap[w.heap.size]? = some (.cells (msC zeroS none 0 0) 32 (0, 0)) → Below w.heap.size w1 w2 → (∀ j, j ≠ w.heap.size → w2.heap[j]? = w1.heap[j]?) → w2.heap.size = w1.heap.size → RZm w w2 ∧ Rd .i64 w2 w2.heap.size A1 n1 c1 [1] := fun w2 h1 h2 h3 h4 =>
    ⟨⟨h1, (h3 _ (by omega)).trans st.y, st.below.trans h2⟩, by rw [h4]; exact rd1.other h3 (far.imp id fun ⟨ad, h, h'⟩ => ⟨ad, h, by omega⟩)⟩
  have fin2 : ∀ (w2 w3 : World), RZm w w2 → Rd .i64 w2 w2.heap.size A1 n1 c1 [1] → w3.heap[w.heap.size + 1]? = some (.cells (flC A1 n1 c1 11) 36 (0, 0)) → Below (w.heap.size + 1) w2 w3 → (∀ j, j ≠ w.heap.size + 1 → w3.heap[j]? = w2.heap[j]?) → w3.heap.size = w2.heap.size → REm w 1 11 A1 n1 c1 w3 := fun w2 w3 z2 r2 h1 h2 h3 h4 =>
    ⟨z2.z.below h2 (by omega), h1, by rw [h4]; exact r2.other h3 (far.imp id fun ⟨ad, h, h'⟩ => ⟨ad, h, by omega⟩), z2.below.trans (h2.mono (by omega))⟩
  have z1 := st.z
  replace far : Far w.heap.size A1 := far.less (by omega)
  clear hb1 new1 rd1 st hsz
  go_wp2_with (first
    | (refine wpList_stF rfl rfl 32 _ _ rfl w.heap.size (msC zeroS none 0 0) rfl rfl 32 _ z1 (by kernel_rfl) rfl (msC_one ..) ?_; intro w2 f2 hb2 ho2 hs2; obtain ⟨z2, r2⟩ := fin w2 f2 hb2 ho2 hs2; clear fin f2 hb2 ho2 hs2; have y2 := z2.y)
    | (refine wpList_stF rfl rfl 36 _ _ rfl (w.heap.size + 1) (flC A1 n1 c1 11) rfl rfl 36 _ y2 (by kernel_rfl) rfl (flC_one _ _ _ _) ?_; intro w3 f3 hb3 ho3 hs3; have re := fin2 w2 w3 z2 r2 f3 hb3 ho3 hs3; clear fin2 f3 hb3 ho3 hs3 y2))
  obtain ⟨a0, a1, a2, a3, a4, a5, a6⟩ := re.z.cells
  have b0 : w3.cell? ⟨w.heap.size + 1, 0, none⟩ = some (.slice A1 n1 c1) := blk_cell re.y rfl
  have b1 : w3.cell? ⟨w.heap.size + 1, 1, none⟩ = some (.int .i64 11) := blk_cell re.y rfl
  exact bodyPost_ret (v := .tuple #[zeroMV, .agg #[.slice A1 n1 c1, .int .i64 11]]) (by simp [results, Tryd.results11, go_sem, b0, b1, a0, a1, a2, a3, a4, a5, a6]) rfl ⟨re.below, A1, n1, c1, rfl, re.rd, far⟩

set_option maxRecDepth 100000 in
set_option maxHeartbeats 4000000 in
theorem refM_sum (A : Option Addr) (n c : Nat) (xs : List Int) (w : World) (hr : Rd .u8 w w.heap.size A n c xs) (h8 : 8 ≤ n) (hn : n ≤ 1480) (hs : ¬ totV xs = 65535) : Calls Tryd.prog 11 #[.slice A n c] w (GivesMN w 2 13) := by
  have st := R0m.start hr
  have hs' : (totV xs == 65535) = false := by simpa using hs
  have n1 : ¬ (n : Int) < 8 := by omega
  have n2 : ¬ (1480 : Int) < (n : Int) := by omega
  have cs := Lib.hid (fun W (k : R0m w A n c xs W) => refTotal_any A n c w.heap.size xs W k.rd (by omega))
  clear hr
  go_enter Tryd.func11, Tryd.ntmps11
  go_wp2_with fail
  refine (cs.out _ st).mono ?_
  rintro ev w9 ⟨rfl, rfl⟩
  clear cs
  go_wp2_with fail
  refine (refNew_at 2 13 (by decide) (by decide) (by decide) _).mono ?_
  rintro ev w1 ⟨A1, n1, c1, rfl, rd1, new1, hb1⟩
  have hsz := st.sz
  have far : Far (w.heap.size + 2) A1 := by
    rcases new1 with h | h | ⟨ad, h, h1, _⟩
    · exact .inl h
    · exact .inl h
    · exact .inr ⟨ad, h, Nat.le_trans hsz h1⟩
  replace st := st.z.step hb1
  have fin : ∀ (w2 : World), w2.heap[w.heap.size]? = some (.cells (msC zeroS none 0 0) 32 (0, 0)) → Below w.heap.size w1 w2 → (∀ j, j ≠ w.heap.size → w2.heap[j]? = w1.heap[j]?) → w2.heap.size = w1.heap.size → RZm w w2 ∧ Rd .i64 w2 w2.heap.size A1 n1 c1 [2] := fun w2 h1 h2 h3 h4 =>
    ⟨⟨h1, (h3 _ (by omega)).trans st.y, st.below.trans h2⟩, by rw [h4]; exact rd1.other h3 (far.imp id fun ⟨ad, h, h'⟩ => ⟨ad, h, by omega⟩)⟩
  have fin2 : ∀ (w2 w3 : World), RZm w w2 → Rd .i64 w2 w2.heap.size A1 n1 c1 [2] → w3.heap[w.heap.size + 1]? = some (.cells (flC A1 n1 c1 13) 36 (0, 0)) → Below (w.heap.size + 1) w2 w3 → (∀ j, j ≠ w.heap.size + 1 → w3.heap[j]? = w2.heap[j]?) → w3.heap.size = w2.heap.size → REm w 2 13 A1 n1 c1 w3 := fun w2 w3 z2 r2 h1 h2 h3 h4 =>
    ⟨z2.z.below h2 (by omega), h1, by rw [h4]; exact r2.other h3 (far.imp id fun ⟨ad, h, h'⟩ => ⟨ad, h, by omega⟩), z2.below.trans (h2.mono (by omega))⟩
  have z1 := st.z
  replace far : Far w.heap.size A1 := far.less (by omega)
  clear hb1 new1 rd1 st hsz
  go_wp2_with (first
    | (refine wpList_stF rfl rfl 32 _ _ rfl w.heap.size (msC zeroS none 0 0) rfl rfl 32 _ z1 (by kernel_rfl) rfl (msC_one ..) ?_; intro w2 f2 hb2 ho2 hs2; obtain ⟨z2, r2⟩ := fin w2 f2 hb2 ho2 hs2; clear fin f2 hb2 ho2 hs2; have y2 := z2.y)
    | (refine wpList_stF rfl rfl 36 _ _ rfl (w.heap.size + 1) (flC A1 n1 c1 13) rfl rfl 36 _ y2 (by kernel_rfl) rfl (flC_one _ _ _ _) ?_; intro w3 f3 hb3 ho3 hs3; have re := fin2 w2 w3 z2 r2 f3 hb3 ho3 hs3; clear fin2 f3 hb3 ho3 hs3 y2))
  obtain ⟨a0, a1, a2, a3, a4, a5, a6⟩ := re.z.cells
  have b0 : w3.cell? ⟨w.heap.size + 1, 0, none⟩ = some (.slice A1 n1 c1) := blk_cell re.y rfl
  have b1 : w3.cell? ⟨w.heap.size + 1, 1, none⟩ = some (.int .i64 13) := blk_cell re.y rfl
  exact bodyPost_ret (v := .tuple #[zeroMV, .agg #[.slice A1 n1 c1, .int .i64 13]]) (by simp [results, Tryd.results11, go_sem, b0, b1, a0, a1, a2, a3, a4, a5, a6]) rfl ⟨re.below, A1, n1, c1, rfl, re.rd, far⟩

set_option maxRecDepth 100000 in
set_option maxHeartbeats 4000000 in
theorem refM_good (b o n c : Nat) (xs : List Int) (w : World) (hr : Rd .u8 w w.heap.size (some ⟨b, o, none⟩) n c xs) (h8 : 8 ≤ n) (hn : n ≤ 1480) (hs : totV xs = 65535) : Calls Tryd.prog 11 #[.slice (some ⟨b, o, none⟩) n c] w (GivesMY w (mOf xs) (xs.drop 8)) := by
  have hcap := hr.cap
  have hmax := hr.max
  have hbw : b < w.heap.size := by
    obtain ⟨b', o', e, hb, -⟩ := hr.at_ (i := 0) (by omega)
    injection e with e
    injection e with e1 e2
    omega
  have st := R0m.start hr
  have n1 : ¬ (n : Int) < 8 := by omega
  have n2 : ¬ (1480 : Int) < (n : Int) := by omega
  have cs := Lib.hid (fun W (k : R0m w (some ⟨b, o, none⟩) n c xs W) => refTotal_any (some ⟨b, o, none⟩) n c w.heap.size xs W k.rd (by omega))
  have i0 : 0 < n := by omega
  have i1 : (1 : Int) < (n : Int) := by omega
  have i4 : (4 : Int) < (n : Int) := by omega
  have i5 : (5 : Int) < (n : Int) := by omega
  have i6 : (6 : Int) < (n : Int) := by omega
  have i7 : (7 : Int) < (n : Int) := by omega
  have j8 : (8 : Int) ≤ (n : Int) := by omega
  have Hc : Hid (∀ W, Rd .u8 W w.heap.size (some ⟨b, o, none⟩) n c xs → W.cell? ⟨b, o, none⟩ = some (.int .u8 (mOf xs).ty) ∧ W.cell? ⟨b, o + 1, none⟩ = some (.int .u8 (mOf xs).cd) ∧ W.cell? ⟨b, o + 4, none⟩ = some (.int .u8 (mOf xs).r0) ∧ W.cell? ⟨b, o + 5, none⟩ = some (.int .u8 (mOf xs).r1) ∧ W.cell? ⟨b, o + 6, none⟩ = some (.int .u8 (mOf xs).r2) ∧ W.cell? ⟨b, o + 7, none⟩ = some (.int .u8 (mOf xs).r3)) :=
    Lib.hid (fun W k => ⟨k.cellAt (i := 0) (by omega), k.cellAt (i := 1) (by omega), k.cellAt (i := 4) (by omega), k.cellAt (i := 5) (by omega), k.cellAt (i := 6) (by omega), k.cellAt (i := 7) (by omega)⟩)
  generalize mOf xs = mo at *
  have Hs := Lib.hid hs
  clear hr hs hcap hmax
  go_enter Tryd.func11, Tryd.ntmps11
  go_wp2_with fail
  have cs1 := cs.out _ st
  rw [Hs.out] at cs1
  refine cs1.mono ?_
  rintro ev w9 ⟨rfl, hw9⟩
  clear cs cs1
  go_wp2_with fail
  go_cut [4] from 21 to 31 (fun x4 wc => ∃ g A' n' c', x4 = .pointer (some ⟨g, 0, none⟩) ∧ RKm w (some ⟨b, o, none⟩) n c xs g A' n' c' (fillM 0 mo) wc)
  case first =>
    refine wp_region_held_drew (S := fun w' => R0m w (some ⟨b, o, none⟩) n c xs w') (by kernel_rfl) ((by first | exact st.step (below_drew _) | (rw [← hw9]; exact st.step (below_drew _)))) (fun hHeld => ?_)
    replace st : R0m w (some ⟨b, o, none⟩) n c xs _ := hHeld
    change wpAnyH _ _ _ _ _ _ _ _ (World.drew _)
    generalize World.drew _ = W1 at *
    refine wpAnyH_at (i := 0) (some 21) (v := ?v0z1) rfl rfl (by kernel_rfl) (by kernel_rfl) (by kernel_rfl) (fun _ _ _ h => h) (Or.inl ⟨by rfl, ?y0z1⟩) (by assumption) ?r0z1
    case y0z1 =>
      intro w9 hSw
      clear hSw
      go_simp
      all_goals with_reducible rfl
    simp only [Act.put, List.setIfInBounds_toArray, List.set_cons_zero, List.set_cons_succ]
    refine wpAnyH_at (i := 1) (some 22) (v := ?v1z2) rfl rfl (by kernel_rfl) (by kernel_rfl) (by kernel_rfl) (fun _ _ _ h => h) (Or.inl ⟨by rfl, ?y1z2⟩) (by assumption) ?r1z2
    case y1z2 =>
      intro w9 hSw
      clear hSw
      go_simp
      all_goals with_reducible rfl
    simp only [Act.put, List.setIfInBounds_toArray, List.set_cons_zero, List.set_cons_succ]
    refine wpAnyH_at (i := 2) (some 23) (v := ?v2z3) rfl rfl (by kernel_rfl) (by kernel_rfl) (by kernel_rfl) (fun _ _ _ h => h) (Or.inl ⟨by rfl, ?y2z3⟩) (by assumption) ?r2z3
    case y2z3 =>
      intro w9 hSw
      have c1 := (Hc.out _ (R0m.rd hSw)).1; clear hSw
      go_simp
      all_goals with_reducible rfl
    simp only [Act.put, List.setIfInBounds_toArray, List.set_cons_zero, List.set_cons_succ]
    refine wpAnyH_at (i := 3) (some 24) (v := ?v3z4) rfl rfl (by kernel_rfl) (by kernel_rfl) (by kernel_rfl) (fun _ _ _ h => h) (Or.inl ⟨by rfl, ?y3z4⟩) (by assumption) ?r3z4
    case y3z4 =>
      intro w9 hSw
      clear hSw
      go_simp
      all_goals with_reducible rfl
    simp only [Act.put, List.setIfInBounds_toArray, List.set_cons_zero, List.set_cons_succ]
    refine wpAnyH_at (i := 4) (some 25) (v := ?v4z5) rfl rfl (by kernel_rfl) (by kernel_rfl) (by kernel_rfl) (fun _ _ _ h => h) (Or.inl ⟨by rfl, ?y4z5⟩) (by assumption) ?r4z5
    case y4z5 =>
      intro w9 hSw
      clear hSw
      go_simp
      all_goals with_reducible rfl
    simp only [Act.put, List.setIfInBounds_toArray, List.set_cons_zero, List.set_cons_succ]
    refine wpAnyH_at (i := 5) (some 26) (v := ?v5z6) rfl rfl (by kernel_rfl) (by kernel_rfl) (by kernel_rfl) (fun _ _ _ h => h) (Or.inl ⟨by rfl, ?y5z6⟩) (by assumption) ?r5z6
    case y5z6 =>
      intro w9 hSw
      have c1 := (Hc.out _ (R0m.rd hSw)).2.1; clear hSw
      go_simp
      all_goals with_reducible rfl
    simp only [Act.put, List.setIfInBounds_toArray, List.set_cons_zero, List.set_cons_succ]
    refine wpAnyH_at (i := 7) (some 28) (v := ?v7z7) rfl rfl (by kernel_rfl) (by kernel_rfl) (by kernel_rfl) (fun _ _ _ h => h) (Or.inl ⟨by rfl, ?y7z7⟩) (by assumption) ?r7z7
    case y7z7 =>
      intro w9 hSw
      clear hSw
      go_simp
      all_goals with_reducible rfl
    simp only [Act.put, List.setIfInBounds_toArray, List.set_cons_zero, List.set_cons_succ]
    refine wpAnyH_at (i := 8) (some 29) (v := .slice (cutA (some ⟨b, o, none⟩) c 8) (n - 8) (c - 8)) rfl rfl (by kernel_rfl) (by kernel_rfl) (by kernel_rfl) (fun _ _ _ h => h) (Or.inl ⟨by rfl, ?y8z8⟩) (by assumption) ?r8z8
    case y8z8 =>
      intro w9 hSw
      clear hSw
      by_cases hq : c = 8
      · rw [cutA_eq hq]
        subst hq
        go_simp
      · rw [cutA_ne hq]
        go_simp
    simp only [Act.put, List.setIfInBounds_toArray, List.set_cons_zero, List.set_cons_succ]
    refine wpAnyH_two (i := 6) (j := 11) (by kernel_rfl) rfl rfl ?_ ?_
    · have o0 := Out.lit0 .u8 5 W1 (w.heap.size + 2) st.sz
      have bb := alloc_below W1 (.cells #[] 5)
      replace st := st.step bb
      clear hHeld bb
      have hHeld := st
      go_wp2
      refine ⟨hHeld, ?_⟩
      change wpAnyH _ _ _ _ _ _ _ _ (W1.alloc (.cells #[] 5))
      generalize W1.alloc (.cells #[] 5) = W2 at *
      generalize W1.heap.size = gE at *
      try simp only [Act.put, List.setIfInBounds_toArray, List.set_cons_zero, List.set_cons_succ]
      refine wpAnyH_two (i := 9) (j := 11) (by kernel_rfl) rfl rfl ?_ ?_
      · refine wpList_appD (some 30) rfl rfl (.tmp 27) (.tmp 29) 22 rfl (w.heap.size + 2) Tryd.underlying22 info5 (by omega) (some ⟨gE, 0, none⟩) 0 0 [] rfl o0 (cutA (some ⟨b, o, none⟩) c 8) (n - 8) (c - 8) w.heap.size (xs.drop 8) rfl (st.rd.cutFrom 8 h8) (by omega) st.sz ?_
        intro A' n' c' W3 o1 hgr
        rw [List.nil_append] at o1
        replace st := st.low (Nat.le_refl _) (grown_low o0 hgr st.sz)
        clear o0 hgr hHeld
        have hHeld := st
        go_wp2
        refine ⟨hHeld, ?_⟩
        try simp only [Act.put, List.setIfInBounds_toArray, List.set_cons_zero, List.set_cons_succ]
        refine wpAnyH_at (i := 10) (some 31) (v := msV (fillM 0 mo) A' n' c') rfl rfl (by kernel_rfl) (by kernel_rfl) (by kernel_rfl) (fun _ _ _ h => h) (Or.inl ⟨by rfl, fun w9 _ => ?_⟩) (by assumption) ?_
        · go_simp
          all_goals (first | rfl | exact ⟨rfl, rfl, rfl, rfl, rfl, rfl⟩)
        simp only [Act.put, List.setIfInBounds_toArray, List.set_cons_zero, List.set_cons_succ]
        refine wpAnyH_one (i := 11) (by kernel_rfl) rfl ?_
        have f0 := MsAt.new W3 32 zeroS none 0 0
        have gz := st.sz
        have bb := alloc_below W3 (.cells (msC zeroS none 0 0) 32)
        replace st := st.step bb
        replace o1 := o1.below bb (Nat.le_refl _)
        clear hHeld bb
        have hHeld := st
        go_wp2
        refine ⟨hHeld, ?_⟩
        change wpAnyH _ _ _ _ _ _ _ _ (W3.alloc (.cells (msC zeroS none 0 0) 32))
        generalize W3.alloc (.cells (msC zeroS none 0 0) 32) = W4 at *
        have gl := f0.lt
        generalize W3.heap.size = gM at *
        try simp only [Act.put, List.setIfInBounds_toArray, List.set_cons_zero, List.set_cons_succ]
        refine wpAnyH_one (i := 12) (by kernel_rfl) rfl ?_
        refine wpList_stF rfl rfl 32 _ _ rfl gM (msC (fillM 0 mo) A' n' c') rfl rfl 32 _ f0 (by kernel_rfl) rfl (msC_one ..) ?_
        intro w9 f9 hb9 ho9 hs9
        have far := o1.far32 f0 (by decide)
        replace st := st.low gz hb9
        have rk : RKm w (some ⟨b, o, none⟩) n c xs gM A' n' c' (fillM 0 mo) w9 := ⟨st.z, f9, o1.only ho9 far, st.rd, far, gz⟩
        clear f9 hb9 ho9 hs9 far o1 f0 hHeld
        go_wp2
        refine ⟨st, ?_⟩
        refine wpAnyH_done (by kernel_rfl) ?_ _
        go_wp2_with fail
        go_meet
        case rel => exact ⟨_, _, _, _, rfl, rk⟩
      · have f0 := MsAt.new W2 32 zeroS none 0 0
        have gz := st.sz
        have bb := alloc_below W2 (.cells (msC zeroS none 0 0) 32)
        replace st := st.step bb
        have hne := o0.blk_lt
        replace o0 := o0.below bb (Nat.le_refl _)
        clear hHeld bb
        have hHeld := st
        go_wp2
        refine ⟨hHeld, ?_⟩
        change wpAnyH _ _ _ _ _ _ _ _ (W2.alloc (.cells (msC zeroS none 0 0) 32))
        generalize W2.alloc (.cells (msC zeroS none 0 0) 32) = W3 at *
        have gl := f0.lt
        generalize W2.heap.size = gM at *
        try simp only [Act.put, List.setIfInBounds_toArray, List.set_cons_zero, List.set_cons_succ]
        refine wpAnyH_one (i := 9) (by kernel_rfl) rfl ?_
        refine wpList_appD (some 30) rfl rfl (.tmp 27) (.tmp 29) 22 rfl (w.heap.size + 2) Tryd.underlying22 info5 (by omega) (some ⟨gE, 0, none⟩) 0 0 [] rfl o0 (cutA (some ⟨b, o, none⟩) c 8) (n - 8) (c - 8) w.heap.size (xs.drop 8) rfl (st.rd.cutFrom 8 h8) (by omega) st.sz ?_
        intro A' n' c' W4 o1 hgr
        rw [List.nil_append] at o1
        replace st := st.low (Nat.le_refl _) (grown_low o0 hgr st.sz)
        replace f0 := f0.grown hgr (by simp [Value.ownBlock]; omega)
        clear o0 hgr hHeld
        have hHeld := st
        go_wp2
        refine ⟨hHeld, ?_⟩
        try simp only [Act.put, List.setIfInBounds_toArray, List.set_cons_zero, List.set_cons_succ]
        refine wpAnyH_at (i := 10) (some 31) (v := msV (fillM 0 mo) A' n' c') rfl rfl (by kernel_rfl) (by kernel_rfl) (by kernel_rfl) (fun _ _ _ h => h) (Or.inl ⟨by rfl, fun w9 _ => ?_⟩) (by assumption) ?_
        · go_simp
          all_goals (first | rfl | exact ⟨rfl, rfl, rfl, rfl, rfl, rfl⟩)
        simp only [Act.put, List.setIfInBounds_toArray, List.set_cons_zero, List.set_cons_succ]
        refine wpAnyH_one (i := 12) (by kernel_rfl) rfl ?_
        refine wpList_stF rfl rfl 32 _ _ rfl gM (msC (fillM 0 mo) A' n' c') rfl rfl 32 _ f0 (by kernel_rfl) rfl (msC_one ..) ?_
        intro w9 f9 hb9 ho9 hs9
        have far := o1.far32 f0 (by decide)
        replace st := st.low gz hb9
        have rk : RKm w (some ⟨b, o, none⟩) n c xs gM A' n' c' (fillM 0 mo) w9 := ⟨st.z, f9, o1.only ho9 far, st.rd, far, gz⟩
        clear f9 hb9 ho9 hs9 far o1 f0 hHeld
        go_wp2
        refine ⟨st, ?_⟩
        refine wpAnyH_done (by kernel_rfl) ?_ _
        go_wp2_with fail
        go_meet
        case rel => exact ⟨_, _, _, _, rfl, rk⟩
    · have f0 := MsAt.new W1 32 zeroS none 0 0
      have gz := st.sz
      have bb := alloc_below W1 (.cells (msC zeroS none 0 0) 32)
      replace st := st.step bb
      clear hHeld bb
      have hHeld := st
      go_wp2
      refine ⟨hHeld, ?_⟩
      change wpAnyH _ _ _ _ _ _ _ _ (W1.alloc (.cells (msC zeroS none 0 0) 32))
      generalize W1.alloc (.cells (msC zeroS none 0 0) 32) = W2 at *
      have gl := f0.lt
      generalize W1.heap.size = gM at *
      try simp only [Act.put, List.setIfInBounds_toArray, List.set_cons_zero, List.set_cons_succ]
      refine wpAnyH_one (i := 6) (by kernel_rfl) rfl ?_
      have o0 := Out.lit0 .u8 5 W2 (w.heap.size + 2) st.sz
      have bb := alloc_below W2 (.cells #[] 5)
      replace st := st.step bb
      have hne : W2.heap.size ≠ gM := Nat.ne_of_gt gl
      replace f0 := f0.step bb
      clear hHeld bb
      have hHeld := st
      go_wp2
      refine ⟨hHeld, ?_⟩
      change wpAnyH _ _ _ _ _ _ _ _ (W2.alloc (.cells #[] 5))
      generalize W2.alloc (.cells #[] 5) = W3 at *
      generalize W2.heap.size = gE at *
      try simp only [Act.put, List.setIfInBounds_toArray, List.set_cons_zero, List.set_cons_succ]
      refine wpAnyH_one (i := 9) (by kernel_rfl) rfl ?_
      refine wpList_appD (some 30) rfl rfl (.tmp 27) (.tmp 29) 22 rfl (w.heap.size + 2) Tryd.underlying22 info5 (by omega) (some ⟨gE, 0, none⟩) 0 0 [] rfl o0 (cutA (some ⟨b, o, none⟩) c 8) (n - 8) (c - 8) w.heap.size (xs.drop 8) rfl (st.rd.cutFrom 8 h8) (by omega) st.sz ?_
      intro A' n' c' W4 o1 hgr
      rw [List.nil_append] at o1
      replace st := st.low (Nat.le_refl _) (grown_low o0 hgr st.sz)
      replace f0 := f0.grown hgr (by simp [Value.ownBlock]; omega)
      clear o0 hgr hHeld
      have hHeld := st
      go_wp2
      refine ⟨hHeld, ?_⟩
      try simp only [Act.put, List.setIfInBounds_toArray, List.set_cons_zero, List.set_cons_succ]
      refine wpAnyH_at (i := 10) (some 31) (v := msV (fillM 0 mo) A' n' c') rfl rfl (by kernel_rfl) (by kernel_rfl) (by kernel_rfl) (fun _ _ _ h => h) (Or.inl ⟨by rfl, fun w9 _ => ?_⟩) (by assumption) ?_
      · go_simp
        all_goals (first | rfl | exact ⟨rfl, rfl, rfl, rfl, rfl, rfl⟩)
      simp only [Act.put, List.setIfInBounds_toArray, List.set_cons_zero, List.set_cons_succ]
      refine wpAnyH_one (i := 12) (by kernel_rfl) rfl ?_
      refine wpList_stF rfl rfl 32 _ _ rfl gM (msC (fillM 0 mo) A' n' c') rfl rfl 32 _ f0 (by kernel_rfl) rfl (msC_one ..) ?_
      intro w9 f9 hb9 ho9 hs9
      have far := o1.far32 f0 (by decide)
      replace st := st.low gz hb9
      have rk : RKm w (some ⟨b, o, none⟩) n c xs gM A' n' c' (fillM 0 mo) w9 := ⟨st.z, f9, o1.only ho9 far, st.rd, far, gz⟩
      clear f9 hb9 ho9 hs9 far o1 f0 hHeld
      go_wp2
      refine ⟨st, ?_⟩
      refine wpAnyH_done (by kernel_rfl) ?_ _
      go_wp2_with fail
      go_meet
      case rel => exact ⟨_, _, _, _, rfl, rk⟩
  case rest =>
    obtain ⟨g, A', n', c', rfl, rk⟩ := hcut
    clear st
    have hbg : ¬ b = g := by have := rk.ng; omega
    have hgb : ¬ g = b := fun h => hbg h.symm
    go_wp2_with fail
    go_loopw [5] (fun i wr => ∃ j : Nat, i = .int .i64 j ∧ j ≤ 4 ∧ RKm w (some ⟨b, o, none⟩) n c xs g A' n' c' (fillM j mo) wr) (fun i _ => 4 - (intOf i).toNat)
    case atStart => exact ⟨0, rfl, by omega, rk⟩
    case round =>
      clear rk
      obtain ⟨j, rfl, hj, rk⟩ := hrel
      have hcase : j = 0 ∨ j = 1 ∨ j = 2 ∨ j = 3 ∨ j = 4 := by omega
      rcases hcase with rfl | rfl | rfl | rfl | rfl
      · obtain ⟨k0, k1, k4, k5, k6, k7⟩ := Hc.out _ rk.rd
        have s1 := blk_cell rk.fr (i := 2) rfl
        have z1 := blk_frozen rk.fr (i := 2)
        have rk' := rk.put0
        clear rk
        go_wp2
        go_roundw
        case rel => exact ⟨1, rfl, by omega, rk'⟩
        case measure => simp [intOf]
      · obtain ⟨k0, k1, k4, k5, k6, k7⟩ := Hc.out _ rk.rd
        have s1 := blk_cell rk.fr (i := 3) rfl
        have z1 := blk_frozen rk.fr (i := 3)
        have rk' := rk.put1
        clear rk
        go_wp2
        go_roundw
        case rel => exact ⟨2, rfl, by omega, rk'⟩
        case measure => simp [intOf]
      · obtain ⟨k0, k1, k4, k5, k6, k7⟩ := Hc.out _ rk.rd
        have s1 := blk_cell rk.fr (i := 4) rfl
        have z1 := blk_frozen rk.fr (i := 4)
        have rk' := rk.put2
        clear rk
        go_wp2
        go_roundw
        case rel => exact ⟨3, rfl, by omega, rk'⟩
        case measure => simp [intOf]
      · obtain ⟨k0, k1, k4, k5, k6, k7⟩ := Hc.out _ rk.rd
        have s1 := blk_cell rk.fr (i := 5) rfl
        have z1 := blk_frozen rk.fr (i := 5)
        have rk' := rk.put3
        clear rk
        go_wp2
        go_roundw
        case rel => exact ⟨4, rfl, by omega, rk'⟩
        case measure => simp [intOf]
      · rw [fillM_4] at rk
        obtain ⟨a0, a1, a2, a3, a4, a5, a6⟩ := rk.fr.cells
        have fin : ∀ (w9 : World), w9.heap[w.heap.size]? = some (.cells (msC mo A' n' c') 32 (0, 0)) → Only w.heap.size wr w9 → MsAt w9 w.heap.size 32 mo A' n' c' ∧ Below w.heap.size w w9 ∧ Out .u8 5 w9 (w.heap.size + 2) A' n' c' (xs.drop 8) ∧ w9.heap[w.heap.size + 1]? = some (.cells (flC none 0 0 0) 36 (0, 0)) := fun w9 h1 ho =>
          ⟨h1, rk.z.below.trans ho.below, rk.out.other (fun j hj => ho.other j (by omega)), (ho.other _ (by omega)).trans rk.z.y⟩
        have fin2 : ∀ (w8 w9 : World), MsAt w8 w.heap.size 32 mo A' n' c' → Below w.heap.size w w8 → Out .u8 5 w8 (w.heap.size + 2) A' n' c' (xs.drop 8) → Only (w.heap.size + 1) w8 w9 → MsAt w9 w.heap.size 32 mo A' n' c' ∧ Below w.heap.size w w9 ∧ Out .u8 5 w9 w.heap.size A' n' c' (xs.drop 8) := fun w8 w9 h1 h2 h3 ho =>
          ⟨h1.below ho.below (by omega), h2.trans (ho.below.mono (by omega)), (h3.other (fun j hj => ho.other j (by omega))).rebase (by omega)⟩
        have zz := rk.z.z
        clear rk
        go_wp2_with (first
          | (refine wpList_stF rfl rfl 32 _ _ rfl w.heap.size (msC mo A' n' c') rfl rfl 32 _ zz (by kernel_rfl) rfl (msC_one ..) ?_; intro w8 f8 hb8 ho8 hs8; obtain ⟨f8, b8, o8, y8⟩ := fin w8 f8 ⟨hb8, ho8, hs8⟩; clear fin zz hb8 ho8 hs8 a0 a1 a2 a3 a4 a5 a6)
          | (refine wpList_stF rfl rfl 36 _ _ rfl (w.heap.size + 1) (flC none 0 0 0) rfl rfl 36 _ y8 (by kernel_rfl) rfl (flC_one _ _ _ _) ?_; intro w9 y9 hb9 ho9 hs9; obtain ⟨f9, b9, o9⟩ := fin2 w8 w9 f8 b8 o8 ⟨hb9, ho9, hs9⟩; clear fin2 f8 b8 o8 y8 hb9 ho9 hs9))
        obtain ⟨a0, a1, a2, a3, a4, a5, a6⟩ := f9.cells
        have p0 : w9.cell? ⟨w.heap.size + 1, 0, none⟩ = some (.slice none 0 0) := blk_cell y9 rfl
        have p1 : w9.cell? ⟨w.heap.size + 1, 1, none⟩ = some (.int .i64 0) := blk_cell y9 rfl
        exact bodyPost_ret (v := .tuple #[msV mo A' n' c', .agg #[.slice none 0 0, .int .i64 0]]) (by simp [results, Tryd.results11, go_sem, *]) rfl ⟨b9, A', n', c', rfl, o9⟩
theorem refMParse_all (A : Option Addr) (n c : Nat) (xs : List Int) (w : World) (hr : Rd .u8 w w.heap.size A n c xs) :
    (¬ (mE xs).2 = 0 ∧ Calls Tryd.prog 11 #[.slice A n c] w (GivesMN w (mE xs).1 (mE xs).2)) ∨ ((mE xs).2 = 0 ∧ Calls Tryd.prog 11 #[.slice A n c] w (GivesMY w (mOf xs) (xs.drop 8))) := by
  have hl := hr.len
  rcases mE_cases xs with ⟨h1, e⟩ | ⟨h1, h2, e⟩ | ⟨h1, h2, h3, e⟩ | ⟨h1, h2, h3, e⟩
  · left
    rw [e]
    exact ⟨by decide, refM_short A n c xs w hr (by omega)⟩
  · left
    rw [e]
    exact ⟨by decide, refM_far A n c xs w hr (by omega)⟩
  · left
    rw [e]
    exact ⟨by decide, refM_sum A n c xs w hr (by omega) (by omega) h3⟩
  · right
    obtain ⟨b, o, rfl, -, -⟩ := hr.at_ (i := 0) (by omega)
    rw [e]
    exact ⟨rfl, refM_good b o n c xs w hr (by omega) (by omega) h3⟩
end Go.Proofs.YtbefoapnlehdmaaDoor
