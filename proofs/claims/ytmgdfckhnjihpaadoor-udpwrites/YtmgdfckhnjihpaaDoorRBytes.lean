/-
  Contract of the document's Bytes.
-/
import Derived.Test.YtmgdfckhnjihpaaDoorRParseE
import Derived.Test.YtmgdfckhnjihpaaDoorUBytes
namespace Go.Proofs.YtmgdfckhnjihpaaDoor
open Go.RowKit
set_option linter.unusedVariables false

/-- What the walk knows: the datagram's box, the fault's block, the body. -/
structure SF (w : World) (h : Hd) (A : Option Addr) (n c : Nat) (xs : List Int) (W : World) : Prop where
  pk : PkAt W w.heap.size 33 h A n c
  y : W.heap[w.heap.size + 1]? = some (.cells (flC none 0 0 0) 37 (0, 0))
  rd : Rd .u8 W w.heap.size A n c xs
  below : Below w.heap.size w W
section
variable {w W V : World} {h : Hd} {A : Option Addr} {n c B : Nat} {xs : List Int}
theorem SF.sz (q : SF w h A n c xs W) : w.heap.size + 2 ≤ W.heap.size := blk_lt q.y
theorem SF.low (q : SF w h A n c xs W) (hB : w.heap.size + 2 ≤ B) (hb : Below B W V) : SF w h A n c xs V := ⟨q.pk.below hb (by omega), (hb.block _ (by omega)).trans q.y, q.rd.below hb (by omega), q.below.trans (hb.mono (by omega))⟩
theorem SF.step (q : SF w h A n c xs W) (hb : Below W.heap.size W V) : SF w h A n c xs V := q.low q.sz hb
end
theorem SF.start (h : Hd) (A : Option Addr) (n c : Nat) (xs : List Int) (w : World) (hr : Rd .u8 w w.heap.size A n c xs) : SF w h A n c xs ((w.alloc (.cells (pkC h A n c) 33)).alloc (.cells (flC none 0 0 0) 37)) :=
  ⟨(PkAt.new w 33 h A n c).step (alloc_below _ _), by simpa using heap_alloc_new (w.alloc (.cells (pkC h A n c) 33)) (.cells (flC none 0 0 0) 37), (hr.below (alloc_below w (.cells (pkC h A n c) 33)) (Nat.le_refl _)).below (alloc_below _ (.cells (flC none 0 0 0) 37)) (by simp), (alloc_below w _).alloc (by simp) _⟩
set_option maxRecDepth 100000 in
set_option maxHeartbeats 4000000 in
theorem refBytes_far (h : Hd) (A : Option Addr) (n c : Nat) (xs : List Int) (f t : Int) (w : World) (hr : Rd .u8 w w.heap.size A n c xs) (hn : 1472 < n) :
    Calls Tryd.prog 16 #[pkV h A n c, .int .u32 f, .int .u32 t] w fun ev w' => ∃ A1 n1 c1, ev = .returned (.tuple #[.slice none 0 0, .agg #[.slice A1 n1 c1, .int .i64 11]]) ∧ Rd .i64 w' w'.heap.size A1 n1 c1 [1] ∧ Below w.heap.size w w' := by
  have st := SF.start h A n c xs w hr
  have n1 : (1472 : Int) < (n : Int) := by omega
  have hmax := Nat.le_trans hr.cap hr.max
  clear hr
  obtain ⟨a0, a1, a2, a3⟩ := st.pk.cells
  go_enter Tryd.func16, Tryd.ntmps16
  go_wp2_with fail
  refine (refNew_at 1 11 (by decide) (by decide) (by decide) _).mono ?_
  rintro ev w1 ⟨A1, n1, c1, rfl, rd1, new1, hb1⟩
  have hsz := st.sz
  clear a0 a1 a2 a3
  replace st := st.step hb1
  have far : A1 = none ∨ ∃ ad, A1 = some ad ∧ ad.block ≠ w.heap.size + 1 := by
    rcases new1 with h | h | ⟨ad, h, h1, _⟩
    · exact .inl h
    · exact .inl h
    · have q2 := Nat.le_trans hsz h1
      exact .inr ⟨ad, h, by omega⟩
  have y1 := st.y
  clear hb1 new1
  go_wp2_with (refine wpList_stF rfl rfl 37 _ _ rfl (w.heap.size + 1) (flC A1 n1 c1 11) rfl rfl 37 _ y1 (by kernel_rfl) rfl (flC_one _ _ _ _) ?_; intro w3 f3 hb3 ho3 hs3)
  have b0 : w3.cell? ⟨w.heap.size + 1, 0, none⟩ = some (.slice A1 n1 c1) := blk_cell f3 rfl
  have b1 : w3.cell? ⟨w.heap.size + 1, 1, none⟩ = some (.int .i64 11) := blk_cell f3 rfl
  refine bodyPost_ret (v := .tuple #[.slice none 0 0, .agg #[.slice A1 n1 c1, .int .i64 11]]) (by simp [results, Tryd.results16, go_sem, b0, b1]) rfl ⟨A1, n1, c1, rfl, ?_, st.below.trans (hb3.mono (by omega))⟩
  rw [hs3]
  exact rd1.other ho3 far
/-- What the document's Bytes answers. -/
def GivesRB (w : World) (zs : List Int) (ev : Ending) (w' : World) : Prop :=
  ∃ A1 n1 c1, ev = .returned (.tuple #[.slice A1 n1 c1, .agg #[.slice none 0 0, .int .i64 0]]) ∧ Out .u8 5 w' w.heap.size A1 n1 c1 zs ∧ Below w.heap.size w w'
theorem all_eq (h : Hd) (E : List Int) (k : Int) (xs : List Int) : (((E ++ ((two2 h.src ++ two2 h.dst) ++ two2 k)) ++ [0, 0]) ++ xs) = E ++ (hdS h k 0 ++ xs) := by
  rw [show hdS h k 0 = ((two2 h.src ++ two2 h.dst) ++ two2 k) ++ [0, 0] from rfl]
  simp only [List.append_assoc]

set_option maxRecDepth 100000 in
set_option maxHeartbeats 4000000 in
theorem refBytes_bare (h : Hd) (A : Option Addr) (n c m : Nat) (xs : List Int) (f t : Int) (w : World) (hk : h.ok) (hr : Rd .u8 w w.heap.size A n c xs) (hn : n ≤ 1472) (hm : 8 + n = m) (hbare : h.bare = true) :
    Calls Tryd.prog 16 #[pkV h A n c, .int .u32 f, .int .u32 t] w (GivesRB w (hdS h (m : Int) 0 ++ xs)) := by
  have st := SF.start h A n c xs w hr
  have n1 : ¬ (1472 : Int) < (n : Int) := by omega
  have hm' : (8 : Int) + (n : Int) = (m : Int) := by omega
  have e1 : IntKind.i64.wrap (m : Int) = (m : Int) := by rw [IntKind.wrap_i64]; omega
  have ks := hk.src
  have kd := hk.dst
  have u1 : IntKind.i64.wrap h.src = h.src := by rw [IntKind.wrap_i64]; omega
  have u2 : IntKind.i64.wrap h.dst = h.dst := by rw [IntKind.wrap_i64]; omega
  have m1 : m ≤ 1480 := by omega
  have w1_ := Lib.hid (two2_wf ks)
  have w2_ := Lib.hid (two2_wf kd)
  have w3_ := Lib.hid (two2_wf (n := (m : Int)) (by omega))
  have sb : (0 : Int) ≤ 0 ∧ (0 : Int) ≤ 65535 := by omega
  have u3 : IntKind.i64.wrap 0 = 0 := by rw [IntKind.wrap_i64]; omega
  have w4_ := Lib.hid (two2_wf sb)
  replace hbare := Lib.hid hbare
  have HX := Lib.hid hr.len
  clear hr hk hm
  obtain ⟨a0, a1, a2, a3⟩ := st.pk.cells
  go_enter Tryd.func16, Tryd.ntmps16
  go_wp2_with fail
  clear a0 a1 a2 a3
  refine wp_region_held_drew (S := fun w' => SF w h A n c xs w') (by kernel_rfl) (st.step (below_drew _)) (fun hHeld => ?_)
  replace st := st.step (below_drew _)
  change wpAnyH _ _ _ _ _ _ _ _ (World.drew _)
  generalize World.drew _ = W0 at *
  refine wpAnyH_at (i := 0) (some 21) (v := ?v0z1) rfl rfl (by kernel_rfl) (by kernel_rfl) (by kernel_rfl) (fun _ _ _ h => h) (Or.inl ⟨by rfl, ?y0z1⟩) (by assumption) ?r0z1
  case y0z1 =>
    intro w9 hSw
    clear hSw
    go_simp
    all_goals with_reducible rfl
  simp only [Act.put, List.setIfInBounds_toArray, List.set_cons_zero, List.set_cons_succ]
  refine wpAnyH_at (i := 1) (some 22) (v := ?v1z2) rfl rfl (by kernel_rfl) (by kernel_rfl) (by kernel_rfl) (fun _ _ _ h => h) (Or.inl ⟨by rfl, ?y1z2⟩) (by assumption) ?r1z2
  case y1z2 =>
    intro w9 hSw
    (obtain ⟨a0, a1, a2, a3⟩ := (show SF w h A n c xs w9 from hSw).pk.cells); clear hSw
    go_simp
    all_goals with_reducible rfl
  simp only [Act.put, List.setIfInBounds_toArray, List.set_cons_zero, List.set_cons_succ]
  refine wpAnyH_at (i := 2) (some 23) (v := ?v2z3) rfl rfl (by kernel_rfl) (by kernel_rfl) (by kernel_rfl) (fun _ _ _ h => h) (Or.inl ⟨by rfl, ?y2z3⟩) (by assumption) ?r2z3
  case y2z3 =>
    intro w9 hSw
    clear hSw
    go_simp
    all_goals with_reducible rfl
  simp only [Act.put, List.setIfInBounds_toArray, List.set_cons_zero, List.set_cons_succ]
  refine wpAnyH_at (i := 4) (some 25) (v := ?v4z4) rfl rfl (by kernel_rfl) (by kernel_rfl) (by kernel_rfl) (fun _ _ _ h => h) (Or.inl ⟨by rfl, ?y4z4⟩) (by assumption) ?r4z4
  case y4z4 =>
    intro w9 hSw
    clear hSw
    go_simp
    all_goals with_reducible rfl
  simp only [Act.put, List.setIfInBounds_toArray, List.set_cons_zero, List.set_cons_succ]
  refine wpAnyH_at (i := 5) (some 26) (v := ?v5z5) rfl rfl (by kernel_rfl) (by kernel_rfl) (by kernel_rfl) (fun _ _ _ h => h) (Or.inl ⟨by rfl, ?y5z5⟩) (by assumption) ?r5z5
  case y5z5 =>
    intro w9 hSw
    (obtain ⟨a0, a1, a2, a3⟩ := (show SF w h A n c xs w9 from hSw).pk.cells); clear hSw
    go_simp
    all_goals with_reducible rfl
  simp only [Act.put, List.setIfInBounds_toArray, List.set_cons_zero, List.set_cons_succ]
  refine wpAnyH_at (i := 6) (some 27) (v := ?v6z6) rfl rfl (by kernel_rfl) (by kernel_rfl) (by kernel_rfl) (fun _ _ _ h => h) (Or.inl ⟨by rfl, ?y6z6⟩) (by assumption) ?r6z6
  case y6z6 =>
    intro w9 hSw
    clear hSw
    go_simp
    all_goals with_reducible rfl
  simp only [Act.put, List.setIfInBounds_toArray, List.set_cons_zero, List.set_cons_succ]
  refine wpAnyH_at (i := 9) (some 30) (v := ?v9z7) rfl rfl (by kernel_rfl) (by kernel_rfl) (by kernel_rfl) (fun _ _ _ h => h) (Or.inl ⟨by rfl, ?y9z7⟩) (by assumption) ?r9z7
  case y9z7 =>
    intro w9 hSw
    clear hSw
    go_simp
    all_goals with_reducible rfl
  simp only [Act.put, List.setIfInBounds_toArray, List.set_cons_zero, List.set_cons_succ]
  refine wpAnyH_one (i := 3) (by kernel_rfl) rfl ?_
  go_wp2_with (go_at_call 34; refine (refTwo_any h.src _ ks).mono ?_; rintro e W1 ⟨gA, rfl, rA, gb, bt⟩)
  have oA := rA.own (n := 2) (Nat.le_trans st.sz gb) rfl (by omega) w1_.out
  replace st := st.step bt
  clear bt rA gb
  clear hHeld
  have hHeld := st
  refine ⟨hHeld, ?_⟩
  try simp only [Act.put, List.setIfInBounds_toArray, List.set_cons_zero, List.set_cons_succ]
  refine wpAnyH_one (i := 7) (by kernel_rfl) rfl ?_
  go_wp2_with (go_at_call 34; refine (refTwo_any h.dst _ kd).mono ?_; rintro e W2 ⟨gB, rfl, rB, -, bt⟩)
  replace oA := oA.below bt (Nat.le_refl _)
  replace st := st.step bt
  clear bt
  clear hHeld
  have hHeld := st
  refine ⟨hHeld, ?_⟩
  try simp only [Act.put, List.setIfInBounds_toArray, List.set_cons_zero, List.set_cons_succ]
  refine wpAnyH_one (i := 8) (by kernel_rfl) rfl ?_
  refine wpList_appD (some 29) rfl rfl (.tmp 24) (.tmp 28) 22 rfl (w.heap.size + 2) Tryd.underlying22 info5 (by omega) (some ⟨gA, 0, none⟩) 2 2 _ rfl oA (some ⟨gB, 0, none⟩) 2 2 _ (two2 h.dst) rfl (rB.rdW (n := 2) rfl (by omega) w2_.out) (by omega) st.sz ?_
  intro A3 n3 c3 W3 o3 hgr
  replace st := st.low (Nat.le_refl _) (grown_low oA hgr st.sz)
  obtain rfl : 4 = n3 := o3.len
  clear hgr oA rB hHeld
  have hHeld := st
  go_wp2
  refine ⟨hHeld, ?_⟩
  try simp only [Act.put, List.setIfInBounds_toArray, List.set_cons_zero, List.set_cons_succ]
  refine wpAnyH_one (i := 10) (by kernel_rfl) rfl ?_
  go_wp2_with (go_at_call 34; refine (refTwo_any (m : Int) _ (by omega)).mono ?_; rintro e W4 ⟨gC, rfl, rC, -, bt⟩)
  replace o3 := o3.below bt (Nat.le_refl _)
  replace st := st.step bt
  clear bt
  clear hHeld
  have hHeld := st
  refine ⟨hHeld, ?_⟩
  try simp only [Act.put, List.setIfInBounds_toArray, List.set_cons_zero, List.set_cons_succ]
  refine wpAnyH_one (i := 11) (by kernel_rfl) rfl ?_
  refine wpList_appD (some 32) rfl rfl (.tmp 29) (.tmp 31) 22 rfl (w.heap.size + 2) Tryd.underlying22 info5 (by omega) A3 4 c3 _ rfl o3 (some ⟨gC, 0, none⟩) 2 2 _ (two2 (m : Int)) rfl (rC.rdW (n := 2) rfl (by omega) w3_.out) (by omega) st.sz ?_
  intro A9 n9 c9 W5 oH hgr
  replace st := st.low (Nat.le_refl _) (grown_low o3 hgr st.sz)
  obtain rfl : 6 = n9 := oH.len
  clear hgr o3 rC hHeld
  have hHeld := st
  go_wp2
  refine ⟨hHeld, ?_⟩
  try simp only [Act.put, List.setIfInBounds_toArray, List.set_cons_zero, List.set_cons_succ]
  refine wpAnyH_at (i := 12) (some 9) (v := ?v12z8) rfl rfl (by kernel_rfl) (by kernel_rfl) (by kernel_rfl) (fun _ _ _ h => h) (Or.inl ⟨by rfl, ?y12z8⟩) (by assumption) ?r12z8
  case y12z8 =>
    intro w9 hSw
    clear hSw
    go_simp
    all_goals with_reducible rfl
  simp only [Act.put, List.setIfInBounds_toArray, List.set_cons_zero, List.set_cons_succ]
  refine wpAnyH_done (by kernel_rfl) ?_ _
  clear hHeld
  obtain ⟨a0, a1, a2, a3⟩ := st.pk.cells
  rw [hbare.out] at a2
  go_wp2_with fail
  clear a0 a1 a2 a3
  refine wp_region_held_drew (S := fun w' => SF w h A n c xs w') (by kernel_rfl) (st.step (below_drew _)) (fun hHeld => ?_)
  replace st := st.step (below_drew _)
  replace oH := oH.below (below_drew _) (Nat.le_refl _)
  change wpAnyH _ _ _ _ _ _ _ _ (World.drew _)
  generalize World.drew _ = W11 at *
  refine wpAnyH_at (i := 0) (some 51) (v := ?v0z9) rfl rfl (by kernel_rfl) (by kernel_rfl) (by kernel_rfl) (fun _ _ _ h => h) (Or.inl ⟨by rfl, ?y0z9⟩) (by assumption) ?r0z9
  case y0z9 =>
    intro w9 hSw
    clear hSw
    go_simp
    all_goals with_reducible rfl
  simp only [Act.put, List.setIfInBounds_toArray, List.set_cons_zero, List.set_cons_succ]
  refine wpAnyH_at (i := 1) (some 52) (v := ?v1z10) rfl rfl (by kernel_rfl) (by kernel_rfl) (by kernel_rfl) (fun _ _ _ h => h) (Or.inl ⟨by rfl, ?y1z10⟩) (by assumption) ?r1z10
  case y1z10 =>
    intro w9 hSw
    clear hSw
    go_simp
    all_goals with_reducible rfl
  simp only [Act.put, List.setIfInBounds_toArray, List.set_cons_zero, List.set_cons_succ]
  refine wpAnyH_at (i := 2) (some 53) (v := ?v2z11) rfl rfl (by kernel_rfl) (by kernel_rfl) (by kernel_rfl) (fun _ _ _ h => h) (Or.inl ⟨by rfl, ?y2z11⟩) (by assumption) ?r2z11
  case y2z11 =>
    intro w9 hSw
    clear hSw
    go_simp
    all_goals with_reducible rfl
  simp only [Act.put, List.setIfInBounds_toArray, List.set_cons_zero, List.set_cons_succ]
  refine wpAnyH_at (i := 5) (some 56) (v := ?v5z12) rfl rfl (by kernel_rfl) (by kernel_rfl) (by kernel_rfl) (fun _ _ _ h => h) (Or.inl ⟨by rfl, ?y5z12⟩) (by assumption) ?r5z12
  case y5z12 =>
    intro w9 hSw
    clear hSw
    go_simp
    all_goals with_reducible rfl
  simp only [Act.put, List.setIfInBounds_toArray, List.set_cons_zero, List.set_cons_succ]
  refine wpAnyH_at (i := 6) (some 57) (v := ?v6z13) rfl rfl (by kernel_rfl) (by kernel_rfl) (by kernel_rfl) (fun _ _ _ h => h) (Or.inl ⟨by rfl, ?y6z13⟩) (by assumption) ?r6z13
  case y6z13 =>
    intro w9 hSw
    (obtain ⟨a0, a1, a2, a3⟩ := (show SF w h A n c xs w9 from hSw).pk.cells); clear hSw
    go_simp
    all_goals with_reducible rfl
  simp only [Act.put, List.setIfInBounds_toArray, List.set_cons_zero, List.set_cons_succ]
  refine wpAnyH_at (i := 8) (some 59) (v := ?v8z14) rfl rfl (by kernel_rfl) (by kernel_rfl) (by kernel_rfl) (fun _ _ _ h => h) (Or.inl ⟨by rfl, ?y8z14⟩) (by assumption) ?r8z14
  case y8z14 =>
    intro w9 hSw
    clear hSw
    go_simp
    all_goals with_reducible rfl
  simp only [Act.put, List.setIfInBounds_toArray, List.set_cons_zero, List.set_cons_succ]
  refine wpAnyH_one (i := 3) (by kernel_rfl) rfl ?_
  go_wp2_with (go_at_call 34; refine (refTwo_any 0 _ sb).mono ?_; rintro e W12 ⟨gA, rfl, rA, -, bt⟩)
  replace oH := oH.below bt (Nat.le_refl _)
  replace st := st.step bt
  clear bt
  clear hHeld
  have hHeld := st
  refine ⟨hHeld, ?_⟩
  try simp only [Act.put, List.setIfInBounds_toArray, List.set_cons_zero, List.set_cons_succ]
  refine wpAnyH_one (i := 4) (by kernel_rfl) rfl ?_
  refine wpList_appD (some 55) rfl rfl (.tmp 51) (.tmp 54) 22 rfl (w.heap.size + 2) Tryd.underlying22 info5 (by omega) A9 6 c9 _ rfl oH (some ⟨gA, 0, none⟩) 2 2 _ (two2 0) rfl (rA.rdW (n := 2) rfl (by omega) w4_.out) (by omega) st.sz ?_
  intro B2 k2 d2 W13 o5 hgr
  replace st := st.low (Nat.le_refl _) (grown_low oH hgr st.sz)
  obtain rfl : 8 = k2 := o5.len
  clear hgr oH rA hHeld
  have hHeld := st
  go_wp2
  refine ⟨hHeld, ?_⟩
  try simp only [Act.put, List.setIfInBounds_toArray, List.set_cons_zero, List.set_cons_succ]
  refine wpAnyH_one (i := 7) (by kernel_rfl) rfl ?_
  refine wpList_appD (some 58) rfl rfl (.tmp 55) (.tmp 57) 22 rfl (w.heap.size + 2) Tryd.underlying22 info5 (by omega) B2 8 d2 _ rfl o5 A n c w.heap.size xs rfl st.rd (by omega) st.sz ?_
  intro B3 k3 d3 W14 o6 hgr
  replace st := st.low (Nat.le_refl _) (grown_low o5 hgr st.sz)
  clear hgr o5 hHeld
  have hHeld := st
  go_wp2
  refine ⟨hHeld, ?_⟩
  try simp only [Act.put, List.setIfInBounds_toArray, List.set_cons_zero, List.set_cons_succ]
  refine wpAnyH_at (i := 9) (some 6) (v := ?v9z15) rfl rfl (by kernel_rfl) (by kernel_rfl) (by kernel_rfl) (fun _ _ _ h => h) (Or.inl ⟨by rfl, ?y9z15⟩) (by assumption) ?r9z15
  case y9z15 =>
    intro w9 hSw
    clear hSw
    go_simp
    all_goals with_reducible rfl
  simp only [Act.put, List.setIfInBounds_toArray, List.set_cons_zero, List.set_cons_succ]
  refine wpAnyH_one (i := 10) (by kernel_rfl) rfl ?_
  refine wpList_stF rfl rfl 37 _ _ rfl (w.heap.size + 1) (flC none 0 0 0) rfl rfl 37 _ st.y (by kernel_rfl) rfl (flC_one _ _ _ _) ?_
  intro w3 f3 hb3 ho3 hs3
  replace o6 := o6.other (fun j hj => ho3 j (by omega))
  replace st : SF w h A n c xs w3 := ⟨st.pk.below hb3 (by omega), f3, st.rd.below hb3 (by omega), st.below.trans (hb3.mono (by omega))⟩
  clear hHeld hb3 ho3 hs3
  have hHeld := st
  go_wp2
  refine ⟨hHeld, ?_⟩
  refine wpAnyH_done (by kernel_rfl) ?_ _
  clear hHeld
  go_wp2
  have b0 : w3.cell? ⟨w.heap.size + 1, 0, none⟩ = some (.slice none 0 0) := blk_cell f3 rfl
  have b1 : w3.cell? ⟨w.heap.size + 1, 1, none⟩ = some (.int .i64 0) := blk_cell f3 rfl
  exact bodyPost_ret (v := .tuple #[.slice B3 k3 d3, .agg #[.slice none 0 0, .int .i64 0]]) (by simp [results, Tryd.results16, go_sem, b0, b1]) rfl ⟨B3, k3, d3, rfl, o6.rebase (by omega), st.below⟩

set_option maxRecDepth 100000 in
set_option maxHeartbeats 4000000 in
theorem refBytes_sum (h : Hd) (A : Option Addr) (n c m : Nat) (xs : List Int) (f t : Int) (w : World) (hk : h.ok) (hr : Rd .u8 w w.heap.size A n c xs) (hn : n ≤ 1472) (hm : 8 + n = m) (hbare : h.bare = false) (hf : Ip f) (ht : Ip t) (S s : Int) (hS : 65535 - totV (epR f t m ++ (hdS h m 0 ++ xs)) = S) (hz : ¬ S = 0) (hs : s = S) :
    Calls Tryd.prog 16 #[pkV h A n c, .int .u32 f, .int .u32 t] w (GivesRB w (hdS h (m : Int) s ++ xs)) := by
  have st := SF.start h A n c xs w hr
  have n1 : ¬ (1472 : Int) < (n : Int) := by omega
  have hm' : (8 : Int) + (n : Int) = (m : Int) := by omega
  have e1 : IntKind.i64.wrap (m : Int) = (m : Int) := by rw [IntKind.wrap_i64]; omega
  have ks := hk.src
  have kd := hk.dst
  have u1 : IntKind.i64.wrap h.src = h.src := by rw [IntKind.wrap_i64]; omega
  have u2 : IntKind.i64.wrap h.dst = h.dst := by rw [IntKind.wrap_i64]; omega
  have m1 : m ≤ 1480 := by omega
  have w1_ := Lib.hid (two2_wf ks)
  have w2_ := Lib.hid (two2_wf kd)
  have w3_ := Lib.hid (two2_wf (n := (m : Int)) (by omega))
  have hby := Lib.hid (totV_bd (byts_of (xs := epR f t m ++ (hdS h m 0 ++ xs)) (fun x hx => (List.mem_append.1 hx).elim (epR_wf hf ht (n := m) (by omega) x) (fun q => (List.mem_append.1 q).elim (hdS_wf hk (by omega) (by omega) x) (hr.2.2.2.1 x)))))
  have sb : 0 ≤ s ∧ s ≤ 65535 := by
    have := hby.out
    unfold W16 at this
    omega
  have u3 : IntKind.i64.wrap s = s := by rw [IntKind.wrap_i64]; omega
  have ce : Hid (∀ W, Calls Tryd.prog 28 #[.int .u32 f, .int .u32 t, .int .i64 17, .int .i64 m] W fun ev w' => ∃ A c, ev = .returned (.slice A 12 c) ∧ Out .u8 5 w' W.heap.size A 12 c (epR f t m) ∧ Below W.heap.size W w') := Lib.hid (fun W => ends_any f t m W hf ht (by omega))
  have cs : Hid (∀ W b A n1 c1, Out .u8 5 W b A n1 c1 (((epR f t m ++ ((two2 h.src ++ two2 h.dst) ++ two2 (m : Int))) ++ [0, 0]) ++ xs) → Calls Tryd.prog 35 #[.slice A n1 c1] W fun ev w' => ev = .returned (.int .u16 S) ∧ W = w') := Lib.hid (fun W b A n1 c1 q => by
    have l := q.len
    have lx := hr.len
    rw [all_eq] at l q
    rw [List.length_append, epR_len, List.length_append, hdS_len] at l
    have := refSumOf_any A n1 c1 W.heap.size _ W q.rd (by omega)
    rwa [hS] at this)
  clear hby
  have w4_ := Lib.hid (two2_wf sb)
  replace hbare := Lib.hid hbare
  have HX := Lib.hid hr.len
  clear hr hk hm hf ht hS
  obtain ⟨a0, a1, a2, a3⟩ := st.pk.cells
  go_enter Tryd.func16, Tryd.ntmps16
  go_wp2_with fail
  clear a0 a1 a2 a3
  refine wp_region_held_drew (S := fun w' => SF w h A n c xs w') (by kernel_rfl) (st.step (below_drew _)) (fun hHeld => ?_)
  replace st := st.step (below_drew _)
  change wpAnyH _ _ _ _ _ _ _ _ (World.drew _)
  generalize World.drew _ = W0 at *
  refine wpAnyH_at (i := 0) (some 21) (v := ?v0z16) rfl rfl (by kernel_rfl) (by kernel_rfl) (by kernel_rfl) (fun _ _ _ h => h) (Or.inl ⟨by rfl, ?y0z16⟩) (by assumption) ?r0z16
  case y0z16 =>
    intro w9 hSw
    clear hSw
    go_simp
    all_goals with_reducible rfl
  simp only [Act.put, List.setIfInBounds_toArray, List.set_cons_zero, List.set_cons_succ]
  refine wpAnyH_at (i := 1) (some 22) (v := ?v1z17) rfl rfl (by kernel_rfl) (by kernel_rfl) (by kernel_rfl) (fun _ _ _ h => h) (Or.inl ⟨by rfl, ?y1z17⟩) (by assumption) ?r1z17
  case y1z17 =>
    intro w9 hSw
    (obtain ⟨a0, a1, a2, a3⟩ := (show SF w h A n c xs w9 from hSw).pk.cells); clear hSw
    go_simp
    all_goals with_reducible rfl
  simp only [Act.put, List.setIfInBounds_toArray, List.set_cons_zero, List.set_cons_succ]
  refine wpAnyH_at (i := 2) (some 23) (v := ?v2z18) rfl rfl (by kernel_rfl) (by kernel_rfl) (by kernel_rfl) (fun _ _ _ h => h) (Or.inl ⟨by rfl, ?y2z18⟩) (by assumption) ?r2z18
  case y2z18 =>
    intro w9 hSw
    clear hSw
    go_simp
    all_goals with_reducible rfl
  simp only [Act.put, List.setIfInBounds_toArray, List.set_cons_zero, List.set_cons_succ]
  refine wpAnyH_at (i := 4) (some 25) (v := ?v4z19) rfl rfl (by kernel_rfl) (by kernel_rfl) (by kernel_rfl) (fun _ _ _ h => h) (Or.inl ⟨by rfl, ?y4z19⟩) (by assumption) ?r4z19
  case y4z19 =>
    intro w9 hSw
    clear hSw
    go_simp
    all_goals with_reducible rfl
  simp only [Act.put, List.setIfInBounds_toArray, List.set_cons_zero, List.set_cons_succ]
  refine wpAnyH_at (i := 5) (some 26) (v := ?v5z20) rfl rfl (by kernel_rfl) (by kernel_rfl) (by kernel_rfl) (fun _ _ _ h => h) (Or.inl ⟨by rfl, ?y5z20⟩) (by assumption) ?r5z20
  case y5z20 =>
    intro w9 hSw
    (obtain ⟨a0, a1, a2, a3⟩ := (show SF w h A n c xs w9 from hSw).pk.cells); clear hSw
    go_simp
    all_goals with_reducible rfl
  simp only [Act.put, List.setIfInBounds_toArray, List.set_cons_zero, List.set_cons_succ]
  refine wpAnyH_at (i := 6) (some 27) (v := ?v6z21) rfl rfl (by kernel_rfl) (by kernel_rfl) (by kernel_rfl) (fun _ _ _ h => h) (Or.inl ⟨by rfl, ?y6z21⟩) (by assumption) ?r6z21
  case y6z21 =>
    intro w9 hSw
    clear hSw
    go_simp
    all_goals with_reducible rfl
  simp only [Act.put, List.setIfInBounds_toArray, List.set_cons_zero, List.set_cons_succ]
  refine wpAnyH_at (i := 9) (some 30) (v := ?v9z22) rfl rfl (by kernel_rfl) (by kernel_rfl) (by kernel_rfl) (fun _ _ _ h => h) (Or.inl ⟨by rfl, ?y9z22⟩) (by assumption) ?r9z22
  case y9z22 =>
    intro w9 hSw
    clear hSw
    go_simp
    all_goals with_reducible rfl
  simp only [Act.put, List.setIfInBounds_toArray, List.set_cons_zero, List.set_cons_succ]
  refine wpAnyH_one (i := 3) (by kernel_rfl) rfl ?_
  go_wp2_with (go_at_call 34; refine (refTwo_any h.src _ ks).mono ?_; rintro e W1 ⟨gA, rfl, rA, gb, bt⟩)
  have oA := rA.own (n := 2) (Nat.le_trans st.sz gb) rfl (by omega) w1_.out
  replace st := st.step bt
  clear bt rA gb
  clear hHeld
  have hHeld := st
  refine ⟨hHeld, ?_⟩
  try simp only [Act.put, List.setIfInBounds_toArray, List.set_cons_zero, List.set_cons_succ]
  refine wpAnyH_one (i := 7) (by kernel_rfl) rfl ?_
  go_wp2_with (go_at_call 34; refine (refTwo_any h.dst _ kd).mono ?_; rintro e W2 ⟨gB, rfl, rB, -, bt⟩)
  replace oA := oA.below bt (Nat.le_refl _)
  replace st := st.step bt
  clear bt
  clear hHeld
  have hHeld := st
  refine ⟨hHeld, ?_⟩
  try simp only [Act.put, List.setIfInBounds_toArray, List.set_cons_zero, List.set_cons_succ]
  refine wpAnyH_one (i := 8) (by kernel_rfl) rfl ?_
  refine wpList_appD (some 29) rfl rfl (.tmp 24) (.tmp 28) 22 rfl (w.heap.size + 2) Tryd.underlying22 info5 (by omega) (some ⟨gA, 0, none⟩) 2 2 _ rfl oA (some ⟨gB, 0, none⟩) 2 2 _ (two2 h.dst) rfl (rB.rdW (n := 2) rfl (by omega) w2_.out) (by omega) st.sz ?_
  intro A3 n3 c3 W3 o3 hgr
  replace st := st.low (Nat.le_refl _) (grown_low oA hgr st.sz)
  obtain rfl : 4 = n3 := o3.len
  clear hgr oA rB hHeld
  have hHeld := st
  go_wp2
  refine ⟨hHeld, ?_⟩
  try simp only [Act.put, List.setIfInBounds_toArray, List.set_cons_zero, List.set_cons_succ]
  refine wpAnyH_one (i := 10) (by kernel_rfl) rfl ?_
  go_wp2_with (go_at_call 34; refine (refTwo_any (m : Int) _ (by omega)).mono ?_; rintro e W4 ⟨gC, rfl, rC, -, bt⟩)
  replace o3 := o3.below bt (Nat.le_refl _)
  replace st := st.step bt
  clear bt
  clear hHeld
  have hHeld := st
  refine ⟨hHeld, ?_⟩
  try simp only [Act.put, List.setIfInBounds_toArray, List.set_cons_zero, List.set_cons_succ]
  refine wpAnyH_one (i := 11) (by kernel_rfl) rfl ?_
  refine wpList_appD (some 32) rfl rfl (.tmp 29) (.tmp 31) 22 rfl (w.heap.size + 2) Tryd.underlying22 info5 (by omega) A3 4 c3 _ rfl o3 (some ⟨gC, 0, none⟩) 2 2 _ (two2 (m : Int)) rfl (rC.rdW (n := 2) rfl (by omega) w3_.out) (by omega) st.sz ?_
  intro A9 n9 c9 W5 oH hgr
  replace st := st.low (Nat.le_refl _) (grown_low o3 hgr st.sz)
  obtain rfl : 6 = n9 := oH.len
  clear hgr o3 rC hHeld
  have hHeld := st
  go_wp2
  refine ⟨hHeld, ?_⟩
  try simp only [Act.put, List.setIfInBounds_toArray, List.set_cons_zero, List.set_cons_succ]
  refine wpAnyH_at (i := 12) (some 9) (v := ?v12z23) rfl rfl (by kernel_rfl) (by kernel_rfl) (by kernel_rfl) (fun _ _ _ h => h) (Or.inl ⟨by rfl, ?y12z23⟩) (by assumption) ?r12z23
  case y12z23 =>
    intro w9 hSw
    clear hSw
    go_simp
    all_goals with_reducible rfl
  simp only [Act.put, List.setIfInBounds_toArray, List.set_cons_zero, List.set_cons_succ]
  refine wpAnyH_done (by kernel_rfl) ?_ _
  clear hHeld
  obtain ⟨a0, a1, a2, a3⟩ := st.pk.cells
  rw [hbare.out] at a2
  go_wp2_with fail
  clear a0 a1 a2 a3
  refine (ce.out _).mono ?_
  rintro ev W6 ⟨A1, c1, rfl, o1, b⟩
  have szW := st.sz
  clear ce
  go_wp2_with (first
    | (at_builtin; refine wpList_app rfl (.tmp 39) (.tmp 40) 22 rfl W5.heap.size Tryd.underlying22 info5 (by omega) A1 12 c1 _ rfl o1 A9 6 c9 _ _ rfl (oH.below b (Nat.le_refl _)).rd (by omega) b.size ?_; intro A2 n2 c2 W7 o2 hgr; obtain rfl : 18 = n2 := o2.len; replace b := b.trans (grown_low o1 hgr b.size); clear hgr o1)
    | (at_builtin; refine wpList_app rfl (.tmp 41) (.tmp 42) 22 rfl W5.heap.size Tryd.underlying22 info5 (by omega) A2 18 c2 _ rfl (o2.below (alloc_below W7 (.cells #[.int .u8 0, .int .u8 0] 5)) (Nat.le_refl _)) (some ⟨W7.heap.size, 0, none⟩) 2 2 _ [0, 0] rfl (Row.rdW (n := 2) (show Row (W7.alloc (.cells #[.int .u8 0, .int .u8 0] 5)) W7.heap.size [0, 0] from heap_alloc_new W7 _) rfl (by omega) (by decide)) (by omega) (Nat.le_trans b.size (alloc_below W7 (.cells #[.int .u8 0, .int .u8 0] 5)).size) ?_; intro A3 n3 c3 W8 o3 hgr; obtain rfl : 20 = n3 := o3.len; replace b := (b.trans ((alloc_below W7 (.cells #[.int .u8 0, .int .u8 0] 5)).mono b.size)).trans (grown_low (o2.below (alloc_below W7 (.cells #[.int .u8 0, .int .u8 0] 5)) (Nat.le_refl _)) hgr (Nat.le_trans b.size (alloc_below W7 (.cells #[.int .u8 0, .int .u8 0] 5)).size)); have stB := st.low szW b; (obtain ⟨a0, a1, a2, a3⟩ := stB.pk.cells); clear hgr o2)
    | (at_builtin; refine wpList_app rfl (.tmp 44) (.tmp 46) 22 rfl W5.heap.size Tryd.underlying22 info5 (by omega) A3 20 c3 _ rfl o3 A n c w.heap.size xs rfl stB.rd (by omega) b.size ?_; intro A4 n4 c4 W9 o4 hgr; replace b := b.trans (grown_low o3 hgr b.size); clear hgr o3 stB a0 a1 a2 a3))
  refine (cs.out _ _ _ _ _ o4).mono ?_
  rintro ev W10 ⟨rfl, rfl⟩
  replace oH := oH.below b (Nat.le_refl _)
  replace st := st.low szW b
  clear cs o4 b szW
  subst hs
  go_wp2_with fail
  refine wp_region_held_drew (S := fun w' => SF w h A n c xs w') (by kernel_rfl) (st.step (below_drew _)) (fun hHeld => ?_)
  replace st := st.step (below_drew _)
  replace oH := oH.below (below_drew _) (Nat.le_refl _)
  change wpAnyH _ _ _ _ _ _ _ _ (World.drew _)
  generalize World.drew _ = W11 at *
  refine wpAnyH_at (i := 0) (some 51) (v := ?v0z24) rfl rfl (by kernel_rfl) (by kernel_rfl) (by kernel_rfl) (fun _ _ _ h => h) (Or.inl ⟨by rfl, ?y0z24⟩) (by assumption) ?r0z24
  case y0z24 =>
    intro w9 hSw
    clear hSw
    go_simp
    all_goals with_reducible rfl
  simp only [Act.put, List.setIfInBounds_toArray, List.set_cons_zero, List.set_cons_succ]
  refine wpAnyH_at (i := 1) (some 52) (v := ?v1z25) rfl rfl (by kernel_rfl) (by kernel_rfl) (by kernel_rfl) (fun _ _ _ h => h) (Or.inl ⟨by rfl, ?y1z25⟩) (by assumption) ?r1z25
  case y1z25 =>
    intro w9 hSw
    clear hSw
    go_simp
    all_goals with_reducible rfl
  simp only [Act.put, List.setIfInBounds_toArray, List.set_cons_zero, List.set_cons_succ]
  refine wpAnyH_at (i := 2) (some 53) (v := ?v2z26) rfl rfl (by kernel_rfl) (by kernel_rfl) (by kernel_rfl) (fun _ _ _ h => h) (Or.inl ⟨by rfl, ?y2z26⟩) (by assumption) ?r2z26
  case y2z26 =>
    intro w9 hSw
    clear hSw
    go_simp
    all_goals with_reducible rfl
  simp only [Act.put, List.setIfInBounds_toArray, List.set_cons_zero, List.set_cons_succ]
  refine wpAnyH_at (i := 5) (some 56) (v := ?v5z27) rfl rfl (by kernel_rfl) (by kernel_rfl) (by kernel_rfl) (fun _ _ _ h => h) (Or.inl ⟨by rfl, ?y5z27⟩) (by assumption) ?r5z27
  case y5z27 =>
    intro w9 hSw
    clear hSw
    go_simp
    all_goals with_reducible rfl
  simp only [Act.put, List.setIfInBounds_toArray, List.set_cons_zero, List.set_cons_succ]
  refine wpAnyH_at (i := 6) (some 57) (v := ?v6z28) rfl rfl (by kernel_rfl) (by kernel_rfl) (by kernel_rfl) (fun _ _ _ h => h) (Or.inl ⟨by rfl, ?y6z28⟩) (by assumption) ?r6z28
  case y6z28 =>
    intro w9 hSw
    (obtain ⟨a0, a1, a2, a3⟩ := (show SF w h A n c xs w9 from hSw).pk.cells); clear hSw
    go_simp
    all_goals with_reducible rfl
  simp only [Act.put, List.setIfInBounds_toArray, List.set_cons_zero, List.set_cons_succ]
  refine wpAnyH_at (i := 8) (some 59) (v := ?v8z29) rfl rfl (by kernel_rfl) (by kernel_rfl) (by kernel_rfl) (fun _ _ _ h => h) (Or.inl ⟨by rfl, ?y8z29⟩) (by assumption) ?r8z29
  case y8z29 =>
    intro w9 hSw
    clear hSw
    go_simp
    all_goals with_reducible rfl
  simp only [Act.put, List.setIfInBounds_toArray, List.set_cons_zero, List.set_cons_succ]
  refine wpAnyH_one (i := 3) (by kernel_rfl) rfl ?_
  go_wp2_with (go_at_call 34; refine (refTwo_any s _ sb).mono ?_; rintro e W12 ⟨gA, rfl, rA, -, bt⟩)
  replace oH := oH.below bt (Nat.le_refl _)
  replace st := st.step bt
  clear bt
  clear hHeld
  have hHeld := st
  refine ⟨hHeld, ?_⟩
  try simp only [Act.put, List.setIfInBounds_toArray, List.set_cons_zero, List.set_cons_succ]
  refine wpAnyH_one (i := 4) (by kernel_rfl) rfl ?_
  refine wpList_appD (some 55) rfl rfl (.tmp 51) (.tmp 54) 22 rfl (w.heap.size + 2) Tryd.underlying22 info5 (by omega) A9 6 c9 _ rfl oH (some ⟨gA, 0, none⟩) 2 2 _ (two2 s) rfl (rA.rdW (n := 2) rfl (by omega) w4_.out) (by omega) st.sz ?_
  intro B2 k2 d2 W13 o5 hgr
  replace st := st.low (Nat.le_refl _) (grown_low oH hgr st.sz)
  obtain rfl : 8 = k2 := o5.len
  clear hgr oH rA hHeld
  have hHeld := st
  go_wp2
  refine ⟨hHeld, ?_⟩
  try simp only [Act.put, List.setIfInBounds_toArray, List.set_cons_zero, List.set_cons_succ]
  refine wpAnyH_one (i := 7) (by kernel_rfl) rfl ?_
  refine wpList_appD (some 58) rfl rfl (.tmp 55) (.tmp 57) 22 rfl (w.heap.size + 2) Tryd.underlying22 info5 (by omega) B2 8 d2 _ rfl o5 A n c w.heap.size xs rfl st.rd (by omega) st.sz ?_
  intro B3 k3 d3 W14 o6 hgr
  replace st := st.low (Nat.le_refl _) (grown_low o5 hgr st.sz)
  clear hgr o5 hHeld
  have hHeld := st
  go_wp2
  refine ⟨hHeld, ?_⟩
  try simp only [Act.put, List.setIfInBounds_toArray, List.set_cons_zero, List.set_cons_succ]
  refine wpAnyH_at (i := 9) (some 6) (v := ?v9z30) rfl rfl (by kernel_rfl) (by kernel_rfl) (by kernel_rfl) (fun _ _ _ h => h) (Or.inl ⟨by rfl, ?y9z30⟩) (by assumption) ?r9z30
  case y9z30 =>
    intro w9 hSw
    clear hSw
    go_simp
    all_goals with_reducible rfl
  simp only [Act.put, List.setIfInBounds_toArray, List.set_cons_zero, List.set_cons_succ]
  refine wpAnyH_one (i := 10) (by kernel_rfl) rfl ?_
  refine wpList_stF rfl rfl 37 _ _ rfl (w.heap.size + 1) (flC none 0 0 0) rfl rfl 37 _ st.y (by kernel_rfl) rfl (flC_one _ _ _ _) ?_
  intro w3 f3 hb3 ho3 hs3
  replace o6 := o6.other (fun j hj => ho3 j (by omega))
  replace st : SF w h A n c xs w3 := ⟨st.pk.below hb3 (by omega), f3, st.rd.below hb3 (by omega), st.below.trans (hb3.mono (by omega))⟩
  clear hHeld hb3 ho3 hs3
  have hHeld := st
  go_wp2
  refine ⟨hHeld, ?_⟩
  refine wpAnyH_done (by kernel_rfl) ?_ _
  clear hHeld
  go_wp2
  have b0 : w3.cell? ⟨w.heap.size + 1, 0, none⟩ = some (.slice none 0 0) := blk_cell f3 rfl
  have b1 : w3.cell? ⟨w.heap.size + 1, 1, none⟩ = some (.int .i64 0) := blk_cell f3 rfl
  exact bodyPost_ret (v := .tuple #[.slice B3 k3 d3, .agg #[.slice none 0 0, .int .i64 0]]) (by simp [results, Tryd.results16, go_sem, b0, b1]) rfl ⟨B3, k3, d3, rfl, o6.rebase (by omega), st.below⟩

set_option maxRecDepth 100000 in
set_option maxHeartbeats 4000000 in
theorem refBytes_zero (h : Hd) (A : Option Addr) (n c m : Nat) (xs : List Int) (f t : Int) (w : World) (hk : h.ok) (hr : Rd .u8 w w.heap.size A n c xs) (hn : n ≤ 1472) (hm : 8 + n = m) (hbare : h.bare = false) (hf : Ip f) (ht : Ip t) (S s : Int) (hS : 65535 - totV (epR f t m ++ (hdS h m 0 ++ xs)) = S) (hz : S = 0) (hs : s = 65535) :
    Calls Tryd.prog 16 #[pkV h A n c, .int .u32 f, .int .u32 t] w (GivesRB w (hdS h (m : Int) s ++ xs)) := by
  have st := SF.start h A n c xs w hr
  have n1 : ¬ (1472 : Int) < (n : Int) := by omega
  have hm' : (8 : Int) + (n : Int) = (m : Int) := by omega
  have e1 : IntKind.i64.wrap (m : Int) = (m : Int) := by rw [IntKind.wrap_i64]; omega
  have ks := hk.src
  have kd := hk.dst
  have u1 : IntKind.i64.wrap h.src = h.src := by rw [IntKind.wrap_i64]; omega
  have u2 : IntKind.i64.wrap h.dst = h.dst := by rw [IntKind.wrap_i64]; omega
  have m1 : m ≤ 1480 := by omega
  have w1_ := Lib.hid (two2_wf ks)
  have w2_ := Lib.hid (two2_wf kd)
  have w3_ := Lib.hid (two2_wf (n := (m : Int)) (by omega))
  have hby := Lib.hid (totV_bd (byts_of (xs := epR f t m ++ (hdS h m 0 ++ xs)) (fun x hx => (List.mem_append.1 hx).elim (epR_wf hf ht (n := m) (by omega) x) (fun q => (List.mem_append.1 q).elim (hdS_wf hk (by omega) (by omega) x) (hr.2.2.2.1 x)))))
  have sb : 0 ≤ s ∧ s ≤ 65535 := by
    have := hby.out
    unfold W16 at this
    omega
  have u3 : IntKind.i64.wrap s = s := by rw [IntKind.wrap_i64]; omega
  have ce : Hid (∀ W, Calls Tryd.prog 28 #[.int .u32 f, .int .u32 t, .int .i64 17, .int .i64 m] W fun ev w' => ∃ A c, ev = .returned (.slice A 12 c) ∧ Out .u8 5 w' W.heap.size A 12 c (epR f t m) ∧ Below W.heap.size W w') := Lib.hid (fun W => ends_any f t m W hf ht (by omega))
  have cs : Hid (∀ W b A n1 c1, Out .u8 5 W b A n1 c1 (((epR f t m ++ ((two2 h.src ++ two2 h.dst) ++ two2 (m : Int))) ++ [0, 0]) ++ xs) → Calls Tryd.prog 35 #[.slice A n1 c1] W fun ev w' => ev = .returned (.int .u16 S) ∧ W = w') := Lib.hid (fun W b A n1 c1 q => by
    have l := q.len
    have lx := hr.len
    rw [all_eq] at l q
    rw [List.length_append, epR_len, List.length_append, hdS_len] at l
    have := refSumOf_any A n1 c1 W.heap.size _ W q.rd (by omega)
    rwa [hS] at this)
  clear hby
  have w4_ := Lib.hid (two2_wf sb)
  replace hbare := Lib.hid hbare
  have HX := Lib.hid hr.len
  clear hr hk hm hf ht hS
  obtain ⟨a0, a1, a2, a3⟩ := st.pk.cells
  go_enter Tryd.func16, Tryd.ntmps16
  go_wp2_with fail
  clear a0 a1 a2 a3
  refine wp_region_held_drew (S := fun w' => SF w h A n c xs w') (by kernel_rfl) (st.step (below_drew _)) (fun hHeld => ?_)
  replace st := st.step (below_drew _)
  change wpAnyH _ _ _ _ _ _ _ _ (World.drew _)
  generalize World.drew _ = W0 at *
  refine wpAnyH_at (i := 0) (some 21) (v := ?v0z31) rfl rfl (by kernel_rfl) (by kernel_rfl) (by kernel_rfl) (fun _ _ _ h => h) (Or.inl ⟨by rfl, ?y0z31⟩) (by assumption) ?r0z31
  case y0z31 =>
    intro w9 hSw
    clear hSw
    go_simp
    all_goals with_reducible rfl
  simp only [Act.put, List.setIfInBounds_toArray, List.set_cons_zero, List.set_cons_succ]
  refine wpAnyH_at (i := 1) (some 22) (v := ?v1z32) rfl rfl (by kernel_rfl) (by kernel_rfl) (by kernel_rfl) (fun _ _ _ h => h) (Or.inl ⟨by rfl, ?y1z32⟩) (by assumption) ?r1z32
  case y1z32 =>
    intro w9 hSw
    (obtain ⟨a0, a1, a2, a3⟩ := (show SF w h A n c xs w9 from hSw).pk.cells); clear hSw
    go_simp
    all_goals with_reducible rfl
  simp only [Act.put, List.setIfInBounds_toArray, List.set_cons_zero, List.set_cons_succ]
  refine wpAnyH_at (i := 2) (some 23) (v := ?v2z33) rfl rfl (by kernel_rfl) (by kernel_rfl) (by kernel_rfl) (fun _ _ _ h => h) (Or.inl ⟨by rfl, ?y2z33⟩) (by assumption) ?r2z33
  case y2z33 =>
    intro w9 hSw
    clear hSw
    go_simp
    all_goals with_reducible rfl
  simp only [Act.put, List.setIfInBounds_toArray, List.set_cons_zero, List.set_cons_succ]
  refine wpAnyH_at (i := 4) (some 25) (v := ?v4z34) rfl rfl (by kernel_rfl) (by kernel_rfl) (by kernel_rfl) (fun _ _ _ h => h) (Or.inl ⟨by rfl, ?y4z34⟩) (by assumption) ?r4z34
  case y4z34 =>
    intro w9 hSw
    clear hSw
    go_simp
    all_goals with_reducible rfl
  simp only [Act.put, List.setIfInBounds_toArray, List.set_cons_zero, List.set_cons_succ]
  refine wpAnyH_at (i := 5) (some 26) (v := ?v5z35) rfl rfl (by kernel_rfl) (by kernel_rfl) (by kernel_rfl) (fun _ _ _ h => h) (Or.inl ⟨by rfl, ?y5z35⟩) (by assumption) ?r5z35
  case y5z35 =>
    intro w9 hSw
    (obtain ⟨a0, a1, a2, a3⟩ := (show SF w h A n c xs w9 from hSw).pk.cells); clear hSw
    go_simp
    all_goals with_reducible rfl
  simp only [Act.put, List.setIfInBounds_toArray, List.set_cons_zero, List.set_cons_succ]
  refine wpAnyH_at (i := 6) (some 27) (v := ?v6z36) rfl rfl (by kernel_rfl) (by kernel_rfl) (by kernel_rfl) (fun _ _ _ h => h) (Or.inl ⟨by rfl, ?y6z36⟩) (by assumption) ?r6z36
  case y6z36 =>
    intro w9 hSw
    clear hSw
    go_simp
    all_goals with_reducible rfl
  simp only [Act.put, List.setIfInBounds_toArray, List.set_cons_zero, List.set_cons_succ]
  refine wpAnyH_at (i := 9) (some 30) (v := ?v9z37) rfl rfl (by kernel_rfl) (by kernel_rfl) (by kernel_rfl) (fun _ _ _ h => h) (Or.inl ⟨by rfl, ?y9z37⟩) (by assumption) ?r9z37
  case y9z37 =>
    intro w9 hSw
    clear hSw
    go_simp
    all_goals with_reducible rfl
  simp only [Act.put, List.setIfInBounds_toArray, List.set_cons_zero, List.set_cons_succ]
  refine wpAnyH_one (i := 3) (by kernel_rfl) rfl ?_
  go_wp2_with (go_at_call 34; refine (refTwo_any h.src _ ks).mono ?_; rintro e W1 ⟨gA, rfl, rA, gb, bt⟩)
  have oA := rA.own (n := 2) (Nat.le_trans st.sz gb) rfl (by omega) w1_.out
  replace st := st.step bt
  clear bt rA gb
  clear hHeld
  have hHeld := st
  refine ⟨hHeld, ?_⟩
  try simp only [Act.put, List.setIfInBounds_toArray, List.set_cons_zero, List.set_cons_succ]
  refine wpAnyH_one (i := 7) (by kernel_rfl) rfl ?_
  go_wp2_with (go_at_call 34; refine (refTwo_any h.dst _ kd).mono ?_; rintro e W2 ⟨gB, rfl, rB, -, bt⟩)
  replace oA := oA.below bt (Nat.le_refl _)
  replace st := st.step bt
  clear bt
  clear hHeld
  have hHeld := st
  refine ⟨hHeld, ?_⟩
  try simp only [Act.put, List.setIfInBounds_toArray, List.set_cons_zero, List.set_cons_succ]
  refine wpAnyH_one (i := 8) (by kernel_rfl) rfl ?_
  refine wpList_appD (some 29) rfl rfl (.tmp 24) (.tmp 28) 22 rfl (w.heap.size + 2) Tryd.underlying22 info5 (by omega) (some ⟨gA, 0, none⟩) 2 2 _ rfl oA (some ⟨gB, 0, none⟩) 2 2 _ (two2 h.dst) rfl (rB.rdW (n := 2) rfl (by omega) w2_.out) (by omega) st.sz ?_
  intro A3 n3 c3 W3 o3 hgr
  replace st := st.low (Nat.le_refl _) (grown_low oA hgr st.sz)
  obtain rfl : 4 = n3 := o3.len
  clear hgr oA rB hHeld
  have hHeld := st
  go_wp2
  refine ⟨hHeld, ?_⟩
  try simp only [Act.put, List.setIfInBounds_toArray, List.set_cons_zero, List.set_cons_succ]
  refine wpAnyH_one (i := 10) (by kernel_rfl) rfl ?_
  go_wp2_with (go_at_call 34; refine (refTwo_any (m : Int) _ (by omega)).mono ?_; rintro e W4 ⟨gC, rfl, rC, -, bt⟩)
  replace o3 := o3.below bt (Nat.le_refl _)
  replace st := st.step bt
  clear bt
  clear hHeld
  have hHeld := st
  refine ⟨hHeld, ?_⟩
  try simp only [Act.put, List.setIfInBounds_toArray, List.set_cons_zero, List.set_cons_succ]
  refine wpAnyH_one (i := 11) (by kernel_rfl) rfl ?_
  refine wpList_appD (some 32) rfl rfl (.tmp 29) (.tmp 31) 22 rfl (w.heap.size + 2) Tryd.underlying22 info5 (by omega) A3 4 c3 _ rfl o3 (some ⟨gC, 0, none⟩) 2 2 _ (two2 (m : Int)) rfl (rC.rdW (n := 2) rfl (by omega) w3_.out) (by omega) st.sz ?_
  intro A9 n9 c9 W5 oH hgr
  replace st := st.low (Nat.le_refl _) (grown_low o3 hgr st.sz)
  obtain rfl : 6 = n9 := oH.len
  clear hgr o3 rC hHeld
  have hHeld := st
  go_wp2
  refine ⟨hHeld, ?_⟩
  try simp only [Act.put, List.setIfInBounds_toArray, List.set_cons_zero, List.set_cons_succ]
  refine wpAnyH_at (i := 12) (some 9) (v := ?v12z38) rfl rfl (by kernel_rfl) (by kernel_rfl) (by kernel_rfl) (fun _ _ _ h => h) (Or.inl ⟨by rfl, ?y12z38⟩) (by assumption) ?r12z38
  case y12z38 =>
    intro w9 hSw
    clear hSw
    go_simp
    all_goals with_reducible rfl
  simp only [Act.put, List.setIfInBounds_toArray, List.set_cons_zero, List.set_cons_succ]
  refine wpAnyH_done (by kernel_rfl) ?_ _
  clear hHeld
  obtain ⟨a0, a1, a2, a3⟩ := st.pk.cells
  rw [hbare.out] at a2
  go_wp2_with fail
  clear a0 a1 a2 a3
  refine (ce.out _).mono ?_
  rintro ev W6 ⟨A1, c1, rfl, o1, b⟩
  have szW := st.sz
  clear ce
  go_wp2_with (first
    | (at_builtin; refine wpList_app rfl (.tmp 39) (.tmp 40) 22 rfl W5.heap.size Tryd.underlying22 info5 (by omega) A1 12 c1 _ rfl o1 A9 6 c9 _ _ rfl (oH.below b (Nat.le_refl _)).rd (by omega) b.size ?_; intro A2 n2 c2 W7 o2 hgr; obtain rfl : 18 = n2 := o2.len; replace b := b.trans (grown_low o1 hgr b.size); clear hgr o1)
    | (at_builtin; refine wpList_app rfl (.tmp 41) (.tmp 42) 22 rfl W5.heap.size Tryd.underlying22 info5 (by omega) A2 18 c2 _ rfl (o2.below (alloc_below W7 (.cells #[.int .u8 0, .int .u8 0] 5)) (Nat.le_refl _)) (some ⟨W7.heap.size, 0, none⟩) 2 2 _ [0, 0] rfl (Row.rdW (n := 2) (show Row (W7.alloc (.cells #[.int .u8 0, .int .u8 0] 5)) W7.heap.size [0, 0] from heap_alloc_new W7 _) rfl (by omega) (by decide)) (by omega) (Nat.le_trans b.size (alloc_below W7 (.cells #[.int .u8 0, .int .u8 0] 5)).size) ?_; intro A3 n3 c3 W8 o3 hgr; obtain rfl : 20 = n3 := o3.len; replace b := (b.trans ((alloc_below W7 (.cells #[.int .u8 0, .int .u8 0] 5)).mono b.size)).trans (grown_low (o2.below (alloc_below W7 (.cells #[.int .u8 0, .int .u8 0] 5)) (Nat.le_refl _)) hgr (Nat.le_trans b.size (alloc_below W7 (.cells #[.int .u8 0, .int .u8 0] 5)).size)); have stB := st.low szW b; (obtain ⟨a0, a1, a2, a3⟩ := stB.pk.cells); clear hgr o2)
    | (at_builtin; refine wpList_app rfl (.tmp 44) (.tmp 46) 22 rfl W5.heap.size Tryd.underlying22 info5 (by omega) A3 20 c3 _ rfl o3 A n c w.heap.size xs rfl stB.rd (by omega) b.size ?_; intro A4 n4 c4 W9 o4 hgr; replace b := b.trans (grown_low o3 hgr b.size); clear hgr o3 stB a0 a1 a2 a3))
  refine (cs.out _ _ _ _ _ o4).mono ?_
  rintro ev W10 ⟨rfl, rfl⟩
  replace oH := oH.below b (Nat.le_refl _)
  replace st := st.low szW b
  clear cs o4 b szW
  subst hz hs
  go_wp2_with fail
  refine wp_region_held_drew (S := fun w' => SF w h A n c xs w') (by kernel_rfl) (st.step (below_drew _)) (fun hHeld => ?_)
  replace st := st.step (below_drew _)
  replace oH := oH.below (below_drew _) (Nat.le_refl _)
  change wpAnyH _ _ _ _ _ _ _ _ (World.drew _)
  generalize World.drew _ = W11 at *
  refine wpAnyH_at (i := 0) (some 51) (v := ?v0z39) rfl rfl (by kernel_rfl) (by kernel_rfl) (by kernel_rfl) (fun _ _ _ h => h) (Or.inl ⟨by rfl, ?y0z39⟩) (by assumption) ?r0z39
  case y0z39 =>
    intro w9 hSw
    clear hSw
    go_simp
    all_goals with_reducible rfl
  simp only [Act.put, List.setIfInBounds_toArray, List.set_cons_zero, List.set_cons_succ]
  refine wpAnyH_at (i := 1) (some 52) (v := ?v1z40) rfl rfl (by kernel_rfl) (by kernel_rfl) (by kernel_rfl) (fun _ _ _ h => h) (Or.inl ⟨by rfl, ?y1z40⟩) (by assumption) ?r1z40
  case y1z40 =>
    intro w9 hSw
    clear hSw
    go_simp
    all_goals with_reducible rfl
  simp only [Act.put, List.setIfInBounds_toArray, List.set_cons_zero, List.set_cons_succ]
  refine wpAnyH_at (i := 2) (some 53) (v := ?v2z41) rfl rfl (by kernel_rfl) (by kernel_rfl) (by kernel_rfl) (fun _ _ _ h => h) (Or.inl ⟨by rfl, ?y2z41⟩) (by assumption) ?r2z41
  case y2z41 =>
    intro w9 hSw
    clear hSw
    go_simp
    all_goals with_reducible rfl
  simp only [Act.put, List.setIfInBounds_toArray, List.set_cons_zero, List.set_cons_succ]
  refine wpAnyH_at (i := 5) (some 56) (v := ?v5z42) rfl rfl (by kernel_rfl) (by kernel_rfl) (by kernel_rfl) (fun _ _ _ h => h) (Or.inl ⟨by rfl, ?y5z42⟩) (by assumption) ?r5z42
  case y5z42 =>
    intro w9 hSw
    clear hSw
    go_simp
    all_goals with_reducible rfl
  simp only [Act.put, List.setIfInBounds_toArray, List.set_cons_zero, List.set_cons_succ]
  refine wpAnyH_at (i := 6) (some 57) (v := ?v6z43) rfl rfl (by kernel_rfl) (by kernel_rfl) (by kernel_rfl) (fun _ _ _ h => h) (Or.inl ⟨by rfl, ?y6z43⟩) (by assumption) ?r6z43
  case y6z43 =>
    intro w9 hSw
    (obtain ⟨a0, a1, a2, a3⟩ := (show SF w h A n c xs w9 from hSw).pk.cells); clear hSw
    go_simp
    all_goals with_reducible rfl
  simp only [Act.put, List.setIfInBounds_toArray, List.set_cons_zero, List.set_cons_succ]
  refine wpAnyH_at (i := 8) (some 59) (v := ?v8z44) rfl rfl (by kernel_rfl) (by kernel_rfl) (by kernel_rfl) (fun _ _ _ h => h) (Or.inl ⟨by rfl, ?y8z44⟩) (by assumption) ?r8z44
  case y8z44 =>
    intro w9 hSw
    clear hSw
    go_simp
    all_goals with_reducible rfl
  simp only [Act.put, List.setIfInBounds_toArray, List.set_cons_zero, List.set_cons_succ]
  refine wpAnyH_one (i := 3) (by kernel_rfl) rfl ?_
  go_wp2_with (go_at_call 34; refine (refTwo_any 65535 _ sb).mono ?_; rintro e W12 ⟨gA, rfl, rA, -, bt⟩)
  replace oH := oH.below bt (Nat.le_refl _)
  replace st := st.step bt
  clear bt
  clear hHeld
  have hHeld := st
  refine ⟨hHeld, ?_⟩
  try simp only [Act.put, List.setIfInBounds_toArray, List.set_cons_zero, List.set_cons_succ]
  refine wpAnyH_one (i := 4) (by kernel_rfl) rfl ?_
  refine wpList_appD (some 55) rfl rfl (.tmp 51) (.tmp 54) 22 rfl (w.heap.size + 2) Tryd.underlying22 info5 (by omega) A9 6 c9 _ rfl oH (some ⟨gA, 0, none⟩) 2 2 _ (two2 65535) rfl (rA.rdW (n := 2) rfl (by omega) w4_.out) (by omega) st.sz ?_
  intro B2 k2 d2 W13 o5 hgr
  replace st := st.low (Nat.le_refl _) (grown_low oH hgr st.sz)
  obtain rfl : 8 = k2 := o5.len
  clear hgr oH rA hHeld
  have hHeld := st
  go_wp2
  refine ⟨hHeld, ?_⟩
  try simp only [Act.put, List.setIfInBounds_toArray, List.set_cons_zero, List.set_cons_succ]
  refine wpAnyH_one (i := 7) (by kernel_rfl) rfl ?_
  refine wpList_appD (some 58) rfl rfl (.tmp 55) (.tmp 57) 22 rfl (w.heap.size + 2) Tryd.underlying22 info5 (by omega) B2 8 d2 _ rfl o5 A n c w.heap.size xs rfl st.rd (by omega) st.sz ?_
  intro B3 k3 d3 W14 o6 hgr
  replace st := st.low (Nat.le_refl _) (grown_low o5 hgr st.sz)
  clear hgr o5 hHeld
  have hHeld := st
  go_wp2
  refine ⟨hHeld, ?_⟩
  try simp only [Act.put, List.setIfInBounds_toArray, List.set_cons_zero, List.set_cons_succ]
  refine wpAnyH_at (i := 9) (some 6) (v := ?v9z45) rfl rfl (by kernel_rfl) (by kernel_rfl) (by kernel_rfl) (fun _ _ _ h => h) (Or.inl ⟨by rfl, ?y9z45⟩) (by assumption) ?r9z45
  case y9z45 =>
    intro w9 hSw
    clear hSw
    go_simp
    all_goals with_reducible rfl
  simp only [Act.put, List.setIfInBounds_toArray, List.set_cons_zero, List.set_cons_succ]
  refine wpAnyH_one (i := 10) (by kernel_rfl) rfl ?_
  refine wpList_stF rfl rfl 37 _ _ rfl (w.heap.size + 1) (flC none 0 0 0) rfl rfl 37 _ st.y (by kernel_rfl) rfl (flC_one _ _ _ _) ?_
  intro w3 f3 hb3 ho3 hs3
  replace o6 := o6.other (fun j hj => ho3 j (by omega))
  replace st : SF w h A n c xs w3 := ⟨st.pk.below hb3 (by omega), f3, st.rd.below hb3 (by omega), st.below.trans (hb3.mono (by omega))⟩
  clear hHeld hb3 ho3 hs3
  have hHeld := st
  go_wp2
  refine ⟨hHeld, ?_⟩
  refine wpAnyH_done (by kernel_rfl) ?_ _
  clear hHeld
  go_wp2
  have b0 : w3.cell? ⟨w.heap.size + 1, 0, none⟩ = some (.slice none 0 0) := blk_cell f3 rfl
  have b1 : w3.cell? ⟨w.heap.size + 1, 1, none⟩ = some (.int .i64 0) := blk_cell f3 rfl
  exact bodyPost_ret (v := .tuple #[.slice B3 k3 d3, .agg #[.slice none 0 0, .int .i64 0]]) (by simp [results, Tryd.results16, go_sem, b0, b1]) rfl ⟨B3, k3, d3, rfl, o6.rebase (by omega), st.below⟩
theorem refBytes_ok (h : Hd) (A : Option Addr) (n c : Nat) (xs : List Int) (f t : Int) (w : World) (hk : h.ok) (hr : Rd .u8 w w.heap.size A n c xs) (hf : Ip f) (ht : Ip t) (hn : n ≤ 1472) : Calls Tryd.prog 16 #[pkV h A n c, .int .u32 f, .int .u32 t] w (GivesRB w (byR h f t xs)) := by
  have hl := hr.len
  have e : (8 : Int) + (xs.length : Int) = ((8 + n : Nat) : Int) := by omega
  cases hb : h.bare
  · rw [byR_sum hb, e]
    by_cases hz : 65535 - totV (epR f t ((8 + n : Nat) : Int) ++ (hdS h ((8 + n : Nat) : Int) 0 ++ xs)) = 0
    · rw [hz, show fullV 0 = 65535 from rfl]
      exact refBytes_zero h A n c (8 + n) xs f t w hk hr hn rfl hb hf ht _ _ rfl hz rfl
    · unfold fullV
      rw [if_neg hz]
      exact refBytes_sum h A n c (8 + n) xs f t w hk hr hn rfl hb hf ht _ _ rfl hz rfl
  · rw [byR_bare hb, e]
    exact refBytes_bare h A n c (8 + n) xs f t w hk hr hn rfl hb
end Go.Proofs.YtmgdfckhnjihpaaDoor
