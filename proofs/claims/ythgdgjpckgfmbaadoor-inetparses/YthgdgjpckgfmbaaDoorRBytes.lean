/-
  Contract of the document's Bytes.
-/
import Derived.Test.YthgdgjpckgfmbaaDoorRHead
namespace Go.Proofs.YthgdgjpckgfmbaaDoor
open Go.RowKit

theorem refHead_any (h : Hd) (A : Option Addr) (n c : Nat) (w : World) (hk : h.ok) (hn : n ≤ 65515) :
    Calls Tryd.prog 22 #[pkV h A n c] w fun ev w' => ∃ A' n' c', ev = .returned (.slice A' n' c') ∧ Out .u8 5 w' w.heap.size A' n' c' (hdR h n) ∧ Below w.heap.size w w' := by
  rw [show hdR h n = hdX h n ++ (two2 (hdS h n) ++ (four h.src ++ four h.dst)) from rfl]
  cases hkp : h.keep
  · skip
    have e : (((([69, h.tos] ++ two2 (20 + (n : Int))) ++ two2 h.id) ++ two2 0) ++ [h.ttl, h.proto]) = hdX h n := by simp [hdX, two2, hkp]
    have := refHead_plain h A n c _ (hdS h n) w hk hkp hn rfl (by rw [e]; exact hd_sum hk hn) (hdS_bd hk hn)
    rw [e, List.append_assoc] at this
    exact this
  · skip
    have e : (((([69, h.tos] ++ two2 (20 + (n : Int))) ++ two2 h.id) ++ two2 16384) ++ [h.ttl, h.proto]) = hdX h n := by simp [hdX, two2, hkp]
    have := refHead_keep h A n c _ (hdS h n) w hk hkp hn rfl (by rw [e]; exact hd_sum hk hn) (hdS_bd hk hn)
    rw [e, List.append_assoc] at this
    exact this
/-- What the walk knows: the packet's box, the fault's block. -/
structure SF (w : World) (h : Hd) (A : Option Addr) (n c : Nat) (xs : List Int) (W : World) : Prop where
  sb : SB w h A n c W
  y : W.heap[w.heap.size + 1]? = some (.cells (flC none 0 0 0) 37 (0, 0))
  rd : Rd .u8 W w.heap.size A n c xs
section
variable {w W V : World} {h : Hd} {A : Option Addr} {n c B : Nat} {xs : List Int}
theorem SF.sz (q : SF w h A n c xs W) : w.heap.size + 2 ≤ W.heap.size := blk_lt q.y
theorem SF.low (q : SF w h A n c xs W) (hB : w.heap.size + 2 ≤ B) (hb : Below B W V) : SF w h A n c xs V := ⟨q.sb.low (by omega) hb, (hb.block _ (by omega)).trans q.y, q.rd.below hb (by omega)⟩
theorem SF.step (q : SF w h A n c xs W) (hb : Below W.heap.size W V) : SF w h A n c xs V := q.low q.sz hb
end
theorem SF.start (h : Hd) (A : Option Addr) (n c : Nat) (xs : List Int) (w : World) (hr : Rd .u8 w w.heap.size A n c xs) : SF w h A n c xs ((w.alloc (.cells (pkC h A n c) 33)).alloc (.cells (flC none 0 0 0) 37)) :=
  ⟨(SB.start h A n c w).step (alloc_below _ _), by simpa using heap_alloc_new (w.alloc (.cells (pkC h A n c) 33)) (.cells (flC none 0 0 0) 37), (hr.below (alloc_below w (.cells (pkC h A n c) 33)) (Nat.le_refl _)).below (alloc_below _ (.cells (flC none 0 0 0) 37)) (by simp)⟩
set_option maxRecDepth 100000 in
set_option maxHeartbeats 4000000 in
theorem refBytes_far (h : Hd) (A : Option Addr) (n c : Nat) (xs : List Int) (w : World) (hr : Rd .u8 w w.heap.size A n c xs) (hn : 1480 < n) :
    Calls Tryd.prog 20 #[pkV h A n c] w fun ev w' => ∃ A1 n1 c1, ev = .returned (.tuple #[.slice none 0 0, .agg #[.slice A1 n1 c1, .int .i64 11]]) ∧ Rd .i64 w' w'.heap.size A1 n1 c1 [1] ∧ Below w.heap.size w w' := by
  have st := SF.start h A n c xs w hr
  have n1 : (1480 : Int) < (n : Int) := by omega
  have hmax := Nat.le_trans hr.cap hr.max
  clear hr
  obtain ⟨a0, a1, a2, a3, a4, a5, a6, a7⟩ := st.sb.pk.cells
  go_enter Tryd.func20, Tryd.ntmps20
  go_wp2_with fail
  refine (refNew_at 1 11 (by decide) (by decide) (by decide) _).mono ?_
  rintro ev w1 ⟨A1, n1, c1, rfl, rd1, new1, hb1⟩
  have hsz := st.sz
  clear a0 a1 a2 a3 a4 a5 a6 a7
  replace st := st.step hb1
  have far : A1 = none ∨ ∃ ad, A1 = some ad ∧ ad.block ≠ w.heap.size + 1 := by
    rcases new1 with h | h | ⟨ad, h, h1, _⟩
    · exact .inl h
    · exact .inl h
    · have q2 := Nat.le_trans hsz h1
      exact .inr ⟨ad, h, by omega⟩
  have y1 := st.y
  clear hb1 new1
  go_wp2_with (refine wpList_stF rfl rfl 37 _ _ rfl (w.heap.size + 1) (flC A1 n1 c1 11) rfl rfl 37 _ y1 (by kernel_rfl) rfl (flC_one _ _ _ _) ?_; intro w3 f3 hb3 ho3 hs3)
  have b0 : w3.cell? ⟨w.heap.size + 1, 0, none⟩ = some (.slice A1 n1 c1) := blk_cell f3 rfl
  have b1 : w3.cell? ⟨w.heap.size + 1, 1, none⟩ = some (.int .i64 11) := blk_cell f3 rfl
  refine bodyPost_ret (v := .tuple #[.slice none 0 0, .agg #[.slice A1 n1 c1, .int .i64 11]]) (by simp [results, Tryd.results20, go_sem, b0, b1]) rfl ⟨A1, n1, c1, rfl, ?_, st.sb.below.trans (hb3.mono (by omega))⟩
  rw [hs3]
  exact rd1.other ho3 far
set_option maxRecDepth 100000 in
set_option maxHeartbeats 4000000 in
theorem refBytes_near (h : Hd) (A : Option Addr) (n c : Nat) (xs : List Int) (w : World) (hk : h.ok) (hr : Rd .u8 w w.heap.size A n c xs) (hn : n ≤ 1480) :
    Calls Tryd.prog 20 #[pkV h A n c] w fun ev w' => ∃ A1 n1 c1, ev = .returned (.tuple #[.slice A1 n1 c1, .agg #[.slice none 0 0, .int .i64 0]]) ∧ Out .u8 5 w' w.heap.size A1 n1 c1 (hdR h n ++ xs) ∧ Below w.heap.size w w' := by
  have st := SF.start h A n c xs w hr
  have n1 : ¬ (1480 : Int) < (n : Int) := by omega
  have ch := Lib.hid (fun W => refHead_any h A n c W hk (by omega))
  have HL : Hid ((hdR h n).length = 20) := Lib.hid rfl
  clear hr hk
  generalize hdR h n = Y at *
  obtain ⟨a0, a1, a2, a3, a4, a5, a6, a7⟩ := st.sb.pk.cells
  go_enter Tryd.func20, Tryd.ntmps20
  go_wp2_with fail
  clear a0 a1 a2 a3 a4 a5 a6 a7
  refine wp_region_held_drew (S := fun w' => SF w h A n c xs w') (by kernel_rfl) (st.step (below_drew _)) (fun hHeld => ?_)
  replace st := st.step (below_drew _)
  change wpAnyH _ _ _ _ _ _ _ _ (World.drew _)
  generalize World.drew _ = W0 at *
  refine wpAnyH_at (i := 0) (some 9) (v := ?v0z45) rfl rfl (by kernel_rfl) (by kernel_rfl) (by kernel_rfl) (fun _ _ _ h => h) (Or.inl ⟨by rfl, ?y0z45⟩) (by assumption) ?r0z45
  case y0z45 =>
    intro w9 hSw
    (obtain ⟨a0, a1, a2, a3, a4, a5, a6, a7⟩ := (show SF w h A n c xs w9 from hSw).sb.pk.cells); clear hSw
    go_simp
    all_goals with_reducible rfl
  simp only [Act.put, List.setIfInBounds_toArray, List.set_cons_zero, List.set_cons_succ]
  refine wpAnyH_at (i := 2) (some 11) (v := ?v2z46) rfl rfl (by kernel_rfl) (by kernel_rfl) (by kernel_rfl) (fun _ _ _ h => h) (Or.inl ⟨by rfl, ?y2z46⟩) (by assumption) ?r2z46
  case y2z46 =>
    intro w9 hSw
    clear hSw
    go_simp
    all_goals with_reducible rfl
  simp only [Act.put, List.setIfInBounds_toArray, List.set_cons_zero, List.set_cons_succ]
  refine wpAnyH_at (i := 3) (some 12) (v := ?v3z47) rfl rfl (by kernel_rfl) (by kernel_rfl) (by kernel_rfl) (fun _ _ _ h => h) (Or.inl ⟨by rfl, ?y3z47⟩) (by assumption) ?r3z47
  case y3z47 =>
    intro w9 hSw
    (obtain ⟨a0, a1, a2, a3, a4, a5, a6, a7⟩ := (show SF w h A n c xs w9 from hSw).sb.pk.cells); clear hSw
    go_simp
    all_goals with_reducible rfl
  simp only [Act.put, List.setIfInBounds_toArray, List.set_cons_zero, List.set_cons_succ]
  refine wpAnyH_at (i := 5) (some 14) (v := ?v5z48) rfl rfl (by kernel_rfl) (by kernel_rfl) (by kernel_rfl) (fun _ _ _ h => h) (Or.inl ⟨by rfl, ?y5z48⟩) (by assumption) ?r5z48
  case y5z48 =>
    intro w9 hSw
    clear hSw
    go_simp
    all_goals with_reducible rfl
  simp only [Act.put, List.setIfInBounds_toArray, List.set_cons_zero, List.set_cons_succ]
  refine wpAnyH_one (i := 1) (by kernel_rfl) rfl ?_
  go_wp2_with (go_at_call 22; refine (ch.out _).mono ?_; rintro e W1 ⟨A1, n1, c1, rfl, o1, bt⟩)
  replace o1 := o1.rebase st.sz
  replace st := st.step bt
  clear bt
  obtain rfl : n1 = 20 := o1.len.symm.trans HL.out
  clear hHeld
  have hHeld := st
  refine ⟨hHeld, ?_⟩
  try simp only [Act.put, List.setIfInBounds_toArray, List.set_cons_zero, List.set_cons_succ]
  refine wpAnyH_one (i := 4) (by kernel_rfl) rfl ?_
  refine wpList_appD (some 13) rfl rfl (.tmp 10) (.tmp 12) 22 rfl (w.heap.size + 2) Tryd.underlying22 info5 (by omega) A1 20 c1 Y rfl o1 A n c w.heap.size xs rfl st.rd (by omega) st.sz ?_
  intro A2 n2 c2 W2 o2 hgr
  replace st := st.low (Nat.le_refl _) (grown_low o1 hgr st.sz)
  clear hgr o1 hHeld
  have hHeld := st
  go_wp2
  refine ⟨hHeld, ?_⟩
  try simp only [Act.put, List.setIfInBounds_toArray, List.set_cons_zero, List.set_cons_succ]
  refine wpAnyH_at (i := 6) (some 2) (v := ?v6z49) rfl rfl (by kernel_rfl) (by kernel_rfl) (by kernel_rfl) (fun _ _ _ h => h) (Or.inl ⟨by rfl, ?y6z49⟩) (by assumption) ?r6z49
  case y6z49 =>
    intro w9 hSw
    clear hSw
    go_simp
    all_goals with_reducible rfl
  simp only [Act.put, List.setIfInBounds_toArray, List.set_cons_zero, List.set_cons_succ]
  refine wpAnyH_one (i := 7) (by kernel_rfl) rfl ?_
  refine wpList_stF rfl rfl 37 _ _ rfl (w.heap.size + 1) (flC none 0 0 0) rfl rfl 37 _ st.y (by kernel_rfl) rfl (flC_one _ _ _ _) ?_
  intro w3 f3 hb3 ho3 hs3
  replace o2 := o2.other (fun j hj => ho3 j (by omega))
  replace st : SF w h A n c xs w3 := ⟨st.sb.low (Nat.le_refl _) hb3, f3, st.rd.below hb3 (by omega)⟩
  clear hHeld hb3 ho3 hs3
  have hHeld := st
  go_wp2
  refine ⟨hHeld, ?_⟩
  refine wpAnyH_done (by kernel_rfl) ?_ _
  clear hHeld
  go_wp2
  have b0 : w3.cell? ⟨w.heap.size + 1, 0, none⟩ = some (.slice none 0 0) := blk_cell f3 rfl
  have b1 : w3.cell? ⟨w.heap.size + 1, 1, none⟩ = some (.int .i64 0) := blk_cell f3 rfl
  exact bodyPost_ret (v := .tuple #[.slice A2 n2 c2, .agg #[.slice none 0 0, .int .i64 0]]) (by simp [results, Tryd.results20, go_sem, b0, b1]) rfl ⟨A2, n2, c2, rfl, o2.rebase (by omega), st.sb.below⟩
end Go.Proofs.YthgdgjpckgfmbaaDoor
