/-
  Contracts of Same, the document's Same, and the law's Of: a packet as the document has it, its body as new memory.
-/
import Derived.Test.YtbefoapnlehdmaaDoorSmall
import Derived.Test.YtbefoapnlehdmaaDoorCp
import Derived.Test.YtbefoapnlehdmaaDoorForce
namespace Go.Proofs.YtbefoapnlehdmaaDoor
open Go.RowKit

theorem below_drew' (w : World) : Below w.heap.size w w.drew := ⟨rfl, rfl, rfl, Nat.le_refl _, fun _ _ => rfl⟩
/-- Are two packets the same? -/
def smB (h k : Hd) (xs ys : List Int) : Bool := hdB h k && bEq xs ys
theorem smB_self (h : Hd) (xs : List Int) : smB h h xs xs = true := by simp [smB, hdB_self, bEq_self]
set_option maxHeartbeats 4000000 in
theorem refSame_pk (h k : Hd) (A A' : Option Addr) (n c n' c' : Nat) (xs ys : List Int) (w : World) (hr : Rd .u8 w w.heap.size A n c xs) (hr' : Rd .u8 w w.heap.size A' n' c' ys) :
    Calls Tryd.prog 28 #[pkV h A n c, pkV k A' n' c'] w fun e w' => e = .returned (.bool (smB h k xs ys)) ∧ Below w.heap.size w w' := by
  obtain ⟨x1, x2, x3, x4, x5, x6, x7⟩ := h
  obtain ⟨y1, y2, y3, y4, y5, y6, y7⟩ := k
  have hstr := str_eq hr.2.2.2.1 hr'.2.2.2.1
  have hb0 : ∀ cs cs', Below w.heap.size w ((w.alloc (.cells cs 63)).alloc (.cells cs' 63)) := fun cs cs' => (alloc_below w _).alloc (by simp) _
  by_cases h1 : ¬ x1 = y1
  · have e : smB ⟨x1, x2, x3, x4, x5, x6, x7⟩ ⟨y1, y2, y3, y4, y5, y6, y7⟩ xs ys = false := by simp [smB, hdB, h1]
    rw [e]
    clear e hstr hr hr'
    have h1b : (x1 == y1) = false := by simpa using h1
    go_enter Tryd.func28, Tryd.ntmps28
    go_wp2
    go_ret
    exact ⟨rfl, hb0 _ _⟩
  obtain rfl : y1 = x1 := (Classical.not_not.1 h1).symm
  clear h1
  by_cases h2 : ¬ x2 = y2
  · have e : smB ⟨y1, x2, x3, x4, x5, x6, x7⟩ ⟨y1, y2, y3, y4, y5, y6, y7⟩ xs ys = false := by simp [smB, hdB, h2]
    rw [e]
    clear e hstr hr hr'
    have h2b : (x2 == y2) = false := by simpa using h2
    go_enter Tryd.func28, Tryd.ntmps28
    go_wp2
    go_ret
    exact ⟨rfl, hb0 _ _⟩
  obtain rfl : y2 = x2 := (Classical.not_not.1 h2).symm
  clear h2
  by_cases h3 : ¬ x3 = y3
  · have e : smB ⟨y1, y2, x3, x4, x5, x6, x7⟩ ⟨y1, y2, y3, y4, y5, y6, y7⟩ xs ys = false := by simp [smB, hdB, h3]
    rw [e]
    clear e hstr hr hr'
    have h3b : (x3 == y3) = false := by simpa using h3
    go_enter Tryd.func28, Tryd.ntmps28
    go_wp2
    go_ret
    exact ⟨rfl, hb0 _ _⟩
  obtain rfl : y3 = x3 := (Classical.not_not.1 h3).symm
  clear h3
  by_cases h4 : ¬ x4 = y4
  · have e : smB ⟨y1, y2, y3, x4, x5, x6, x7⟩ ⟨y1, y2, y3, y4, y5, y6, y7⟩ xs ys = false := by simp [smB, hdB, h4]
    rw [e]
    clear e hstr hr hr'
    have h4b : (x4 == y4) = false := by simpa using h4
    go_enter Tryd.func28, Tryd.ntmps28
    go_wp2
    go_ret
    exact ⟨rfl, hb0 _ _⟩
  obtain rfl : y4 = x4 := (Classical.not_not.1 h4).symm
  clear h4
  by_cases h5 : ¬ x5 = y5
  · have e : smB ⟨y1, y2, y3, y4, x5, x6, x7⟩ ⟨y1, y2, y3, y4, y5, y6, y7⟩ xs ys = false := by simp [smB, hdB, h5]
    rw [e]
    clear e hstr hr hr'
    have h5b : (x5 == y5) = false := by simpa using h5
    go_enter Tryd.func28, Tryd.ntmps28
    go_wp2
    go_ret
    exact ⟨rfl, hb0 _ _⟩
  obtain rfl : y5 = x5 := (Classical.not_not.1 h5).symm
  clear h5
  by_cases h6 : ¬ x6 = y6
  · have e : smB ⟨y1, y2, y3, y4, y5, x6, x7⟩ ⟨y1, y2, y3, y4, y5, y6, y7⟩ xs ys = false := by simp [smB, hdB, h6]
    rw [e]
    clear e hstr hr hr'
    have h6b : (x6 == y6) = false := by simpa using h6
    go_enter Tryd.func28, Tryd.ntmps28
    go_wp2
    go_ret
    exact ⟨rfl, hb0 _ _⟩
  obtain rfl : y6 = x6 := (Classical.not_not.1 h6).symm
  clear h6
  by_cases h7 : ¬ x7 = y7
  · have e : smB ⟨y1, y2, y3, y4, y5, y6, x7⟩ ⟨y1, y2, y3, y4, y5, y6, y7⟩ xs ys = false := by simp [smB, hdB, h7]
    rw [e]
    clear e hstr hr hr'
    have h7b : (x7 == y7) = false := by simpa using h7
    go_enter Tryd.func28, Tryd.ntmps28
    go_wp2
    go_ret
    exact ⟨rfl, hb0 _ _⟩
  obtain rfl : y7 = x7 := (Classical.not_not.1 h7).symm
  clear h7
  have e : smB ⟨y1, y2, y3, y4, y5, y6, y7⟩ ⟨y1, y2, y3, y4, y5, y6, y7⟩ xs ys = bEq xs ys := by simp [smB, hdB]
  rw [e]
  have q1 : ∀ cs cs', (convert 22 9 (.slice A n c)).run Tryd.prog ((w.alloc (.cells cs 63)).alloc (.cells cs' 63)) = .ok (.string (strOfNums xs)) ((w.alloc (.cells cs 63)).alloc (.cells cs' 63)) := fun cs cs' => conv_str (hr.below (hb0 cs cs') (Nat.le_refl _))
  have q2 : ∀ cs cs', (convert 22 9 (.slice A' n' c')).run Tryd.prog ((w.alloc (.cells cs 63)).alloc (.cells cs' 63)) = .ok (.string (strOfNums ys)) ((w.alloc (.cells cs 63)).alloc (.cells cs' 63)) := fun cs cs' => conv_str (hr'.below (hb0 cs cs') (Nat.le_refl _))
  clear e hr hr'
  go_enter Tryd.func28, Tryd.ntmps28
  go_wp2
  go_ret
  exact ⟨by first | rfl | simp, hb0 _ _⟩
/-- What Of's walk knows. -/
structure KOf (w : World) (h : Hd) (A : Option Addr) (n c : Nat) (xs : List Int) (W : World) : Prop where
  fr : PkAt W w.heap.size 60 h A n c
  z : ∃ cs, cs.size = 8 ∧ W.heap[w.heap.size + 1]? = some (.cells cs 63 (0, 0))
  rd : Rd .u8 W w.heap.size A n c xs
  below : Below w.heap.size w W
section
variable {w W V : World} {h : Hd} {A : Option Addr} {n c : Nat} {xs : List Int}
theorem KOf.step (q : KOf w h A n c xs W) (hb : Below W.heap.size W V) : KOf w h A n c xs V := ⟨q.fr.step hb, (by obtain ⟨cs, h1, h2⟩ := q.z; exact ⟨cs, h1, (hb.block _ (blk_lt h2)).trans h2⟩), q.rd.below hb q.below.size, q.below.trans (hb.mono q.below.size)⟩
end
/-- What Of answers: the same numbers, an own row. -/
def GivesPk (w : World) (h : Hd) (xs : List Int) (ev : Ending) (w' : World) : Prop := ∃ A n c, ev = .returned (pkV h A n c) ∧ Out .u8 5 w' w.heap.size A n c xs ∧ Below w.heap.size w w'
set_option maxRecDepth 100000 in
set_option maxHeartbeats 4000000 in
theorem of_pk (h : Hd) (A : Option Addr) (n c : Nat) (xs : List Int) (w : World) (hr : Rd .u8 w w.heap.size A n c xs) (hn : n ≤ 100000) :
    Calls Tryd.prog 29 #[pkV h A n c] w (GivesPk w h xs) := by
  have hb0 : Below w.heap.size w ((w.alloc (.cells (pkC h A n c) 60)).alloc (.cells (pkC zeroH none 0 0) 63)) := (alloc_below w _).alloc (by simp) _
  have K0 : KOf w h A n c xs ((w.alloc (.cells (pkC h A n c) 60)).alloc (.cells (pkC zeroH none 0 0) 63)) :=
    ⟨(PkAt.new w 60 h A n c).step (alloc_below _ _), ⟨pkC zeroH none 0 0, rfl, by simpa using heap_alloc_new (w.alloc (.cells (pkC h A n c) 60)) (.cells (pkC zeroH none 0 0) 63)⟩, hr.below hb0 (Nat.le_refl _), hb0⟩
  clear hr hb0
  go_enter Tryd.func29, Tryd.ntmps29
  go_wp2_with fail
  revert K0
  change KOf w h A n c xs ((w.alloc (.cells (pkC h A n c) 60)).alloc (.cells (pkC zeroH none 0 0) 63)) → Code.wp _ _ _ _ ((w.alloc (.cells (pkC h A n c) 60)).alloc (.cells (pkC zeroH none 0 0) 63))
  generalize (w.alloc (.cells (pkC h A n c) 60)).alloc (.cells (pkC zeroH none 0 0) 63) = W0
  intro K0
  refine wp_region_held_drew (S := fun w' => KOf w h A n c xs w') (by kernel_rfl) (K0.step (below_drew' _)) (fun hHeld => ?_)
  refine wpAnyH_at (i := 0) (some 3) (v := ?v0z17) rfl rfl (by kernel_rfl) (by kernel_rfl) (by kernel_rfl) (fun _ _ _ h => h) (Or.inl ⟨by rfl, ?y0z17⟩) (by assumption) ?r0z17
  case y0z17 =>
    intro w9 hSw
    clear hSw
    go_simp
    all_goals with_reducible rfl
  simp only [Act.put, List.setIfInBounds_toArray, List.set_cons_zero, List.set_cons_succ]
  refine wpAnyH_at (i := 1) (some 4) (v := ?v1z18) rfl rfl (by kernel_rfl) (by kernel_rfl) (by kernel_rfl) (fun _ _ _ h => h) (Or.inl ⟨by rfl, ?y1z18⟩) (by assumption) ?r1z18
  case y1z18 =>
    intro w9 hSw
    (obtain ⟨a0, a1, a2, a3, a4, a5, a6, a7⟩ := (show KOf w h A n c xs w9 from hSw).fr.cells); clear hSw
    go_simp
    all_goals with_reducible rfl
  simp only [Act.put, List.setIfInBounds_toArray, List.set_cons_zero, List.set_cons_succ]
  refine wpAnyH_at (i := 2) (some 5) (v := ?v2z19) rfl rfl (by kernel_rfl) (by kernel_rfl) (by kernel_rfl) (fun _ _ _ h => h) (Or.inl ⟨by rfl, ?y2z19⟩) (by assumption) ?r2z19
  case y2z19 =>
    intro w9 hSw
    clear hSw
    go_simp
    all_goals with_reducible rfl
  simp only [Act.put, List.setIfInBounds_toArray, List.set_cons_zero, List.set_cons_succ]
  refine wpAnyH_at (i := 3) (some 6) (v := ?v3z20) rfl rfl (by kernel_rfl) (by kernel_rfl) (by kernel_rfl) (fun _ _ _ h => h) (Or.inl ⟨by rfl, ?y3z20⟩) (by assumption) ?r3z20
  case y3z20 =>
    intro w9 hSw
    (obtain ⟨a0, a1, a2, a3, a4, a5, a6, a7⟩ := (show KOf w h A n c xs w9 from hSw).fr.cells); clear hSw
    go_simp
    all_goals with_reducible rfl
  simp only [Act.put, List.setIfInBounds_toArray, List.set_cons_zero, List.set_cons_succ]
  refine wpAnyH_at (i := 4) (some 7) (v := ?v4z21) rfl rfl (by kernel_rfl) (by kernel_rfl) (by kernel_rfl) (fun _ _ _ h => h) (Or.inl ⟨by rfl, ?y4z21⟩) (by assumption) ?r4z21
  case y4z21 =>
    intro w9 hSw
    clear hSw
    go_simp
    all_goals with_reducible rfl
  simp only [Act.put, List.setIfInBounds_toArray, List.set_cons_zero, List.set_cons_succ]
  refine wpAnyH_at (i := 5) (some 8) (v := ?v5z22) rfl rfl (by kernel_rfl) (by kernel_rfl) (by kernel_rfl) (fun _ _ _ h => h) (Or.inl ⟨by rfl, ?y5z22⟩) (by assumption) ?r5z22
  case y5z22 =>
    intro w9 hSw
    (obtain ⟨a0, a1, a2, a3, a4, a5, a6, a7⟩ := (show KOf w h A n c xs w9 from hSw).fr.cells); clear hSw
    go_simp
    all_goals with_reducible rfl
  simp only [Act.put, List.setIfInBounds_toArray, List.set_cons_zero, List.set_cons_succ]
  refine wpAnyH_at (i := 6) (some 9) (v := ?v6z23) rfl rfl (by kernel_rfl) (by kernel_rfl) (by kernel_rfl) (fun _ _ _ h => h) (Or.inl ⟨by rfl, ?y6z23⟩) (by assumption) ?r6z23
  case y6z23 =>
    intro w9 hSw
    clear hSw
    go_simp
    all_goals with_reducible rfl
  simp only [Act.put, List.setIfInBounds_toArray, List.set_cons_zero, List.set_cons_succ]
  refine wpAnyH_at (i := 7) (some 10) (v := ?v7z24) rfl rfl (by kernel_rfl) (by kernel_rfl) (by kernel_rfl) (fun _ _ _ h => h) (Or.inl ⟨by rfl, ?y7z24⟩) (by assumption) ?r7z24
  case y7z24 =>
    intro w9 hSw
    (obtain ⟨a0, a1, a2, a3, a4, a5, a6, a7⟩ := (show KOf w h A n c xs w9 from hSw).fr.cells); clear hSw
    go_simp
    all_goals with_reducible rfl
  simp only [Act.put, List.setIfInBounds_toArray, List.set_cons_zero, List.set_cons_succ]
  refine wpAnyH_at (i := 8) (some 11) (v := ?v8z25) rfl rfl (by kernel_rfl) (by kernel_rfl) (by kernel_rfl) (fun _ _ _ h => h) (Or.inl ⟨by rfl, ?y8z25⟩) (by assumption) ?r8z25
  case y8z25 =>
    intro w9 hSw
    clear hSw
    go_simp
    all_goals with_reducible rfl
  simp only [Act.put, List.setIfInBounds_toArray, List.set_cons_zero, List.set_cons_succ]
  refine wpAnyH_at (i := 9) (some 12) (v := ?v9z26) rfl rfl (by kernel_rfl) (by kernel_rfl) (by kernel_rfl) (fun _ _ _ h => h) (Or.inl ⟨by rfl, ?y9z26⟩) (by assumption) ?r9z26
  case y9z26 =>
    intro w9 hSw
    (obtain ⟨a0, a1, a2, a3, a4, a5, a6, a7⟩ := (show KOf w h A n c xs w9 from hSw).fr.cells); clear hSw
    go_simp
    all_goals with_reducible rfl
  simp only [Act.put, List.setIfInBounds_toArray, List.set_cons_zero, List.set_cons_succ]
  refine wpAnyH_at (i := 10) (some 13) (v := ?v10z27) rfl rfl (by kernel_rfl) (by kernel_rfl) (by kernel_rfl) (fun _ _ _ h => h) (Or.inl ⟨by rfl, ?y10z27⟩) (by assumption) ?r10z27
  case y10z27 =>
    intro w9 hSw
    clear hSw
    go_simp
    all_goals with_reducible rfl
  simp only [Act.put, List.setIfInBounds_toArray, List.set_cons_zero, List.set_cons_succ]
  refine wpAnyH_at (i := 11) (some 14) (v := ?v11z28) rfl rfl (by kernel_rfl) (by kernel_rfl) (by kernel_rfl) (fun _ _ _ h => h) (Or.inl ⟨by rfl, ?y11z28⟩) (by assumption) ?r11z28
  case y11z28 =>
    intro w9 hSw
    (obtain ⟨a0, a1, a2, a3, a4, a5, a6, a7⟩ := (show KOf w h A n c xs w9 from hSw).fr.cells); clear hSw
    go_simp
    all_goals with_reducible rfl
  simp only [Act.put, List.setIfInBounds_toArray, List.set_cons_zero, List.set_cons_succ]
  refine wpAnyH_at (i := 12) (some 15) (v := ?v12z29) rfl rfl (by kernel_rfl) (by kernel_rfl) (by kernel_rfl) (fun _ _ _ h => h) (Or.inl ⟨by rfl, ?y12z29⟩) (by assumption) ?r12z29
  case y12z29 =>
    intro w9 hSw
    clear hSw
    go_simp
    all_goals with_reducible rfl
  simp only [Act.put, List.setIfInBounds_toArray, List.set_cons_zero, List.set_cons_succ]
  refine wpAnyH_at (i := 13) (some 16) (v := ?v13z30) rfl rfl (by kernel_rfl) (by kernel_rfl) (by kernel_rfl) (fun _ _ _ h => h) (Or.inl ⟨by rfl, ?y13z30⟩) (by assumption) ?r13z30
  case y13z30 =>
    intro w9 hSw
    (obtain ⟨a0, a1, a2, a3, a4, a5, a6, a7⟩ := (show KOf w h A n c xs w9 from hSw).fr.cells); clear hSw
    go_simp
    all_goals with_reducible rfl
  simp only [Act.put, List.setIfInBounds_toArray, List.set_cons_zero, List.set_cons_succ]
  refine wpAnyH_at (i := 14) (some 17) (v := ?v14z31) rfl rfl (by kernel_rfl) (by kernel_rfl) (by kernel_rfl) (fun _ _ _ h => h) (Or.inl ⟨by rfl, ?y14z31⟩) (by assumption) ?r14z31
  case y14z31 =>
    intro w9 hSw
    clear hSw
    go_simp
    all_goals with_reducible rfl
  simp only [Act.put, List.setIfInBounds_toArray, List.set_cons_zero, List.set_cons_succ]
  refine wpAnyH_at (i := 15) (some 18) (v := ?v15z32) rfl rfl (by kernel_rfl) (by kernel_rfl) (by kernel_rfl) (fun _ _ _ h => h) (Or.inl ⟨by rfl, ?y15z32⟩) (by assumption) ?r15z32
  case y15z32 =>
    intro w9 hSw
    (obtain ⟨a0, a1, a2, a3, a4, a5, a6, a7⟩ := (show KOf w h A n c xs w9 from hSw).fr.cells); clear hSw
    go_simp
    all_goals with_reducible rfl
  simp only [Act.put, List.setIfInBounds_toArray, List.set_cons_zero, List.set_cons_succ]
  refine wpAnyH_one (i := 16) (by kernel_rfl) rfl ?_
  generalize W0.drew = W1 at hHeld ⊢
  clear K0
  go_wp2_with (go_at_call 9; refine (own_any A n c w.heap.size xs _ hHeld.rd hHeld.below.size hn).mono ?_; rintro e w3 ⟨A', n', c', rfl, ho, hb1⟩)
  have hHeld0 := hHeld
  replace hHeld := hHeld.step hb1
  have hw1 : w.heap.size ≤ W1.heap.size := hHeld0.below.size
  have hw2 : w.heap.size + 1 < W1.heap.size := by obtain ⟨cs, _, hz⟩ := hHeld0.z; exact blk_lt hz
  refine ⟨hHeld, ?_⟩
  refine wpAnyH_at (i := 17) (some 20) (v := ?v17z33) rfl rfl (by kernel_rfl) (by kernel_rfl) (by kernel_rfl) (fun _ _ _ h => h) (Or.inl ⟨by rfl, ?y17z33⟩) (by assumption) ?r17z33
  case y17z33 =>
    intro w9 hSw
    clear hSw
    go_simp
    all_goals with_reducible rfl
  simp only [Act.put, List.setIfInBounds_toArray, List.set_cons_zero, List.set_cons_succ]
  refine wpAnyH_one (i := 18) (by kernel_rfl) rfl ?_
  obtain ⟨cs, hcs, hz⟩ := hHeld.z
  refine wpList_stF rfl rfl 63 _ _ rfl (w.heap.size + 1) (pkC h A' n' c') rfl rfl 63 cs hz (by kernel_rfl) hcs (pkC_one ..) ?_
  intro w5 h5 hb5 ho5 hs5
  have ho' : Out .u8 5 w5 w.heap.size A' n' c' xs := (ho.other (fun j hj => ho5 j (by omega))).rebase hw1
  have hH5 : KOf w h A n c xs w5 := ⟨hHeld.fr.below hb5 (by omega), ⟨_, rfl, h5⟩, hHeld.rd.below hb5 (by omega), hHeld.below.trans (hb5.mono (by omega))⟩
  have h5' : PkAt w5 (w.heap.size + 1) 63 h A' n' c' := h5
  clear ho hHeld hz hb5 ho5 h5 hb1
  go_wp2
  refine ⟨hH5, ?_⟩
  refine wpAnyH_done (by kernel_rfl) ?_ _
  obtain ⟨a0, a1, a2, a3, a4, a5, a6, a7⟩ := h5'.cells
  go_wp2
  exact bodyPost_ret (v := pkV h A' n' c') (by simp [results, Tryd.results29, go_sem, *]) rfl ⟨A', n', c', rfl, ho', hH5.below⟩
end Go.Proofs.YtbefoapnlehdmaaDoor
