/-
  Contracts of the document's Same and the law's Of: a segment as the document has it, its bytes as new memory.
-/
import Derived.Test.YtggnkmllbpgfoaaDoorTProg
namespace Go.Proofs.YtggnkmllbpgfoaaDoor
open Go.RowKit

/-- Are two segments the same? -/
def smB (h k : Hd) (xs ys : List Int) : Bool := hdB h k && bEq xs ys
theorem smB_self (h : Hd) (xs : List Int) : smB h h xs xs = true := by simp [smB, hdB_self, bEq_self]
set_option maxHeartbeats 4000000 in
theorem refSame_pk (h k : Hd) (A A' : Option Addr) (n c n' c' : Nat) (xs ys : List Int) (w : World) (hr : Rd .u8 w w.heap.size A n c xs) (hr' : Rd .u8 w w.heap.size A' n' c' ys) :
    Calls Tryd.prog 10 #[pkV h A n c, pkV k A' n' c'] w fun e w' => e = .returned (.bool (smB h k xs ys)) ∧ Below w.heap.size w w' := by
  obtain ⟨x1, x2, x3⟩ := h
  obtain ⟨y1, y2, y3⟩ := k
  have hstr := str_eq hr.2.2.2.1 hr'.2.2.2.1
  have hb0 : ∀ cs cs', Below w.heap.size w ((w.alloc (.cells cs 33)).alloc (.cells cs' 33)) := fun cs cs' => (alloc_below w _).alloc (by simp) _
  by_cases h1 : ¬ x1 = y1
  · have e : smB ⟨x1, x2, x3⟩ ⟨y1, y2, y3⟩ xs ys = false := by simp [smB, hdB, h1]
    rw [e]
    clear e hstr hr hr'
    have h1b : (x1 == y1) = false := by simpa using h1
    go_enter Tryd.func10, Tryd.ntmps10
    go_wp2
    go_ret
    exact ⟨rfl, hb0 _ _⟩
  obtain rfl : y1 = x1 := (Classical.not_not.1 h1).symm
  clear h1
  by_cases h2 : ¬ x2 = y2
  · have e : smB ⟨y1, x2, x3⟩ ⟨y1, y2, y3⟩ xs ys = false := by simp [smB, hdB, h2]
    rw [e]
    clear e hstr hr hr'
    have h2b : (x2 == y2) = false := by simpa using h2
    go_enter Tryd.func10, Tryd.ntmps10
    go_wp2
    go_ret
    exact ⟨rfl, hb0 _ _⟩
  obtain rfl : y2 = x2 := (Classical.not_not.1 h2).symm
  clear h2
  by_cases h3 : ¬ x3 = y3
  · have e : smB ⟨y1, y2, x3⟩ ⟨y1, y2, y3⟩ xs ys = false := by simp [smB, hdB, h3]
    rw [e]
    clear e hstr hr hr'
    have h3b : (x3 == y3) = false := by simpa using h3
    go_enter Tryd.func10, Tryd.ntmps10
    go_wp2
    go_ret
    exact ⟨rfl, hb0 _ _⟩
  obtain rfl : y3 = x3 := (Classical.not_not.1 h3).symm
  clear h3
  have e : smB ⟨y1, y2, y3⟩ ⟨y1, y2, y3⟩ xs ys = bEq xs ys := by simp [smB, hdB]
  rw [e]
  have q1 : ∀ cs cs', (convert 22 9 (.slice A n c)).run Tryd.prog ((w.alloc (.cells cs 33)).alloc (.cells cs' 33)) = .ok (.string (strOfNums xs)) ((w.alloc (.cells cs 33)).alloc (.cells cs' 33)) := fun cs cs' => conv_str (hr.below (hb0 cs cs') (Nat.le_refl _))
  have q2 : ∀ cs cs', (convert 22 9 (.slice A' n' c')).run Tryd.prog ((w.alloc (.cells cs 33)).alloc (.cells cs' 33)) = .ok (.string (strOfNums ys)) ((w.alloc (.cells cs 33)).alloc (.cells cs' 33)) := fun cs cs' => conv_str (hr'.below (hb0 cs cs') (Nat.le_refl _))
  clear e hr hr'
  go_enter Tryd.func10, Tryd.ntmps10
  go_wp2
  go_ret
  exact ⟨by first | rfl | simp, hb0 _ _⟩
/-- What Of's walk knows. -/
structure KOf (w : World) (h : Hd) (A : Option Addr) (n c : Nat) (xs : List Int) (W : World) : Prop where
  fr : PkAt W w.heap.size 28 h A n c
  z : ∃ cs, cs.size = 4 ∧ W.heap[w.heap.size + 1]? = some (.cells cs 33 (0, 0))
  rd : Rd .u8 W w.heap.size A n c xs
  below : Below w.heap.size w W
section
variable {w W V : World} {h : Hd} {A : Option Addr} {n c : Nat} {xs : List Int}
theorem KOf.step (q : KOf w h A n c xs W) (hb : Below W.heap.size W V) : KOf w h A n c xs V := ⟨q.fr.step hb, (by obtain ⟨cs, h1, h2⟩ := q.z; exact ⟨cs, h1, (hb.block _ (blk_lt h2)).trans h2⟩), q.rd.below hb q.below.size, q.below.trans (hb.mono q.below.size)⟩
end
/-- What Of answers: the same numbers, an own row. -/
def GivesPk (w : World) (h : Hd) (xs : List Int) (ev : Ending) (w' : World) : Prop := ∃ A n c, ev = .returned (pkV h A n c) ∧ Out .u8 5 w' w.heap.size A n c xs ∧ Below w.heap.size w w'
set_option maxRecDepth 100000 in
set_option maxHeartbeats 4000000 in
theorem of_pk (h : Hd) (A : Option Addr) (n c : Nat) (xs : List Int) (w : World) (hr : Rd .u8 w w.heap.size A n c xs) (hn : n ≤ 100000) :
    Calls Tryd.prog 11 #[pkV h A n c] w (GivesPk w h xs) := by
  have hb0 : Below w.heap.size w ((w.alloc (.cells (pkC h A n c) 28)).alloc (.cells (pkC zeroH none 0 0) 33)) := (alloc_below w _).alloc (by simp) _
  have K0 : KOf w h A n c xs ((w.alloc (.cells (pkC h A n c) 28)).alloc (.cells (pkC zeroH none 0 0) 33)) :=
    ⟨(PkAt.new w 28 h A n c).step (alloc_below _ _), ⟨pkC zeroH none 0 0, rfl, by simpa using heap_alloc_new (w.alloc (.cells (pkC h A n c) 28)) (.cells (pkC zeroH none 0 0) 33)⟩, hr.below hb0 (Nat.le_refl _), hb0⟩
  clear hr hb0
  go_enter Tryd.func11, Tryd.ntmps11
  go_wp2_with fail
  revert K0
  change KOf w h A n c xs ((w.alloc (.cells (pkC h A n c) 28)).alloc (.cells (pkC zeroH none 0 0) 33)) → Code.wp _ _ _ _ ((w.alloc (.cells (pkC h A n c) 28)).alloc (.cells (pkC zeroH none 0 0) 33))
  generalize (w.alloc (.cells (pkC h A n c) 28)).alloc (.cells (pkC zeroH none 0 0) 33) = W0
  intro K0
  refine wp_region_held_drew (S := fun w' => KOf w h A n c xs w') (by kernel_rfl) (K0.step (below_drew _)) (fun hHeld => ?_)
  refine wpAnyH_at (i := 0) (some 3) (v := ?v0z1) rfl rfl (by kernel_rfl) (by kernel_rfl) (by kernel_rfl) (fun _ _ _ h => h) (Or.inl ⟨by rfl, ?y0z1⟩) (by assumption) ?r0z1
  case y0z1 =>
    intro w9 hSw
    clear hSw
    go_simp
    all_goals with_reducible rfl
  simp only [Act.put, List.setIfInBounds_toArray, List.set_cons_zero, List.set_cons_succ]
  refine wpAnyH_at (i := 1) (some 4) (v := ?v1z2) rfl rfl (by kernel_rfl) (by kernel_rfl) (by kernel_rfl) (fun _ _ _ h => h) (Or.inl ⟨by rfl, ?y1z2⟩) (by assumption) ?r1z2
  case y1z2 =>
    intro w9 hSw
    (obtain ⟨a0, a1, a2, a3⟩ := (show KOf w h A n c xs w9 from hSw).fr.cells); clear hSw
    go_simp
    all_goals with_reducible rfl
  simp only [Act.put, List.setIfInBounds_toArray, List.set_cons_zero, List.set_cons_succ]
  refine wpAnyH_at (i := 2) (some 5) (v := ?v2z3) rfl rfl (by kernel_rfl) (by kernel_rfl) (by kernel_rfl) (fun _ _ _ h => h) (Or.inl ⟨by rfl, ?y2z3⟩) (by assumption) ?r2z3
  case y2z3 =>
    intro w9 hSw
    clear hSw
    go_simp
    all_goals with_reducible rfl
  simp only [Act.put, List.setIfInBounds_toArray, List.set_cons_zero, List.set_cons_succ]
  refine wpAnyH_at (i := 3) (some 6) (v := ?v3z4) rfl rfl (by kernel_rfl) (by kernel_rfl) (by kernel_rfl) (fun _ _ _ h => h) (Or.inl ⟨by rfl, ?y3z4⟩) (by assumption) ?r3z4
  case y3z4 =>
    intro w9 hSw
    (obtain ⟨a0, a1, a2, a3⟩ := (show KOf w h A n c xs w9 from hSw).fr.cells); clear hSw
    go_simp
    all_goals with_reducible rfl
  simp only [Act.put, List.setIfInBounds_toArray, List.set_cons_zero, List.set_cons_succ]
  refine wpAnyH_at (i := 4) (some 7) (v := ?v4z5) rfl rfl (by kernel_rfl) (by kernel_rfl) (by kernel_rfl) (fun _ _ _ h => h) (Or.inl ⟨by rfl, ?y4z5⟩) (by assumption) ?r4z5
  case y4z5 =>
    intro w9 hSw
    clear hSw
    go_simp
    all_goals with_reducible rfl
  simp only [Act.put, List.setIfInBounds_toArray, List.set_cons_zero, List.set_cons_succ]
  refine wpAnyH_at (i := 5) (some 8) (v := ?v5z6) rfl rfl (by kernel_rfl) (by kernel_rfl) (by kernel_rfl) (fun _ _ _ h => h) (Or.inl ⟨by rfl, ?y5z6⟩) (by assumption) ?r5z6
  case y5z6 =>
    intro w9 hSw
    (obtain ⟨a0, a1, a2, a3⟩ := (show KOf w h A n c xs w9 from hSw).fr.cells); clear hSw
    go_simp
    all_goals with_reducible rfl
  simp only [Act.put, List.setIfInBounds_toArray, List.set_cons_zero, List.set_cons_succ]
  refine wpAnyH_at (i := 6) (some 9) (v := ?v6z7) rfl rfl (by kernel_rfl) (by kernel_rfl) (by kernel_rfl) (fun _ _ _ h => h) (Or.inl ⟨by rfl, ?y6z7⟩) (by assumption) ?r6z7
  case y6z7 =>
    intro w9 hSw
    clear hSw
    go_simp
    all_goals with_reducible rfl
  simp only [Act.put, List.setIfInBounds_toArray, List.set_cons_zero, List.set_cons_succ]
  refine wpAnyH_at (i := 7) (some 10) (v := ?v7z8) rfl rfl (by kernel_rfl) (by kernel_rfl) (by kernel_rfl) (fun _ _ _ h => h) (Or.inl ⟨by rfl, ?y7z8⟩) (by assumption) ?r7z8
  case y7z8 =>
    intro w9 hSw
    (obtain ⟨a0, a1, a2, a3⟩ := (show KOf w h A n c xs w9 from hSw).fr.cells); clear hSw
    go_simp
    all_goals with_reducible rfl
  simp only [Act.put, List.setIfInBounds_toArray, List.set_cons_zero, List.set_cons_succ]
  refine wpAnyH_one (i := 8) (by kernel_rfl) rfl ?_
  generalize W0.drew = W1 at hHeld ⊢
  clear K0
  go_wp2_with (go_at_call 6; refine (own_any A n c w.heap.size xs _ hHeld.rd hHeld.below.size hn).mono ?_; rintro e w3 ⟨A', n', c', rfl, ho, hb1⟩)
  have hHeld0 := hHeld
  replace hHeld := hHeld.step hb1
  have hw1 : w.heap.size ≤ W1.heap.size := hHeld0.below.size
  have hw2 : w.heap.size + 1 < W1.heap.size := by obtain ⟨cs, _, hz⟩ := hHeld0.z; exact blk_lt hz
  refine ⟨hHeld, ?_⟩
  refine wpAnyH_at (i := 9) (some 12) (v := ?v9z9) rfl rfl (by kernel_rfl) (by kernel_rfl) (by kernel_rfl) (fun _ _ _ h => h) (Or.inl ⟨by rfl, ?y9z9⟩) (by assumption) ?r9z9
  case y9z9 =>
    intro w9 hSw
    clear hSw
    go_simp
    all_goals with_reducible rfl
  simp only [Act.put, List.setIfInBounds_toArray, List.set_cons_zero, List.set_cons_succ]
  refine wpAnyH_one (i := 10) (by kernel_rfl) rfl ?_
  obtain ⟨cs, hcs, hz⟩ := hHeld.z
  refine wpList_stF rfl rfl 33 _ _ rfl (w.heap.size + 1) (pkC h A' n' c') rfl rfl 33 cs hz (by kernel_rfl) hcs (pkC_one ..) ?_
  intro w5 h5 hb5 ho5 hs5
  have ho' : Out .u8 5 w5 w.heap.size A' n' c' xs := (ho.other (fun j hj => ho5 j (by omega))).rebase hw1
  have hH5 : KOf w h A n c xs w5 := ⟨hHeld.fr.below hb5 (by omega), ⟨_, rfl, h5⟩, hHeld.rd.below hb5 (by omega), hHeld.below.trans (hb5.mono (by omega))⟩
  have h5' : PkAt w5 (w.heap.size + 1) 33 h A' n' c' := h5
  clear ho hHeld hz hb5 ho5 h5 hb1
  go_wp2
  refine ⟨hH5, ?_⟩
  refine wpAnyH_done (by kernel_rfl) ?_ _
  obtain ⟨a0, a1, a2, a3⟩ := h5'.cells
  go_wp2
  exact bodyPost_ret (v := pkV h A' n' c') (by simp [results, Tryd.results11, go_sem, *]) rfl ⟨A', n', c', rfl, ho', hH5.below⟩
end Go.Proofs.YtggnkmllbpgfoaaDoor
