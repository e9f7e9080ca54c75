/-
  Contract of the law's Of: a frame as the document has it, its body as new memory.
-/
import Derived.Test.YteddpmjjahfmiaaDoorSameF
import Derived.Test.YteddpmjjahfmiaaDoorLaw
import Derived.Test.YteddpmjjahfmiaaDoorForce
namespace Go.Proofs.YteddpmjjahfmiaaDoor
open Go.RowKit

/-- What Of's walk knows. -/
structure KOf (w : World) (t f : Mac6) (k : Int) (A : Option Addr) (n c : Nat) (xs : List Int) (W : World) : Prop where
  fr : FrAt W w.heap.size 29 t f k A n c
  z : ∃ cs, cs.size = 14 ∧ W.heap[w.heap.size + 1]? = some (.cells cs 35 (0, 0))
  rd : Rd .u8 W w.heap.size A n c xs
  below : Below w.heap.size w W
section
variable {w W V : World} {t f : Mac6} {k : Int} {A : Option Addr} {n c : Nat} {xs : List Int}
theorem KOf.step (h : KOf w t f k A n c xs W) (hb : Below W.heap.size W V) : KOf w t f k A n c xs V := ⟨h.fr.step hb, (by obtain ⟨cs, h1, h2⟩ := h.z; exact ⟨cs, h1, (hb.block _ (blk_lt h2)).trans h2⟩), h.rd.below hb h.below.size, h.below.trans (hb.mono h.below.size)⟩
theorem KOf.drew (h : KOf w t f k A n c xs W) : KOf w t f k A n c xs W.drew := h.step ⟨rfl, rfl, rfl, Nat.le_refl _, fun _ _ => rfl⟩
end
/-- What Of answers: the same numbers, an own row. -/
def GivesFr (w : World) (t f : Mac6) (k : Int) (xs : List Int) (ev : Ending) (w' : World) : Prop := ∃ A n c, ev = .returned (frV t f k A n c) ∧ Out .u8 5 w' w.heap.size A n c xs ∧ Below w.heap.size w w'
set_option maxRecDepth 100000 in
set_option maxHeartbeats 4000000 in
theorem of_frame (t f : Mac6) (k : Int) (A : Option Addr) (n c : Nat) (xs : List Int) (w : World) (hr : Rd .u8 w w.heap.size A n c xs) (hn : n ≤ 100000) :
    Calls Tryd.prog 13 #[frV t f k A n c] w (GivesFr w t f k xs) := by
  have hb0 : Below w.heap.size w ((w.alloc (.cells (frC t f k A n c) 29)).alloc (.cells (frC zero6 zero6 0 none 0 0) 35)) := (alloc_below w _).alloc (by simp) _
  have K0 : KOf w t f k A n c xs ((w.alloc (.cells (frC t f k A n c) 29)).alloc (.cells (frC zero6 zero6 0 none 0 0) 35)) :=
    ⟨(FrAt.new w 29 t f k A n c).step (alloc_below _ _), ⟨frC zero6 zero6 0 none 0 0, rfl, by simpa using heap_alloc_new (w.alloc (.cells (frC t f k A n c) 29)) (.cells (frC zero6 zero6 0 none 0 0) 35)⟩, hr.below hb0 (Nat.le_refl _), hb0⟩
  simp only [zero6] at K0
  clear hr hb0
  go_enter Tryd.func13, Tryd.ntmps13
  go_wp2_with fail
  revert K0
  generalize (w.alloc (.cells (frC t f k A n c) 29)).alloc (.cells (frC ⟨0, 0, 0, 0, 0, 0⟩ ⟨0, 0, 0, 0, 0, 0⟩ 0 none 0 0) 35) = W0
  intro K0
  refine wp_region_held_drew (S := fun w' => KOf w t f k A n c xs w') (by kernel_rfl) K0.drew (fun hHeld => ?_)
  refine wpAnyH_at (i := 0) (some 3) (v := ?v0z1) rfl rfl (by kernel_rfl) (by kernel_rfl) (by kernel_rfl) (fun _ _ _ h => h) (Or.inl ⟨by rfl, ?y0z1⟩) (by assumption) ?r0z1
  case y0z1 =>
    intro w9 hSw
    clear hSw
    go_simp
    all_goals with_reducible rfl
  simp only [Act.put, List.setIfInBounds_toArray, List.set_cons_zero, List.set_cons_succ]
  refine wpAnyH_at (i := 1) (some 4) (v := ?v1z2) rfl rfl (by kernel_rfl) (by kernel_rfl) (by kernel_rfl) (fun _ _ _ h => h) (Or.inl ⟨by rfl, ?y1z2⟩) (by assumption) ?r1z2
  case y1z2 =>
    intro w9 hSw
    (obtain ⟨a0, a1, a2, a3, a4, a5, a6, a7, a8, a9, a10, a11, a12, a13⟩ := (show KOf w t f k A n c xs w9 from hSw).fr.cells); clear hSw
    go_simp
    all_goals with_reducible rfl
  simp only [Act.put, List.setIfInBounds_toArray, List.set_cons_zero, List.set_cons_succ]
  refine wpAnyH_at (i := 2) (some 5) (v := ?v2z3) rfl rfl (by kernel_rfl) (by kernel_rfl) (by kernel_rfl) (fun _ _ _ h => h) (Or.inl ⟨by rfl, ?y2z3⟩) (by assumption) ?r2z3
  case y2z3 =>
    intro w9 hSw
    clear hSw
    go_simp
    all_goals with_reducible rfl
  simp only [Act.put, List.setIfInBounds_toArray, List.set_cons_zero, List.set_cons_succ]
  refine wpAnyH_at (i := 3) (some 6) (v := ?v3z4) rfl rfl (by kernel_rfl) (by kernel_rfl) (by kernel_rfl) (fun _ _ _ h => h) (Or.inl ⟨by rfl, ?y3z4⟩) (by assumption) ?r3z4
  case y3z4 =>
    intro w9 hSw
    (obtain ⟨a0, a1, a2, a3, a4, a5, a6, a7, a8, a9, a10, a11, a12, a13⟩ := (show KOf w t f k A n c xs w9 from hSw).fr.cells); clear hSw
    go_simp
    all_goals with_reducible rfl
  simp only [Act.put, List.setIfInBounds_toArray, List.set_cons_zero, List.set_cons_succ]
  refine wpAnyH_at (i := 4) (some 7) (v := ?v4z5) rfl rfl (by kernel_rfl) (by kernel_rfl) (by kernel_rfl) (fun _ _ _ h => h) (Or.inl ⟨by rfl, ?y4z5⟩) (by assumption) ?r4z5
  case y4z5 =>
    intro w9 hSw
    clear hSw
    go_simp
    all_goals with_reducible rfl
  simp only [Act.put, List.setIfInBounds_toArray, List.set_cons_zero, List.set_cons_succ]
  refine wpAnyH_at (i := 5) (some 8) (v := ?v5z6) rfl rfl (by kernel_rfl) (by kernel_rfl) (by kernel_rfl) (fun _ _ _ h => h) (Or.inl ⟨by rfl, ?y5z6⟩) (by assumption) ?r5z6
  case y5z6 =>
    intro w9 hSw
    (obtain ⟨a0, a1, a2, a3, a4, a5, a6, a7, a8, a9, a10, a11, a12, a13⟩ := (show KOf w t f k A n c xs w9 from hSw).fr.cells); clear hSw
    go_simp
    all_goals with_reducible rfl
  simp only [Act.put, List.setIfInBounds_toArray, List.set_cons_zero, List.set_cons_succ]
  refine wpAnyH_at (i := 6) (some 9) (v := ?v6z7) rfl rfl (by kernel_rfl) (by kernel_rfl) (by kernel_rfl) (fun _ _ _ h => h) (Or.inl ⟨by rfl, ?y6z7⟩) (by assumption) ?r6z7
  case y6z7 =>
    intro w9 hSw
    clear hSw
    go_simp
    all_goals with_reducible rfl
  simp only [Act.put, List.setIfInBounds_toArray, List.set_cons_zero, List.set_cons_succ]
  refine wpAnyH_at (i := 7) (some 10) (v := ?v7z8) rfl rfl (by kernel_rfl) (by kernel_rfl) (by kernel_rfl) (fun _ _ _ h => h) (Or.inl ⟨by rfl, ?y7z8⟩) (by assumption) ?r7z8
  case y7z8 =>
    intro w9 hSw
    (obtain ⟨a0, a1, a2, a3, a4, a5, a6, a7, a8, a9, a10, a11, a12, a13⟩ := (show KOf w t f k A n c xs w9 from hSw).fr.cells); clear hSw
    go_simp
    all_goals with_reducible rfl
  simp only [Act.put, List.setIfInBounds_toArray, List.set_cons_zero, List.set_cons_succ]
  refine wpAnyH_one (i := 8) (by kernel_rfl) rfl ?_
  generalize W0.drew = W1 at hHeld ⊢
  clear K0
  go_wp2_with (go_at_call 8; refine (own_any A n c w.heap.size xs _ hHeld.rd hHeld.below.size hn).mono ?_; rintro e w3 ⟨A', n', c', rfl, ho, hb1⟩)
  have hHeld0 := hHeld
  replace hHeld := hHeld.step hb1
  have hw1 : w.heap.size ≤ W1.heap.size := hHeld0.below.size
  have hw2 : w.heap.size + 1 < W1.heap.size := by obtain ⟨cs, _, hz⟩ := hHeld0.z; exact blk_lt hz
  refine ⟨hHeld, ?_⟩
  refine wpAnyH_one (i := 9) (by kernel_rfl) rfl ?_
  go_wp2
  refine ⟨hHeld, ?_⟩
  refine wpAnyH_one (i := 10) (by kernel_rfl) rfl ?_
  obtain ⟨cs, hcs, hz⟩ := hHeld.z
  refine wpList_stF rfl rfl 35 _ _ rfl (w.heap.size + 1) (frC t f k A' n' c') rfl rfl 35 cs hz (by kernel_rfl) hcs (frC_one ..) ?_
  intro w5 h5 hb5 ho5 hs5
  have ho' : Out .u8 5 w5 w.heap.size A' n' c' xs := (ho.other (fun j hj => ho5 j (by omega))).rebase hw1
  have hH5 : KOf w t f k A n c xs w5 := ⟨hHeld.fr.below hb5 (by omega), ⟨_, rfl, h5⟩, hHeld.rd.below hb5 (by omega), hHeld.below.trans (hb5.mono (by omega))⟩
  have h5' : FrAt w5 (w.heap.size + 1) 35 t f k A' n' c' := h5
  clear ho hHeld hz hb5 ho5 h5 hb1
  go_wp2
  refine ⟨hH5, ?_⟩
  refine wpAnyH_done (by kernel_rfl) ?_ _
  obtain ⟨a0, a1, a2, a3, a4, a5, a6, a7, a8, a9, a10, a11, a12, a13⟩ := h5'.cells
  go_wp2
  exact bodyPost_ret (v := frV t f k A' n' c') (by simp [results, Tryd.results13, go_sem, *]) rfl ⟨A', n', c', rfl, ho', hH5.below⟩
end Go.Proofs.YteddpmjjahfmiaaDoor
