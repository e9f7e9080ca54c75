/-
  alive answers true: the walk.
-/
import Derived.Test.YtibjhehaflgomaaAlive
import Derived.Test.YtibjhehaflgomaaForce
namespace Go.Proofs.Ytibjhehaflgomaa
open Go.RowKit

theorem cP1 {W : World} {g : Nat} (hg : W.heap.size = g) : Calls Try.prog 11 #[.int .u16 8717, .slice (some ⟨g, 0, none⟩) 2 2, .slice (some ⟨g + 1, 0, none⟩) 2 2] ((W.alloc (.cells #[.int .u8 0, .int .u8 1] 5)).alloc (.cells #[.int .u8 0, .int .u8 2] 5)) fun e w' => e = .returned (.tuple #[.int .u16 8716, .int .i64 0]) ∧ Below W.heap.size W w' := by
  subst hg
  have r1 := rd_lit W 5 [0, 1] 2 rfl (by omega) (by decide)
  have r2 := rd_lit (W.alloc (.cells #[.int .u8 0, .int .u8 1] 5)) 5 [0, 2] 2 rfl (by omega) (by decide)
  have := patch_any 8717 _ _ _ _ _ _ _ _ ((W.alloc (.cells #[.int .u8 0, .int .u8 1] 5)).alloc (.cells #[.int .u8 0, .int .u8 2] 5)) (by unfold W16; omega) ((r1.below (alloc_below _ _) (by simp)).more (by simp)) (r2.more (by simp))
  rw [t7.1, t7.2, alloc_size] at this
  refine this.mono ?_
  rintro e w' ⟨rfl, hb⟩
  exact ⟨rfl, below_more (below_more hb)⟩
theorem cP2 {W : World} {g : Nat} (hg : W.heap.size = g) : Calls Try.prog 11 #[.int .u16 1, .slice (some ⟨g, 0, none⟩) 1 1, .slice (some ⟨g + 1, 0, none⟩) 1 1] ((W.alloc (.cells #[.int .u8 1] 5)).alloc (.cells #[.int .u8 2] 5)) fun e w' => e = .returned (.tuple #[.int .u16 0, .int .i64 11]) ∧ Below W.heap.size W w' := by
  subst hg
  have r1 := rd_lit W 5 [1] 1 rfl (by omega) (by decide)
  have r2 := rd_lit (W.alloc (.cells #[.int .u8 1] 5)) 5 [2] 1 rfl (by omega) (by decide)
  have := patch_any 1 _ _ _ _ _ _ _ _ ((W.alloc (.cells #[.int .u8 1] 5)).alloc (.cells #[.int .u8 2] 5)) (by unfold W16; omega) ((r1.below (alloc_below _ _) (by simp)).more (by simp)) (r2.more (by simp))
  rw [t8.1, t8.2, alloc_size] at this
  refine this.mono ?_
  rintro e w' ⟨rfl, hb⟩
  exact ⟨rfl, below_more (below_more hb)⟩

section
variable {w X : World} {g : Nat} (hg : X.heap.size = g) (k : Kn w X)
include hg k
theorem cA1 : Calls Try.prog 17 #[.slice (some ⟨g, 0, none⟩) 1 1] (X.alloc (.cells #[.slice (some ⟨w.heap.size, 0, none⟩) 8 8] 24)).drew fun e w' => e = .returned (.int .u16 56818) ∧ Below X.heap.size X w' := by
  subst hg
  have := total1 (X := X.drew) k.drew.r
  rw [t1] at this
  refine this.mono ?_
  rintro e w' ⟨rfl, hb⟩
  exact ⟨rfl, hb.os, hb.tape, hb.output, hb.size, hb.block⟩
theorem cA2 : Calls Try.prog 19 #[.slice (some ⟨g, 0, none⟩) 2 2] (X.alloc (.cells #[.slice (some ⟨w.heap.size, 0, none⟩) 3 8, .slice (some ⟨w.heap.size, 3, none⟩) 5 5] 24)) fun e w' => e = .returned (.int .u16 8717) ∧ Below X.heap.size X w' := by
  subst hg
  have r1 : Rd .u8 X X.heap.size (some ⟨w.heap.size, 0, none⟩) 3 8 [0, 1, 242] := k.r.cut (f := 0) (t := 3) (by omega) (by omega)
  have r2 : Rd .u8 X X.heap.size (some ⟨w.heap.size, 3, none⟩) 5 5 [3, 244, 245, 246, 247] := k.r.cut (f := 3) (t := 8) (by omega) (by omega)
  have := of2 r1 r2
  rw [t2] at this
  exact this
theorem cA3 : Calls Try.prog 21 #[.slice (some ⟨g + 1, 0, none⟩) 2 2] ((X.alloc (.cells #[.int .u8 34, .int .u8 13] 5)).alloc (.cells #[.slice (some ⟨w.heap.size, 0, none⟩) 8 8, .slice (some ⟨g, 0, none⟩) 2 2] 24)) fun e w' => e = .returned (.bool true) ∧ Below X.heap.size X w' := by
  subst hg
  have r1 := rd_lit X 5 [34, 13] 2 rfl (by omega) (by decide)
  have := right2 (X := X.alloc (.cells #[.int .u8 34, .int .u8 13] 5)) (k.alloc _).r (r1.more (by simp))
  rw [t3, alloc_size] at this
  refine this.mono ?_
  rintro e w' ⟨rfl, hb⟩
  exact ⟨rfl, (alloc_below X _).trans (hb.mono (by simp))⟩
theorem cA4 : Calls Try.prog 21 #[.slice (some ⟨g, 0, none⟩) 1 1] (X.alloc (.cells #[.slice (some ⟨w.heap.size, 0, none⟩) 8 8] 24)) fun e w' => e = .returned (.bool false) ∧ Below X.heap.size X w' := by
  subst hg
  have := right1 k.r
  rw [t4] at this
  exact this
end
theorem cA5 (X : World) : Calls Try.prog 13 #[.int .u16 65535, .int .u16 2] X fun e w' => e = .returned (.int .u16 2) ∧ X = w' := by
  have := add_any 65535 2 X (by unfold W16; omega) (by unfold W16; omega)
  rwa [t5] at this
theorem cA6 (X : World) : Calls Try.prog 15 #[.int .u16 8717, .int .u16 1, .int .u16 2] X fun e w' => e = .returned (.int .u16 8716) ∧ X = w' := by
  have := turn_any 8717 1 2 X (by unfold W16; omega) (by unfold W16; omega) (by unfold W16; omega)
  rwa [t6] at this

set_option maxRecDepth 100000 in
set_option maxHeartbeats 2000000 in
theorem alive_any (w : World) : Calls Try.prog 8 #[] w fun e w' => e = .returned (.bool true) ∧ Below w.heap.size w w' := by
  have k := kn0 w
  go_enter Try.func8, Try.ntmps8
  go_wp2_with fail
  with_reducible refine (cP1 (by simp)).mono ?_
  rintro e w1 ⟨rfl, hb⟩
  replace k := k.step hb
  clear hb
  go_wp2_with fail
  with_reducible refine (cP2 (by simp)).mono ?_
  rintro e w2 ⟨rfl, hb⟩
  replace k := k.step hb
  clear hb
  go_wp2_with fail
  refine wp_region_any (by kernel_rfl) ?_
  change wpAny _ _ _ _ _ _ _ (World.drew _)
  refine wpAny_stretch 0 5 41 (by kernel_rfl) (by kernel_rfl) (by kernel_rfl) ?_
  simp only [List.take_succ_cons, List.take_zero, List.drop_zero]
  go_wp2_with (go_at_call 17; with_reducible refine (cA1 rfl k).mono ?_; rintro e w3 ⟨rfl, hb⟩; replace k := k.step hb; clear hb)
  refine wpAny_take (i := 5) (v := ?v5) rfl (by kernel_rfl) (by kernel_rfl) (by kernel_rfl) (fun _ _ _ h => h) (Or.inl ⟨by rfl, ?y5⟩) ?r5
  case y5 =>
    intro w9
    go_simp
    all_goals with_reducible rfl
  refine wpAny_take (i := 6) (v := ?v6) rfl (by kernel_rfl) (by kernel_rfl) (by kernel_rfl) (fun _ _ _ h => h) (Or.inl ⟨by rfl, ?y6⟩) ?r6
  case y6 =>
    intro w9
    go_simp
    all_goals with_reducible rfl
  refine wpAny_take (i := 7) (v := ?v7) rfl (by kernel_rfl) (by kernel_rfl) (by kernel_rfl) (fun _ _ _ h => h) (Or.inl ⟨by rfl, ?y7⟩) ?r7
  case y7 =>
    intro w9
    go_simp
    all_goals with_reducible rfl
  refine wpAny_stretch 8 6 32 (by kernel_rfl) (by kernel_rfl) (by kernel_rfl) ?_
  simp only [List.take_succ_cons, List.take_zero, List.drop_succ_cons, List.drop_zero]
  go_wp2_with (go_at_call 19; with_reducible refine (cA2 rfl k).mono ?_; rintro e w4 ⟨rfl, hb⟩; replace k := k.step hb; clear hb)
  refine wpAny_take (i := 14) (v := ?v14) rfl (by kernel_rfl) (by kernel_rfl) (by kernel_rfl) (fun _ _ _ h => h) (Or.inl ⟨by rfl, ?y14⟩) ?r14
  case y14 =>
    intro w9
    go_simp
    all_goals with_reducible rfl
  refine wpAny_stretch 15 31 0 (by kernel_rfl) (by kernel_rfl) (by kernel_rfl) ?_
  simp only [List.take_succ_cons, List.take_zero, List.drop_succ_cons, List.drop_zero]
  go_wp2_with (first
    | (go_at_call 21; with_reducible refine (cA3 rfl k).mono ?_; rintro e w5 ⟨rfl, hb⟩; replace k := k.step hb; clear hb)
    | (go_at_call 21; with_reducible refine (cA4 rfl k).mono ?_; rintro e w6 ⟨rfl, hb⟩; replace k := k.step hb; clear hb)
    | (go_at_call 13; with_reducible refine (cA5 _).mono ?_; rintro e w7 ⟨rfl, rfl⟩)
    | (go_at_call 15; with_reducible refine (cA6 _).mono ?_; rintro e w8 ⟨rfl, rfl⟩))
  refine wpAny_done (by kernel_rfl) ?_ _
  go_wp2
  go_ret
  exact ⟨rfl, k.below⟩
end Go.Proofs.Ytibjhehaflgomaa
