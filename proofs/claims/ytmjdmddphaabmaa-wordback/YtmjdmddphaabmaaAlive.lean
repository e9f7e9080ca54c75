/-
  alive answers true.
-/
import Derived.Test.YtmjdmddphaabmaaLay
import Derived.Test.YtmjdmddphaabmaaAt
namespace Go.Proofs.Ytmjdmddphaabmaa
open Go.RowKit

/-- A literal row of integers, just laid. -/
theorem rd_lit (k : IntKind) (t : TypeId) (w : World) (xs : List Int) (n : Nat) (hn : xs.length = n) (hm : n ≤ 1000) (hw : ∀ x ∈ xs, (Lit.int k x).wf = true) :
    Rd k (w.alloc (.cells (xs.map (Value.int k)).toArray t)) (w.heap.size + 1) (some ⟨w.heap.size, 0, none⟩) n n xs := by
  refine ⟨hn, Nat.le_refl _, ⟨by unfold maxLen; omega, fun h => by cases h⟩, hw, fun i hi => ⟨w.heap.size, 0, rfl, by omega, ?_⟩⟩
  rw [cell_of_row _ _ _ (xs.map (Value.int k)).toArray t (0, 0) (heap_alloc_new w _)]
  simp [List.getD, List.getElem?_eq_getElem (show i < xs.length by omega)]

def b3 : List Int := [1, 2, 3]
theorem v1 : atV b3 1 2 = 515 ∧ atE b3.length 1 2 = 0 := by decide +kernel
theorem v2 : atV b3 2 2 = 0 ∧ atE b3.length 2 2 = 12 := by decide +kernel
theorem v3 : layL b3 0 2 515 = [2, 3, 3] ∧ layE b3 0 2 515 = 0 := by decide +kernel
theorem v4 : layL b3 0 1 256 = [] ∧ layE b3 0 1 256 = 11 := by decide +kernel
theorem v5 : cutL b3 1 3 = [2, 3] ∧ cutE b3.length 1 3 = 0 := by decide +kernel
theorem v6 : cutL b3 2 1 = [] ∧ cutE b3.length 2 1 = 11 := by decide +kernel
theorem v7 : rowL 2 [1, 258] = [0, 1, 1, 2] ∧ rowE 2 [1, 258] = 0 := by decide +kernel
theorem v8 : patL b3 2 [9] = [1, 2, 9] ∧ patE b3.length 2 [(9 : Int)].length = 0 := by decide +kernel
theorem v9 : patL b3 3 [9] = [] ∧ patE b3.length 3 [(9 : Int)].length = 12 := by decide +kernel

/-- What alive knows of its own row b as it goes on. -/
structure Kn (w W : World) : Prop where
  rd : Rd .u8 W (w.heap.size + 1) (some ⟨w.heap.size, 0, none⟩) 3 3 b3
  size : w.heap.size + 1 ≤ W.heap.size
  below : Below w.heap.size w W
theorem Kn.step {w W W' : World} (h : Kn w W) (hb : Below W.heap.size W W') : Kn w W' :=
  ⟨h.rd.below hb h.size, by have := hb.size; have := h.size; omega, h.below.trans (hb.mono (by have := h.size; omega))⟩
theorem Kn.alloc {w W : World} (h : Kn w W) (o : Obj) : Kn w (W.alloc o) := h.step ((Below.refl _ W).alloc (Nat.le_refl _) o)
theorem alloc_below (W : World) (o : Obj) : Below W.heap.size W (W.alloc o) := (Below.refl _ W).alloc (Nat.le_refl _) o
theorem alloc_size (W : World) (o : Obj) : (W.alloc o).heap.size = W.heap.size + 1 := by simp

section
variable {w W : World} (h : Kn w W)
include h
theorem c1 : Calls Try.prog 10 #[.slice (some ⟨w.heap.size, 0, none⟩) 3 3, .int .i64 1, .int .i64 2] W fun e w' => e = .returned (.tuple #[.int .u64 515, .int .i64 0]) ∧ W = w' := by
  have := at_any _ _ _ _ _ 1 2 W h.rd
  rwa [v1.1, v1.2] at this
theorem c2 : Calls Try.prog 10 #[.slice (some ⟨w.heap.size, 0, none⟩) 3 3, .int .i64 2, .int .i64 2] W fun e w' => e = .returned (.tuple #[.int .u64 0, .int .i64 12]) ∧ W = w' := by
  have := at_any _ _ _ _ _ 2 2 W h.rd
  rwa [v2.1, v2.2] at this
theorem c3 : Calls Try.prog 15 #[.slice (some ⟨w.heap.size, 0, none⟩) 3 3, .int .i64 0, .int .i64 2, .int .u64 515] W (Gives2 W [2, 3, 3] 0) := by
  have := lay_any _ _ _ _ _ 0 2 515 W h.rd h.size (by omega) (by decide)
  rwa [v3.1, v3.2] at this
theorem c4 : Calls Try.prog 15 #[.slice (some ⟨w.heap.size, 0, none⟩) 3 3, .int .i64 0, .int .i64 1, .int .u64 256] W (Gives2 W [] 11) := by
  have := lay_any _ _ _ _ _ 0 1 256 W h.rd h.size (by omega) (by decide)
  rwa [v4.1, v4.2] at this
theorem c5 : Calls Try.prog 12 #[.slice (some ⟨w.heap.size, 0, none⟩) 3 3, .int .i64 1, .int .i64 3] W (Gives2 W [2, 3] 0) := by
  have := cut_any _ _ _ _ _ 1 3 W h.rd h.size (by omega)
  rwa [v5.1, v5.2] at this
theorem c6 : Calls Try.prog 12 #[.slice (some ⟨w.heap.size, 0, none⟩) 3 3, .int .i64 2, .int .i64 1] W (Gives2 W [] 11) := by
  have := cut_any _ _ _ _ _ 2 1 W h.rd h.size (by omega)
  rwa [v6.1, v6.2] at this
theorem c8 : Calls Try.prog 19 #[.slice (some ⟨w.heap.size, 0, none⟩) 3 3, .int .i64 2, .slice (some ⟨W.heap.size, 0, none⟩) 1 1] (W.alloc (.cells #[.int .u8 9] 5)) (Gives2 (W.alloc (.cells #[.int .u8 9] 5)) [1, 2, 9] 0) := by
  have h' := h.alloc (.cells #[.int .u8 9] 5)
  have := patch_any _ _ _ _ _ _ _ _ _ _ 2 _ h'.rd h'.size (rd_lit .u8 5 W [9] 1 rfl (by omega) (by decide)) (by rw [alloc_size]; omega) (by omega)
  rwa [v8.1, v8.2] at this
theorem c9 : Calls Try.prog 19 #[.slice (some ⟨w.heap.size, 0, none⟩) 3 3, .int .i64 3, .slice (some ⟨W.heap.size, 0, none⟩) 1 1] (W.alloc (.cells #[.int .u8 9] 5)) (Gives2 (W.alloc (.cells #[.int .u8 9] 5)) [] 12) := by
  have h' := h.alloc (.cells #[.int .u8 9] 5)
  have := patch_any _ _ _ _ _ _ _ _ _ _ 3 _ h'.rd h'.size (rd_lit .u8 5 W [9] 1 rfl (by omega) (by decide)) (by rw [alloc_size]; omega) (by omega)
  rwa [v9.1, v9.2] at this
end
theorem c7 (W : World) : Calls Try.prog 17 #[.int .i64 2, .slice (some ⟨W.heap.size, 0, none⟩) 2 2] (W.alloc (.cells #[.int .u64 1, .int .u64 258] 25)) (Gives2 (W.alloc (.cells #[.int .u64 1, .int .u64 258] 25)) [0, 1, 1, 2] 0) := by
  have := row_any _ _ _ 2 [1, 258] _ _ (rd_lit .u64 25 W [1, 258] 2 rfl (by omega) (by decide)) (by rw [alloc_size]; omega) (by omega)
  rwa [v7.1, v7.2] at this
theorem kn0 (w : World) : Kn w (w.alloc (.cells #[.int .u8 1, .int .u8 2, .int .u8 3] 5)) :=
  ⟨rd_lit .u8 5 w b3 3 rfl (by omega) (by decide), by rw [alloc_size]; omega, alloc_below w _⟩

/-- SameBytes of an own row and a literal. -/
theorem cS {W : World} {base : Nat} {A : Option Addr} {n c : Nat} (xs : List Int) (m : Nat) (hm : xs.length = m) (hm1 : m ≤ 1000) (h : Out W base A n c xs) (hw : ∀ x ∈ xs, (Lit.int .u8 x).wf = true) :
    Calls Try.prog 14 #[.slice A n c, .slice (some ⟨W.heap.size, 0, none⟩) m m] (W.alloc (.cells (xs.map (Value.int .u8)).toArray 5)) fun e w' => e = .returned (.bool true) ∧ Below (W.alloc (.cells (xs.map (Value.int .u8)).toArray 5)).heap.size (W.alloc (.cells (xs.map (Value.int .u8)).toArray 5)) w' :=
  same_any _ _ _ _ _ _ xs _ _ _ (h.below (alloc_below W _) (Nat.le_refl _)).rd (rd_lit .u8 5 W xs m hm hm1 hw)

set_option maxRecDepth 100000 in
set_option maxHeartbeats 2000000 in
theorem alive_any (w : World) : Calls Try.prog 8 #[] w fun e w' => e = .returned (.bool true) ∧ Below w.heap.size w w' := by
  have k0 := kn0 w
  go_enter Try.func8, Try.ntmps8
  go_wp2_with fail
  with_reducible refine (c1 k0).mono ?_
  rintro e w1 ⟨rfl, rfl⟩
  go_wp2_with fail
  with_reducible refine (c2 k0).mono ?_
  rintro e w1 ⟨rfl, rfl⟩
  go_wp2_with fail
  with_reducible refine (c3 k0).mono ?_
  rintro e w1 ⟨A1, n1, l1, rfl, o1, hb⟩
  have k1 := k0.step hb
  clear k0 hb
  go_wp2_with fail
  with_reducible refine (c4 k1).mono ?_
  rintro e w2 ⟨A2, n2, l2, rfl, _, hb⟩
  have k2 := k1.step hb
  replace o1 := o1.below hb (Nat.le_refl _)
  clear k1 hb
  go_wp2_with fail
  with_reducible refine (c5 k2).mono ?_
  rintro e w3 ⟨A3, n3, l3, rfl, o3, hb⟩
  have k3 := k2.step hb
  replace o1 := o1.below hb (Nat.le_refl _)
  clear k2 hb
  go_wp2_with fail
  with_reducible refine (c6 k3).mono ?_
  rintro e w4 ⟨A4, n4, l4, rfl, _, hb⟩
  have k4 := k3.step hb
  replace o1 := o1.below hb (Nat.le_refl _)
  replace o3 := o3.below hb (Nat.le_refl _)
  clear k3 hb
  go_wp2_with fail
  with_reducible refine (c7 w4).mono ?_
  rintro e w5 ⟨A5, n5, l5, rfl, o5, hb⟩
  have k5 := (k4.alloc _).step hb
  replace o1 := (o1.below (alloc_below _ _) (Nat.le_refl _)).below hb (Nat.le_refl _)
  replace o3 := (o3.below (alloc_below _ _) (Nat.le_refl _)).below hb (Nat.le_refl _)
  clear k4 hb
  go_wp2_with fail
  with_reducible refine (c8 k5).mono ?_
  rintro e w6 ⟨A6, n6, l6, rfl, o6, hb⟩
  have k6 := (k5.alloc _).step hb
  replace o1 := (o1.below (alloc_below _ _) (Nat.le_refl _)).below hb (Nat.le_refl _)
  replace o3 := (o3.below (alloc_below _ _) (Nat.le_refl _)).below hb (Nat.le_refl _)
  replace o5 := (o5.below (alloc_below _ _) (Nat.le_refl _)).below hb (Nat.le_refl _)
  clear k5 hb
  go_wp2_with fail
  with_reducible refine (c9 k6).mono ?_
  rintro e w7 ⟨A7, n7, l7, rfl, _, hb⟩
  have k7 := (k6.alloc _).step hb
  replace o1 := (o1.below (alloc_below _ _) (Nat.le_refl _)).below hb (Nat.le_refl _)
  replace o3 := (o3.below (alloc_below _ _) (Nat.le_refl _)).below hb (Nat.le_refl _)
  replace o5 := (o5.below (alloc_below _ _) (Nat.le_refl _)).below hb (Nat.le_refl _)
  replace o6 := (o6.below (alloc_below _ _) (Nat.le_refl _)).below hb (Nat.le_refl _)
  clear k6 hb
  go_wp2_with fail
  refine (cS [2, 3, 3] 3 rfl (by omega) o1 (by decide)).mono ?_
  rintro e w8 ⟨rfl, hb⟩
  have k8 := (k7.alloc _).step hb
  replace o3 := (o3.below (alloc_below _ _) (Nat.le_refl _)).below hb (Nat.le_refl _)
  replace o5 := (o5.below (alloc_below _ _) (Nat.le_refl _)).below hb (Nat.le_refl _)
  replace o6 := (o6.below (alloc_below _ _) (Nat.le_refl _)).below hb (Nat.le_refl _)
  clear k7 hb o1
  go_wp2_with fail
  refine (cS [2, 3] 2 rfl (by omega) o3 (by decide)).mono ?_
  rintro e w9 ⟨rfl, hb⟩
  have k9 := (k8.alloc _).step hb
  replace o5 := (o5.below (alloc_below _ _) (Nat.le_refl _)).below hb (Nat.le_refl _)
  replace o6 := (o6.below (alloc_below _ _) (Nat.le_refl _)).below hb (Nat.le_refl _)
  clear k8 hb o3
  go_wp2_with fail
  refine (cS [0, 1, 1, 2] 4 rfl (by omega) o5 (by decide)).mono ?_
  rintro e w10 ⟨rfl, hb⟩
  have k10 := (k9.alloc _).step hb
  replace o6 := (o6.below (alloc_below _ _) (Nat.le_refl _)).below hb (Nat.le_refl _)
  clear k9 hb o5
  go_wp2_with fail
  refine (cS [1, 2, 9] 3 rfl (by omega) o6 (by decide)).mono ?_
  rintro e w11 ⟨rfl, hb⟩
  have k11 := (k10.alloc _).step hb
  clear k10 hb o6
  go_wp2_with fail
  go_ret
  exact ⟨rfl, k11.below⟩
end Go.Proofs.Ytmjdmddphaabmaa
