/-
  alive answers true.
-/
import Derived.Test.YtibjhehaflgomaaPatchA
import Derived.Test.YtibjhehaflgomaaRefs2
import Derived.Deep.RegionWith
namespace Go.Proofs.Ytibjhehaflgomaa
open Go.RowKit

theorem heap_alloc_new (w : World) (o : Obj) : (w.alloc o).heap[w.heap.size]? = some o := World.alloc_heap_new w o
theorem alloc_below (W : World) (o : Obj) : Below W.heap.size W (W.alloc o) := (Below.refl _ W).alloc (Nat.le_refl _) o
theorem alloc_size (W : World) (o : Obj) : (W.alloc o).heap.size = W.heap.size + 1 := by simp

theorem cell_row {w : World} {g i : Nat} {cs : Array Value} {t : TypeId} (h : w.heap[g]? = some (.cells cs t (0, 0))) : w.cell? ⟨g, i, none⟩ = cs[i]? := by simp [World.cell?, h]

/-- A literal row of bytes, just laid. -/
theorem rd_lit (w : World) (t : TypeId) (xs : List Int) (n : Nat) (hn : xs.length = n) (hm : n ≤ 1000) (hw : ∀ x ∈ xs, (Lit.int .u8 x).wf = true) :
    Rd .u8 (w.alloc (.cells (xs.map (Value.int .u8)).toArray t)) (w.heap.size + 1) (some ⟨w.heap.size, 0, none⟩) n n xs := by
  refine ⟨hn, Nat.le_refl _, ⟨by unfold maxLen; omega, fun h => by cases h⟩, hw, fun i hi => ⟨w.heap.size, 0, rfl, by omega, ?_⟩⟩
  rw [Nat.zero_add, cell_row (heap_alloc_new w (.cells (xs.map (Value.int .u8)).toArray t))]
  simp [List.getD, List.getElem?_eq_getElem (show i < xs.length by omega)]

/-- A literal slice of slices, just laid. -/
theorem rows_lit1 {X : World} {A : Option Addr} {n c : Nat} {xs : List Int} (hr : Rd .u8 X X.heap.size A n c xs) :
    Rows2 (X.alloc (.cells #[.slice A n c] 24)) (fun _ => False) (X.alloc (.cells #[.slice A n c] 24)).heap.size (X.alloc (.cells #[.slice A n c] 24)).heap.size (some ⟨X.heap.size, 0, none⟩) 1 1 [xs] :=
  rows_one (box_cell (box_new X _ _)).1 ((hr.below (alloc_below X _) (Nat.le_refl _)).more (by simp)) (by simp) (fun h => h)
theorem rows_lit2 {X : World} {A A2 : Option Addr} {n c n2 c2 : Nat} {xs ys : List Int} (hr : Rd .u8 X X.heap.size A n c xs) (hr2 : Rd .u8 X X.heap.size A2 n2 c2 ys) :
    Rows2 (X.alloc (.cells #[.slice A n c, .slice A2 n2 c2] 24)) (fun _ => False) (X.alloc (.cells #[.slice A n c, .slice A2 n2 c2] 24)).heap.size (X.alloc (.cells #[.slice A n c, .slice A2 n2 c2] 24)).heap.size (some ⟨X.heap.size, 0, none⟩) 2 2 [xs, ys] :=
  ⟨rfl, by omega, by omega, fun i hi => by
    have h := heap_alloc_new X (.cells #[.slice A n c, .slice A2 n2 c2] 24)
    match i, hi with
    | 0, _ => exact ⟨X.heap.size, 0, A, n, c, rfl, ⟨by simp, fun h => h⟩, (by rw [cell_row h]; rfl), (hr.below (alloc_below X _) (Nat.le_refl _)).more (by simp)⟩
    | 1, _ => exact ⟨X.heap.size, 0, A2, n2, c2, rfl, ⟨by simp, fun h => h⟩, (by rw [cell_row h]; rfl), (hr2.below (alloc_below X _) (Nat.le_refl _)).more (by simp)⟩⟩

theorem below_more {X Y : World} {o : Obj} (h : Below (X.alloc o).heap.size (X.alloc o) Y) : Below X.heap.size X Y := (alloc_below X o).trans (h.mono (by simp))

/-- Total, Of and Right of one part, and of two. -/
theorem total1 {X : World} {A : Option Addr} {n c : Nat} {xs : List Int} (hr : Rd .u8 X X.heap.size A n c xs) :
    Calls Try.prog 17 #[.slice (some ⟨X.heap.size, 0, none⟩) 1 1] (X.alloc (.cells #[.slice A n c] 24)) fun e w' => e = .returned (.int .u16 (totV xs)) ∧ Below X.heap.size X w' := by
  refine (total_any _ _ _ [xs] _ (rows_lit1 hr)).mono ?_
  rintro e w' ⟨rfl, hb⟩
  exact ⟨by simp, below_more hb⟩
theorem of1 {X : World} {A : Option Addr} {n c : Nat} {xs : List Int} (hr : Rd .u8 X X.heap.size A n c xs) :
    Calls Try.prog 19 #[.slice (some ⟨X.heap.size, 0, none⟩) 1 1] (X.alloc (.cells #[.slice A n c] 24)) fun e w' => e = .returned (.int .u16 (65535 - totV xs)) ∧ Below X.heap.size X w' := by
  refine (of_any _ _ _ [xs] _ (rows_lit1 hr)).mono ?_
  rintro e w' ⟨rfl, hb⟩
  exact ⟨by simp, below_more hb⟩
theorem right1 {X : World} {A : Option Addr} {n c : Nat} {xs : List Int} (hr : Rd .u8 X X.heap.size A n c xs) :
    Calls Try.prog 21 #[.slice (some ⟨X.heap.size, 0, none⟩) 1 1] (X.alloc (.cells #[.slice A n c] 24)) fun e w' => e = .returned (.bool (totV xs == 65535)) ∧ Below X.heap.size X w' := by
  refine (right_any _ _ _ [xs] _ (rows_lit1 hr)).mono ?_
  rintro e w' ⟨rfl, hb⟩
  exact ⟨by simp, below_more hb⟩
theorem total2 {X : World} {A A2 : Option Addr} {n c n2 c2 : Nat} {xs ys : List Int} (hr : Rd .u8 X X.heap.size A n c xs) (hr2 : Rd .u8 X X.heap.size A2 n2 c2 ys) :
    Calls Try.prog 17 #[.slice (some ⟨X.heap.size, 0, none⟩) 2 2] (X.alloc (.cells #[.slice A n c, .slice A2 n2 c2] 24)) fun e w' => e = .returned (.int .u16 (totV (xs ++ ys))) ∧ Below X.heap.size X w' := by
  refine (total_any _ _ _ [xs, ys] _ (rows_lit2 hr hr2)).mono ?_
  rintro e w' ⟨rfl, hb⟩
  exact ⟨by simp, below_more hb⟩
theorem of2 {X : World} {A A2 : Option Addr} {n c n2 c2 : Nat} {xs ys : List Int} (hr : Rd .u8 X X.heap.size A n c xs) (hr2 : Rd .u8 X X.heap.size A2 n2 c2 ys) :
    Calls Try.prog 19 #[.slice (some ⟨X.heap.size, 0, none⟩) 2 2] (X.alloc (.cells #[.slice A n c, .slice A2 n2 c2] 24)) fun e w' => e = .returned (.int .u16 (65535 - totV (xs ++ ys))) ∧ Below X.heap.size X w' := by
  refine (of_any _ _ _ [xs, ys] _ (rows_lit2 hr hr2)).mono ?_
  rintro e w' ⟨rfl, hb⟩
  exact ⟨by simp, below_more hb⟩
theorem right2 {X : World} {A A2 : Option Addr} {n c n2 c2 : Nat} {xs ys : List Int} (hr : Rd .u8 X X.heap.size A n c xs) (hr2 : Rd .u8 X X.heap.size A2 n2 c2 ys) :
    Calls Try.prog 21 #[.slice (some ⟨X.heap.size, 0, none⟩) 2 2] (X.alloc (.cells #[.slice A n c, .slice A2 n2 c2] 24)) fun e w' => e = .returned (.bool (totV (xs ++ ys) == 65535)) ∧ Below X.heap.size X w' := by
  refine (right_any _ _ _ [xs, ys] _ (rows_lit2 hr hr2)).mono ?_
  rintro e w' ⟨rfl, hb⟩
  exact ⟨by simp, below_more hb⟩

def b8 : List Int := [0, 1, 242, 3, 244, 245, 246, 247]
theorem t1 : totV b8 = 56818 := by decide +kernel
theorem t2 : 65535 - totV ([0, 1, 242] ++ [3, 244, 245, 246, 247]) = 8717 := by decide +kernel
theorem t3 : (totV (b8 ++ [34, 13]) == 65535) = true := by decide +kernel
theorem t4 : (totV b8 == 65535) = false := by decide +kernel
theorem t5 : addV 65535 2 = 2 := by decide +kernel
theorem t6 : turnV 8717 1 2 = 8716 := by decide +kernel
theorem t7 : patV 8717 [0, 1] [0, 2] = 8716 ∧ patE 2 2 = 0 := by decide +kernel
theorem t8 : patV 1 [1] [2] = 0 ∧ patE 1 1 = 11 := by decide +kernel

/-- What alive knows of its own row b as it goes on. -/
structure Kn (w W : World) : Prop where
  rd : Rd .u8 W (w.heap.size + 1) (some ⟨w.heap.size, 0, none⟩) 8 8 b8
  size : w.heap.size + 1 ≤ W.heap.size
  below : Below w.heap.size w W
theorem Kn.step {w W W' : World} (h : Kn w W) (hb : Below W.heap.size W W') : Kn w W' :=
  ⟨h.rd.below hb h.size, by have := hb.size; have := h.size; omega, h.below.trans (hb.mono (by have := h.size; omega))⟩
theorem Kn.alloc {w W : World} (h : Kn w W) (o : Obj) : Kn w (W.alloc o) := h.step (alloc_below W o)
theorem Kn.drew {w W : World} (h : Kn w W) : Kn w W.drew := h.step (Below.refl _ W).drew
theorem Kn.r {w W : World} (h : Kn w W) : Rd .u8 W W.heap.size (some ⟨w.heap.size, 0, none⟩) 8 8 b8 := h.rd.more h.size
theorem kn0 (w : World) : Kn w (w.alloc (.cells #[.int .u8 0, .int .u8 1, .int .u8 242, .int .u8 3, .int .u8 244, .int .u8 245, .int .u8 246, .int .u8 247] 5)) :=
  ⟨rd_lit w 5 b8 8 rfl (by omega) (by decide), by rw [alloc_size]; omega, alloc_below w _⟩
end Go.Proofs.Ytibjhehaflgomaa
