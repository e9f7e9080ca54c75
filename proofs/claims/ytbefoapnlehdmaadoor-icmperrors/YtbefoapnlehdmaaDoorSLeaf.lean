/-
  Contracts of the leaves: Add and Turn (the program's, the document's), number.
-/
import Derived.Test.YtbefoapnlehdmaaDoorProg
import Derived.Test.YtbefoapnlehdmaaDoorSNum
import Derived.Outline
namespace Go.Proofs.YtbefoapnlehdmaaDoor
open Go.RowKit

theorem sRet_int {k : IntKind} {a b : Int} (h : a = b) : Ending.returned (.int k a) = .returned (.int k b) := by rw [h]
theorem sRet_bool {a b : Bool} (h : a = b) : Ending.returned (.bool a) = .returned (.bool b) := by rw [h]

theorem add_any (a b : Int) (w : World) (ha : W16 a) (hb : W16 b) : Calls Tryd.prog 46 #[.int .u16 a, .int .u16 b] w fun e w' => e = .returned (.int .u16 (addV a b)) ∧ w = w' := by
  unfold W16 at ha hb
  go_enter Tryd.func46, Tryd.ntmps46
  go_wp2
  all_goals
    go_ret
    refine ⟨sRet_int ?_, rfl⟩
    unfold addV
    split <;> omega
theorem refAdd_any (a b : Int) (w : World) (ha : W16 a) (hb : W16 b) : Calls Tryd.prog 59 #[.int .u16 a, .int .u16 b] w fun e w' => e = .returned (.int .u16 (addV a b)) ∧ w = w' := by
  unfold W16 at ha hb
  go_enter Tryd.func59, Tryd.ntmps59
  go_wp2
  all_goals
    go_ret
    refine ⟨sRet_int ?_, rfl⟩
    unfold addV
    split <;> omega
theorem or_two (x y : Int) (hx : 0 ≤ x ∧ x ≤ 255) (hy : 0 ≤ y ∧ y ≤ 255) : bits .or .u16 (x * 256) y = x * 256 + y := by
  rw [u16_or _ _ (by omega) (by omega) (by omega) (by omega)]
  obtain ⟨a, rfl⟩ := Int.eq_ofNat_of_zero_le hx.1
  obtain ⟨b, rfl⟩ := Int.eq_ofNat_of_zero_le hy.1
  have e : ((a : Int) * 256).toNat = a <<< 8 := by rw [Nat.shiftLeft_eq]; omega
  rw [e, Int.toNat_natCast, ← Nat.shiftLeft_add_eq_or_of_lt (by omega), Nat.shiftLeft_eq]
  omega
theorem number_any (p : Int × Int) (w : World) (hp : BP p) : Calls Tryd.prog 47 #[.agg #[.int .u8 p.1, .int .u8 p.2]] w fun e w' => e = .returned (.int .u16 (numP p)) ∧ Below w.heap.size w w' := by
  obtain ⟨x, y⟩ := p
  unfold BP at hp
  obtain ⟨hx, hy⟩ := hp
  dsimp only at hx hy ⊢
  go_enter Tryd.func47, Tryd.ntmps47
  go_wp2
  go_ret
  exact ⟨sRet_int (or_two x y hx hy), (Below.refl _ w).alloc (Nat.le_refl _) _⟩
theorem number_two (x y : Int) (w : World) (hp : BP (x, y)) : Calls Tryd.prog 47 #[.agg #[.int .u8 x, .int .u8 y]] w fun e w' => e = .returned (.int .u16 (numP (x, y))) ∧ Below w.heap.size w w' := number_any (x, y) w hp
end Go.Proofs.YtbefoapnlehdmaaDoor
