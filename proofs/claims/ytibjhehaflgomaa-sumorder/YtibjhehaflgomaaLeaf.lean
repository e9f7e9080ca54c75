/-
  Contracts of the leaves: Add and Turn (the program's, the document's), number.
-/
import Derived.Test.YtibjhehaflgomaaProg
import Derived.Test.YtibjhehaflgomaaNum
import Derived.Outline
namespace Go.Proofs.Ytibjhehaflgomaa
open Go.RowKit

theorem ret_int {k : IntKind} {a b : Int} (h : a = b) : Ending.returned (.int k a) = .returned (.int k b) := by rw [h]
theorem ret_bool {a b : Bool} (h : a = b) : Ending.returned (.bool a) = .returned (.bool b) := by rw [h]

theorem add_any (a b : Int) (w : World) (ha : W16 a) (hb : W16 b) : Calls Try.prog 13 #[.int .u16 a, .int .u16 b] w fun e w' => e = .returned (.int .u16 (addV a b)) ∧ w = w' := by
  unfold W16 at ha hb
  go_enter Try.func13, Try.ntmps13
  go_wp2
  all_goals
    go_ret
    refine ⟨ret_int ?_, rfl⟩
    unfold addV
    split <;> omega
theorem refAdd_any (a b : Int) (w : World) (ha : W16 a) (hb : W16 b) : Calls Try.prog 14 #[.int .u16 a, .int .u16 b] w fun e w' => e = .returned (.int .u16 (addV a b)) ∧ w = w' := by
  unfold W16 at ha hb
  go_enter Try.func14, Try.ntmps14
  go_wp2
  all_goals
    go_ret
    refine ⟨ret_int ?_, rfl⟩
    unfold addV
    split <;> omega
theorem or_two (x y : Int) (hx : 0 ≤ x ∧ x ≤ 255) (hy : 0 ≤ y ∧ y ≤ 255) : bits .or .u16 (x * 256) y = x * 256 + y := by
  rw [u16_or _ _ (by omega) (by omega) (by omega) (by omega)]
  obtain ⟨a, rfl⟩ := Int.eq_ofNat_of_zero_le hx.1
  obtain ⟨b, rfl⟩ := Int.eq_ofNat_of_zero_le hy.1
  have e : ((a : Int) * 256).toNat = a <<< 8 := by rw [Nat.shiftLeft_eq]; omega
  rw [e, Int.toNat_natCast, ← Nat.shiftLeft_add_eq_or_of_lt (by omega), Nat.shiftLeft_eq]
  omega
theorem number_any (p : Int × Int) (w : World) (hp : BP p) : Calls Try.prog 25 #[.agg #[.int .u8 p.1, .int .u8 p.2]] w fun e w' => e = .returned (.int .u16 (numP p)) ∧ Below w.heap.size w w' := by
  obtain ⟨x, y⟩ := p
  unfold BP at hp
  obtain ⟨hx, hy⟩ := hp
  dsimp only at hx hy ⊢
  go_enter Try.func25, Try.ntmps25
  go_wp2
  go_ret
  exact ⟨ret_int (or_two x y hx hy), (Below.refl _ w).alloc (Nat.le_refl _) _⟩
theorem number_two (x y : Int) (w : World) (hp : BP (x, y)) : Calls Try.prog 25 #[.agg #[.int .u8 x, .int .u8 y]] w fun e w' => e = .returned (.int .u16 (numP (x, y))) ∧ Below w.heap.size w w' := number_any (x, y) w hp
theorem turn_any (s a b : Int) (w : World) (hs : W16 s) (ha : W16 a) (hb : W16 b) : Calls Try.prog 15 #[.int .u16 s, .int .u16 a, .int .u16 b] w fun e w' => e = .returned (.int .u16 (turnV s a b)) ∧ w = w' := by
  have h1 := addV_bd (flip_bd hs) (flip_bd ha)
  have h2 := addV_bd h1 hb
  have hs' := hs; have ha' := ha; have h1' := h1; have h2' := h2
  unfold W16 at hs' ha' h1' h2'
  go_enter Try.func15, Try.ntmps15
  go_wp2_with (first
    | (go_at_call 13; refine (add_any _ _ _ (by assumption) (by assumption)).mono ?_; rintro e w' ⟨rfl, rfl⟩)
    | (go_at_call 13; refine (add_any _ _ _ (flip_bd (by assumption)) (flip_bd (by assumption))).mono ?_; rintro e w' ⟨rfl, rfl⟩))
  go_ret
  exact ⟨rfl, rfl⟩
theorem refTurn_any (s a b : Int) (w : World) (hs : W16 s) (ha : W16 a) (hb : W16 b) : Calls Try.prog 16 #[.int .u16 s, .int .u16 a, .int .u16 b] w fun e w' => e = .returned (.int .u16 (turnV s a b)) ∧ w = w' := by
  have h1 := addV_bd (flip_bd hs) (flip_bd ha)
  have h2 := addV_bd h1 hb
  have hs' := hs; have ha' := ha; have h1' := h1; have h2' := h2
  unfold W16 at hs' ha' h1' h2'
  go_enter Try.func16, Try.ntmps16
  go_wp2_with (first
    | (go_at_call 14; refine (refAdd_any _ _ _ (by assumption) (by assumption)).mono ?_; rintro e w' ⟨rfl, rfl⟩)
    | (go_at_call 14; refine (refAdd_any _ _ _ (flip_bd (by assumption)) (flip_bd (by assumption))).mono ?_; rintro e w' ⟨rfl, rfl⟩))
  go_ret
  exact ⟨rfl, rfl⟩
end Go.Proofs.Ytibjhehaflgomaa
