/-
  Contracts of For and Same (the program's, the document's).
-/
import Derived.Test.YteddpmjjahfmiaaDoorSmall
namespace Go.Proofs.YteddpmjjahfmiaaDoor
open Go.RowKit

/-- Does it go to this Mac, or to all? -/
def forV (t m : Mac6) : Bool := mEq t m || mEq t all6
theorem forV_eq {t m : Mac6} (h : mEq t m = true) : forV t m = true := by simp [forV, h]
theorem forV_ne {t m : Mac6} (h : mEq t m = false) : forV t m = mEq t all6 := by simp [forV, h]
theorem allB (t : Mac6) : mB t.a t.b t.c t.d t.e t.f 255 255 255 255 255 255 = mEq t all6 := rfl
/-- What For's walk knows. -/
structure KFor (w : World) (t f : Mac6) (k : Int) (A : Option Addr) (n c : Nat) (m : Mac6) (W : World) : Prop where
  fr : FrAt W w.heap.size 29 t f k A n c
  mc : McAt W (w.heap.size + 1) 24 m
  below : Below w.heap.size w W
section
variable {w W V : World} {t f m : Mac6} {k : Int} {A : Option Addr} {n c : Nat}
theorem KFor.step (h : KFor w t f k A n c m W) (hb : Below W.heap.size W V) : KFor w t f k A n c m V := ⟨h.fr.step hb, h.mc.step hb, h.below.trans (hb.mono h.below.size)⟩
theorem KFor.drew (h : KFor w t f k A n c m W) : KFor w t f k A n c m W.drew := h.step ⟨rfl, rfl, rfl, Nat.le_refl _, fun _ _ => rfl⟩
theorem KFor.parts (h : KFor w t f k A n c m W) : W.cell? ⟨w.heap.size, 0, none⟩ = some (.int .u8 t.a) ∧ W.cell? ⟨w.heap.size, 1, none⟩ = some (.int .u8 t.b) ∧ W.cell? ⟨w.heap.size, 2, none⟩ = some (.int .u8 t.c) ∧ W.cell? ⟨w.heap.size, 3, none⟩ = some (.int .u8 t.d) ∧ W.cell? ⟨w.heap.size, 4, none⟩ = some (.int .u8 t.e) ∧ W.cell? ⟨w.heap.size, 5, none⟩ = some (.int .u8 t.f) ∧
    W.cell? ⟨w.heap.size + 1, 0, none⟩ = some (.int .u8 m.a) ∧ W.cell? ⟨w.heap.size + 1, 1, none⟩ = some (.int .u8 m.b) ∧ W.cell? ⟨w.heap.size + 1, 2, none⟩ = some (.int .u8 m.c) ∧ W.cell? ⟨w.heap.size + 1, 3, none⟩ = some (.int .u8 m.d) ∧ W.cell? ⟨w.heap.size + 1, 4, none⟩ = some (.int .u8 m.e) ∧ W.cell? ⟨w.heap.size + 1, 5, none⟩ = some (.int .u8 m.f) ∧ KFor w t f k A n c m W := by
  obtain ⟨a0, a1, a2, a3, a4, a5, -⟩ := h.fr.cells
  obtain ⟨b0, b1, b2, b3, b4, b5⟩ := h.mc.cells
  exact ⟨a0, a1, a2, a3, a4, a5, b0, b1, b2, b3, b4, b5, h⟩
theorem KFor.new (w : World) (t f m : Mac6) (k : Int) (A : Option Addr) (n c : Nat) : KFor w t f k A n c m ((w.alloc (.cells (frC t f k A n c) 29)).alloc (.cells #[.int .u8 m.a, .int .u8 m.b, .int .u8 m.c, .int .u8 m.d, .int .u8 m.e, .int .u8 m.f] 24)) :=
  ⟨(FrAt.new w 29 t f k A n c).step (alloc_below _ _), by simpa using McAt.new (w.alloc (.cells (frC t f k A n c) 29)) 24 m, (alloc_below w _).alloc (by simp) _⟩
end
set_option maxHeartbeats 1000000 in
theorem for_any (t f : Mac6) (k : Int) (A : Option Addr) (n c : Nat) (m : Mac6) (w : World) :
    Calls Tryd.prog 14 #[frV t f k A n c, m.v] w fun e w' => e = .returned (.bool (forV t m)) ∧ Below w.heap.size w w' := by
  have K0 := KFor.new w t f m k A n c
  have q1 := eql24
  by_cases h : mEq t m = true
  · rw [forV_eq h]
    have hb : mB t.a t.b t.c t.d t.e t.f m.a m.b m.c m.d m.e m.f = true := h
    clear h
    go_enter Tryd.func14, Tryd.ntmps14
    go_wp2_with fail
    go_quiet (fail)
    go_wp2
    go_ret
    exact ⟨rfl, below_drewN K0.below _⟩
  · have h : mEq t m = false := by simpa using h
    rw [forV_ne h]
    have hb : mB t.a t.b t.c t.d t.e t.f m.a m.b m.c m.d m.e m.f = false := h
    have ha := allB t
    clear h
    go_enter Tryd.func14, Tryd.ntmps14
    go_wp2_with fail
    revert K0
    generalize hW : (w.alloc (.cells (frC t f k A n c) 29)).alloc (.cells #[.int .u8 m.a, .int .u8 m.b, .int .u8 m.c, .int .u8 m.d, .int .u8 m.e, .int .u8 m.f] 24) = W0
    intro K0
    obtain ⟨a0, a1, a2, a3, a4, a5, b0, b1, b2, b3, b4, b5, -⟩ := K0.drew.parts
    go_region_held3 (fun w' => w'.cell? ⟨w.heap.size, 0, none⟩ = some (.int .u8 t.a) ∧ w'.cell? ⟨w.heap.size, 1, none⟩ = some (.int .u8 t.b) ∧ w'.cell? ⟨w.heap.size, 2, none⟩ = some (.int .u8 t.c) ∧ w'.cell? ⟨w.heap.size, 3, none⟩ = some (.int .u8 t.d) ∧ w'.cell? ⟨w.heap.size, 4, none⟩ = some (.int .u8 t.e) ∧ w'.cell? ⟨w.heap.size, 5, none⟩ = some (.int .u8 t.f) ∧
        w'.cell? ⟨w.heap.size + 1, 0, none⟩ = some (.int .u8 m.a) ∧ w'.cell? ⟨w.heap.size + 1, 1, none⟩ = some (.int .u8 m.b) ∧ w'.cell? ⟨w.heap.size + 1, 2, none⟩ = some (.int .u8 m.c) ∧ w'.cell? ⟨w.heap.size + 1, 3, none⟩ = some (.int .u8 m.d) ∧ w'.cell? ⟨w.heap.size + 1, 4, none⟩ = some (.int .u8 m.e) ∧ w'.cell? ⟨w.heap.size + 1, 5, none⟩ = some (.int .u8 m.f) ∧ KFor w t f k A n c m w')
      (first
        | assumption
        | (exact KFor.parts (KFor.drew K0))
        | (go_split_ands; exact KFor.parts (KFor.step (by assumption) hb1)))
      (first
        | (go_at_call 21; go_split_ands; with_reducible refine (all_any _).mono ?_; rintro e w3 ⟨rfl, hb1⟩))
    all_goals
      go_split_ands
      go_wp2
      go_ret
      exact ⟨rfl, (show KFor w t f k A n c m _ by assumption).below⟩
end Go.Proofs.YteddpmjjahfmiaaDoor
