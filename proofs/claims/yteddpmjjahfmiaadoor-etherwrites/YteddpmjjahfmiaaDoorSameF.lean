/-
  Contracts of Same (the program's, the document's) and Of.
-/
import Derived.Test.YteddpmjjahfmiaaDoorFor
namespace Go.Proofs.YteddpmjjahfmiaaDoor
open Go.RowKit

/-- Are two frames the same, field by field? -/
def sameV (t f : Mac6) (k : Int) (xs : List Int) (t' f' : Mac6) (k' : Int) (xs' : List Int) : Bool := mEq t t' && (mEq f f' && ((k == k') && bEq xs xs'))
theorem mB_mEq (t m : Mac6) : mB t.a t.b t.c t.d t.e t.f m.a m.b m.c m.d m.e m.f = mEq t m := rfl
theorem sameV_1 {t f k xs t' f' k' xs'} (h1 : mEq t t' = false) : sameV t f k xs t' f' k' xs' = false := by simp [sameV, h1]
theorem sameV_2 {t f k xs t' f' k' xs'} (h1 : mEq f f' = false) : sameV t f k xs t' f' k' xs' = false := by simp [sameV, h1]
theorem sameV_3 {t f k xs t' f' k' xs'} (h1 : (k == k') = false) : sameV t f k xs t' f' k' xs' = false := by simp [sameV, h1]
theorem sameV_4 {t f k xs t' f' k' xs'} (h1 : mEq t t' = true) (h2 : mEq f f' = true) (h3 : (k == k') = true) : sameV t f k xs t' f' k' xs' = bEq xs xs' := by simp [sameV, h1, h2, h3]
theorem sameV_self (t f : Mac6) (k : Int) (xs : List Int) : sameV t f k xs t f k xs = true := by simp [sameV, mEq_self, bEq]

set_option maxHeartbeats 1000000 in
theorem sameF_any (t f : Mac6) (k : Int) (A : Option Addr) (n c : Nat) (xs : List Int) (t' f' : Mac6) (k' : Int) (A' : Option Addr) (n' c' : Nat) (xs' : List Int) (w : World) (hr : Rd .u8 w w.heap.size A n c xs) (hr' : Rd .u8 w w.heap.size A' n' c' xs') :
    Calls Tryd.prog 18 #[frV t f k A n c, frV t' f' k' A' n' c'] w fun e w' => e = .returned (.bool (sameV t f k xs t' f' k' xs')) ∧ Below w.heap.size w w' := by
  have q1 := eql24
  have e1 := mB_mEq t t'
  have e2 := mB_mEq f f'
  have hb : Below w.heap.size w ((w.alloc (.cells (frC t f k A n c) 29)).alloc (.cells (frC t' f' k' A' n' c') 29)) := (alloc_below w _).alloc (by simp) _
  by_cases h1 : mEq t t' = true
  · by_cases h2 : mEq f f' = true
    · by_cases h3 : (k == k') = true
      · rw [sameV_4 h1 h2 h3]
        have c1 := equal_any A A' n c n' c' xs xs' _ _ _ (hr.below hb (Nat.le_refl _)) (hr'.below hb (Nat.le_refl _))
        have C1 := Lib.hid c1; clear c1
        rw [h1] at e1
        rw [h2] at e2
        go_enter Tryd.func18, Tryd.ntmps18
        go_wp2_with (go_at_call 27; refine C1.out.mono ?_; rintro e w1 ⟨rfl, rfl⟩)
        go_ret
        exact ⟨rfl, hb⟩
      · have h3 : (k == k') = false := by simpa using h3
        rw [sameV_3 h3]
        rw [h1] at e1
        rw [h2] at e2
        go_enter Tryd.func18, Tryd.ntmps18
        go_wp2
        go_ret
        exact ⟨rfl, hb⟩
    · have h2 : mEq f f' = false := by simpa using h2
      rw [sameV_2 h2]
      rw [h1] at e1
      rw [h2] at e2
      go_enter Tryd.func18, Tryd.ntmps18
      go_wp2
      go_ret
      exact ⟨rfl, hb⟩
  · have h1 : mEq t t' = false := by simpa using h1
    rw [sameV_1 h1]
    rw [h1] at e1
    go_enter Tryd.func18, Tryd.ntmps18
    go_wp2
    go_ret
    exact ⟨rfl, hb⟩
set_option maxHeartbeats 1000000 in
theorem refSame_any (t f : Mac6) (k : Int) (A : Option Addr) (n c : Nat) (xs : List Int) (t' f' : Mac6) (k' : Int) (A' : Option Addr) (n' c' : Nat) (xs' : List Int) (w : World) (hr : Rd .u8 w w.heap.size A n c xs) (hr' : Rd .u8 w w.heap.size A' n' c' xs') :
    Calls Tryd.prog 12 #[frV t f k A n c, frV t' f' k' A' n' c'] w fun e w' => e = .returned (.bool (sameV t f k xs t' f' k' xs')) ∧ Below w.heap.size w w' := by
  have q1 := eql23
  have e1 := mB_mEq t t'
  have e2 := mB_mEq f f'
  have hb : Below w.heap.size w ((w.alloc (.cells (frC t f k A n c) 35)).alloc (.cells (frC t' f' k' A' n' c') 35)) := (alloc_below w _).alloc (by simp) _
  by_cases h1 : mEq t t' = true
  · by_cases h2 : mEq f f' = true
    · by_cases h3 : (k == k') = true
      · rw [sameV_4 h1 h2 h3]
        have f1 := conv_str (hr.below hb (Nat.le_refl _))
        have f2 := conv_str (hr'.below hb (Nat.le_refl _))
        have f3 := str_eq hr.2.2.2.1 hr'.2.2.2.1
        rw [h1] at e1
        rw [h2] at e2
        go_enter Tryd.func12, Tryd.ntmps12
        go_wp2
        go_ret
        exact ⟨rfl, hb⟩
      · have h3 : (k == k') = false := by simpa using h3
        rw [sameV_3 h3]
        rw [h1] at e1
        rw [h2] at e2
        go_enter Tryd.func12, Tryd.ntmps12
        go_wp2
        go_ret
        exact ⟨rfl, hb⟩
    · have h2 : mEq f f' = false := by simpa using h2
      rw [sameV_2 h2]
      rw [h1] at e1
      rw [h2] at e2
      go_enter Tryd.func12, Tryd.ntmps12
      go_wp2
      go_ret
      exact ⟨rfl, hb⟩
  · have h1 : mEq t t' = false := by simpa using h1
    rw [sameV_1 h1]
    rw [h1] at e1
    go_enter Tryd.func12, Tryd.ntmps12
    go_wp2
    go_ret
    exact ⟨rfl, hb⟩
end Go.Proofs.YteddpmjjahfmiaaDoor
