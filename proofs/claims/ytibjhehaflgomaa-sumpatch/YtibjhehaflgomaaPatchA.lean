/-
  Patch, whatever it is given.
-/
import Derived.Test.YtibjhehaflgomaaPatch
namespace Go.Proofs.Ytibjhehaflgomaa
open Go.RowKit

/-- Patch, whatever it is given. -/
theorem patch_any (s : Int) (A A2 : Option Addr) (n c n2 c2 : Nat) (xs ys : List Int) (w : World) (hs : W16 s) (hr : Rd .u8 w w.heap.size A n c xs) (hr2 : Rd .u8 w w.heap.size A2 n2 c2 ys) :
    Calls Try.prog 11 #[.int .u16 s, .slice A n c, .slice A2 n2 c2] w fun e w' => e = .returned (.tuple #[.int .u16 (patV s xs ys), .int .i64 (patE n n2)]) ∧ Below w.heap.size w w' := by
  have h1 := hr.len
  have h2 := hr2.len
  by_cases h : n = n2 ∧ n % 2 = 0
  · have e1 : patV s xs ys = patF s xs ys := if_pos (by rw [h1, h2]; exact h)
    have e2 : patE n n2 = 0 := if_pos h
    rw [e1, e2]
    obtain ⟨rfl, hm⟩ := h
    exact patch_ok s A A2 n c c2 xs ys w hs hr hr2 hm
  · have e1 : patV s xs ys = 0 := if_neg (by rw [h1, h2]; exact h)
    have e2 : patE n n2 = 11 := if_neg h
    rw [e1, e2]
    exact patch_no s A A2 n c n2 c2 xs ys w hr hr2 h
end Go.Proofs.Ytibjhehaflgomaa
