/-
  Contract of the document's Parse, at any bytes.
-/
import Derived.Test.YtmgdfckhnjihpaaDoorRParseB
import Derived.Test.YtmgdfckhnjihpaaDoorRParseS
namespace Go.Proofs.YtmgdfckhnjihpaaDoor
open Go.RowKit

theorem refParse_all (A : Option Addr) (n c : Nat) (xs : List Int) (f t : Int) (w : World) (hr : Rd .u8 w w.heap.size A n c xs) (hf : Ip f) (ht : Ip t) :
    (¬ (pE f t xs).2 = 0 ∧ Calls Tryd.prog 10 #[.slice A n c, .int .u32 f, .int .u32 t] w (GivesN w (pE f t xs).1 (pE f t xs).2)) ∨ ((pE f t xs).2 = 0 ∧ Calls Tryd.prog 10 #[.slice A n c, .int .u32 f, .int .u32 t] w (GivesY w (hdOf xs) (bodyOf xs))) := by
  have hl := hr.len
  rcases bE_cases xs with ⟨h1, e⟩ | hrest
  · left
    rw [pE_bad (by rw [e]; decide), e]
    exact ⟨by decide, refP_short A n c xs f t w hr (by omega)⟩
  have h8 : 8 ≤ n := by rw [← hl]; rcases hrest with h | h | h | h <;> exact h.1
  obtain ⟨b, o, rfl, -, -⟩ := hr.at_ (i := 0) (by omega)
  rw [hl] at hrest
  rcases hrest with ⟨_, h2, e⟩ | ⟨_, h2, h3, e⟩ | ⟨_, h2, h3, h4, e⟩ | ⟨_, h2, h3, h4, e⟩
  · left
    rw [pE_bad (by rw [e]; decide), e]
    exact ⟨by decide, refP_form b o n c _ xs f t w hr h8 rfl h2⟩
  · left
    rw [pE_bad (by rw [e]; decide), e]
    exact ⟨by decide, refP_end b o n c _ xs f t w hr h8 rfl h2 h3⟩
  · left
    rw [pE_bad (by rw [e]; decide), e]
    exact ⟨by decide, refP_far b o n c _ xs f t w hr h8 rfl h2 h3 h4⟩
  · have h0 : (bE xs).2 = 0 := by rw [e]
    by_cases hz : num2 (xs.drop 6) = 0
    · right
      rw [pE_yes h0 (.inl hz)]
      exact ⟨rfl, refP_bare b o n c _ xs f t w hr h8 rfl h2 h3 h4 hz⟩
    · by_cases hs : totV (epR f t (told xs) ++ xs.take (told xs)) = 65535
      · right
        rw [pE_yes h0 (.inr hs)]
        exact ⟨rfl, refP_right b o n c _ xs f t w hr h8 rfl h2 h3 h4 hf ht _ hz rfl hs⟩
      · left
        rw [pE_sum h0 hz hs]
        exact ⟨by decide, refP_sum b o n c _ xs f t w hr h8 rfl h2 h3 h4 hf ht _ hz rfl hs⟩
end Go.Proofs.YtmgdfckhnjihpaaDoor
