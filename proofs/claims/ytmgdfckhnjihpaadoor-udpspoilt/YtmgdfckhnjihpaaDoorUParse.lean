/-
  Contract of Parse, at any bytes.
-/
import Derived.Test.YtmgdfckhnjihpaaDoorURight
import Derived.Test.YtmgdfckhnjihpaaDoorUBare
namespace Go.Proofs.YtmgdfckhnjihpaaDoor
open Go.RowKit
theorem parse_any (A : Option Addr) (n c : Nat) (xs : List Int) (f t : Int) (w : World) (hr : Rd .u8 w w.heap.size A n c xs) (hf : Ip f) (ht : Ip t) : Calls Tryd.prog 9 #[.slice A n c, .int .u32 f, .int .u32 t] w (GivesP f t w xs) := by
  unfold GivesP
  by_cases h : (bE xs).2 = 0
  · obtain ⟨h8, ht8, htn, htm⟩ := bE_ok h
    have hl := hr.len
    obtain ⟨b, o, rfl, -, -⟩ := hr.at_ (i := 0) (by omega)
    have hbl : (bodyOf xs).length = told xs - 8 := by unfold bodyOf; rw [List.length_drop, List.length_take]; omega
    by_cases hz : num2 (xs.drop 6) = 0
    · rw [pE_yes h (.inl hz)]
      exact (parse_bare b o n c _ xs f t w hr h rfl hz).mono fun ev w' ⟨h1, g, h2, h3, h4⟩ => ⟨h1, .inr ⟨rfl, g, _, h2, h3, h4, hbl⟩⟩
    · by_cases hs : totV (epR f t (told xs) ++ xs.take (told xs)) = 65535
      · rw [pE_yes h (.inr hs)]
        exact (parse_right b o n c _ xs f t w hr hf ht h rfl hz hs).mono fun ev w' ⟨h1, g, h2, h3, h4⟩ => ⟨h1, .inr ⟨rfl, g, _, h2, h3, h4, hbl⟩⟩
      · rw [pE_sum h hz hs]
        exact (parse_sum b o n c _ xs f t w hr hf ht h rfl hz hs).mono fun ev w' ⟨h1, h2⟩ => ⟨h1, .inl ⟨by decide, h2⟩⟩
  · rw [pE_bad h]
    exact (parse_bad A n c xs f t w hr h).mono fun ev w' ⟨h1, h2⟩ => ⟨h1, .inl ⟨h, h2⟩⟩
end Go.Proofs.YtmgdfckhnjihpaaDoor
