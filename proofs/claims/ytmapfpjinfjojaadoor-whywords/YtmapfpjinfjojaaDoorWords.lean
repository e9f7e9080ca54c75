/-
  WhyWords, walked.
-/
import Derived.Test.YtmapfpjinfjojaaDoorAt
namespace Go.Proofs.YtmapfpjinfjojaaDoor
open Go.RowKit

theorem num_empty : numV ⟨#[]⟩ = 0 ∧ numOk ⟨#[]⟩ = false := ⟨by decide +kernel, by decide +kernel⟩
theorem num_wordV (n : Int) : numOk (wordV n) = isR n ∧ (isR n = true → numV (wordV n) = n) := by
  by_cases h : isR n = true
  · obtain ⟨h1, h2⟩ := isR_yes h
    have hw : wordV n = wordAt n.toNat := by simp only [wordV, if_pos h]
    obtain ⟨e1, e2⟩ := num_word (k := n.toNat) (by omega) (by omega)
    rw [hw, e1, e2, h]
    exact ⟨rfl, fun _ => by omega⟩
  · have hw : wordV n = ⟨#[]⟩ := by simp only [wordV, if_neg h]
    rw [hw, num_empty.2]
    exact ⟨by simpa using h, fun h' => absurd h' h⟩

set_option maxRecDepth 100000 in
set_option maxHeartbeats 2000000 in
theorem words_law (e r : Int) (s : ByteArray) (w : World) (hg : Laid w) (hs : s.size ≤ maxLen) : Calls Tryd.prog 4 #[.int .i64 e, .int .i64 r, .string s] w fun ev w' => ev = .returned (.bool true) ∧ Below w.heap.size w w' := by
  have k := Kn.start hg
  clear hg
  unfold maxLen at hs
  by_cases hl : s.size ≤ 1000
  · go_enter Tryd.func4, Tryd.ntmps4
    go_wp2_with fail
    with_reducible refine (alive_any _ k.laid).mono ?_
    rintro ev w1 ⟨rfl, hb1⟩
    replace k := k.step hb1
    clear hb1
    go_wp2_with fail
    with_reducible refine (number_any _ _).mono ?_
    rintro ev w2 ⟨rfl, hb1⟩
    replace k := k.step hb1
    clear hb1
    go_wp2_with fail
    with_reducible refine (refNumber_any _ _).mono ?_
    rintro ev w3 ⟨rfl, hb1⟩
    replace k := k.step hb1
    clear hb1
    go_wp2_with fail
    with_reducible refine (of_any _ _).mono ?_
    rintro ev w4 ⟨rfl, rfl⟩
    go_wp2_with fail
    with_reducible refine (refOf_any _ _).mono ?_
    rintro ev w4 ⟨rfl, rfl⟩
    go_wp2_with fail
    with_reducible refine (word_any _ _).mono ?_
    rintro ev w4 ⟨rfl, hb1⟩
    replace k := k.step hb1
    clear hb1
    go_wp2_with fail
    with_reducible refine (refWord_any _ _).mono ?_
    rintro ev w5 ⟨rfl, hb1⟩
    replace k := k.step hb1
    clear hb1
    go_wp2_with fail
    with_reducible refine (word_any _ _).mono ?_
    rintro ev w6 ⟨rfl, hb1⟩
    replace k := k.step hb1
    clear hb1
    go_wp2_with fail
    with_reducible refine (number_any _ _).mono ?_
    rintro ev w7 ⟨rfl, hb1⟩
    replace k := k.step hb1
    clear hb1
    go_wp2_with fail
    with_reducible refine (word_any _ _).mono ?_
    rintro ev w8 ⟨rfl, hb1⟩
    replace k := k.step hb1
    clear hb1
    have hE := word_isEmpty r
    obtain ⟨hN, hV⟩ := num_wordV r
    by_cases hr : isR r = true
    · have hV := hV hr
      rw [hr] at hE hN
      go_wp2
      go_ret
      exact ⟨rfl, k.below⟩
    · have hr : isR r = false := by simpa using hr
      clear hV
      rw [hr] at hE hN
      go_wp2
      go_ret
      exact ⟨rfl, k.below⟩
  · go_enter Tryd.func4, Tryd.ntmps4
    go_wp2_with fail
    with_reducible refine (alive_any _ k.laid).mono ?_
    rintro ev w1 ⟨rfl, hb1⟩
    replace k := k.step hb1
    clear hb1
    go_wp2
    go_ret
    exact ⟨rfl, k.below⟩
end Go.Proofs.YtmapfpjinfjojaaDoor
