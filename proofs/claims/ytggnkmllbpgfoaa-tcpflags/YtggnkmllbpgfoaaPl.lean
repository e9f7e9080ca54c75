/-
  Segments as plain words: their faults, their heads, their bytes.
-/
import Derived.Test.YtggnkmllbpgfoaaNums
import Derived.Test.YtggnkmllbpgfoaaSLaw
namespace Go.Proofs.Ytggnkmllbpgfoaa
open Go.RowKit

/-- How many bytes a head is told to have. -/
def headN (xs : List Int) : Int := xs.getD 12 0 / 16 * 4
/-- What is summed ahead of a segment's bytes. -/
def epR (f t : Int) (n : Int) : List Int := ((four f ++ four t) ++ two2 6) ++ two2 n
/-- An Ip's number. -/
def Ip (f : Int) : Prop := 0 ≤ f ∧ f < 4294967296
theorem epR_len (f t n : Int) : (epR f t n).length = 12 := rfl
theorem epR_wf {f t n : Int} (hf : Ip f) (ht : Ip t) (hn : 0 ≤ n ∧ n ≤ 65535) : ∀ x ∈ epR f t n, (Lit.int .u8 x).wf = true := by
  intro x hx
  simp only [epR, List.mem_append] at hx
  rcases hx with ((hx | hx) | hx) | hx
  · exact four_wf hf x hx
  · exact four_wf ht x hx
  · exact two2_wf (by omega) x hx
  · exact two2_wf hn x hx
/-- The fault of bytes that haven't the form of a segment: its reason, its number; noughts where there is none. -/
def bE (xs : List Int) : Int × Int :=
  if xs.length < 20 then (1, 12) else if headN xs < 20 then (1, 10) else if (xs.length : Int) < headN xs then (1, 12) else if 1480 < xs.length then (1, 11) else (0, 0)
/-- Is the sum right? -/
def sumB (f t : Int) (xs : List Int) : Bool := totV (epR f t (xs.length : Int) ++ xs) == 65535
/-- And that of bytes between two Ips. -/
def pE (f t : Int) (xs : List Int) : Int × Int :=
  if ¬ (bE xs).2 = 0 then bE xs else if sumB f t xs = true then (0, 0) else (2, 13)
/-- What a segment has besides its bytes. -/
def hdOf (xs : List Int) : Hd := ⟨num2 xs, num2 (xs.drop 2), xs.getD 13 0⟩

theorem bE_cases (xs : List Int) : (xs.length < 20 ∧ bE xs = (1, 12)) ∨ (20 ≤ xs.length ∧ headN xs < 20 ∧ bE xs = (1, 10)) ∨ (20 ≤ xs.length ∧ 20 ≤ headN xs ∧ (xs.length : Int) < headN xs ∧ bE xs = (1, 12)) ∨
    (20 ≤ xs.length ∧ 20 ≤ headN xs ∧ headN xs ≤ (xs.length : Int) ∧ 1480 < xs.length ∧ bE xs = (1, 11)) ∨ (20 ≤ xs.length ∧ 20 ≤ headN xs ∧ headN xs ≤ (xs.length : Int) ∧ xs.length ≤ 1480 ∧ bE xs = (0, 0)) := by
  unfold bE
  by_cases h1 : xs.length < 20
  · exact .inl ⟨h1, by rw [if_pos h1]⟩
  rw [if_neg h1]
  by_cases h2 : headN xs < 20
  · exact .inr (.inl ⟨by omega, h2, by rw [if_pos h2]⟩)
  rw [if_neg h2]
  by_cases h3 : (xs.length : Int) < headN xs
  · exact .inr (.inr (.inl ⟨by omega, by omega, h3, by rw [if_pos h3]⟩))
  rw [if_neg h3]
  by_cases h4 : 1480 < xs.length
  · exact .inr (.inr (.inr (.inl ⟨by omega, by omega, by omega, h4, by rw [if_pos h4]⟩)))
  rw [if_neg h4]
  exact .inr (.inr (.inr (.inr ⟨by omega, by omega, by omega, by omega, rfl⟩)))
theorem bE_ok {xs : List Int} (h : (bE xs).2 = 0) : 20 ≤ xs.length ∧ 20 ≤ headN xs ∧ headN xs ≤ (xs.length : Int) ∧ xs.length ≤ 1480 := by
  rcases bE_cases xs with ⟨_, e⟩ | ⟨_, _, e⟩ | ⟨_, _, _, e⟩ | ⟨_, _, _, _, e⟩ | ⟨h1, h2, h3, h4, e⟩
  all_goals first | exact ⟨h1, h2, h3, h4⟩ | (rw [e] at h; exact absurd h (by decide))
theorem bE_good {xs : List Int} (h0 : 20 ≤ xs.length) (h1 : 20 ≤ headN xs) (h2 : headN xs ≤ (xs.length : Int)) (h3 : xs.length ≤ 1480) : bE xs = (0, 0) := by
  unfold bE
  rw [if_neg (by omega), if_neg (by omega), if_neg (by omega), if_neg (by omega)]
theorem pE_bad {f t : Int} {xs : List Int} (h : ¬ (bE xs).2 = 0) : pE f t xs = bE xs := by unfold pE; rw [if_pos h]
theorem pE_sum {f t : Int} {xs : List Int} (h : (bE xs).2 = 0) (hs : sumB f t xs = false) : pE f t xs = (2, 13) := by
  unfold pE
  rw [if_neg (fun q => q h), hs]
  rfl
theorem pE_yes {f t : Int} {xs : List Int} (h : (bE xs).2 = 0) (hs : sumB f t xs = true) : pE f t xs = (0, 0) := by
  unfold pE
  rw [if_neg (fun q => q h), if_pos hs]
theorem pE_ok {f t : Int} {xs : List Int} (h : (pE f t xs).2 = 0) : (bE xs).2 = 0 ∧ sumB f t xs = true := by
  by_cases hb : (bE xs).2 = 0
  · by_cases hs : sumB f t xs = true
    · exact ⟨hb, hs⟩
    · rw [pE_sum hb (by simpa using hs)] at h
      exact absurd h (by decide)
  · rw [pE_bad hb] at h
    exact absurd h hb
theorem pE_cases (f t : Int) (xs : List Int) : pE f t xs = (0, 0) ∨ pE f t xs = (1, 12) ∨ pE f t xs = (1, 10) ∨ pE f t xs = (1, 11) ∨ pE f t xs = (2, 13) := by
  by_cases hb : (bE xs).2 = 0
  · by_cases hs : sumB f t xs = true
    · exact .inl (pE_yes hb hs)
    · exact .inr (.inr (.inr (.inr (pE_sum hb (by simpa using hs)))))
  · rw [pE_bad hb]
    rcases bE_cases xs with ⟨_, e⟩ | ⟨_, _, e⟩ | ⟨_, _, _, e⟩ | ⟨_, _, _, _, e⟩ | ⟨_, _, _, _, e⟩
    · simp [e]
    · simp [e]
    · simp [e]
    · simp [e]
    · exact absurd (by rw [e]) hb

/-- A made head with a sum. -/
def hdM (h : Hd) (s : Int) : List Int := ((two2 h.src ++ two2 h.dst) ++ [0, 0, 0, 0, 0, 0, 0, 0, 80, h.flags, 0, 0]) ++ (two2 s ++ [0, 0])
/-- A made segment's sum. -/
def sumM (h : Hd) (f t : Int) (xs : List Int) : Int := 65535 - totV (epR f t (20 + (xs.length : Int)) ++ (hdM h 0 ++ xs))
/-- Its bytes. -/
def mkR (h : Hd) (f t : Int) (xs : List Int) : List Int := hdM h (sumM h f t xs) ++ xs
theorem hdM_len (h : Hd) (s : Int) : (hdM h s).length = 20 := rfl
theorem hdM_wf {h : Hd} {s : Int} (hk : h.ok) (hs : 0 ≤ s ∧ s ≤ 65535) : ∀ x ∈ hdM h s, (Lit.int .u8 x).wf = true := by
  intro x hx
  simp only [hdM, List.mem_append] at hx
  rcases hx with ((hx | hx) | hx) | (hx | hx)
  · exact two2_wf hk.src x hx
  · exact two2_wf hk.dst x hx
  · have := hk.flags
    simp only [List.mem_cons, List.not_mem_nil, or_false] at hx
    rcases hx with rfl | rfl | rfl | rfl | rfl | rfl | rfl | rfl | rfl | rfl | rfl | rfl <;> exact u8_mk (by omega)
  · exact two2_wf hs x hx
  · simp only [List.mem_cons, List.not_mem_nil, or_false] at hx
    rcases hx with rfl | rfl <;> exact u8_mk (by omega)
end Go.Proofs.Ytggnkmllbpgfoaa
