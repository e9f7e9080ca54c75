/-
  What bytes are as a datagram, in plain words: why they are none, what the datagram is; a datagram's bytes. Nothing of the program.
-/
import Derived.Test.YtmgdfckhnjihpaaDoorNums
namespace Go.Proofs.YtmgdfckhnjihpaaDoor
open Go.RowKit

/-- How many bytes the datagram is told to have. -/
def told (xs : List Int) : Nat := (num2 (xs.drop 4)).toNat
/-- What is summed besides the bytes, of which there are so many. -/
def epR (f t : Int) (n : Int) : List Int := ((four f ++ four t) ++ two2 17) ++ two2 n
/-- An Ip. -/
def Ip (f : Int) : Prop := 0 ≤ f ∧ f < 4294967296
theorem epR_len (f t n : Int) : (epR f t n).length = 12 := rfl
theorem epR_wf {f t n : Int} (hf : Ip f) (ht : Ip t) (hn : 0 ≤ n ∧ n ≤ 65535) : ∀ x ∈ epR f t n, (Lit.int .u8 x).wf = true := by
  intro x hx
  unfold epR at hx
  rcases List.mem_append.1 hx with hx | hx
  · rcases List.mem_append.1 hx with hx | hx
    · rcases List.mem_append.1 hx with hx | hx
      · exact four_wf hf x hx
      · exact four_wf ht x hx
    · exact two2_wf (by omega) x hx
  · exact two2_wf hn x hx
/-- Why bytes are no datagram, by their count and what they tell of it: the reason, the error; noughts where they may be one. -/
def bE (xs : List Int) : Int × Int :=
  if xs.length < 8 then (1, 12) else if told xs < 8 then (1, 10) else if xs.length < told xs then (1, 12) else if 1480 < told xs then (1, 11) else (0, 0)
/-- All of it, with the sum. -/
def pE (f t : Int) (xs : List Int) : Int × Int :=
  if ¬ (bE xs).2 = 0 then bE xs else if ¬ num2 (xs.drop 6) = 0 ∧ ¬ totV (epR f t (told xs) ++ xs.take (told xs)) = 65535 then (2, 13) else (0, 0)
/-- The datagram's ports and whether it is bare, and its body. -/
def hdOf (xs : List Int) : Hd := ⟨num2 xs, num2 (xs.drop 2), num2 (xs.drop 6) == 0⟩
def bodyOf (xs : List Int) : List Int := (xs.take (told xs)).drop 8

theorem bE_cases (xs : List Int) : (xs.length < 8 ∧ bE xs = (1, 12)) ∨ (8 ≤ xs.length ∧ told xs < 8 ∧ bE xs = (1, 10)) ∨ (8 ≤ xs.length ∧ 8 ≤ told xs ∧ xs.length < told xs ∧ bE xs = (1, 12)) ∨
    (8 ≤ xs.length ∧ 8 ≤ told xs ∧ told xs ≤ xs.length ∧ 1480 < told xs ∧ bE xs = (1, 11)) ∨ (8 ≤ xs.length ∧ 8 ≤ told xs ∧ told xs ≤ xs.length ∧ told xs ≤ 1480 ∧ bE xs = (0, 0)) := by
  unfold bE
  by_cases h1 : xs.length < 8
  · exact .inl ⟨h1, by rw [if_pos h1]⟩
  by_cases h2 : told xs < 8
  · exact .inr (.inl ⟨by omega, h2, by rw [if_neg h1, if_pos h2]⟩)
  by_cases h3 : xs.length < told xs
  · exact .inr (.inr (.inl ⟨by omega, by omega, h3, by rw [if_neg h1, if_neg h2, if_pos h3]⟩))
  by_cases h4 : 1480 < told xs
  · exact .inr (.inr (.inr (.inl ⟨by omega, by omega, by omega, h4, by rw [if_neg h1, if_neg h2, if_neg h3, if_pos h4]⟩)))
  · exact .inr (.inr (.inr (.inr ⟨by omega, by omega, by omega, by omega, by rw [if_neg h1, if_neg h2, if_neg h3, if_neg h4]⟩)))
theorem bE_ok {xs : List Int} (h : (bE xs).2 = 0) : 8 ≤ xs.length ∧ 8 ≤ told xs ∧ told xs ≤ xs.length ∧ told xs ≤ 1480 := by
  rcases bE_cases xs with ⟨_, e⟩ | ⟨_, _, e⟩ | ⟨_, _, _, e⟩ | ⟨_, _, _, _, e⟩ | ⟨h1, h2, h3, h4, e⟩
  · rw [e] at h; simp at h
  · rw [e] at h; simp at h
  · rw [e] at h; simp at h
  · rw [e] at h; simp at h
  · exact ⟨h1, h2, h3, h4⟩
theorem bE_good {xs : List Int} (h1 : 8 ≤ told xs) (h2 : told xs ≤ xs.length) (h3 : told xs ≤ 1480) : bE xs = (0, 0) := by
  unfold bE
  rw [if_neg (by omega), if_neg (by omega), if_neg (by omega), if_neg (by omega)]
theorem pE_bad {f t : Int} {xs : List Int} (h : ¬ (bE xs).2 = 0) : pE f t xs = bE xs := by unfold pE; rw [if_pos h]
theorem pE_sum {f t : Int} {xs : List Int} (h : (bE xs).2 = 0) (hz : ¬ num2 (xs.drop 6) = 0) (hs : ¬ totV (epR f t (told xs) ++ xs.take (told xs)) = 65535) : pE f t xs = (2, 13) := by
  unfold pE
  rw [if_neg (fun q => q h), if_pos ⟨hz, hs⟩]
theorem pE_yes {f t : Int} {xs : List Int} (h : (bE xs).2 = 0) (hz : num2 (xs.drop 6) = 0 ∨ totV (epR f t (told xs) ++ xs.take (told xs)) = 65535) : pE f t xs = (0, 0) := by
  unfold pE
  rw [if_neg (fun q => q h), if_neg (fun q => hz.elim q.1 q.2)]
theorem pE_ok {f t : Int} {xs : List Int} (h : (pE f t xs).2 = 0) : (bE xs).2 = 0 ∧ (num2 (xs.drop 6) = 0 ∨ totV (epR f t (told xs) ++ xs.take (told xs)) = 65535) := by
  by_cases h1 : (bE xs).2 = 0
  · refine ⟨h1, ?_⟩
    by_cases hz : num2 (xs.drop 6) = 0
    · exact .inl hz
    · by_cases hs : totV (epR f t (told xs) ++ xs.take (told xs)) = 65535
      · exact .inr hs
      · rw [pE_sum h1 hz hs] at h
        simp at h
  · rw [pE_bad h1] at h
    exact absurd h h1
/-- All reasons and errors that come are ones of the errors' numbers. -/
theorem pE_cases (f t : Int) (xs : List Int) : pE f t xs = (0, 0) ∨ pE f t xs = (1, 12) ∨ pE f t xs = (1, 10) ∨ pE f t xs = (1, 11) ∨ pE f t xs = (2, 13) := by
  by_cases h : (bE xs).2 = 0
  · by_cases hz : num2 (xs.drop 6) = 0
    · exact .inl (pE_yes h (.inl hz))
    · by_cases hs : totV (epR f t (told xs) ++ xs.take (told xs)) = 65535
      · exact .inl (pE_yes h (.inr hs))
      · exact .inr (.inr (.inr (.inr (pE_sum h hz hs))))
  · rw [pE_bad h]
    rcases bE_cases xs with ⟨_, e⟩ | ⟨_, _, e⟩ | ⟨_, _, _, e⟩ | ⟨_, _, _, _, e⟩ | ⟨_, _, _, _, e⟩ <;> rw [e] <;> simp
theorem getD_take {xs : List Int} {t i : Nat} (h : i < t) : (xs.take t).getD i 0 = xs.getD i 0 := by simp [List.getD, h]
theorem getD_drop (xs : List Int) (f i : Nat) : (xs.drop f).getD i 0 = xs.getD (f + i) 0 := by simp [List.getD]
theorem num2_take {xs : List Int} {t f : Nat} (h : f + 2 ≤ t) : num2 ((xs.take t).drop f) = num2 (xs.drop f) := by
  unfold num2
  rw [getD_drop, getD_drop, getD_drop, getD_drop, getD_take (by omega), getD_take (by omega)]
theorem num2_take0 {xs : List Int} {t : Nat} (h : 2 ≤ t) : num2 (xs.take t) = num2 xs := by
  unfold num2
  rw [getD_take (by omega), getD_take (by omega)]
theorem hdOf_take {xs : List Int} {t : Nat} (h : 8 ≤ t) : hdOf (xs.take t) = hdOf xs := by
  unfold hdOf
  rw [num2_take (by omega), num2_take (by omega), num2_take0 (by omega)]
/-- A sum as it is written. -/
def fullV (s : Int) : Int := if s = 0 then 65535 else s
theorem fullV_bd {s : Int} (h : 0 ≤ s ∧ s ≤ 65535) : 0 ≤ fullV s ∧ fullV s ≤ 65535 ∧ ¬ fullV s = 0 := by unfold fullV; split <;> omega
/-- A datagram's first bytes, with a sum. -/
def hdS (h : Hd) (n : Int) (s : Int) : List Int := ((two2 h.src ++ two2 h.dst) ++ two2 n) ++ two2 s
/-- Its sum, between two Ips. -/
def sumV (h : Hd) (f t : Int) (xs : List Int) : Int := if h.bare then 0 else fullV (65535 - totV (epR f t (8 + (xs.length : Int)) ++ (hdS h (8 + (xs.length : Int)) 0 ++ xs)))
/-- Its bytes. -/
def byR (h : Hd) (f t : Int) (xs : List Int) : List Int := hdS h (8 + (xs.length : Int)) (sumV h f t xs) ++ xs
theorem hdS_len (h : Hd) (n s : Int) : (hdS h n s).length = 8 := rfl
theorem hdS_wf {h : Hd} {n s : Int} (hk : h.ok) (hn : 0 ≤ n ∧ n ≤ 65535) (hs : 0 ≤ s ∧ s ≤ 65535) : ∀ x ∈ hdS h n s, (Lit.int .u8 x).wf = true := by
  intro x hx
  unfold hdS at hx
  rcases List.mem_append.1 hx with hx | hx
  · rcases List.mem_append.1 hx with hx | hx
    · rcases List.mem_append.1 hx with hx | hx
      · exact two2_wf hk.src x hx
      · exact two2_wf hk.dst x hx
    · exact two2_wf hn x hx
  · exact two2_wf hs x hx
end Go.Proofs.YtmgdfckhnjihpaaDoor
