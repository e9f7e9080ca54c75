/-
  Each timer at its level: what Set, Cancel, Go do to it, in plain words.
-/
import Derived.Test.YtalojeblemhihaaWheel
namespace Go.Proofs.Ytalojeblemhihaa
set_option linter.unusedVariables false

/-- Each timer of R is at its level, and no other timer is at any. -/
def Right (now : Nat) (R : List Tm) (V : Nat → List Int) : Prop := ∀ n, n < 64 → ∀ t, t ∈ V n ↔ ∃ d, (t, d) ∈ R ∧ lv now d = n
def setE (t : Int) (d : Nat) (R : List Tm) : Int := if 4611686018427387904 < d then 11 else if hasT t R = false ∧ R.length = 16384 then 18 else 0
def setR (t : Int) (d : Nat) (R : List Tm) : List Tm := if setE t d R = 0 then setT t d R else R
def goE (now n : Nat) : Int := if 4611686018427387904 < n then 11 else if n < now then 22 else 0

section
variable {now : Nat} {R : List Tm} {V : Nat → List Int} {t : Int} {d : Nat}
theorem Right.nil {V : Nat → List Int} (h : ∀ i, i < 64 → V i = []) : Right now [] V := fun n hn t => by rw [h n hn]; simp
theorem Right.cancel (h : Right now R V) (hO : Ok R) (ht : hasT t R = true) : Right now (delT t R) (updV V (lv now (dueT t R)) ((V (lv now (dueT t R))).filter (· != t))) := by
  intro n hn s
  have key : (∃ d, (s, d) ∈ delT t R ∧ lv now d = n) ↔ (s ≠ t ∧ ∃ d, (s, d) ∈ R ∧ lv now d = n) := by
    constructor
    · rintro ⟨d, h1, h2⟩
      obtain ⟨h3, h4⟩ := mem_delT.1 h1
      exact ⟨h4, d, h3, h2⟩
    · rintro ⟨h4, d, h3, h2⟩
      exact ⟨d, mem_delT.2 ⟨h3, h4⟩, h2⟩
  rw [key, ← h n hn s]
  unfold updV
  split
  · rename_i e
    rw [List.mem_filter, ← e]
    simp [and_comm]
  · rename_i e
    constructor
    · intro hs
      refine ⟨?_, hs⟩
      rintro rfl
      obtain ⟨d, h1, h2⟩ := (h n hn s).1 hs
      rw [dueT_of hO h1] at e
      exact e h2.symm
    · exact fun hs => hs.2
/-- A timer that isn't there is laid. -/
theorem Right.lay (h : Right now R V) (hno : hasT t R = false) : Right now (insT (t, d) R) (updV V (lv now d) (addL t (V (lv now d)))) := by
  intro n hn s
  have key : (∃ e, (s, e) ∈ insT (t, d) R ∧ lv now e = n) ↔ ((s = t ∧ lv now d = n) ∨ ∃ e, (s, e) ∈ R ∧ lv now e = n) := by
    constructor
    · rintro ⟨e, h1, h2⟩
      rcases mem_insT.1 h1 with h3 | h3
      · injection h3 with a b
        exact .inl ⟨a, by rw [← b]; exact h2⟩
      · exact .inr ⟨e, h3, h2⟩
    · rintro (⟨rfl, h2⟩ | ⟨e, h1, h2⟩)
      · exact ⟨d, mem_insT.2 (.inl rfl), h2⟩
      · exact ⟨e, mem_insT.2 (.inr h1), h2⟩
  rw [key, ← h n hn s]
  unfold updV
  split
  · rename_i e
    rw [mem_addL, ← e]
    constructor
    · rintro (h1 | h1)
      · exact .inr h1
      · exact .inl ⟨h1, rfl⟩
    · rintro (⟨h1, _⟩ | h1)
      · exact .inr h1
      · exact .inl h1
  · rename_i e
    constructor
    · exact .inr
    · rintro (⟨_, h1⟩ | h1)
      · exact absurd h1.symm e
      · exact h1
theorem Right.nodup_sub (h : Right now R V) {n : Nat} (hn : n < 64) : ∀ s ∈ V n, hasT s R = true := fun s hs => by
  obtain ⟨d, h1, _⟩ := (h n hn s).1 hs
  exact hasT_iff.2 ⟨d, h1⟩
theorem setE_ok (h : setE t d R = 0) : d ≤ 4611686018427387904 ∧ ¬ (hasT t R = false ∧ R.length = 16384) := by
  unfold setE at h
  split at h
  · omega
  · split at h
    · omega
    · exact ⟨by omega, by assumption⟩
theorem setE_mk (h : d ≤ 4611686018427387904) (h' : ¬ (hasT t R = false ∧ R.length = 16384)) : setE t d R = 0 := by
  unfold setE
  rw [if_neg (by omega), if_neg h']
theorem setR_ok (hO : Ok R) (hw : wfI t) : Ok (setR t d R) := by
  unfold setR
  split
  · rename_i h
    exact hO.set hw (setE_ok h).1
  · exact hO
theorem setR_len (hO : Ok R) (hl : R.length ≤ 16384) : (setR t d R).length ≤ 16384 := by
  unfold setR
  split
  · rename_i h
    have h2 := (setE_ok h).2
    rw [hO.len_set]
    split
    · exact hl
    · rename_i h3
      have : hasT t R = false := by simpa using h3
      simp [this] at h2
      omega
  · exact hl
end
end Go.Proofs.Ytalojeblemhihaa
