/-
  What Go does to the timers and the levels, in plain words.
-/
import Derived.Test.YtalojeblemhihaaRight
import Derived.Test.YtalojeblemhihaaLift
namespace Go.Proofs.Ytalojeblemhihaa
set_option linter.unusedVariables false

/-- The timers of L are laid at their levels. -/
def layL (R : List Tm) (n : Nat) (L : List Int) (V : Nat → List Int) : Nat → List Int := L.foldl (fun V t => updV V (lv n (dueT t R)) (addL t (V (lv n (dueT t R))))) V
def dropL (L : List Int) (R : List Tm) : List Tm := R.filter fun x => decide (x.1 ∉ L)
def goL (now n : Nat) (R : List Tm) : List Int := if goE now n = 0 then goT n R else []
def goN (now n : Nat) : Nat := if goE now n = 0 then n else now
def goRR (now n : Nat) (R : List Tm) : List Tm := if goE now n = 0 then goR n R else R

section
variable {now n : Nat} {R : List Tm} {V : Nat → List Int} {L : List Int} {t : Int}
theorem layL_snoc (t : Int) : layL R n (L ++ [t]) V = updV (layL R n L V) (lv n (dueT t R)) (addL t (layL R n L V (lv n (dueT t R)))) := by simp [layL, List.foldl_append]
theorem mem_layL : ∀ (L : List Int) (V : Nat → List Int) (j : Nat) (s : Int), s ∈ layL R n L V j ↔ s ∈ V j ∨ (s ∈ L ∧ lv n (dueT s R) = j)
  | [], V, j, s => by simp [layL]
  | a :: r, V, j, s => by
    have e : layL R n (a :: r) V = layL R n r (updV V (lv n (dueT a R)) (addL a (V (lv n (dueT a R))))) := rfl
    rw [e, mem_layL r]
    unfold updV
    by_cases h : j = lv n (dueT a R)
    · rw [if_pos h, mem_addL, ← h]
      constructor
      · rintro ((h1 | rfl) | ⟨h1, h2⟩)
        · exact .inl h1
        · exact .inr ⟨by simp, h.symm⟩
        · exact .inr ⟨List.mem_cons_of_mem _ h1, h2⟩
      · rintro (h1 | ⟨h1, h2⟩)
        · exact .inl (.inl h1)
        · rcases List.mem_cons.1 h1 with rfl | h1
          · exact .inl (.inr rfl)
          · exact .inr ⟨h1, h2⟩
    · rw [if_neg h]
      constructor
      · rintro (h1 | ⟨h1, h2⟩)
        · exact .inl h1
        · exact .inr ⟨List.mem_cons_of_mem _ h1, h2⟩
      · rintro (h1 | ⟨h1, h2⟩)
        · exact .inl h1
        · rcases List.mem_cons.1 h1 with rfl | h1
          · exact absurd h2.symm h
          · exact .inr ⟨h1, h2⟩
/-- The time goes on from now to n. -/
theorem Right.moved (r : Right now R V) (hO : Ok R) (hnow : now ≤ n) (hn : n ≤ 4611686018427387904) (hL : L.Perm (catV V (lv now n + 1))) : Right n R (layL R n L (clrV V (lv now n + 1))) := by
  intro j hj t
  rw [mem_layL]
  have bd : ∀ d, (t, d) ∈ R → d < 2 ^ 63 := fun d hd => by have := (hO.wf _ hd).2; simp only at this; omega
  have hm63 := lv_63 (n := now) (d := n) (by omega) (by omega)
  constructor
  · rintro (h1 | ⟨h1, h2⟩)
    · unfold clrV at h1
      split at h1
      · simp at h1
      · obtain ⟨d, h3, h4⟩ := (r j hj t).1 h1
        exact ⟨d, h3, by rw [lv_stays (by omega) (by omega) (bd d h3) hnow (by omega)]; exact h4⟩
    · obtain ⟨i, hi, h3⟩ := mem_catV.1 (hL.mem_iff.1 h1)
      obtain ⟨d, h4, h5⟩ := (r i (by omega) t).1 h3
      rw [dueT_of hO h4] at h2
      exact ⟨d, h4, h2⟩
  · rintro ⟨d, h1, h2⟩
    by_cases hi : lv now d ≤ lv now n
    · refine .inr ⟨hL.mem_iff.2 (mem_catV.2 ⟨lv now d, by omega, (r _ (by omega) t).2 ⟨d, h1, rfl⟩⟩), by rw [dueT_of hO h1]; exact h2⟩
    · have e := lv_stays (n := now) (m := n) (d := d) (by omega) (by omega) (bd d h1) hnow (by omega)
      rw [e] at h2
      refine .inl ?_
      unfold clrV
      rw [if_neg (by omega)]
      exact (r j hj t).2 ⟨d, h1, h2⟩
/-- Those that are over are just those that are told. -/
theorem Right.over (r : Right n R V) (hO : Ok R) (hn : n ≤ 4611686018427387904) (hV : (V 0).Nodup) (hL : L.Perm (catV V 1)) : L.Perm (goT n R) := by
  have e : catV V 1 = V 0 := by simp [catV]
  rw [e] at hL
  refine hL.trans ((List.perm_ext_iff_of_nodup hV (hO.goT_nodup n)).2 fun t => ?_)
  rw [r 0 (by omega) t, mem_goT]
  constructor
  · rintro ⟨d, h1, h2⟩
    have := (hO.wf _ h1).2
    exact ⟨d, h1, (lv_zero (by omega) (by simp only at this; omega)).1 h2⟩
  · rintro ⟨d, h1, h2⟩
    exact ⟨d, h1, lv_over h2⟩
theorem Right.rest (r : Right n R V) (hO : Ok R) (hn : n ≤ 4611686018427387904) : Right n (goR n R) (clrV V 1) := by
  intro j hj t
  have key : ∀ d, (t, d) ∈ R → (lv n d = 0 ↔ d ≤ n) := fun d hd => by
    have := (hO.wf _ hd).2
    exact lv_zero (by omega) (by simp only at this; omega)
  unfold clrV
  split
  · have : j = 0 := by omega
    subst this
    constructor
    · simp
    · rintro ⟨d, h1, h2⟩
      obtain ⟨h3, h4⟩ := mem_goR.1 h1
      have := (key d h3).1 h2
      simp only at h4
      omega
  · rw [r j hj t]
    constructor
    · rintro ⟨d, h1, h2⟩
      refine ⟨d, mem_goR.2 ⟨h1, ?_⟩, h2⟩
      have := key d h1
      simp only
      omega
    · rintro ⟨d, h1, h2⟩
      exact ⟨d, (mem_goR.1 h1).1, h2⟩
theorem dropL_nil : dropL [] R = R := by unfold dropL; simp
theorem dropL_snoc : delT t (dropL L R) = dropL (L ++ [t]) R := by
  unfold delT dropL
  rw [List.filter_filter]
  congr 1
  funext x
  by_cases h1 : x.1 = t <;> by_cases h2 : x.1 ∈ L <;> simp [h1, h2, bne]
theorem mem_dropL {x : Tm} : x ∈ dropL L R ↔ x ∈ R ∧ x.1 ∉ L := by unfold dropL; simp
theorem dropL_goT (hO : Ok R) : dropL (goT n R) R = goR n R := by
  unfold dropL goR
  refine List.filter_congr fun x hx => ?_
  have : x.1 ∈ goT n R ↔ x.2 ≤ n := by
    rw [mem_goT]
    constructor
    · rintro ⟨d, h1, h2⟩
      rw [hO.one (show (x.1, x.2) ∈ R from hx) h1]
      exact h2
    · exact fun h => ⟨x.2, hx, h⟩
  by_cases h : x.2 ≤ n
  · have h1 : ¬ n < x.2 := by omega
    have h2 := this.2 h
    simp [h1, h2]
  · have h1 : n < x.2 := by omega
    have h2 : x.1 ∉ goT n R := fun e => h (this.1 e)
    simp [h1, h2]
theorem goE_ok (h : goE now n = 0) : n ≤ 4611686018427387904 ∧ now ≤ n := by
  unfold goE at h
  split at h
  · omega
  · split at h <;> omega
theorem goRR_ok (hO : Ok R) : Ok (goRR now n R) := by
  unfold goRR
  split
  · exact hO.go n
  · exact hO
end
end Go.Proofs.Ytalojeblemhihaa
