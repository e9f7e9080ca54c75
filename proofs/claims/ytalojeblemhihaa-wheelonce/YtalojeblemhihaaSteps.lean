/-
  The time in many steps, in plain words.
-/
import Derived.Test.YtalojeblemhihaaOpenC
namespace Go.Proofs.Ytalojeblemhihaa
set_option linter.unusedVariables false

section
variable {R R' R0 : List Tm} {a b m n : Nat}
theorem Ok.split (h : Ok R) (a : Nat) : (R.filter fun x => decide (x.2 ≤ a)) ++ (R.filter fun x => decide (a < x.2)) = R := by
  have key : ∀ l : List Tm, l.Pairwise tlt → (l.filter fun x => decide (x.2 ≤ a)) ++ (l.filter fun x => decide (a < x.2)) = l := by
    intro l
    induction l with
    | nil => intro _; rfl
    | cons x r ih =>
      intro hp
      obtain ⟨p1, p2⟩ := List.pairwise_cons.1 hp
      by_cases hx : x.2 ≤ a
      · have hx2 : ¬ a < x.2 := by omega
        rw [List.filter_cons, List.filter_cons]
        simp only [hx, hx2, decide_true, decide_false, if_true, Bool.false_eq_true, if_false]
        rw [List.cons_append, ih p2]
      · have hx2 : a < x.2 := by omega
        have hr : ∀ y ∈ r, a < y.2 := fun y hy => by
          have := p1 y hy
          unfold tlt at this
          omega
        have e1 : (r.filter fun x => decide (x.2 ≤ a)) = [] := List.filter_eq_nil_iff.2 fun y hy => by have := hr y hy; simp; omega
        have e2 : (r.filter fun x => decide (a < x.2)) = r := List.filter_eq_self.2 fun y hy => by simpa using hr y hy
        rw [List.filter_cons, List.filter_cons]
        simp only [hx, hx2, decide_true, decide_false, if_true, Bool.false_eq_true, if_false]
        rw [e1, e2]
        rfl
  exact key R h.sorted
theorem goR_goR (hab : a ≤ b) : goR b (goR a R) = goR b R := by
  unfold goR
  rw [List.filter_filter]
  refine List.filter_congr fun x _ => ?_
  by_cases h : b < x.2
  · have : a < x.2 := by omega
    simp [h, this]
  · simp [h]
theorem goT_goR (h : Ok R) (hab : a ≤ b) : goT a R ++ goT b (goR a R) = goT b R := by
  conv => rhs; rw [← h.split a]
  unfold goT goR
  rw [List.filter_append, List.map_append]
  congr 2
  rw [List.filter_filter]
  refine List.filter_congr fun x _ => ?_
  by_cases h : x.2 ≤ a
  · have : x.2 ≤ b := by omega
    simp [h, this]
  · simp [h]
theorem goT_self : goT a (goR a R) = [] := by
  unfold goT goR
  rw [List.filter_filter, List.map_eq_nil_iff, List.filter_eq_nil_iff]
  intro x _
  simp
/-- The time has gone on in steps, from R0 on, to a; all that was told is L, what is left is R. -/
structure Stp (R0 : List Tm) (a k : Nat) (L : List Int) (R : List Tm) : Prop where
  tell : ∀ b, a ≤ b → L ++ goT b R = goT b R0
  left : ∀ b, a ≤ b → goR b R = goR b R0
  none : 0 < k → goT a R = [] ∧ goR a R = R
  ok : Ok R
theorem Stp.start (h : Ok R0) (a : Nat) : Stp R0 a 0 [] R0 := ⟨fun _ _ => rfl, fun _ _ => rfl, fun h => by omega, h⟩
theorem Stp.step {k : Nat} {L : List Int} (h : Stp R0 a k L R) (hab : a ≤ b) : Stp R0 b (k + 1) (L ++ goT b R) (goR b R) := by
  refine ⟨fun c hc => ?_, fun c hc => ?_, fun _ => ⟨goT_self, ?_⟩, h.ok.go b⟩
  · rw [List.append_assoc, goT_goR h.ok hc]
    exact h.tell c (by omega)
  · rw [goR_goR hc]
    exact h.left c (by omega)
  · exact goR_goR (Nat.le_refl _)
theorem Stp.done {k : Nat} {L : List Int} (h : Stp R0 a k L R) (hk : 0 < k) : L = goT a R0 ∧ R = goR a R0 := by
  obtain ⟨h1, h2⟩ := h.none hk
  have h3 := h.tell a (Nat.le_refl _)
  rw [h1, List.append_nil] at h3
  exact ⟨h3, by rw [← h2]; exact h.left a (Nat.le_refl _)⟩
theorem goT_len : (goT n R).length ≤ R.length := by have := len_go (n := n) (R := R); omega
theorem Stp.len {k : Nat} {L : List Int} (h : Stp R0 a k L R) : L.length ≤ R0.length := by
  have := congrArg List.length (h.tell a (Nat.le_refl _))
  rw [List.length_append] at this
  have := goT_len (n := a) (R := R0)
  omega
end
end Go.Proofs.Ytalojeblemhihaa
