/-
  Counting what is told; a map of times that is written anew.
-/
import Derived.Test.YtalojeblemhihaaSteps
namespace Go.Proofs.Ytalojeblemhihaa
open Go.RowKit
open Go.Maps (Tidy)
set_option linter.unusedVariables false

/-- How many of the k numbers from -1 on are timers that are due till then. -/
def cntT (R : List Tm) (m k : Nat) : Nat := ((List.range k).filter fun (j : Nat) => hasT ((j : Int) - 1) R && decide (dueT ((j : Int) - 1) R ≤ m)).length
theorem cntT_succ (R : List Tm) (m k : Nat) : cntT R m (k + 1) = cntT R m k + (if hasT ((k : Int) - 1) R && decide (dueT ((k : Int) - 1) R ≤ m) then 1 else 0) := by
  unfold cntT
  rw [List.range_succ, List.filter_append, List.length_append, List.filter_cons, List.filter_nil]
  split <;> rfl
theorem cntT_le (R : List Tm) (m k : Nat) : cntT R m k ≤ k := by
  unfold cntT
  have := List.length_filter_le (fun j : Nat => hasT ((j : Int) - 1) R && decide (dueT ((j : Int) - 1) R ≤ m)) (List.range k)
  simpa using this
theorem told_count {R : List Tm} (hO : Ok R) {m n : Nat} {again : Int} {due : Nat} (hag : (again, due) ∈ R) (hR : ∀ t d, (t, d) ∈ R → t = again ∨ (0 ≤ t ∧ t < (n : Int))) :
    (goT m R).length = cntT R m (n + 2) + (if (again < -1 ∨ (n : Int) < again) ∧ due ≤ m then 1 else 0) := by
  have hL : ∀ t, t ∈ ((List.range (n + 2)).filter fun (j : Nat) => hasT ((j : Int) - 1) R && decide (dueT ((j : Int) - 1) R ≤ m)).map (fun j : Nat => (j : Int) - 1) ↔ (t ∈ goT m R ∧ -1 ≤ t ∧ t ≤ (n : Int)) := by
    intro t
    rw [List.mem_map]
    constructor
    · rintro ⟨j, hj, rfl⟩
      obtain ⟨h1, h2⟩ := List.mem_filter.1 hj
      rw [Bool.and_eq_true, decide_eq_true_eq] at h2
      have h3 := List.mem_range.1 h1
      exact ⟨mem_goT.2 ⟨_, due_mem hO h2.1, h2.2⟩, by omega, by omega⟩
    · rintro ⟨h1, h2, h3⟩
      obtain ⟨d, h4, h5⟩ := mem_goT.1 h1
      have e : ((t + 1).toNat : Int) - 1 = t := by omega
      refine ⟨(t + 1).toNat, List.mem_filter.2 ⟨List.mem_range.2 (by omega), ?_⟩, e⟩
      rw [e, Bool.and_eq_true, decide_eq_true_eq, dueT_of hO h4]
      exact ⟨hasT_iff.2 ⟨d, h4⟩, h5⟩
  have hN : (((List.range (n + 2)).filter fun (j : Nat) => hasT ((j : Int) - 1) R && decide (dueT ((j : Int) - 1) R ≤ m)).map (fun j : Nat => (j : Int) - 1)).Nodup := by
    unfold List.Nodup
    rw [List.pairwise_map]
    refine (List.nodup_range.sublist List.filter_sublist).imp fun {a b} h => ?_
    omega
  have hlen : cntT R m (n + 2) = (((List.range (n + 2)).filter fun (j : Nat) => hasT ((j : Int) - 1) R && decide (dueT ((j : Int) - 1) R ≤ m)).map (fun j : Nat => (j : Int) - 1)).length := by
    rw [List.length_map]
    rfl
  rw [hlen]
  generalize ((List.range (n + 2)).filter fun (j : Nat) => hasT ((j : Int) - 1) R && decide (dueT ((j : Int) - 1) R ≤ m)).map (fun j : Nat => (j : Int) - 1) = L at *
  by_cases hout : (again < -1 ∨ (n : Int) < again) ∧ due ≤ m
  · rw [if_pos hout]
    have hnot : again ∉ L := fun h => by
      have := (hL again).1 h
      omega
    have : (goT m R).Perm (again :: L) := (List.perm_ext_iff_of_nodup (hO.goT_nodup m) (List.nodup_cons.2 ⟨hnot, hN⟩)).2 fun t => by
      rw [List.mem_cons, hL]
      constructor
      · intro h1
        obtain ⟨d, h4, h5⟩ := mem_goT.1 h1
        rcases hR t d h4 with e | e
        · exact .inl e
        · exact .inr ⟨h1, by omega, by omega⟩
      · rintro (rfl | h1)
        · exact mem_goT.2 ⟨due, hag, hout.2⟩
        · exact h1.1
    rw [this.length_eq]
    rfl
  · rw [if_neg hout]
    have : (goT m R).Perm L := (List.perm_ext_iff_of_nodup (hO.goT_nodup m) hN).2 fun t => by
      rw [hL]
      constructor
      · intro h1
        obtain ⟨d, h4, h5⟩ := mem_goT.1 h1
        rcases hR t d h4 with rfl | e
        · have := hO.one hag h4
          subst this
          exact ⟨h1, by omega, by omega⟩
        · exact ⟨h1, by omega, by omega⟩
      · exact fun h => h.1
    rw [this.length_eq]
    rfl

theorem DuD.set {D : DataW Unit} {R : List Tm} {t : Int} {d : Nat} (h : DuD D R) (hT : Tidy D) (hO : Ok R) (hw : wfI t) : DuD (D.put (.int .i64 t) (.lit (.int .u64 d))) (setT t d R) := by
  refine ⟨?_, fun s hs => ?_, fun x hx z => ?_⟩
  · rw [Maps.size_put hT, h.has t hw, hO.len_set, h.size]
  · rw [hasT_set]
    by_cases e : s = t
    · subst e
      rw [Maps.has_put_same hT.isMap (isKey hw)]
      simp
    · rw [Maps.has_put_other (litne e), h.has s hs]
      have : (s == t) = false := by simpa using e
      simp [this]
  · rcases mem_setT.1 hx with rfl | ⟨hx, hne⟩
    · exact Maps.atKey_put_same hT.isMap (isKey hw) _ _
    · rw [Maps.atKey_put_other (litne hne)]
      exact h.at_ x hx z
theorem DuAt.set {w : World} {b : Nat} {R : List Tm} {t : Int} {d : Nat} (h : DuAt w b R) (hO : Ok R) (hw : wfI t) (hl : R.length ≤ 100000) (hd : d ≤ 4611686018427387904) : ∃ w', (Instr.mapUpdate 56 (.map (some b)) (.int .i64 t) (.int .u64 d)).run Try.prog w = .ok () w' ∧ DuAt w' b (setT t d R) ∧ w.mapTurned w' b := by
  obtain ⟨D, h1, h2⟩ := h
  obtain ⟨w', hr, h3, h4⟩ := h1.store k3 Try.underlying56 (by unfold maxLen; omega) (key3 hw) (plainElem_int Try.underlying22 (a := (d : Int)) (by simp [Lit.wf, IntKind.min, IntKind.max, IntKind.signed, IntKind.bits]; omega))
  have h5 := h2.set (d := d) (h1.tidy k3) hO hw
  exact ⟨w', hr, ⟨_, by rw [← h5.size]; exact h3.tight, h5⟩, h4⟩
end Go.Proofs.Ytalojeblemhihaa
