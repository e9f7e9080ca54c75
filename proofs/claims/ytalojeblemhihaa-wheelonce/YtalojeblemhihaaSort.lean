/-
  Contracts of the order of a wheel's timers, and of the sort by it.
-/
import Derived.Test.YtalojeblemhihaaLift
import Derived.Lib.SortBridge
import Derived.Sort.OwnSortedInts
namespace Go.Proofs.Ytalojeblemhihaa
open Go.RowKit
set_option linter.unusedVariables false

def orI (x y : Int) : Int := if x = 0 then y else x
/-- The answer of the order: when they are due, then their numbers. -/
def cfT (R : List Tm) (a b : Int) : Int := if Lib.compareInt (dueT a R : Nat) (dueT b R : Nat) = 0 then Lib.compareInt a b else Lib.compareInt (dueT a R : Nat) (dueT b R : Nat)
def ltT (R : List Tm) (a b : Int) : Prop := dueT a R < dueT b R ∨ (dueT a R = dueT b R ∧ a < b)
theorem cmp_lt {x y : Int} : Lib.compareInt x y < 0 ↔ x < y := by unfold Lib.compareInt; split <;> (try split) <;> omega
theorem cmp_eq {x y : Int} : Lib.compareInt x y = 0 ↔ x = y := by unfold Lib.compareInt; split <;> (try split) <;> omega
theorem cfT_lt {R : List Tm} {a b : Int} : cfT R a b < 0 ↔ ltT R a b := by
  unfold cfT ltT
  by_cases h : (dueT a R : Int) = (dueT b R : Int)
  · rw [if_pos (cmp_eq.2 h), cmp_lt]
    omega
  · rw [if_neg (fun e => h (cmp_eq.1 e)), cmp_lt]
    omega
/-- The library's numbers of 64 bits: what a timer's number is. -/
abbrev B64 := BitVec 64
def encB (x : B64) : Value := .int .i64 x.toInt
def cfB (R : List Tm) (x y : B64) : Int := cfT R x.toInt y.toInt
theorem wf_toInt (x : B64) : wfI x.toInt := by
  have h1 := BitVec.le_two_mul_toInt (x := x)
  have h2 := BitVec.two_mul_toInt_lt (x := x)
  show (Lit.int .i64 x.toInt).wf = true
  simp [Lit.wf, IntKind.min, IntKind.max, IntKind.signed, IntKind.bits]
  omega
theorem toInt_of {t : Int} (h : wfI t) : (BitVec.ofInt 64 t).toInt = t := by
  have := i64_bd h
  rw [BitVec.toInt_ofInt]
  exact Int.bmod_eq_of_le (by omega) (by omega)
theorem ltB {R : List Tm} {x y : B64} : ltOf (cfB R) x y = true ↔ ltT R x.toInt y.toInt := by
  unfold ltOf cfB
  rw [decide_eq_true_eq, cfT_lt]
theorem ltBf {R : List Tm} {x y : B64} : ltOf (cfB R) x y = false ↔ ¬ ltT R x.toInt y.toInt := by
  rw [← ltB]
  simp
theorem swoB (R : List Tm) : Sort.SWO (ltOf (cfB R)) where
  irrefl x := by rw [ltBf]; unfold ltT; omega
  trans x y z h1 h2 := by rw [ltB] at *; unfold ltT at *; omega
  ntrans x y z h1 h2 := by rw [ltBf] at *; unfold ltT at *; omega
theorem totB (R : List Tm) (x y : B64) (h1 : ltOf (cfB R) x y = false) (h2 : ltOf (cfB R) y x = false) : x = y := by
  rw [ltBf] at *
  unfold ltT at *
  exact BitVec.eq_of_toInt_eq (by omega)
/-- The timers that are told, as the sort leaves them. -/
theorem sorted_goT {R : List Tm} {n : Nat} (hO : Ok R) {L : List Int} (hw : ∀ t ∈ L, wfI t) (hL : L.Perm (goT n R)) :
    ((L.map (BitVec.ofInt 64)).mergeSort fun x y => !(ltOf (cfB R)) y x).map BitVec.toInt = goT n R := by
  have hp : (((L.map (BitVec.ofInt 64)).mergeSort fun x y => !(ltOf (cfB R)) y x).map BitVec.toInt).Perm (goT n R) := by
    refine ((List.mergeSort_perm _ _).map _).trans (List.Perm.trans ?_ hL)
    rw [List.map_map]
    have : L.map (BitVec.toInt ∘ BitVec.ofInt 64) = L := by
      conv => rhs; rw [← List.map_id L]
      exact List.map_congr_left fun t ht => toInt_of (hw t ht)
    rw [this]
  refine List.Perm.eq_of_pairwise (le := fun a b => ¬ ltT R b a) ?_ ?_ ?_ hp
  · intro a b _ _ h1 h2
    unfold ltT at h1 h2
    omega
  · rw [List.pairwise_map]
    have := List.pairwise_mergeSort (le := fun x y => !(ltOf (cfB R)) y x) (by
      intro a b c h1 h2
      rw [Bool.not_eq_true', ltBf] at *
      unfold ltT at *
      omega) (by
      intro a b
      rw [Bool.or_eq_true, Bool.not_eq_true', Bool.not_eq_true', ltBf, ltBf]
      unfold ltT
      omega) (L.map (BitVec.ofInt 64))
    refine this.imp fun {a b} h => ?_
    rw [Bool.not_eq_true', ltBf] at h
    exact h
  · unfold goT
    rw [List.pairwise_map]
    refine ((hO.sorted.sublist List.filter_sublist).imp_of_mem (S := fun a b : Tm => ¬ ltT R b.1 a.1) fun {a b} ha hb h => ?_)
    have e1 := dueT_of hO (t := a.1) (d := a.2) (List.mem_filter.1 ha).1
    have e2 := dueT_of hO (t := b.1) (d := b.2) (List.mem_filter.1 hb).1
    unfold ltT
    rw [e1, e2]
    unfold tlt at h
    omega
section
variable {w : World} {p lo hi now : Nat} {R : List Tm} {V : Nat → List Int} {bd : Nat} {g : Nat → Nat}
theorem nan52 (x : Int) (w : World) : Calls Try.prog 52 #[.int .u64 x] w fun e w' => e = .returned (.bool false) ∧ w' = w := by
  go_enter Try.func52, Try.ntmps52
  go_wp2
  go_ret
  exact ⟨rfl, rfl⟩
theorem nan53 (x : Int) (w : World) : Calls Try.prog 53 #[.int .i64 x] w fun e w' => e = .returned (.bool false) ∧ w' = w := by
  go_enter Try.func53, Try.ntmps53
  go_wp2
  go_ret
  exact ⟨rfl, rfl⟩
set_option maxHeartbeats 400000 in
theorem cmp41 (x y : Int) (w : World) : Calls Try.prog 41 #[.int .u64 x, .int .u64 y] w fun e w' => e = .returned (.int .i64 (Lib.compareInt x y)) ∧ w' = w := by
  have C := nan52
  unfold Lib.compareInt
  by_cases h1 : x < y
  · have h2 : ¬ y < x := by omega
    rw [if_pos h1]
    go_enter Try.func41, Try.ntmps41
    go_wp2_with (go_at_call 52; refine (C _ _).mono ?_; rintro e w' ⟨rfl, rfl⟩)
    go_ret
    exact ⟨rfl, rfl⟩
  · rw [if_neg h1]
    by_cases h2 : y < x
    · rw [if_pos h2]
      go_enter Try.func41, Try.ntmps41
      go_wp2_with (go_at_call 52; refine (C _ _).mono ?_; rintro e w' ⟨rfl, rfl⟩)
      go_ret
      exact ⟨rfl, rfl⟩
    · rw [if_neg h2]
      go_enter Try.func41, Try.ntmps41
      go_wp2_with (go_at_call 52; refine (C _ _).mono ?_; rintro e w' ⟨rfl, rfl⟩)
      go_ret
      exact ⟨rfl, rfl⟩
set_option maxHeartbeats 400000 in
theorem cmp42 (x y : Int) (w : World) : Calls Try.prog 42 #[.int .i64 x, .int .i64 y] w fun e w' => e = .returned (.int .i64 (Lib.compareInt x y)) ∧ w' = w := by
  have C := nan53
  unfold Lib.compareInt
  by_cases h1 : x < y
  · have h2 : ¬ y < x := by omega
    rw [if_pos h1]
    go_enter Try.func42, Try.ntmps42
    go_wp2_with (go_at_call 53; refine (C _ _).mono ?_; rintro e w' ⟨rfl, rfl⟩)
    go_ret
    exact ⟨rfl, rfl⟩
  · rw [if_neg h1]
    by_cases h2 : y < x
    · rw [if_pos h2]
      go_enter Try.func42, Try.ntmps42
      go_wp2_with (go_at_call 53; refine (C _ _).mono ?_; rintro e w' ⟨rfl, rfl⟩)
      go_ret
      exact ⟨rfl, rfl⟩
    · rw [if_neg h2]
      go_enter Try.func42, Try.ntmps42
      go_wp2_with (go_at_call 53; refine (C _ _).mono ?_; rintro e w' ⟨rfl, rfl⟩)
      go_ret
      exact ⟨rfl, rfl⟩
set_option maxHeartbeats 400000 in
theorem or_any (b : Nat) (x y : Int) (w : World) (h0 : w.cell? ⟨b, 0, none⟩ = some (.int .i64 x)) (h1 : w.cell? ⟨b, 1, none⟩ = some (.int .i64 y)) :
    Calls Try.prog 40 #[.slice (some ⟨b, 0, none⟩) 2 2] w fun e w' => e = .returned (.int .i64 (orI x y)) ∧ w' = w := by
  unfold orI
  by_cases hx : x = 0
  · subst hx
    rw [if_pos rfl]
    by_cases hy : y = 0
    · subst hy
      go_enter Try.func40, Try.ntmps40
      go_wp2
      refine wp_loop_rounds 3 ?_
      rw [rounds_succ]
      go_wp2
      rw [rounds_succ]
      go_wp2
      rw [rounds_succ]
      go_wp2
      go_ret
      exact ⟨rfl, rfl⟩
    · go_enter Try.func40, Try.ntmps40
      go_wp2
      refine wp_loop_rounds 3 ?_
      rw [rounds_succ]
      go_wp2
      rw [rounds_succ]
      go_wp2
      go_ret
      exact ⟨rfl, rfl⟩
  · rw [if_neg hx]
    go_enter Try.func40, Try.ntmps40
    go_wp2
    refine wp_loop_rounds 3 ?_
    rw [rounds_succ]
    go_wp2
    go_ret
    exact ⟨rfl, rfl⟩
end
end Go.Proofs.Ytalojeblemhihaa
