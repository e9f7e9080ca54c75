/-
  A region that draws its order, a stretch of which stands in one order anyway: that stretch is walked as it is written. Nothing of the program.
-/
import Derived.StillTail
import Derived.OrdersHeld
import Derived.Test.YtalojeblemhihaaBase
namespace Go.Proofs.Ytalojeblemhihaa
open Go.RowKit

variable {P : Program} {md : Region.Mode} {Q : Exit → Act → World → Prop}

/-- From place k on, m operations can come up one by one alone. -/
def forcedB (md : Region.Mode) (ops : Array Oper) : Nat → Nat → Array Bool → Bool
  | 0, _, _ => true
  | m + 1, k, x => decide (Region.ready md ops x = [k]) && forcedB md ops m (k + 1) (x.setIfInBounds k true)
def marked : Nat → Nat → Array Bool → Array Bool
  | 0, _, x => x
  | m + 1, k, x => marked m (k + 1) (x.setIfInBounds k true)

theorem wp_then {o : Oper} {a : Act} {w : World} {K K' K0 : Act → World → Prop} (h : ∀ a w, K a w → K' a w) (hh : o.wp P a w K (Exit.then K0 Q)) : o.wp P a w K' Q := by
  have h1 := Oper.wp_mono h hh
  unfold Oper.wp at *
  generalize (execOp a.eval o).run P w = r at *
  cases r with
  | ok n w' =>
    cases n with
    | enter f args =>
      simp only [Oper.upon] at h1 ⊢
      exact Calls.mono h1 (fun e w'' he => by
        cases e with
        | returned v => exact he
        | panicked c => exact he
        | outgrown => exact he)
    | _ => exact h1
  | halt x w' => cases x <;> exact h1

theorem wpAny_forced {ops : Array Oper} : ∀ (l : List Oper) (k fuel : Nat) (listed : Array Bool) (a : Act) (w : World), (∀ j, j < l.length → l[j]? = ops[k + j]?) → forcedB md ops l.length k listed = true →
    wpList P ops (Exit.then (wpAny P md ops Q fuel (marked l.length k listed)) Q) l a w → wpAny P md ops Q (l.length + fuel) listed a w
  | [], k, fuel, listed, a, w, _, _, h => by rw [List.length_nil, Nat.zero_add]; exact h
  | o :: l, k, fuel, listed, a, w, hl, hB, h => by
    have h0 : ops[k]? = some o := by simpa using (hl 0 (by simp)).symm
    simp only [List.length_cons, forcedB, Bool.and_eq_true, decide_eq_true_eq] at hB
    rw [List.length_cons, Nat.add_right_comm]
    refine ⟨fun h1 => (by rw [hB.1] at h1; cases h1), fun i hi => ?_⟩
    rw [hB.1] at hi
    have hik : i = k := by simpa using hi
    subst hik
    have hrec : ∀ a' w', wpList P ops (Exit.then (wpAny P md ops Q fuel (marked l.length (i + 1) (listed.setIfInBounds i true))) Q) l a' w' → wpAny P md ops Q (l.length + fuel) (listed.setIfInBounds i true) a' w' := fun a' w' h' =>
      wpAny_forced l (i + 1) fuel _ a' w' (fun j hj => by have := hl (j + 1) (by simp; omega); simpa [Nat.add_assoc, Nat.add_comm 1 j] using this) hB.2 h'
    have h2 := h
    rw [wpList] at h2
    unfold wpOp
    simp only [h0]
    split at h2
    · rename_i hw
      rw [if_pos hw]
      rcases h2 with h2 | ⟨h2, a', w', h3⟩
      · exact .inl (wp_then hrec h2)
      · exact .inr ⟨h2, a', w', h3⟩
    · rename_i hw
      rw [if_neg hw]
      exact hrec _ _ h2

/-- The stretch of m operations from place k on. -/
theorem wpAny_stretch {L : List Oper} (k m fuel : Nat) {N : Nat} {listed : Array Bool} {a : Act} {w : World} (hN : N = m + fuel) (hm : ((L.drop k).take m).length = m) (hB : forcedB md L.toArray m k listed = true)
    (h : wpList P L.toArray (Exit.then (wpAny P md L.toArray Q fuel (marked m k listed)) Q) ((L.drop k).take m) a w) : wpAny P md L.toArray Q N listed a w := by
  subst hN
  have := wpAny_forced (P := P) (md := md) (Q := Q) (ops := L.toArray) ((L.drop k).take m) k fuel listed a w
  rw [hm] at this
  refine this (fun j hj => ?_) hB h
  rw [List.getElem?_take_of_lt hj, List.getElem?_drop]
  simp

/-- Where one operation alone can come up, in a region that is walked under a condition. -/
theorem wpAnyH_one {S : World → Prop} {ops : Array Oper} {i : Nat} {o : Oper} {fuel : Nat} {listed : Array Bool} {a : Act} {w : World} (hr : Region.ready md ops listed = [i]) (hi : ops[i]? = some o)
    (h : wpList P ops (Exit.then (fun a' w' => S w' ∧ wpAnyH P md ops Q S fuel (listed.setIfInBounds i true) a' w') Q) [o] a w) : wpAnyH P md ops Q S (fuel + 1) listed a w := by
  refine ⟨fun h1 => (by rw [hr] at h1; cases h1), fun j hj => ?_⟩
  rw [hr] at hj
  have hji : j = i := by simpa using hj
  subst hji
  have h2 := h
  rw [wpList] at h2
  unfold wpOp
  simp only [hi]
  split at h2
  · rename_i hw
    rw [if_pos hw]
    rcases h2 with h2 | ⟨h2, a', w', h3⟩
    · exact .inl (wp_then (fun _ _ h => h) h2)
    · exact .inr ⟨h2, a', w', h3⟩
  · rename_i hw
    rw [if_neg hw]
    exact h2

/-- 'wpAnyH_take' with the slot written out. -/
theorem wpAnyH_at {S : World → Prop} {ops : Array Oper} {i : Nat} (d : Option Tmp) {oi : Oper} {v : Value} {fuel : Nat} {listed : Array Bool} {a : Act} {w : World} (hi : ops[i]? = some oi) (hd : oi.dst = d)
    (hs : Region.noSelect ops = true) (hf : Region.free md ops listed i = true) (hr : (Region.ready md ops listed).contains i = true)
    (hQ : ∀ c a w, Q (.panic c) (a.put d v) w → Q (.panic c) a w) (hy : YieldsIf P ops S oi v a) (hS : S w)
    (h : wpAnyH P md ops Q S fuel (listed.setIfInBounds i true) (a.put d v) w) : wpAnyH P md ops Q S (fuel + 1) listed a w := by
  subst hd
  exact wpAnyH_take hi hs hf hr hQ hy hS h
/-- 'wpAny_take' with the slot written out. -/
theorem wpAny_at {ops : Array Oper} {i : Nat} (d : Option Tmp) {oi : Oper} {v : Value} {fuel : Nat} {listed : Array Bool} {a : Act} {w : World} (hi : ops[i]? = some oi) (hd : oi.dst = d)
    (hs : Region.noSelect ops = true) (hf : Region.free md ops listed i = true) (hr : (Region.ready md ops listed).contains i = true)
    (hQ : ∀ c a w, Q (.panic c) (a.put d v) w → Q (.panic c) a w) (hy : Yields P ops oi v a)
    (h : wpAny P md ops Q fuel (listed.setIfInBounds i true) (a.put d v) w) : wpAny P md ops Q (fuel + 1) listed a w := by
  subst hd
  exact wpAny_take hi hs hf hr hQ hy h

/-- Where two operations can come up. -/
theorem wpAnyH_two {S : World → Prop} {ops : Array Oper} {i j : Nat} {o p : Oper} {fuel : Nat} {listed : Array Bool} {a : Act} {w : World} (hr : Region.ready md ops listed = [i, j]) (hi : ops[i]? = some o) (hj : ops[j]? = some p)
    (h : wpList P ops (Exit.then (fun a' w' => S w' ∧ wpAnyH P md ops Q S fuel (listed.setIfInBounds i true) a' w') Q) [o] a w)
    (h' : wpList P ops (Exit.then (fun a' w' => S w' ∧ wpAnyH P md ops Q S fuel (listed.setIfInBounds j true) a' w') Q) [p] a w) : wpAnyH P md ops Q S (fuel + 1) listed a w := by
  have key : ∀ (k : Nat) (q : Oper), ops[k]? = some q → wpList P ops (Exit.then (fun a' w' => S w' ∧ wpAnyH P md ops Q S fuel (listed.setIfInBounds k true) a' w') Q) [q] a w →
      wpOp P ops Q k (fun a' w' => S w' ∧ wpAnyH P md ops Q S fuel (listed.setIfInBounds k true) a' w') a w := by
    intro k q hk h2
    rw [wpList] at h2
    unfold wpOp
    simp only [hk]
    split at h2
    · rename_i hw
      rw [if_pos hw]
      rcases h2 with h2 | ⟨h2, a', w', h3⟩
      · exact .inl (wp_then (fun _ _ h => h) h2)
      · exact .inr ⟨h2, a', w', h3⟩
    · rename_i hw
      rw [if_neg hw]
      exact h2
  refine ⟨fun h1 => (by rw [hr] at h1; cases h1), fun k hk => ?_⟩
  rw [hr] at hk
  rcases List.mem_cons.1 hk with rfl | hk
  · exact key _ _ hi h
  · obtain rfl : k = j := by simpa using hk
    exact key _ _ hj h'
/-- Where three operations can come up. -/
theorem wpAnyH_three {S : World → Prop} {ops : Array Oper} {i j l : Nat} {o p r : Oper} {fuel : Nat} {listed : Array Bool} {a : Act} {w : World} (hr : Region.ready md ops listed = [i, j, l]) (hi : ops[i]? = some o) (hj : ops[j]? = some p) (hl : ops[l]? = some r)
    (h : wpList P ops (Exit.then (fun a' w' => S w' ∧ wpAnyH P md ops Q S fuel (listed.setIfInBounds i true) a' w') Q) [o] a w)
    (h' : wpList P ops (Exit.then (fun a' w' => S w' ∧ wpAnyH P md ops Q S fuel (listed.setIfInBounds j true) a' w') Q) [p] a w)
    (h'' : wpList P ops (Exit.then (fun a' w' => S w' ∧ wpAnyH P md ops Q S fuel (listed.setIfInBounds l true) a' w') Q) [r] a w) : wpAnyH P md ops Q S (fuel + 1) listed a w := by
  have key : ∀ (k : Nat) (q : Oper), ops[k]? = some q → wpList P ops (Exit.then (fun a' w' => S w' ∧ wpAnyH P md ops Q S fuel (listed.setIfInBounds k true) a' w') Q) [q] a w →
      wpOp P ops Q k (fun a' w' => S w' ∧ wpAnyH P md ops Q S fuel (listed.setIfInBounds k true) a' w') a w := by
    intro k q hk h2
    rw [wpList] at h2
    unfold wpOp
    simp only [hk]
    split at h2
    · rename_i hw
      rw [if_pos hw]
      rcases h2 with h2 | ⟨h2, a', w', h3⟩
      · exact .inl (wp_then (fun _ _ h => h) h2)
      · exact .inr ⟨h2, a', w', h3⟩
    · rename_i hw
      rw [if_neg hw]
      exact h2
  refine ⟨fun h1 => (by rw [hr] at h1; cases h1), fun k hk => ?_⟩
  rw [hr] at hk
  rcases List.mem_cons.1 hk with rfl | hk
  · exact key _ _ hi h
  · rcases List.mem_cons.1 hk with rfl | hk
    · exact key _ _ hj h'
    · obtain rfl : k = l := by simpa using hk
      exact key _ _ hl h''
end Go.Proofs.Ytalojeblemhihaa
