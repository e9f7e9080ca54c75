/-
  Each timer is told once, in order: plain words; the set of those that were told.
-/
import Derived.Test.YtalojeblemhihaaSteps
namespace Go.Proofs.Ytalojeblemhihaa
open Go.RowKit
open Go.Maps (Tidy)
set_option linter.unusedVariables false

/-- The timers that are set: the first k numbers, each at its time. -/
def InitR (k : Nat) (ds : List Int) (R : List Tm) : Prop := ∀ t d, (t, d) ∈ R ↔ (0 ≤ t ∧ t < (k : Int) ∧ ds.getD t.toNat 0 = (d : Int) ∧ d ≤ 4611686018427387904)
section
variable {k n x a j : Nat} {ds : List Int} {R R0 R2 : List Tm} {L : List Int}
theorem InitR.zero : InitR 0 ds [] := fun t d => by
  constructor
  · intro h; simp at h
  · rintro ⟨h1, h2, _⟩
    omega
theorem InitR.has (h : InitR k ds R) : hasT (k : Int) R = false := hasT_false.2 fun d hd => by have := (h _ _).1 hd; omega
theorem InitR.yes (h : InitR k ds R) (hx : ds.getD k 0 = (x : Int)) (hm : x ≤ 4611686018427387904) : InitR (k + 1) ds (setT (k : Int) x R) := fun t d => by
  rw [mem_setT]
  constructor
  · rintro (h1 | ⟨h1, h2⟩)
    · injection h1 with h1 h2
      subst h1 h2
      exact ⟨by omega, by omega, by simpa using hx, hm⟩
    · obtain ⟨a, b, c, e⟩ := (h t d).1 h1
      exact ⟨a, by omega, c, e⟩
  · rintro ⟨h1, h2, h3, h4⟩
    by_cases e : t = (k : Int)
    · subst e
      have : ds.getD k 0 = (d : Int) := by simpa using h3
      rw [hx] at this
      have : x = d := by omega
      subst this
      exact .inl rfl
    · exact .inr ⟨(h t d).2 ⟨h1, by omega, h3, h4⟩, e⟩
theorem InitR.no (h : InitR k ds R) (hx : ds.getD k 0 = (x : Int)) (hm : ¬ x ≤ 4611686018427387904) : InitR (k + 1) ds R := fun t d => by
  rw [h t d]
  constructor
  · rintro ⟨a, b, c, e⟩
    exact ⟨a, by omega, c, e⟩
  · rintro ⟨a, b, c, e⟩
    refine ⟨a, ?_, c, e⟩
    by_cases e2 : t = (k : Int)
    · subst e2
      have : ds.getD k 0 = (d : Int) := by simpa using c
      omega
    · omega
theorem goT_sorted (hO : Ok R) : (goT n R).Pairwise fun s t => ltT R s t := by
  unfold goT
  rw [List.pairwise_map]
  refine (hO.sorted.sublist List.filter_sublist).imp_of_mem (S := fun a b : Tm => ltT R a.1 b.1) fun {a b} ha hb h => ?_
  have e1 := dueT_of hO (t := a.1) (d := a.2) (List.mem_filter.1 ha).1
  have e2 := dueT_of hO (t := b.1) (d := b.2) (List.mem_filter.1 hb).1
  unfold ltT
  rw [e1, e2]
  exact h
/-- What a timer that is told is. -/
theorem Stp.told {b : Nat} (S : Stp R0 a k L R2) (hO : Ok R0) (hI : InitR n ds R0) (hab : a ≤ b) (hj : j < (goT b R2).length) :
    ∃ i d : Nat, (goT b R2).getD j 0 = (i : Int) ∧ i < n ∧ ds.getD i 0 = (d : Int) ∧ d ≤ b ∧ dueT (i : Int) R0 = d ∧ (i : Int) ∉ L ++ (goT b R2).take j := by
  have ht := S.tell b hab
  have hm : (goT b R2).getD j 0 ∈ goT b R0 := by rw [← ht]; exact List.mem_append.2 (.inr (getD_mem hj))
  obtain ⟨d, h1, h2⟩ := mem_goT.1 hm
  obtain ⟨g1, g2, g3, g4⟩ := (hI _ _).1 h1
  have hnd := hO.goT_nodup b
  rw [← ht] at hnd
  obtain ⟨i, hi⟩ := Int.eq_ofNat_of_zero_le g1
  have hn2 : (L ++ (goT b R2).take (j + 1)).Nodup := hnd.sublist ((List.Sublist.refl L).append (List.take_sublist _ _))
  rw [take_succ hj, ← List.append_assoc] at hn2
  have hnot : (goT b R2).getD j 0 ∉ L ++ (goT b R2).take j := fun h => (List.nodup_append.1 hn2).2.2 _ h _ (by simp) rfl
  rw [hi] at g2 g3 h1 hnot
  exact ⟨i, d, hi, by omega, by simpa using g3, h2, dueT_of hO h1, hnot⟩
theorem Stp.order {b : Nat} (S : Stp R0 a k L R2) (hO : Ok R0) (hab : a ≤ b) (hj : j + 1 < (goT b R2).length) : ltT R0 ((goT b R2).getD j 0) ((goT b R2).getD (j + 1) 0) := by
  have hs := goT_sorted (n := b) hO
  rw [← S.tell b hab] at hs
  have := List.pairwise_iff_getElem.1 (List.pairwise_append.1 hs).2.1 j (j + 1) (by omega) hj (by omega)
  simpa [List.getD, List.getElem?_eq_getElem hj, List.getElem?_eq_getElem (show j < (goT b R2).length by omega)] using this
/-- Behind a step just those are told that are due till then. -/
theorem Stp.all {b i d : Nat} (S : Stp R0 a k L R2) (hI : InitR n ds R0) (hab : a ≤ b) (hb : b ≤ 4611686018427387904) (hi : i < n) (hd : ds.getD i 0 = (d : Int)) : decide ((i : Int) ∈ L ++ goT b R2) = decide (d ≤ b) := by
  rw [S.tell b hab]
  have : (i : Int) ∈ goT b R0 ↔ d ≤ b := by
    rw [mem_goT]
    constructor
    · rintro ⟨e, h1, h2⟩
      obtain ⟨_, _, g3, _⟩ := (hI _ _).1 h1
      have : ds.getD i 0 = (e : Int) := by simpa using g3
      omega
    · intro h
      exact ⟨d, (hI _ _).2 ⟨by omega, by omega, by simpa using hd, by omega⟩, h⟩
  by_cases h : d ≤ b
  · simp [h, this.2 h]
  · have h2 : (i : Int) ∉ goT b R0 := fun e => h (this.1 e)
    simp [h, h2]
end

def boolE : Value → Option (DataW Unit × List MemPlace)
  | .bool b => some (.lit (.bool b), [])
  | _ => none
theorem boolE_inv {v : Value} {b : Bool} {ps : List MemPlace} (h : boolE v = some (.lit (.bool b), ps)) : v = .bool b := by
  unfold boolE at h
  cases v <;> simp at h
  rw [h.1]
/-- A map that says of each number whether it was told. -/
def ToAt (w : World) (b : Nat) (L : List Int) : Prop := ∃ D, w.ownsMap Try.prog 3 boolE b L.length D ∧ ∀ t, wfI t → D.atKey (.int .i64 t) (.lit (.bool false)) = .lit (.bool (decide (t ∈ L)))
theorem zero4 (w : World) : (zeroValue 4).run Try.prog w = .ok (.bool false) w := by kernel_rfl
section
variable {S : Nat → Prop} {w w' : World} {b : Nat} {L : List Int} {t : Int}
theorem ToAt.new (w : World) : ToAt (w.alloc (.map #[] 0)) w.heap.size [] := ⟨_, World.ownsMap_made w _ _ _, fun _ _ => rfl⟩
theorem ToAt.kept (h : ToAt w b L) (hk : Kept S w w') (hb : ¬ S b) : ToAt w' b L := let ⟨D, h1, h2⟩ := h; ⟨D, ownsMap_kept h1 hk hb, h2⟩
theorem ToAt.look (h : ToAt w b L) (hw : wfI t) : (Instr.lookup 45 (.map (some b)) (.int .i64 t) false).run Try.prog w = .ok (.bool (decide (t ∈ L))) w := by
  obtain ⟨D, h1, h2⟩ := h
  obtain ⟨v, ps, hr, hv⟩ := h1.lookup k3 Try.underlying45 (zero4 w) (zd := .lit (.bool false)) (zp := []) rfl (key3 hw)
  rw [h2 t hw] at hv
  rw [hr, boolE_inv hv]
theorem ToAt.put (h : ToAt w b L) (hw : wfI t) (hl : L.length ≤ 100000) : ∃ w', (Instr.mapUpdate 45 (.map (some b)) (.int .i64 t) (.bool true)).run Try.prog w = .ok () w' ∧ ToAt w' b (L ++ [t]) ∧ w.mapTurned w' b := by
  obtain ⟨D, h1, h2⟩ := h
  obtain ⟨w', hr, h3, h4⟩ := h1.store k3 Try.underlying45 (by unfold maxLen; omega) (key3 hw) (val := .bool true) (d := .lit (.bool true)) (ps := []) rfl
  refine ⟨w', hr, ⟨_, by rw [List.length_append]; exact h3, fun s hs => ?_⟩, h4⟩
  by_cases e : s = t
  · subst e
    rw [Maps.atKey_put_same (h1.tidy k3).isMap (isKey hw)]
    simp
  · rw [Maps.atKey_put_other (litne e), h2 s hs]
    simp [e]
end
theorem Rd.cellAt {k : IntKind} {w : World} {B b o : Nat} {n c : Nat} {xs : List Int} (h : Rd k w B (some ⟨b, o, none⟩) n c xs) {i : Nat} (hi : i < n) : w.cell? ⟨b, o + i, none⟩ = some (.int k (xs.getD i 0)) := by
  obtain ⟨b', o', e, -, hc⟩ := h.at_ hi
  injection e with e
  injection e with e1 e2
  subst e1 e2
  exact hc
end Go.Proofs.Ytalojeblemhihaa
