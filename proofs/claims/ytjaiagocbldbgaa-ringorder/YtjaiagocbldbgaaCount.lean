/-
  How many buffers an owner has, and what a ring that has its own ones keeps. Nothing is walked here.
-/
import Derived.Test.YtjaiagocbldbgaaRing
import Derived.Test.YtjaiagocbldbgaaIndex
namespace Go.Proofs.Ytjaiagocbldbgaa
open Go.RowKit
set_option linter.unusedVariables false

theorem held_count (L : Slots) (o : Int) : (held L o).length = L.countP (fun r => decide (r.1 = o)) := by
  have e : L = (List.range L.length).map (fun i => L.getD i (0, [])) := by
    apply List.ext_getElem
    · simp
    · intro i h1 h2
      simp [List.getD, h1]
  conv => rhs; rw [e]
  rw [List.countP_map, List.countP_eq_length_filter]
  simp [held, heldAt]
  rfl
theorem held_set (L : Slots) (o : Int) {i : Nat} (hi : i < L.length) (r : Int × List Int) : (held (L.set i r) o).length + (if ow L i = o then 1 else 0) = (held L o).length + (if r.1 = o then 1 else 0) := by
  have hg : L[i].1 = ow L i := by simp [ow, List.getD, hi]
  rw [held_count, held_count, List.countP_set hi]
  by_cases h : ow L i = o
  · have hp : 0 < L.countP (fun r => decide (r.1 = o)) := List.countP_pos_iff.2 ⟨L[i], List.getElem_mem _, by simp [hg, h]⟩
    simp only [hg, h, decide_true, if_true, decide_eq_true_eq]
    omega
  · simp only [hg, h, decide_false, Bool.false_eq_true, if_false, decide_eq_true_eq]
    omega
theorem held_le (L : Slots) (o : Int) : (held L o).length ≤ L.length := heldAt_len L o _
/-- No buffer is free. -/
theorem left_none {L : Slots} (h : ¬ free1 L < L.length) : left L = 0 := by
  unfold left
  rw [held_count, List.countP_eq_zero]
  intro r hr
  obtain ⟨i, hi, rfl⟩ := List.getElem_of_mem hr
  have h1 := free1_le L
  have h2 := free1_ahead L i (by omega)
  have e : L[i].1 = ow L i := by simp [ow, List.getD, hi]
  simpa [e] using h2
theorem heldV_own {L : Slots} {o : Int} (ho : isOwn o) : heldV L o = held L o := by unfold heldV; rw [if_pos ho]

/-- A ring that has its owner's buffers, each once, and all of them. -/
structure Inv (L : Slots) (R : List Nat) (o : Int) : Prop where
  own : ∀ x ∈ R, x < L.length ∧ ow L x = o
  nodup : R.Nodup
  cnt : (held L o).length = R.length
theorem Inv.lt {L : Slots} {R : List Nat} {o : Int} (h : Inv L R o) : ∀ x ∈ R, x < L.length := fun x hx => (h.own x hx).1
theorem Inv.new (n : Nat) (o : Int) (ho : isOwn o) : Inv (List.replicate n (0, [])) [] o := by
  refine ⟨fun x hx => absurd hx (by simp), List.nodup_nil, ?_⟩
  rw [held_count, List.countP_replicate]
  have := ho.1
  simp
  omega
/-- A buffer that is none of the ring's is set to another owner that isn't the ring's. -/
theorem Inv.away {L : Slots} {R : List Nat} {o : Int} (h : Inv L R o) {i : Nat} (hi : i < L.length) (hio : ow L i ≠ o) {r : Int × List Int} (hr : r.1 ≠ o) : Inv (L.set i r) R o := by
  refine ⟨fun x hx => ?_, h.nodup, ?_⟩
  · obtain ⟨h1, h2⟩ := h.own x hx
    refine ⟨by simpa using h1, ?_⟩
    rw [ow_set hi]
    by_cases e : x = i
    · rw [e] at h2; exact absurd h2 hio
    · rw [if_neg e]; exact h2
  · have := held_set L o hi r
    rw [if_neg hio, if_neg hr] at this
    have := h.cnt
    omega
/-- A buffer that is none of the ring's becomes its last one. -/
theorem Inv.push {L : Slots} {R : List Nat} {o : Int} (h : Inv L R o) {i : Nat} (hi : i < L.length) (hio : ow L i ≠ o) (b : List Int) : Inv (L.set i (o, b)) (R ++ [i]) o := by
  have hn : i ∉ R := fun hm => hio (h.own i hm).2
  refine ⟨fun x hx => ?_, ?_, ?_⟩
  · rw [List.length_set, ow_set hi]
    rcases List.mem_append.1 hx with hx | hx
    · obtain ⟨h1, h2⟩ := h.own x hx
      refine ⟨h1, ?_⟩
      by_cases e : x = i
      · rw [if_pos e]
      · rw [if_neg e]; exact h2
    · obtain rfl := List.mem_singleton.1 hx
      exact ⟨hi, if_pos rfl⟩
  · rw [List.nodup_append]
    exact ⟨h.nodup, by simp, fun a ha b hb e => by obtain rfl := List.mem_singleton.1 hb; exact hn (e ▸ ha)⟩
  · have := held_set L o hi (o, b)
    rw [if_neg hio, if_pos rfl] at this
    have := h.cnt
    simp
    omega
/-- The ring's first one is freed. -/
theorem Inv.pop {L : Slots} {x : Nat} {T : List Nat} {o : Int} (h : Inv L (x :: T) o) (ho : isOwn o) : frL L (x : Int) o = L.set x (0, []) ∧ Inv (L.set x (0, [])) T o := by
  obtain ⟨h1, h2⟩ := h.own x (.head _)
  have hne : ¬ (0 : Int) = o := by have := ho.1; omega
  have hnd := List.nodup_cons.1 h.nodup
  refine ⟨frL_yes (chE_ok ho h1 h2), fun y hy => ?_, hnd.2, ?_⟩
  · obtain ⟨h3, h4⟩ := h.own y (.tail _ hy)
    refine ⟨by simpa using h3, ?_⟩
    rw [ow_set h1]
    by_cases e : y = x
    · rw [e] at hy; exact absurd hy hnd.1
    · rw [if_neg e]; exact h4
  · have := held_set L o h1 (0, [])
    rw [if_pos h2, if_neg hne] at this
    have h5 := h.cnt
    simp at h5
    omega
/-- Put. -/
theorem Inv.put {L : Slots} {R : List Nat} {o : Int} {z n : Nat} {xs : List Int} (h : Inv L R o) (ho : isOwn o) (hn : xs.length = n) : Inv (ptL L R z o xs) (ptR L R z o n) o := by
  unfold ptL ptR
  by_cases hE : ptE L R z o n = 0
  · rw [if_pos hE]
    unfold ptE at hE
    by_cases hf : R.length < z
    · rw [if_pos hf] at hE ⊢
      obtain ⟨_, _, hl⟩ := tkE_of hE
      rw [tkL_yes (by rw [hn]; exact hE)]
      exact h.push hl (by rw [free1_ow L hl]; have := ho.1; omega) xs
    · rw [if_neg hf] at hE; omega
  · rw [if_neg hE]
    by_cases hf : R.length < z
    · rw [if_pos hf, tkL_no]
      · exact h
      · unfold ptE at hE; rw [if_pos hf] at hE; rw [hn]; exact hE
    · rw [if_neg hf]; exact h
theorem ptE_of {L : Slots} {R : List Nat} {z : Nat} {o : Int} {n : Nat} (h : ptE L R z o n = 0) : R.length < z ∧ tkE L o n = 0 := by
  unfold ptE at h
  by_cases hf : R.length < z
  · rw [if_pos hf] at h; exact ⟨hf, h⟩
  · rw [if_neg hf] at h; omega
theorem ptL_no {L : Slots} {R : List Nat} {z : Nat} {o : Int} {xs : List Int} (h : ¬ ptE L R z o xs.length = 0) : ptL L R z o xs = L := by
  unfold ptL
  by_cases hf : R.length < z
  · rw [if_pos hf, tkL_no]
    unfold ptE at h; rw [if_pos hf] at h; exact h
  · rw [if_neg hf]
theorem ptL_yes {L : Slots} {R : List Nat} {z : Nat} {o : Int} {xs : List Int} (h : ptE L R z o xs.length = 0) : ptL L R z o xs = L.set (free1 L) (o, xs) := by
  obtain ⟨h1, h2⟩ := ptE_of h
  unfold ptL
  rw [if_pos h1, tkL_yes h2]
theorem ptR_no {L : Slots} {R : List Nat} {z : Nat} {o : Int} {n : Nat} (h : ¬ ptE L R z o n = 0) : ptR L R z o n = R := by unfold ptR; rw [if_neg h]
theorem ptR_yes {L : Slots} {R : List Nat} {z : Nat} {o : Int} {n : Nat} (h : ptE L R z o n = 0) : ptR L R z o n = R ++ [free1 L] := by unfold ptR; rw [if_pos h]
theorem byt_same {L : Slots} {i : Nat} (hi : i < L.length) (r : Int × List Int) {x : Nat} (hx : x ≠ i) : byt (L.set i r) x = byt L x := by rw [byt_set hi, if_neg hx]
theorem byt_new {L : Slots} {i : Nat} (hi : i < L.length) (r : Int × List Int) : byt (L.set i r) i = r.2 := by rw [byt_set hi, if_pos rfl]
end Go.Proofs.Ytjaiagocbldbgaa
