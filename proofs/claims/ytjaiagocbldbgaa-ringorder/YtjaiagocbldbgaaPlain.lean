/-
  A pool as a plain list: of each buffer its owner and its bytes. Nothing of the program is said here.
-/
import Derived.Test.YtjaiagocbldbgaaKp
namespace Go.Proofs.Ytjaiagocbldbgaa
open Go.RowKit
set_option linter.unusedVariables false

abbrev Slots := List (Int × List Int)
def ow (L : Slots) (i : Nat) : Int := (L.getD i (0, [])).1
def byt (L : Slots) (i : Nat) : List Int := (L.getD i (0, [])).2
/-- What holds of each buffer. -/
def RowOk (o : Int) (b : List Int) : Prop := (0 ≤ o ∧ o ≤ 255) ∧ (o = 0 → b = []) ∧ b.length ≤ 1514
def Good (L : Slots) : Prop := L.length ≤ 1024 ∧ ∀ i, RowOk (ow L i) (byt L i)
@[reducible] def isOwn (o : Int) : Prop := 1 ≤ o ∧ o ≤ 255

/-- The least free buffer; as many as there are, if there is none. -/
def free1 : Slots → Nat
  | [] => 0
  | r :: t => if r.1 = 0 then 0 else free1 t + 1
theorem free1_le : ∀ L, free1 L ≤ L.length
  | [] => Nat.le_refl _
  | r :: t => by have := free1_le t; unfold free1; split <;> simp <;> omega
theorem ow_cons (r : Int × List Int) (t : Slots) (i : Nat) : ow (r :: t) (i + 1) = ow t i := rfl
theorem free1_ow : ∀ L, free1 L < L.length → ow L (free1 L) = 0
  | [], h => by simp at h
  | r :: t, h => by
    unfold free1 at *
    split
    · next h0 => exact h0
    · next h0 => rw [if_neg h0] at h; exact (ow_cons r t _).trans (free1_ow t (by simpa using h))
theorem free1_ahead : ∀ L i, i < free1 L → ow L i ≠ 0
  | [], i, h => by simp [free1] at h
  | r :: t, i, h => by
    unfold free1 at h
    split at h
    · omega
    · next h0 =>
      cases i with
      | zero => exact h0
      | succ i => exact free1_ahead t i (by omega)
theorem free1_is {L : Slots} {i : Nat} (hi : i < L.length) (h0 : ow L i = 0) (h : ∀ j, j < i → ow L j ≠ 0) : free1 L = i := by
  rcases Nat.lt_trichotomy (free1 L) i with h1 | h1 | h1
  · exact absurd (free1_ow L (by omega)) (h _ h1)
  · exact h1
  · exact absurd h0 (free1_ahead L i h1)
theorem free1_none {L : Slots} (h : ∀ j, j < L.length → ow L j ≠ 0) : free1 L = L.length := by
  rcases Nat.lt_or_ge (free1 L) L.length with h1 | h1
  · exact absurd (free1_ow L h1) (h _ h1)
  · have := free1_le L; omega

theorem ow_set {L : Slots} {i : Nat} (hi : i < L.length) (r : Int × List Int) (j : Nat) : ow (L.set i r) j = if j = i then r.1 else ow L j := by
  unfold ow
  by_cases h : j = i
  · subst h; simp [List.getD, hi]
  · simp [List.getD, List.getElem?_set_ne (Ne.symm h), h]
theorem byt_set {L : Slots} {i : Nat} (hi : i < L.length) (r : Int × List Int) (j : Nat) : byt (L.set i r) j = if j = i then r.2 else byt L j := by
  unfold byt
  by_cases h : j = i
  · subst h; simp [List.getD, hi]
  · simp [List.getD, List.getElem?_set_ne (Ne.symm h), h]
theorem Good.set {L : Slots} (h : Good L) {i : Nat} (hi : i < L.length) {o : Int} {b : List Int} (hr : RowOk o b) : Good (L.set i (o, b)) := by
  refine ⟨by simpa using h.1, fun j => ?_⟩
  rw [ow_set hi, byt_set hi]
  by_cases e : j = i
  · simpa [e] using hr
  · simpa [e] using h.2 j
theorem Good.nil : Good [] := ⟨by simp, fun i => ⟨by simp [ow], by simp [byt, ow], by simp [byt]⟩⟩
theorem Good.new (n : Nat) (h : n ≤ 1024) : Good (List.replicate n (0, [])) := by
  refine ⟨by simpa using h, fun i => ?_⟩
  have e : (List.replicate n ((0, []) : Int × List Int)).getD i (0, []) = (0, []) := by
    by_cases hi : i < n
    · simp [List.getD, hi]
    · simp [List.getD, hi]
  unfold ow byt
  rw [e]
  exact ⟨by omega, fun _ => rfl, by simp⟩

/-- Take: the number, the error, what is behind it. -/
def tkE (L : Slots) (o : Int) (n : Nat) : Int := if isOwn o ∧ n ≤ 1514 then (if free1 L < L.length then 0 else 18) else 11
def tkN (L : Slots) (o : Int) (n : Nat) : Int := if tkE L o n = 0 then (free1 L : Int) else -1
def tkL (L : Slots) (o : Int) (b : List Int) : Slots := if tkE L o b.length = 0 then L.set (free1 L) (o, b) else L
/-- Why a buffer may not be touched. -/
def chE (L : Slots) (b o : Int) : Int := if isOwn o then (if 0 ≤ b ∧ b < (L.length : Int) then (if ow L b.toNat = o then 0 else 19) else 17) else 11
def hdE (L : Slots) (b f t : Int) : Int := if isOwn t then chE L b f else 11
def hdL (L : Slots) (b f t : Int) : Slots := if hdE L b f t = 0 then L.set b.toNat (t, byt L b.toNat) else L
def frL (L : Slots) (b o : Int) : Slots := if chE L b o = 0 then L.set b.toNat (0, []) else L
/-- The buffers of an owner (or of nobody), rising. -/
def heldAt (L : Slots) (o : Int) (k : Nat) : List Int := ((List.range k).filter (fun i : Nat => decide (ow L i = o))).map (fun i : Nat => (i : Int))
def held (L : Slots) (o : Int) : List Int := heldAt L o L.length
theorem heldAt_succ_yes {L : Slots} {o : Int} {k : Nat} (h : ow L k = o) : heldAt L o (k + 1) = heldAt L o k ++ [(k : Int)] := by
  simp [heldAt, List.range_succ, List.filter_append, h]
theorem heldAt_succ_no {L : Slots} {o : Int} {k : Nat} (h : ¬ ow L k = o) : heldAt L o (k + 1) = heldAt L o k := by
  simp [heldAt, List.range_succ, List.filter_append, h]
theorem heldAt_zero (L : Slots) (o : Int) : heldAt L o 0 = [] := rfl
theorem heldAt_len (L : Slots) (o : Int) (k : Nat) : (heldAt L o k).length ≤ k := by
  have := List.length_filter_le (fun i : Nat => decide (ow L i = o)) (List.range k)
  simp only [heldAt, List.length_map]
  simpa using this
theorem heldAt_mem {L : Slots} {o : Int} {k : Nat} {x : Int} (h : x ∈ heldAt L o k) : ∃ i : Nat, x = i ∧ i < k ∧ ow L i = o := by
  simp only [heldAt, List.mem_map, List.mem_filter, List.mem_range, decide_eq_true_eq] at h
  obtain ⟨i, ⟨h1, h2⟩, rfl⟩ := h
  exact ⟨i, rfl, h1, h2⟩
theorem i64_small {x : Int} (h : -1000000 ≤ x ∧ x ≤ 1000000) : (Lit.int .i64 x).wf = true := by
  simp [Lit.wf, IntKind.min, IntKind.max, IntKind.signed, IntKind.bits]; omega
theorem heldAt_wf {L : Slots} {o : Int} {k : Nat} (hk : k ≤ 1024) : ∀ x ∈ heldAt L o k, (Lit.int .i64 x).wf = true := by
  intro x hx
  obtain ⟨i, rfl, hi, _⟩ := heldAt_mem hx
  exact i64_small (by omega)

/-- The block g is the slots L: each an owner and its bytes. -/
def RowsAt (ts : TypeId) (w : World) (g : Nat) (L : Slots) (F : Nat → Prop) : Prop :=
  ∃ cur : Array Value, w.heap[g]? = some (.cells cur ts (0, 0)) ∧ L.length * 2 ≤ cur.size ∧
    ∀ i, i < L.length → ∃ A n c, cur[i * 2]? = some (.int .i64 (ow L i)) ∧ cur[i * 2 + 1]? = some (.slice A n c) ∧ Out .u8 5 w 0 A n c (byt L i) ∧ ∀ ad, A = some ad → F ad.block

/-- The block p is a pool over the slots L, which lie in block g. -/
structure PlAt (tp ts : TypeId) (w : World) (p g cp : Nat) (L : Slots) (F : Nat → Prop) : Prop where
  good : Good L
  hne : ¬ ts = 5
  ptr : ∃ G, w.heap[p]? = some (.cells #[.slice G L.length cp] tp (0, 0)) ∧ (0 < L.length → G = some ⟨g, 0, none⟩)
  cap : L.length ≤ cp ∧ cp ≤ maxLen
  rows : 0 < L.length → RowsAt ts w g L F
  lt : p < w.heap.size ∧ g < w.heap.size

section
variable {S : Nat → Prop} {tp ts : TypeId} {w w' : World} {p g cp : Nat} {L : Slots} {F F' : Nat → Prop}
theorem RowsAt.widen (h : RowsAt ts w g L F) (hF : ∀ b, b < w.heap.size → F b → F' b) : RowsAt ts w g L F' := by
  obtain ⟨cur, h1, h2, h3⟩ := h
  refine ⟨cur, h1, h2, fun i hi => ?_⟩
  obtain ⟨A, n, c, a1, a2, a3, a4⟩ := h3 i hi
  refine ⟨A, n, c, a1, a2, a3, fun ad e => hF _ ?_ (a4 ad e)⟩
  obtain ⟨_, cur', hc⟩ := a3.block ad e
  exact (Array.getElem?_eq_some_iff.1 hc).1
theorem PlAt.widen (h : PlAt tp ts w p g cp L F) (hF : ∀ b, b < w.heap.size → F b → F' b) : PlAt tp ts w p g cp L F' :=
  ⟨h.good, h.hne, h.ptr, h.cap, fun q => (h.rows q).widen hF, h.lt⟩
theorem PlAt.any (h : PlAt tp ts w p g cp L F) : PlAt tp ts w p g cp L (fun _ => True) := h.widen (fun _ _ _ => trivial)
theorem PlAt.old (h : PlAt tp ts w p g cp L F) : PlAt tp ts w p g cp L (fun b => b < w.heap.size) := h.widen (fun _ q _ => q)
/-- A pool stays, where none of its blocks is turned. -/
theorem PlAt.kept (h : PlAt tp ts w p g cp L F) (hk : Kept S w w') (hp : ¬ S p) (hg : ¬ S g) (hb : ∀ b, S b → ¬ F b ∨ ∀ cur, w.heap[b]? ≠ some (.cells cur 5 (0, 0))) : PlAt tp ts w' p g cp L F := by
  refine ⟨h.good, h.hne, ?_, h.cap, fun q => ?_, Nat.lt_of_lt_of_le h.lt.1 hk.size, Nat.lt_of_lt_of_le h.lt.2 hk.size⟩
  · obtain ⟨G, h1, h2⟩ := h.ptr
    exact ⟨G, (hk.block p h.lt.1 hp).trans h1, h2⟩
  · obtain ⟨cur, h1, h2, h3⟩ := h.rows q
    refine ⟨cur, (hk.block g h.lt.2 hg).trans h1, h2, fun i hi => ?_⟩
    obtain ⟨A, n, c, a1, a2, a3, a4⟩ := h3 i hi
    refine ⟨A, n, c, a1, a2, a3.kept hk (fun ad e hS => ?_), a4⟩
    rcases hb _ hS with q | q
    · exact q (a4 ad e)
    · obtain ⟨_, cur', hc⟩ := a3.block ad e
      exact q _ hc
theorem PlAt.below (h : PlAt tp ts w p g cp L F) (hb : Below w.heap.size w w') : PlAt tp ts w' p g cp L F :=
  h.kept (S := fun _ => False) (Kept.of_below hb) (fun h => h) (fun h => h) (fun _ h => h.elim)
theorem PlAt.len (h : PlAt tp ts w p g cp L F) : L.length ≤ 1024 := h.good.1

/-- What a walk is told of a pool. -/
theorem PlAt.cells (h : PlAt tp ts w p g cp L F) : ∃ n G, L.length = n ∧ n ≤ 1024 ∧ w.cell? ⟨p, 0, none⟩ = some (.slice G n cp) ∧ (0 < n → G = some ⟨g, 0, none⟩) := by
  obtain ⟨G, h1, h2⟩ := h.ptr
  exact ⟨L.length, G, rfl, h.len, cell_of_one h1, h2⟩
theorem PlAt.ptr0 (h : PlAt tp ts w p g cp L F) {n : Nat} (hn : L.length = n) (hL : 0 < n) : w.cell? ⟨p, 0, none⟩ = some (.slice (some ⟨g, 0, none⟩) n cp) := by
  subst hn
  obtain ⟨G, h1, h2⟩ := h.ptr
  rw [h2 hL] at h1
  exact cell_of_one h1
theorem PlAt.cell0 (h : PlAt tp ts w p g cp L F) {i : Nat} (hi : i < L.length) : w.cell? ⟨g, i * 2, none⟩ = some (.int .i64 (ow L i)) := by
  obtain ⟨cur, h1, h2, h3⟩ := h.rows (by omega)
  obtain ⟨A, m, c, a1, a2, a3, a4⟩ := h3 i hi
  rw [cell_of_row w g (i * 2) cur ts (0, 0) h1]
  exact a1
theorem PlAt.cell1 (h : PlAt tp ts w p g cp L F) {i : Nat} (hi : i < L.length) : ∃ A m c, w.cell? ⟨g, i * 2 + 1, none⟩ = some (.slice A m c) ∧ Out .u8 5 w 0 A m c (byt L i) ∧ ∀ ad, A = some ad → F ad.block := by
  obtain ⟨cur, h1, h2, h3⟩ := h.rows (by omega)
  obtain ⟨A, m, c, a1, a2, a3, a4⟩ := h3 i hi
  refine ⟨A, m, c, ?_, a3, a4⟩
  rw [cell_of_row w g (i * 2 + 1) cur ts (0, 0) h1]
  exact a2
theorem PlAt.frozen (h : PlAt tp ts w p g cp L F) (hL : 0 < L.length) (o : Nat) : w.frozen? ⟨g, o, none⟩ = false := by
  obtain ⟨cur, h1, h2, h3⟩ := h.rows hL
  simp [World.frozen?, h1]
theorem PlAt.there (h : PlAt tp ts w p g cp L F) {i : Nat} (hi : i < L.length) : w.there g (i * 2) 2 := by
  intro j hj
  refine ⟨?_, h.frozen (by omega) _⟩
  match j, hj with
  | 0, _ => rw [Nat.add_zero, h.cell0 hi]; rfl
  | 1, _ => obtain ⟨A, m, c, h1, _⟩ := h.cell1 hi; rw [h1]; rfl
theorem PlAt.ne (h : PlAt tp ts w p g cp L F) (hts : ¬ tp = ts) (hL : 0 < L.length) : p ≠ g := by
  rintro rfl
  obtain ⟨G, h1, _⟩ := h.ptr
  obtain ⟨cur, h2, _⟩ := h.rows hL
  rw [h1] at h2
  injection h2 with h2
  injection h2 with _ h2
  exact hts h2
/-- A slot is written whole. -/
theorem PlAt.set (h : PlAt tp ts w p g cp L F) (hts : ¬ tp = ts) {i : Nat} (hi : i < L.length) {o : Int} {b : List Int} {A : Option Addr} {m c : Nat} (hr : RowOk o b) (ho : Out .u8 5 w 0 A m c b) (hF : ∀ ad, A = some ad → F ad.block) :
    PlAt tp ts (w.setCells g (i * 2) [.int .i64 o, .slice A m c]) p g cp (L.set i (o, b)) F ∧ Kept (· = g) w (w.setCells g (i * 2) [.int .i64 o, .slice A m c]) := by
  have hk : Kept (· = g) w (w.setCells g (i * 2) [.int .i64 o, .slice A m c]) := Kept.setCells (S := (· = g)) g rfl _ _ _
  have hL : 0 < L.length := by omega
  have hpg := h.ne hts hL
  obtain ⟨G, p1, p2⟩ := h.ptr
  obtain ⟨cur, h1, h2, h3⟩ := h.rows hL
  have ht5 : ∀ ad q, w.heap[q]? = some (.cells ad 5 (0, 0)) → q ≠ g := by
    rintro ad q hq rfl
    rw [h1] at hq
    injection hq with hq
    injection hq with _ hq
    exact h.hne hq
  have hrow : (w.setCells g (i * 2) [.int .i64 o, .slice A m c]).heap[g]? = some (.cells ((cur.setIfInBounds (i * 2) (.int .i64 o)).setIfInBounds (i * 2 + 1) (.slice A m c)) ts (0, 0)) := by
    simp only [World.setCells]
    rw [setCell_eq_setRow w g (i * 2) cur ts (0, 0) _ h1]
    have h1' := setRow_heap w g cur (cur.setIfInBounds (i * 2) (.int .i64 o)) ts (0, 0) h1
    rw [setCell_eq_setRow _ g (i * 2 + 1) _ ts (0, 0) _ h1']
    exact setRow_heap _ g _ _ ts (0, 0) h1'
  refine ⟨⟨h.good.set hi hr, h.hne, ⟨G, ?_, by simpa using p2⟩, by simpa using h.cap, fun _ => ⟨_, hrow, by simpa using h2, fun j hj => ?_⟩, Nat.lt_of_lt_of_le h.lt.1 hk.size, Nat.lt_of_lt_of_le h.lt.2 hk.size⟩, hk⟩
  · rw [List.length_set]
    exact (hk.block p h.lt.1 hpg).trans p1
  · rw [List.length_set] at hj
    have keepO : ∀ {A' m' c' xs}, Out .u8 5 w 0 A' m' c' xs → Out .u8 5 (w.setCells g (i * 2) [.int .i64 o, .slice A m c]) 0 A' m' c' xs := fun q => q.kept hk (fun ad e hS => by
      obtain ⟨_, cur', hc⟩ := q.block ad e
      exact ht5 _ _ hc hS)
    rw [ow_set hi, byt_set hi]
    by_cases e : j = i
    · subst e
      rw [if_pos rfl, if_pos rfl]
      refine ⟨A, m, c, ?_, ?_, keepO ho, hF⟩
      · rw [Array.getElem?_setIfInBounds_ne (by omega), Array.getElem?_setIfInBounds_self_of_lt (by omega)]
      · rw [Array.getElem?_setIfInBounds_self_of_lt (by simp; omega)]
    · rw [if_neg e, if_neg e]
      obtain ⟨A', m', c', a1, a2, a3, a4⟩ := h3 j hj
      refine ⟨A', m', c', ?_, ?_, keepO a3, a4⟩
      · rw [Array.getElem?_setIfInBounds_ne (by omega), Array.getElem?_setIfInBounds_ne (by omega)]; exact a1
      · rw [Array.getElem?_setIfInBounds_ne (by omega), Array.getElem?_setIfInBounds_ne (by omega)]; exact a2
/-- A slot's owner is written alone. -/
theorem PlAt.own (h : PlAt tp ts w p g cp L F) (hts : ¬ tp = ts) {i : Nat} (hi : i < L.length) {o : Int} (hr : RowOk o (byt L i)) :
    PlAt tp ts (w.setCell ⟨g, i * 2, none⟩ (.int .i64 o)) p g cp (L.set i (o, byt L i)) F ∧ Kept (· = g) w (w.setCell ⟨g, i * 2, none⟩ (.int .i64 o)) := by
  have hk : Kept (· = g) w (w.setCell ⟨g, i * 2, none⟩ (.int .i64 o)) := Kept.setCell (S := (· = g)) w _ _ rfl
  have hL : 0 < L.length := by omega
  have hpg := h.ne hts hL
  obtain ⟨G, p1, p2⟩ := h.ptr
  obtain ⟨cur, h1, h2, h3⟩ := h.rows hL
  have ht5 : ∀ ad q, w.heap[q]? = some (.cells ad 5 (0, 0)) → q ≠ g := by
    rintro ad q hq rfl
    rw [h1] at hq
    injection hq with hq
    injection hq with _ hq
    exact h.hne hq
  have hrow : (w.setCell ⟨g, i * 2, none⟩ (.int .i64 o)).heap[g]? = some (.cells (cur.setIfInBounds (i * 2) (.int .i64 o)) ts (0, 0)) := by
    rw [setCell_eq_setRow w g (i * 2) cur ts (0, 0) _ h1]
    exact setRow_heap w g cur (cur.setIfInBounds (i * 2) (.int .i64 o)) ts (0, 0) h1
  refine ⟨⟨h.good.set hi hr, h.hne, ⟨G, ?_, by simpa using p2⟩, by simpa using h.cap, fun _ => ⟨_, hrow, by simpa using h2, fun j hj => ?_⟩, Nat.lt_of_lt_of_le h.lt.1 hk.size, Nat.lt_of_lt_of_le h.lt.2 hk.size⟩, hk⟩
  · rw [List.length_set]
    exact (hk.block p h.lt.1 hpg).trans p1
  · rw [List.length_set] at hj
    have keepO : ∀ {A' m' c' xs}, Out .u8 5 w 0 A' m' c' xs → Out .u8 5 (w.setCell ⟨g, i * 2, none⟩ (.int .i64 o)) 0 A' m' c' xs := fun q => q.kept hk (fun ad e hS => by
      obtain ⟨_, cur', hc⟩ := q.block ad e
      exact ht5 _ _ hc hS)
    rw [ow_set hi, byt_set hi]
    obtain ⟨A', m', c', a1, a2, a3, a4⟩ := h3 j hj
    by_cases e : j = i
    · subst e
      rw [if_pos rfl, if_pos rfl]
      refine ⟨A', m', c', ?_, ?_, keepO a3, a4⟩
      · rw [Array.getElem?_setIfInBounds_self_of_lt (by omega)]
      · rw [Array.getElem?_setIfInBounds_ne (by omega)]; exact a2
    · rw [if_neg e, if_neg e]
      refine ⟨A', m', c', ?_, ?_, keepO a3, a4⟩
      · rw [Array.getElem?_setIfInBounds_ne (by omega)]; exact a1
      · rw [Array.getElem?_setIfInBounds_ne (by omega)]; exact a2
end
end Go.Proofs.Ytjaiagocbldbgaa
