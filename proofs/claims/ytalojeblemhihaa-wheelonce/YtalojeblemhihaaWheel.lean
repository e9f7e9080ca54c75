/-
  A wheel in memory, whole: its struct, its map of times, its sixty-four levels; what turns in it, and what stays.
-/
import Derived.Test.YtalojeblemhihaaWh
import Derived.Laws.BitsAllLaws
namespace Go.Proofs.Ytalojeblemhihaa
open Go.RowKit
set_option linter.unusedVariables false

abbrev ptr (p : Nat) : Value := .pointer (some ⟨p, 0, none⟩)
/-- Level i holds L now. -/
def updV (V : Nat → List Int) (i : Nat) (L : List Int) : Nat → List Int := fun n => if n = i then L else V n

structure WhB (w : World) (p lo hi now : Nat) (R : List Tm) (V : Nat → List Int) (bd : Nat) (g : Nat → Nat) : Prop where
  blk : ∃ cs : Array Value, w.heap[p]? = some (.cells cs 66 (0, 0)) ∧ cs.size = 66 ∧ cs[0]? = some (.int .u64 (now : Nat)) ∧ cs[1]? = some (.map (some bd)) ∧ ∀ i, i < 64 → cs[2 + i]? = some (.map (some (g i)))
  dues : DuAt w bd R
  lev : ∀ i, i < 64 → LvAt w (g i) (V i)
  ne : ∀ i, i < 64 → g i ≠ bd
  inj : ∀ i j, i < 64 → j < 64 → g i = g j → i = j
  inp : lo ≤ p ∧ p < hi
  inb : lo ≤ bd ∧ bd < hi
  ing : ∀ i, i < 64 → lo ≤ g i ∧ g i < hi
  room : hi ≤ w.heap.size
  le : now ≤ 4611686018427387904
  ok : Ok R
  len : R.length ≤ 16384
  sub : ∀ i, i < 64 → ∀ t ∈ V i, hasT t R = true

theorem sub_len : ∀ {L M : List Int}, L.Nodup → (∀ t ∈ L, t ∈ M) → L.length ≤ M.length
  | [], _, _, _ => Nat.zero_le _
  | a :: r, M, hn, hs => by
    obtain ⟨h1, h2⟩ := List.nodup_cons.1 hn
    obtain ⟨M1, M2, rfl⟩ := List.append_of_mem (hs a (by simp))
    have := sub_len (L := r) (M := M1 ++ M2) h2 (fun t ht => by
      have := hs t (List.mem_cons_of_mem _ ht)
      rcases List.mem_append.1 this with h | h
      · exact List.mem_append.2 (.inl h)
      · rcases List.mem_cons.1 h with rfl | h
        · exact absurd ht h1
        · exact List.mem_append.2 (.inr h))
    simp at this ⊢
    omega

section
variable {S : Nat → Prop} {w w' : World} {p lo hi now : Nat} {R R' : List Tm} {V : Nat → List Int} {bd : Nat} {g : Nat → Nat} {B : Nat}
theorem WhB.cell (h : WhB w p lo hi now R V bd g) {k : Nat} {v : Value} (hv : ∀ cs : Array Value, cs[0]? = some (.int .u64 (now : Nat)) → cs[1]? = some (.map (some bd)) → (∀ i, i < 64 → cs[2 + i]? = some (.map (some (g i)))) → cs[k]? = some v) : w.cell? ⟨p, k, none⟩ = some v := by
  obtain ⟨cs, hb, _, h0, h1, h2⟩ := h.blk
  have := hv cs h0 h1 h2
  simp [World.cell?, hb, this]
theorem WhB.c0 (h : WhB w p lo hi now R V bd g) : w.cell? ⟨p, 0, none⟩ = some (.int .u64 (now : Nat)) := h.cell fun _ h0 _ _ => h0
theorem WhB.c1 (h : WhB w p lo hi now R V bd g) : w.cell? ⟨p, 1, none⟩ = some (.map (some bd)) := h.cell fun _ _ h1 _ => h1
theorem WhB.cl (h : WhB w p lo hi now R V bd g) {i : Nat} (hi : i < 64) : w.cell? ⟨p, 2 + i, none⟩ = some (.map (some (g i))) := h.cell fun _ _ _ h2 => h2 i hi
theorem WhB.fr (h : WhB w p lo hi now R V bd g) (k : Nat) : w.frozen? ⟨p, k, none⟩ = false := by
  obtain ⟨cs, hb, _⟩ := h.blk
  simp [World.frozen?, hb]
theorem WhB.lt (h : WhB w p lo hi now R V bd g) : p < w.heap.size := Nat.lt_of_lt_of_le h.inp.2 h.room
theorem WhB.kept (h : WhB w p lo hi now R V bd g) (hk : Kept S w w') (hs : ∀ k, S k → lo ≤ k → k < hi → False) : WhB w' p lo hi now R V bd g := by
  obtain ⟨cs, hb, r⟩ := h.blk
  refine ⟨⟨cs, (hk.block p h.lt (fun hp => hs p hp h.inp.1 h.inp.2)).trans hb, r⟩, h.dues.kept hk (fun hp => hs _ hp h.inb.1 h.inb.2), fun i hi => (h.lev i hi).kept hk (fun hp => hs _ hp (h.ing i hi).1 (h.ing i hi).2), h.ne, h.inj, h.inp, h.inb, h.ing, Nat.le_trans h.room hk.size, h.le, h.ok, h.len, h.sub⟩
theorem WhB.below (h : WhB w p lo hi now R V bd g) (hb : Below B w w') (hB : hi ≤ B) : WhB w' p lo hi now R V bd g :=
  h.kept (S := fun k => B ≤ k) ⟨hb.os, hb.tape, hb.output, hb.size, fun k hk hs => hb.block k (by omega)⟩ (fun k hk _ hh => by omega)
theorem WhB.new (h : WhB w p lo hi now R V bd g) (hb : Below w.heap.size w w') : WhB w' p lo hi now R V bd g := h.below hb h.room
theorem WhB.pne (h : WhB w p lo hi now R V bd g) : bd ≠ p ∧ ∀ i, i < 64 → g i ≠ p := by
  obtain ⟨cs, hb, _⟩ := h.blk
  refine ⟨fun e => ?_, fun i hi e => ?_⟩
  · obtain ⟨es, cl, h1⟩ := h.dues.blk
    rw [e, hb] at h1
    cases h1
  · obtain ⟨es, cl, h1⟩ := (h.lev i hi).blk
    rw [e, hb] at h1
    cases h1
/-- The map of times has turned. -/
theorem WhB.turnD (h : WhB w p lo hi now R V bd g) (ht : w.mapTurned w' bd) (hd : DuAt w' bd R') (ho : Ok R') (hl : R'.length ≤ 16384) (hs : ∀ i, i < 64 → ∀ t ∈ V i, hasT t R' = true) : WhB w' p lo hi now R' V bd g := by
  have hk : Kept (· = bd) w w' := kept_turned ht rfl
  obtain ⟨cs, hb, r⟩ := h.blk
  exact ⟨⟨cs, (hk.block p h.lt (fun e => h.pne.1 e.symm)).trans hb, r⟩, hd, fun i hi => (h.lev i hi).kept hk (h.ne i hi), h.ne, h.inj, h.inp, h.inb, h.ing, Nat.le_trans h.room hk.size, h.le, ho, hl, hs⟩
/-- A level has turned. -/
theorem WhB.turnL (h : WhB w p lo hi now R V bd g) {i : Nat} (h64 : i < 64) {L : List Int} (ht : w.mapTurned w' (g i)) (hL : LvAt w' (g i) L) (hs : ∀ t ∈ L, hasT t R = true) : WhB w' p lo hi now R (updV V i L) bd g := by
  have hk : Kept (· = g i) w w' := kept_turned ht rfl
  obtain ⟨cs, hb, r⟩ := h.blk
  refine ⟨⟨cs, (hk.block p h.lt (fun e => h.pne.2 i h64 e.symm)).trans hb, r⟩, h.dues.kept hk (fun e => h.ne i h64 e.symm), fun j hj => ?_, h.ne, h.inj, h.inp, h.inb, h.ing, Nat.le_trans h.room hk.size, h.le, h.ok, h.len, fun j hj => ?_⟩
  · unfold updV
    split
    · rename_i e; subst e; exact hL
    · rename_i e; exact (h.lev j hj).kept hk (fun e' => e (h.inj j i hj h64 e'))
  · unfold updV
    split
    · exact hs
    · exact h.sub j hj
/-- The time is set. -/
theorem WhB.setNow (h : WhB w p lo hi now R V bd g) {m : Nat} (hm : m ≤ 4611686018427387904) : WhB (w.setCell ⟨p, 0, none⟩ (.int .u64 (m : Nat))) p lo hi m R V bd g := by
  have hk : Kept (· = p) w (w.setCell ⟨p, 0, none⟩ (.int .u64 (m : Nat))) := Kept.setCell w _ _ rfl
  obtain ⟨cs, hb, hs, h0, h1, h2⟩ := h.blk
  refine ⟨⟨cs.setIfInBounds 0 (.int .u64 (m : Nat)), ?_, by simpa using hs, by rw [Array.getElem?_setIfInBounds_self, if_pos (by omega)], by rw [Array.getElem?_setIfInBounds_ne (by omega)]; exact h1, fun i hi => by rw [Array.getElem?_setIfInBounds_ne (by omega)]; exact h2 i hi⟩, h.dues.kept hk h.pne.1, fun i hi => (h.lev i hi).kept hk (h.pne.2 i hi), h.ne, h.inj, h.inp, h.inb, h.ing, Nat.le_trans h.room hk.size, hm, h.ok, h.len, h.sub⟩
  simp [World.setCell, Array.getElem?_modify, hb]
theorem WhB.vlen (h : WhB w p lo hi now R V bd g) {i : Nat} (hi : i < 64) : (V i).length ≤ 16384 := by
  have := sub_len (M := R.map fun x => x.1) (h.lev i hi).nodup (fun t ht => by
    obtain ⟨d, hd⟩ := hasT_iff.1 (h.sub i hi t ht)
    exact List.mem_map.2 ⟨_, hd, rfl⟩)
  have := h.len
  simp at *
  omega
theorem WhB.wf (h : WhB w p lo hi now R V bd g) {t : Int} (ht : hasT t R = true) : wfI t := by
  obtain ⟨d, hd⟩ := hasT_iff.1 ht
  exact (h.ok.wf _ hd).1
end
end Go.Proofs.Ytalojeblemhihaa
