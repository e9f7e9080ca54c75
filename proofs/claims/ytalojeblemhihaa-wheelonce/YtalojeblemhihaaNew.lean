/-
  The contract of the program's wheel's New.
-/
import Derived.Test.YtalojeblemhihaaNext
namespace Go.Proofs.Ytalojeblemhihaa
open Go.RowKit
set_option linter.unusedVariables false

/-- A wheel that is being made: its first k levels are there. -/
structure NewAt (w : World) (s now : Nat) (R : List Tm) (V : Nat → List Int) (k : Nat) (wr : World) : Prop where
  blk : ∃ cs : Array Value, wr.heap[s + 1]? = some (.cells cs 66 (0, 0)) ∧ cs.size = 66 ∧ cs[0]? = some (.int .u64 (now : Nat)) ∧ cs[1]? = some (.map (some s)) ∧ ∀ i, i < k → cs[2 + i]? = some (.map (some (s + 2 + i)))
  dues : DuAt wr s R
  lev : ∀ i, i < k → LvAt wr (s + 2 + i) (V i)
  size : wr.heap.size = s + 2 + k
  below : Below s w wr
theorem DuAt.new_below {w w' : World} {b B : Nat} {R : List Tm} (h : DuAt w b R) (hb : Below B w w') (hB : b < B) : DuAt w' b R :=
  h.kept (S := fun k => B ≤ k) ⟨hb.os, hb.tape, hb.output, hb.size, fun k _ hk => hb.block k (by omega)⟩ (by omega)
theorem LvAt.new_below {w w' : World} {b B : Nat} {L : List Int} (h : LvAt w b L) (hb : Below B w w') (hB : b < B) : LvAt w' b L :=
  h.kept (S := fun k => B ≤ k) ⟨hb.os, hb.tape, hb.output, hb.size, fun k _ hk => hb.block k (by omega)⟩ (by omega)
section
variable {w wr wq : World} {s now k : Nat} {R : List Tm} {V : Nat → List Int}
theorem NewAt.step (h : NewAt w s now R V k wr) (hk : k < 64) (ba : Below wr.heap.size wr wq) (hq : wq.heap.size = wr.heap.size + 1) (hL : LvAt wq (s + 2 + k) (V k)) : NewAt w s now R V (k + 1) (wq.setCell ⟨s + 1, 2 + k, none⟩ (.map (some (s + 2 + k)))) := by
  obtain ⟨⟨cs, hb, hs, h0, h1, h2⟩, hd, hl, hz, hB⟩ := h
  have hb' : wq.heap[s + 1]? = some (.cells cs 66 (0, 0)) := (ba.block _ (by omega)).trans hb
  have k1 : Kept (fun j => j = s + 1) wq (wq.setCell ⟨s + 1, 2 + k, none⟩ (.map (some (s + 2 + k)))) := Kept.setCell _ _ _ rfl
  refine ⟨⟨cs.setIfInBounds (2 + k) (.map (some (s + 2 + k))), by simp [World.setCell, Array.getElem?_modify, hb'], by simpa using hs, by rw [Array.getElem?_setIfInBounds_ne (by omega)]; exact h0, by rw [Array.getElem?_setIfInBounds_ne (by omega)]; exact h1, fun i hi => ?_⟩, (hd.new_below ba (by omega)).kept k1 (by omega), fun i hi => ?_, by simp; omega, ?_⟩
  · by_cases e : i = k
    · subst e
      rw [Array.getElem?_setIfInBounds_self, if_pos (by omega)]
    · rw [Array.getElem?_setIfInBounds_ne (by omega)]
      exact h2 i (by omega)
  · by_cases e : i = k
    · subst e
      exact hL.kept k1 (by omega)
    · exact ((hl i (by omega)).new_below ba (by omega)).kept k1 (by omega)
  · exact (hB.trans (ba.mono (by omega))).trans (k1.below (by omega) (fun j hj => by omega))
theorem NewAt.cell (h : NewAt w s now R V k wr) (hk : k < 64) (ba : Below wr.heap.size wr wq) : ∃ v, wq.cell? ⟨s + 1, 2 + k, none⟩ = some v ∧ wq.frozen? ⟨s + 1, 2 + k, none⟩ = false := by
  obtain ⟨cs, hb, hz, _⟩ := h.blk
  have hb' : wq.heap[s + 1]? = some (.cells cs 66 (0, 0)) := (ba.block _ (by have := h.size; omega)).trans hb
  exact ⟨cs[2 + k]'(by omega), by simp [World.cell?, hb', Array.getElem?_eq_getElem (show 2 + k < cs.size by omega)], by simp [World.frozen?, hb']⟩
theorem NewAt.done (h : NewAt w s now R V 64 wr) (hn : now ≤ 4611686018427387904) (hO : Ok R) (hl : R.length ≤ 16384) (hs : ∀ i, i < 64 → ∀ t ∈ V i, hasT t R = true) : WhB wr (s + 1) s (s + 66) now R V s (fun i => s + 2 + i) :=
  ⟨h.blk, h.dues, h.lev, fun i _ => by omega, fun i j _ _ e => by omega, by omega, by omega, fun i hi => by omega, by have := h.size; omega, hn, hO, hl, hs⟩
/-- The struct has just been laid. -/
theorem NewAt.first {Z : Array Value} (hZ : Z.size = 66) (hq : wq.heap.size = s + 1) (hB : Below s w wq) (hd : DuAt wq s R) :
    NewAt w s now R V 0 (wq.alloc (.cells ((Z.setIfInBounds 0 (.int .u64 now)).setIfInBounds 1 (.map (some s))) 66)) := by
  have b1 := alloc_below wq (.cells ((Z.setIfInBounds 0 (.int .u64 now)).setIfInBounds 1 (.map (some s))) 66)
  have hb := heap_alloc_new wq (.cells ((Z.setIfInBounds 0 (.int .u64 now)).setIfInBounds 1 (.map (some s))) 66)
  rw [hq] at hb
  refine ⟨⟨_, hb, by simpa using hZ, ?_, ?_, fun i hi => absurd hi (by omega)⟩, hd.new_below b1 (by omega), fun i hi => absurd hi (by omega), by simp; omega, hB.trans (b1.mono (by omega))⟩
  · rw [Array.getElem?_setIfInBounds_ne (by omega), Array.getElem?_setIfInBounds_self, if_pos (by omega)]
  · rw [Array.getElem?_setIfInBounds_self, if_pos (by simp; omega)]
end
def zero66c : Array Value := #[.int .u64 0] ++ Array.replicate 65 (.map none)
set_option maxRecDepth 100000 in
theorem zero66 (w : World) : (zeroValue 66).run Try.prog w = .ok (.agg zero66c) w := by kernel_rfl
theorem zero66s : zero66c.size = 66 := by simp [zero66c]
set_option maxRecDepth 100000 in
set_option maxHeartbeats 4000000 in
theorem newBig_any (n : Nat) (hn : 4611686018427387904 < n) (w : World) : Calls Try.prog 9 #[.int .u64 n] w fun e w' => e = .returned (.tuple #[.pointer none, .int .i64 11]) ∧ w' = w := by
  have hni : (4611686018427387904 : Int) < (n : Int) := by omega
  go_enter Try.func9, Try.ntmps9
  go_wp2
  go_ret2
  exact ⟨rfl, rfl⟩
set_option maxRecDepth 100000 in
set_option maxHeartbeats 4000000 in
theorem new_any (n : Nat) (hn : n ≤ 4611686018427387904) (w : World) : Calls Try.prog 9 #[.int .u64 n] w fun e w' => e = .returned (.tuple #[ptr (w.heap.size + 1), .int .i64 0]) ∧ WhR w' (w.heap.size + 1) w.heap.size (w.heap.size + 66) n [] w.heap.size (fun i => w.heap.size + 2 + i) ∧ Below w.heap.size w w' := by
  have hni : ¬ (4611686018427387904 : Int) < (n : Int) := by omega
  obtain ⟨s, hs⟩ : ∃ s, w.heap.size = s := ⟨_, rfl⟩
  have hmm := @run_makeMap Try.prog
  rw [hs]
  obtain ⟨Z, hZ, hZs⟩ : ∃ Z : Array Value, (∀ w, (zeroValue 66).run Try.prog w = .ok (.agg Z) w) ∧ Z.size = 66 := ⟨_, zero66, zero66s⟩
  have hZ0 : ¬ Z = #[] := by rintro rfl; simp at hZs
  go_enter Try.func9, Try.ntmps9
  go_wp2
  have hdu := DuAt.new w
  have b0 := alloc_below w (.map #[] 0)
  rw [hs] at hdu b0
  have N0 : NewAt w s n [] (fun _ => []) 0 ((w.alloc (.map #[] 0)).alloc (.cells ((Z.setIfInBounds 0 (.int .u64 n)).setIfInBounds 1 (.map (some s))) 66)) :=
    NewAt.first hZs (by simp [hs]) b0 hdu
  clear hdu b0
  clear hZ hZs hZ0
  generalize (w.alloc (.map #[] 0)).alloc (.cells ((Z.setIfInBounds 0 (.int .u64 n)).setIfInBounds 1 (.map (some s))) 66) = w0 at *
  go_loopw [12] (fun i wr => ∃ k : Nat, k ≤ 64 ∧ i = .int .i64 k ∧ NewAt w s n [] (fun _ => []) k wr) (fun i _ => 64 - (intOf i).toNat)
  case atStart => exact ⟨0, by omega, rfl, N0⟩
  case round =>
    obtain ⟨k, hk, rfl, hN⟩ := hrel
    clear N0
    by_cases hk64 : k < 64
    · have hki : (k : Int) < 64 := by omega
      have ba := alloc_below wr (.map #[] 0)
      have hL := LvAt.new wr
      rw [hN.size] at hL
      have hN' := hN.step hk64 ba (by simp) hL
      obtain ⟨v, cv, cf⟩ := hN.cell hk64 ba
      clear ba hL
      have hz := hN.size
      clear hN
      go_wp2
      go_roundw
      case rel => exact ⟨k + 1, by omega, by go_num, hN'⟩
      case measure => simp [intOf]; omega
    · obtain rfl : k = 64 := by omega
      have hD : WhR wr (s + 1) s (s + 66) n [] s (fun i => s + 2 + i) := ⟨_, hN.done hn Ok.nil (by simp) (by simp), Right.nil (fun _ _ => rfl)⟩
      have hB := hN.below
      clear hN
      go_wp2
      go_ret2
      exact ⟨rfl, hD, hB⟩
end Go.Proofs.Ytalojeblemhihaa
