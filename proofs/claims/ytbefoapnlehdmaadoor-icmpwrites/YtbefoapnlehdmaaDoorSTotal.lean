/-
  Contracts of Total, Of and Right.
-/
import Derived.Test.YtbefoapnlehdmaaDoorSPairs
namespace Go.Proofs.YtbefoapnlehdmaaDoor
open Go.RowKit Go.Shelf
attribute [local go_sem] Oper.semAt_some

theorem Rows2.len {w : World} {X : Nat → Prop} {B B1 : Nat} {A : Option Addr} {n c : Nat} {ps : List (List Int)} (h : Rows2 w X B B1 A n c ps) : ps.length = n := h.1
theorem Rows2.byts {w : World} {X : Nat → Prop} {B B1 : Nat} {A : Option Addr} {n c : Nat} {ps : List (List Int)} (h : Rows2 w X B B1 A n c ps) : Byts ps.flatten := by
  intro x hx
  obtain ⟨q, hq, hxq⟩ := List.mem_flatten.1 hx
  obtain ⟨i, hi, rfl⟩ := List.mem_iff_getElem.1 hq
  obtain ⟨b, o, A', n', c', _, _, _, hr⟩ := h.2.2.2 i (by rw [← h.len]; exact hi)
  have : ps.getD i [] = ps[i] := by simp [List.getD, List.getElem?_eq_getElem hi]
  rw [this] at hr
  exact u8_bd (hr.2.2.2.1 x hxq)
/-- Later, and with blocks of one's own that are newer. -/
theorem Rows2.later {w w' : World} {X X' : Nat → Prop} {B B1 B1' : Nat} {A : Option Addr} {n c : Nat} {ps : List (List Int)} (h : Rows2 w X B B1 A n c ps) (hb : Below B1 w w') (hB : B ≤ B1) (hB1 : B1 ≤ B1') (hX : ∀ k, X' k → B1 ≤ k ∨ X k) : Rows2 w' X' B B1' A n c ps :=
  ⟨h.1, h.2.1, h.2.2.1, fun i hi => by
    obtain ⟨b, o, A', n', c', e, hbb, hc, hr⟩ := h.2.2.2 i hi
    exact ⟨b, o, A', n', c', e, ⟨by omega, fun hx => (hX b hx).elim (fun h => by omega) hbb.2⟩, (hb.cell (p := ⟨b, o + i, none⟩) hbb.1).trans hc, hr.keep fun p hp => hb.cell (by omega)⟩⟩

theorem box_new (w : World) (v : Value) (t : TypeId) : (w.alloc (.cells #[v] t)).heap[w.heap.size]? = some (.cells #[v] t (0, 0)) := World.alloc_heap_new w _
theorem box_cell {w : World} {g : Nat} {v : Value} {t : TypeId} (h : w.heap[g]? = some (.cells #[v] t (0, 0))) : w.cell? ⟨g, 0, none⟩ = some v ∧ w.frozen? ⟨g, 0, none⟩ = false := by simp [World.cell?, World.frozen?, h]
theorem box_set {w : World} {g : Nat} {v : Value} {t : TypeId} (h : w.heap[g]? = some (.cells #[v] t (0, 0))) (u : Value) : (w.setCell ⟨g, 0, none⟩ u).heap[g]? = some (.cells #[u] t (0, 0)) := by
  simp only [World.setCell, Array.getElem?_modify, h]
  simp

set_option maxRecDepth 100000 in
set_option maxHeartbeats 1000000 in
theorem total_any (A : Option Addr) (n c : Nat) (ps : List (List Int)) (w : World) (hR : Rows2 w (fun _ => False) w.heap.size w.heap.size A n c ps) :
    Calls Tryd.prog 17 #[.slice A n c] w fun e w' => e = .returned (.int .u16 (totV ps.flatten)) ∧ Below w.heap.size w w' := by
  have hby := hR.byts
  refine (callsIn_wide (n := 0)).1 ?_
  refine callsIn_of_wp_marks Tryd.func17 rfl trivial ?_ rfl
  simp only [Tryd.ntmps17, List.size_toArray, List.length_cons, List.length_nil, Nat.reduceAdd, Nat.reduceSub, Array.replicate_succ, Array.replicate_zero, List.push_toArray, List.append_toArray, List.nil_append, List.cons_append]
  gi_wp2_with (refine ⟨trivial, rfl, ?_⟩; gi_at_call 45; refine (pairs_any _ _ _ _).mono ?_; rintro e w' ⟨rfl, rfl⟩)
  obtain ⟨V, hV⟩ : ∃ V, (w.alloc (.cells #[.int .u16 0] 45)).alloc (.cells #[.slice A n c] 86) = V := ⟨_, rfl⟩
  have hsz : V.heap.size = w.heap.size + 2 := by rw [← hV]; simp
  have hbV : Below w.heap.size w V := by rw [← hV]; exact ((Below.refl _ w).alloc (Nat.le_refl _) _).alloc (by simp) _
  have hbox : V.heap[w.heap.size]? = some (.cells #[.int .u16 0] 45 (0, 0)) := by rw [← hV]; exact (Below.heap_alloc _ _ _ (by simp)).trans (box_new w _ _)
  have hpar : V.cell? ⟨w.heap.size + 1, 0, none⟩ = some (.slice A n c) := by
    rw [← hV]; have := box_cell (box_new (w.alloc (.cells #[.int .u16 0] 45)) (.slice A n c) 86); rw [World.size_alloc] at this; exact this.1
  have hseq := pairs_seqs (w := V) (w.heap.size + 1) (fun k => k = w.heap.size) w.heap.size A n c ps (by omega) (fun k hk => by omega) (by omega) hpar (hR.later hbV (Nat.le_refl _) (by omega) (fun k hk => .inl (by omega)))
  simp only [hV]
  refine wpIn_seqs (gf := 61) rfl (enters_of Tryd.func61 (by kernel_rfl) rfl) hseq (fun k hk => by omega) (fun _ => rfl)
    (fun pre W => W.heap[w.heap.size]? = some (.cells #[.int .u16 (sumF 0 pre)] 45 (0, 0)) ∧ Below w.heap.size w W ∧ W.heap.size ≥ V.heap.size)
    (fun s A B h hb => ⟨(hb.block _ (by omega)).trans h.1, h.2.1.trans (hb.mono (by omega)), by have := hb.size; omega⟩)
    ⟨hbox, hbV, by omega⟩ ?round ?done
  case round =>
    rintro l pre x W hl hlW hpre ⟨hbx, hbW, hsW⟩
    obtain ⟨x, y⟩ := x
    simp only [encP]
    gi_wp2
    refine ⟨(Away.refl _ W).trans (Away.of_below ((Below.refl _ W).alloc (Nat.le_refl _) _) (fun k h1 h2 => by omega)), fun o => ?_⟩
    have hxy : BP (x, y) := pairsV_bd _ hby _ (hpre.subset (by simp))
    have hsum : W16 (sumF 0 pre) := sumF_bd _ _ (by unfold W16; omega) (fun p hp => pairsV_bd _ hby _ (hpre.subset (by simp [hp])))
    obtain ⟨U, hU⟩ : ∃ U, (W.alloc (.cells #[.int .u8 x, .int .u8 y] 90)).putObj l o = U := ⟨_, rfl⟩
    have hUs : U.heap.size = W.heap.size + 1 := by rw [← hU]; simp
    have hU1 : U.heap[w.heap.size]? = some (.cells #[.int .u16 (sumF 0 pre)] 45 (0, 0)) := by
      rw [← hU]; exact (World.putObj_heap_other (by omega)).trans ((Below.heap_alloc _ _ _ (by omega)).trans hbx)
    have hU2 : U.heap[W.heap.size]? = some (.cells #[.int .u8 x, .int .u8 y] 90 (0, 0)) := by
      rw [← hU]; exact (World.putObj_heap_other (by omega)).trans (World.alloc_heap_new W _)
    have hU3 : Below w.heap.size w U := by
      rw [← hU]; exact (hbW.alloc (by omega) _).trans ⟨rfl, rfl, rfl, by simp, fun k hk => World.putObj_heap_other (by omega)⟩
    rw [hU]
    obtain ⟨c1, c2⟩ := box_cell hU1
    obtain ⟨d1, d2, d3, d4⟩ := pair_cells hU2
    generalize hss : sumF 0 pre = ss at *
    have hmx : Tryd.prog.follows .mixedOrders = true := by kernel_rfl
    have hlt : w.heap.size < U.heap.size := by omega
    gi_wp2
    gi_region_with_o (first
      | (refine ⟨trivial, rfl, ?_⟩; gi_at_call 47; refine (CallsIn.inRound l (callsIn_wide.2 (number_any (x, y) _ hxy))).mono ?_; rintro e w' ⟨rfl, hb⟩; have c1' := (hb.cell (p := ⟨w.heap.size, 0, none⟩) hlt).trans c1; have c2' := (hb.frozen (p := ⟨w.heap.size, 0, none⟩) hlt).trans c2)
      | (refine ⟨trivial, rfl, ?_⟩; gi_at_call 46; refine (CallsIn.inRound l (callsIn_wide.2 (add_any _ _ _ hsum (numP_bd hxy)))).mono ?_; rintro e w' ⟨rfl, rfl⟩))
    all_goals gi_wp2
    all_goals
      have hb' : Below U.heap.size U w' := ⟨hb.os, hb.tape, hb.output, hb.size, hb.block⟩
      refine ⟨(Away.of_below hb' (fun k h1 h2 => by omega)).trans (Away.set _ _ _ _), ?_, (hU3.trans (hb'.mono (by omega))).setCell (p := ⟨w.heap.size, 0, none⟩) (Nat.le_refl _) _, ?_⟩
      · rw [sumF_snoc, hss]
        exact box_set ((hb'.block _ hlt).trans hU1) _
      · have := hb'.size
        omega
  case done =>
    rintro D W hD ⟨hbx, hbW, hsW⟩ hK
    obtain ⟨hc, hf⟩ := box_cell hbx
    gi_wp2
    refine ⟨by simp, .inl ⟨_, _, rfl, run_takeDeferred hK, ?_⟩⟩
    exact ⟨_, results_tmp rfl _ _ _, rfl, hbW.trans ⟨rfl, rfl, rfl, by simp, fun k hk => World.putObj_heap_other (by omega)⟩⟩

theorem sumOf_any (A : Option Addr) (n c : Nat) (ps : List (List Int)) (w : World) (hR : Rows2 w (fun _ => False) w.heap.size w.heap.size A n c ps) :
    Calls Tryd.prog 44 #[.slice A n c] w fun e w' => e = .returned (.int .u16 (65535 - totV ps.flatten)) ∧ Below w.heap.size w w' := by
  have hby := totV_bd hR.byts
  unfold W16 at hby
  go_enter Tryd.func44, Tryd.ntmps44
  go_wp2_with (go_at_call 17; refine (total_any _ _ _ ps _ hR).mono ?_; rintro e w' ⟨rfl, hb⟩)
  go_ret
  exact ⟨rfl, hb⟩
theorem right_any (A : Option Addr) (n c : Nat) (ps : List (List Int)) (w : World) (hR : Rows2 w (fun _ => False) w.heap.size w.heap.size A n c ps) :
    Calls Tryd.prog 34 #[.slice A n c] w fun e w' => e = .returned (.bool (totV ps.flatten == 65535)) ∧ Below w.heap.size w w' := by
  go_enter Tryd.func34, Tryd.ntmps34
  go_wp2_with (go_at_call 17; refine (total_any _ _ _ ps _ hR).mono ?_; rintro e w' ⟨rfl, hb⟩)
  go_ret
  exact ⟨rfl, hb⟩
end Go.Proofs.YtbefoapnlehdmaaDoor
