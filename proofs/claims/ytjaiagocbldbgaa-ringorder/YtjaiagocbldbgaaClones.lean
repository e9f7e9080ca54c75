/-
  Contracts of the program's Clone and of the document's Copy.
-/
import Derived.Test.YtjaiagocbldbgaaNews
namespace Go.Proofs.Ytjaiagocbldbgaa
open Go.RowKit
set_option linter.unusedVariables false

/-- The first k slots of L, and behind them free ones. -/
def mixL (L : Slots) (k : Nat) : Slots := (List.range L.length).map (fun i => if i < k then (ow L i, byt L i) else (0, []))
theorem mixL_len (L : Slots) (k : Nat) : (mixL L k).length = L.length := by simp [mixL]
theorem slot_eq (L : Slots) (i : Nat) (hi : i < L.length) : L[i] = (ow L i, byt L i) := by simp [ow, byt, List.getD, List.getElem?_eq_getElem hi]
theorem mixL_all (L : Slots) : mixL L L.length = L := by
  refine List.ext_getElem (mixL_len L _) (fun i h1 h2 => ?_)
  simp [mixL, slot_eq L i h2, h2]
theorem mixL_zero (L : Slots) : mixL L 0 = List.replicate L.length (0, []) := by
  refine List.ext_getElem (by simp [mixL]) (fun i h1 h2 => ?_)
  simp [mixL]
theorem mixL_set (L : Slots) (k : Nat) (hk : k < L.length) : (mixL L k).set k (ow L k, byt L k) = mixL L (k + 1) := by
  refine List.ext_getElem (by simp [mixL]) (fun i h1 h2 => ?_)
  rw [List.getElem_set]
  by_cases e : k = i
  · subst e; simp [mixL]
  · rw [if_neg e]
    simp only [mixL, List.getElem_map, List.getElem_range]
    by_cases h : i < k
    · rw [if_pos h, if_pos (by omega)]
    · rw [if_neg h, if_neg (by omega)]
/-- A slot of a row is written whole. -/
theorem RowsAt.set {ts : TypeId} {w : World} {g : Nat} {L : Slots} {F : Nat → Prop} (h : RowsAt ts w g L F) (hne : ¬ ts = 5) {i : Nat} (hi : i < L.length) {o : Int} {b : List Int} {A : Option Addr} {m c : Nat} (ho : Out .u8 5 w 0 A m c b) (hF : ∀ ad, A = some ad → F ad.block) :
    RowsAt ts (w.setCells g (i * 2) [.int .i64 o, .slice A m c]) g (L.set i (o, b)) F := by
  have hk : Kept (· = g) w (w.setCells g (i * 2) [.int .i64 o, .slice A m c]) := Kept.setCells (S := (· = g)) g rfl _ _ _
  obtain ⟨cur, h1, h2, h3⟩ := h
  have ht5 : ∀ ad q, w.heap[q]? = some (.cells ad 5 (0, 0)) → q ≠ g := by
    rintro ad q hq rfl
    rw [h1] at hq
    injection hq with hq
    injection hq with _ hq
    exact hne hq
  have hrow : (w.setCells g (i * 2) [.int .i64 o, .slice A m c]).heap[g]? = some (.cells ((cur.setIfInBounds (i * 2) (.int .i64 o)).setIfInBounds (i * 2 + 1) (.slice A m c)) ts (0, 0)) := by
    simp only [World.setCells]
    rw [setCell_eq_setRow w g (i * 2) cur ts (0, 0) _ h1]
    have h1' := setRow_heap w g cur (cur.setIfInBounds (i * 2) (.int .i64 o)) ts (0, 0) h1
    rw [setCell_eq_setRow _ g (i * 2 + 1) _ ts (0, 0) _ h1']
    exact setRow_heap _ g _ _ ts (0, 0) h1'
  refine ⟨_, hrow, by simpa using h2, fun j hj => ?_⟩
  rw [List.length_set] at hj
  have keepO : ∀ {A' m' c' xs}, Out .u8 5 w 0 A' m' c' xs → Out .u8 5 (w.setCells g (i * 2) [.int .i64 o, .slice A m c]) 0 A' m' c' xs := fun q => q.kept hk (fun ad e hS => by
    obtain ⟨_, cur', hc⟩ := q.block ad e
    exact ht5 _ _ hc hS)
  rw [ow_set hi, byt_set hi]
  by_cases e : j = i
  · subst e
    rw [if_pos rfl, if_pos rfl]
    refine ⟨A, m, c, ?_, ?_, keepO ho, hF⟩
    · rw [Array.getElem?_setIfInBounds_ne (by omega), Array.getElem?_setIfInBounds_self_of_lt (by omega)]
    · rw [Array.getElem?_setIfInBounds_self_of_lt (by simp; omega)]
  · rw [if_neg e, if_neg e]
    obtain ⟨A', m', c', a1, a2, a3, a4⟩ := h3 j hj
    refine ⟨A', m', c', ?_, ?_, keepO a3, a4⟩
    · rw [Array.getElem?_setIfInBounds_ne (by omega), Array.getElem?_setIfInBounds_ne (by omega)]; exact a1
    · rw [Array.getElem?_setIfInBounds_ne (by omega), Array.getElem?_setIfInBounds_ne (by omega)]; exact a2
theorem RowsAt.there {ts : TypeId} {w : World} {g : Nat} {L : Slots} {F : Nat → Prop} (h : RowsAt ts w g L F) {i : Nat} (hi : i < L.length) : w.there g (i * 2) 2 := by
  obtain ⟨cur, h1, h2, h3⟩ := h
  obtain ⟨A', m', c', a1, a2, a3, a4⟩ := h3 i hi
  intro j hj
  refine ⟨?_, by simp [World.frozen?, h1]⟩
  match j, hj with
  | 0, _ => rw [cell_of_row w g _ cur ts (0, 0) h1, Nat.add_zero, a1]; rfl
  | 1, _ => rw [cell_of_row w g _ cur ts (0, 0) h1, a2]; rfl
theorem RowsAt.below {ts : TypeId} {w w' : World} {g : Nat} {L : Slots} {F : Nat → Prop} (h : RowsAt ts w g L F) (hb : Below w.heap.size w w') : RowsAt ts w' g L F := by
  obtain ⟨cur, h1, h2, h3⟩ := h
  have hg : g < w.heap.size := (Array.getElem?_eq_some_iff.1 h1).1
  refine ⟨cur, (hb.block g hg).trans h1, h2, fun i hi => ?_⟩
  obtain ⟨A, n, c, a1, a2, a3, a4⟩ := h3 i hi
  exact ⟨A, n, c, a1, a2, a3.below hb (Nat.le_refl _), a4⟩
theorem RowsAt.lt {ts : TypeId} {w : World} {g : Nat} {L : Slots} {F : Nat → Prop} (h : RowsAt ts w g L F) : g < w.heap.size := by
  obtain ⟨cur, h1, _⟩ := h
  exact (Array.getElem?_eq_some_iff.1 h1).1
/-- What Clone gives. -/
def GivesC (w : World) (L : Slots) : Ending → World → Prop := fun e w' =>
  ∃ p g, e = .returned (ptr p) ∧ Pp w' p g L.length L (fun b => w.heap.size ≤ b) ∧ (w.heap.size ≤ p ∧ w.heap.size ≤ g) ∧ Below w.heap.size w w'

set_option maxRecDepth 100000 in
set_option maxHeartbeats 2000000 in
theorem clonePool_any (p g cp : Nat) (L : Slots) (F : Nat → Prop) (w : World) (h : Pp w p g cp L F) (hL : 0 < L.length) :
    Calls Try.prog 15 #[ptr p] w (GivesC w L) := by
  obtain ⟨N, hN⟩ : ∃ N, L.length = N := ⟨_, rfl⟩
  have hn0 : 0 < N := by omega
  have hNl : N ≤ 1024 := by have := h.len; omega
  have a0 := h.ptr0 hN hn0
  have hmk := Lib.hid (fun W => mk_run 65 77 Try.underlying65 info77 N hNl W)
  have HN := Lib.hid hN
  have b := alloc_below w (.cells (madeCells zC (N * 2)) 77)
  have q0 : RowsAt 77 (w.alloc (.cells (madeCells zC (N * 2)) 77)) w.heap.size (mixL L 0) (fun b => w.heap.size ≤ b) := by
    rw [mixL_zero, hN]
    exact RowsAt.new 77 w N _
  have hpl := h.lt.1
  have a0' := (b.cell (p := ⟨p, 0, none⟩) hpl).trans a0
  have hz : Hid (mixL L N = L) := Lib.hid (by rw [← hN]; exact mixL_all L)
  clear hN hL
  go_enter Try.func15, Try.ntmps15
  have hmk' := hmk.out
  go_wp2
  clear hmk' hmk a0 a0'
  go_loopw [17] (fun i wr => ∃ k : Nat, k ≤ N ∧ i = .int .i64 k ∧ Below w.heap.size w wr ∧ RowsAt 77 wr w.heap.size (mixL L k) (fun b => w.heap.size ≤ b)) (fun i _ => N - (intOf i).toNat)
  case atStart => exact ⟨0, Nat.zero_le _, rfl, b, q0⟩
  case round =>
    clear q0 b
    obtain ⟨k, hk, rfl, b, q⟩ := hrel
    by_cases hkn : k < N
    · have h' := h.below b
      have hkL : k < L.length := by rw [HN.out]; exact hkn
      have a0 := h'.cell0 hkL
      obtain ⟨A, m, c, a1, o1, -⟩ := h'.cell1 hkL
      have hsl := (h.good.2 k).2.2
      have hol := o1.len
      have hm : m ≤ 1514 := by omega
      have hgl := q.lt
      have ba := alloc_below wr (.cells #[.int .i64 (ow L k), .slice A m c] 77)
      have s0 : (wr.alloc (.cells #[.int .i64 (ow L k), .slice A m c] 77)).heap[wr.heap.size]? = some (.cells #[.int .i64 (ow L k), .slice A m c] 77 (0, 0)) := heap_alloc_new wr _
      replace o1 := o1.below ba (Nat.le_refl _)
      replace q := q.below ba
      replace b := b.trans (ba.mono b.size)
      have hkM : Hid (k < (mixL L k).length) := Lib.hid (by rw [mixL_len]; exact hkL)
      have hM := Lib.hid (mixL_set L k hkL)
      generalize ow L k = o at *
      generalize byt L k = xs at *
      clear h h' hkL ba hsl hol
      go_wp2
      refine wp_region_held_drew (S := fun w' => w'.heap[wr.heap.size]? = some (.cells #[.int .i64 o, .slice A m c] 77 (0, 0))) (by kernel_rfl) s0 (fun hHeld => ?_)
      replace b := b.trans ((below_drew _).mono b.size)
      replace q := q.below (below_drew _)
      replace o1 := o1.below (below_drew _) (Nat.le_refl _)
      replace s0 : (World.drew (wr.alloc (.cells #[.int .i64 o, .slice A m c] 77))).heap[wr.heap.size]? = some (.cells #[.int .i64 o, .slice A m c] 77 (0, 0)) := s0
      clear a0 a1
      change wpAnyH _ _ _ _ _ _ _ _ (World.drew _)
      generalize World.drew _ = W0 at *
      generalize wr.heap.size = gs at *
      refine wpAnyH_at (i := 0) (some 22) (v := ?v0z1) rfl rfl (by kernel_rfl) (by kernel_rfl) (by kernel_rfl) (fun _ _ _ h => h) (Or.inl ⟨by rfl, ?y0z1⟩) (by assumption) ?r0z1
      case y0z1 =>
        intro w9 hSw
        have a0 : w9.cell? ⟨gs, 0, none⟩ = some (.int .i64 o) := cell_of_row w9 gs 0 _ 77 (0, 0) hSw; have a1 : w9.cell? ⟨gs, 1, none⟩ = some (.slice A m c) := cell_of_row w9 gs 1 _ 77 (0, 0) hSw; clear hSw
        go_simp
        all_goals with_reducible rfl
      simp only [Act.put, List.setIfInBounds_toArray, List.set_cons_zero, List.set_cons_succ]
      refine wpAnyH_at (i := 1) (some 23) (v := ?v1z2) rfl rfl (by kernel_rfl) (by kernel_rfl) (by kernel_rfl) (fun _ _ _ h => h) (Or.inl ⟨by rfl, ?y1z2⟩) (by assumption) ?r1z2
      case y1z2 =>
        intro w9 hSw
        have a0 : w9.cell? ⟨gs, 0, none⟩ = some (.int .i64 o) := cell_of_row w9 gs 0 _ 77 (0, 0) hSw; have a1 : w9.cell? ⟨gs, 1, none⟩ = some (.slice A m c) := cell_of_row w9 gs 1 _ 77 (0, 0) hSw; clear hSw
        go_simp
        all_goals with_reducible rfl
      simp only [Act.put, List.setIfInBounds_toArray, List.set_cons_zero, List.set_cons_succ]
      refine wpAnyH_at (i := 2) (some 24) (v := ?v2z3) rfl rfl (by kernel_rfl) (by kernel_rfl) (by kernel_rfl) (fun _ _ _ h => h) (Or.inl ⟨by rfl, ?y2z3⟩) (by assumption) ?r2z3
      case y2z3 =>
        intro w9 hSw
        have a0 : w9.cell? ⟨gs, 0, none⟩ = some (.int .i64 o) := cell_of_row w9 gs 0 _ 77 (0, 0) hSw; have a1 : w9.cell? ⟨gs, 1, none⟩ = some (.slice A m c) := cell_of_row w9 gs 1 _ 77 (0, 0) hSw; clear hSw
        go_simp
        all_goals with_reducible rfl
      simp only [Act.put, List.setIfInBounds_toArray, List.set_cons_zero, List.set_cons_succ]
      refine wpAnyH_at (i := 3) (some 25) (v := ?v3z4) rfl rfl (by kernel_rfl) (by kernel_rfl) (by kernel_rfl) (fun _ _ _ h => h) (Or.inl ⟨by rfl, ?y3z4⟩) (by assumption) ?r3z4
      case y3z4 =>
        intro w9 hSw
        have a0 : w9.cell? ⟨gs, 0, none⟩ = some (.int .i64 o) := cell_of_row w9 gs 0 _ 77 (0, 0) hSw; have a1 : w9.cell? ⟨gs, 1, none⟩ = some (.slice A m c) := cell_of_row w9 gs 1 _ 77 (0, 0) hSw; clear hSw
        go_simp
        all_goals with_reducible rfl
      simp only [Act.put, List.setIfInBounds_toArray, List.set_cons_zero, List.set_cons_succ]
      refine wpAnyH_at (i := 4) (some 26) (v := ?v4z5) rfl rfl (by kernel_rfl) (by kernel_rfl) (by kernel_rfl) (fun _ _ _ h => h) (Or.inl ⟨by rfl, ?y4z5⟩) (by assumption) ?r4z5
      case y4z5 =>
        intro w9 hSw
        have a0 : w9.cell? ⟨gs, 0, none⟩ = some (.int .i64 o) := cell_of_row w9 gs 0 _ 77 (0, 0) hSw; have a1 : w9.cell? ⟨gs, 1, none⟩ = some (.slice A m c) := cell_of_row w9 gs 1 _ 77 (0, 0) hSw; clear hSw
        go_simp
        all_goals with_reducible rfl
      simp only [Act.put, List.setIfInBounds_toArray, List.set_cons_zero, List.set_cons_succ]
      refine wpAnyH_at (i := 5) (some 27) (v := ?v5z6) rfl rfl (by kernel_rfl) (by kernel_rfl) (by kernel_rfl) (fun _ _ _ h => h) (Or.inl ⟨by rfl, ?y5z6⟩) (by assumption) ?r5z6
      case y5z6 =>
        intro w9 hSw
        have a0 : w9.cell? ⟨gs, 0, none⟩ = some (.int .i64 o) := cell_of_row w9 gs 0 _ 77 (0, 0) hSw; have a1 : w9.cell? ⟨gs, 1, none⟩ = some (.slice A m c) := cell_of_row w9 gs 1 _ 77 (0, 0) hSw; clear hSw
        go_simp
        all_goals with_reducible rfl
      simp only [Act.put, List.setIfInBounds_toArray, List.set_cons_zero, List.set_cons_succ]
      refine wpAnyH_one (i := 6) (by kernel_rfl) rfl ?_
      go_wp2_with fail
      refine (clone_any A m c _ xs _ o1.rd (Nat.le_refl _) (by omega)).mono ?_
      rintro ev W1 ⟨A2, m2, c2, rfl, o2, hb⟩
      go_wp2
      replace o2 := o2.lower b.size
      replace q := q.below hb
      replace b := b.trans (hb.mono b.size)
      have gl := (Array.getElem?_eq_some_iff.1 s0).1
      replace s0 := (hb.block _ gl).trans s0
      clear o1 hb hHeld gl
      have hHeld := s0
      refine ⟨hHeld, ?_⟩
      try simp only [Act.put, List.setIfInBounds_toArray, List.set_cons_zero, List.set_cons_succ]
      refine wpAnyH_at (i := 7) (some 29) (v := ?v7z7) rfl rfl (by kernel_rfl) (by kernel_rfl) (by kernel_rfl) (fun _ _ _ h => h) (Or.inl ⟨by rfl, ?y7z7⟩) (by assumption) ?r7z7
      case y7z7 =>
        intro w9 hSw
        clear hSw
        go_simp
        all_goals with_reducible rfl
      simp only [Act.put, List.setIfInBounds_toArray, List.set_cons_zero, List.set_cons_succ]
      refine wpAnyH_at (i := 8) (some 30) (v := ?v8z8) rfl rfl (by kernel_rfl) (by kernel_rfl) (by kernel_rfl) (fun _ _ _ h => h) (Or.inl ⟨by rfl, ?y8z8⟩) (by assumption) ?r8z8
      case y8z8 =>
        intro w9 hSw
        clear hSw
        go_simp
        all_goals with_reducible rfl
      simp only [Act.put, List.setIfInBounds_toArray, List.set_cons_zero, List.set_cons_succ]
      refine wpAnyH_one (i := 9) (by kernel_rfl) rfl ?_
      refine wpList_store_mid rfl 77 (.tmp 30) (.tmp 29) rfl w.heap.size (k * 2) #[.int .i64 o, .slice A2 m2 c2] rfl rfl (q.there hkM.out) (by kernel_rfl) (slot_one _ _ _ _) ?_
      have q9 := q.set (by decide) hkM.out (o := o) (o2.lower (Nat.zero_le _)) (fun ad e => (o2.block ad e).1)
      rw [hM.out] at q9
      have k9 : Kept (· = w.heap.size) W1 (W1.setCells w.heap.size (k * 2) [.int .i64 o, .slice A2 m2 c2]) := Kept.setCells (S := (· = w.heap.size)) _ rfl _ _ _
      have b9 := b.trans (k9.below b.size (fun _ e => Nat.le_of_eq e.symm))
      have gl := (Array.getElem?_eq_some_iff.1 s0).1
      have s9 := (k9.block gs gl (fun e => Nat.ne_of_gt hgl e)).trans s0
      change wpList _ _ _ _ _ (World.setCells _ _ _ [.int .i64 o, .slice A2 m2 c2])
      generalize World.setCells _ _ _ [.int .i64 o, .slice A2 m2 c2] = w9 at *
      clear hHeld q o2 b s0 k9 gl
      go_wp2
      refine ⟨s9, ?_⟩
      refine wpAnyH_done (by kernel_rfl) ?_ _
      go_wp2
      go_roundw
      case rel => exact ⟨k + 1, by omega, by go_num, b9, q9⟩
      case measure => simp [intOf]; omega
    · obtain rfl : k = N := by omega
      rw [hz.out] at q
      have K := Lib.hid (PlAt.box (tp := 67) h.good (by decide) q)
      have b2 := b.trans ((alloc_below wr (.cells #[.slice (some ⟨w.heap.size, 0, none⟩) L.length L.length] 67)).mono b.size)
      have bs := b.size
      rw [HN.out] at K b2
      have R : Hid (GivesC w L (.returned (ptr wr.heap.size)) (wr.alloc (.cells #[.slice (some ⟨w.heap.size, 0, none⟩) k k] 67))) := Lib.hid ⟨_, _, rfl, by rw [HN.out]; exact K.out, ⟨bs, Nat.le_refl _⟩, b2⟩
      clear K b2 bs q b h HN
      go_wp2
      go_ret
      exact R.out
end Go.Proofs.Ytjaiagocbldbgaa
