/-
  The law PoolCalls: every row of calls is answered as the document says.
-/
import Derived.Test.YtddhdfbhjgaffaaLLeast
import Derived.Test.YtddhdfbhjgaffaaAgree
namespace Go.Proofs.Ytddhdfbhjgaffaa
open Go.RowKit
set_option linter.unusedVariables false

theorem box_cells {W : World} {gb : Nat} {wh bu o t : Int} {A2 : Option Addr} {n2 c2 : Nat} (h : W.heap[gb]? = some (.cells #[.int .i64 wh, .int .i64 bu, .int .i64 o, .int .i64 t, .slice A2 n2 c2] 25 (0, 0))) :
    W.cell? ⟨gb, 0, none⟩ = some (.int .i64 wh) ∧ W.cell? ⟨gb, 1, none⟩ = some (.int .i64 bu) ∧ W.cell? ⟨gb, 2, none⟩ = some (.int .i64 o) ∧ W.cell? ⟨gb, 3, none⟩ = some (.int .i64 t) ∧ W.cell? ⟨gb, 4, none⟩ = some (.slice A2 n2 c2) :=
  ⟨cell_of_row W gb 0 _ 25 (0, 0) h, cell_of_row W gb 1 _ 25 (0, 0) h, cell_of_row W gb 2 _ 25 (0, 0) h, cell_of_row W gb 3 _ 25 (0, 0) h, cell_of_row W gb 4 _ 25 (0, 0) h⟩
/-- great of one call. -/
theorem great_last (x : Bool) (W : World) (wh bu o t : Int) (A2 : Option Addr) (n2 c2 : Nat) (ys : List Int) (rd : Rd .u8 W W.heap.size A2 n2 c2 ys) (hx : decide (1600 < n2) = x) :
    Calls Try.prog 8 #[.int .i64 1, .slice (some ⟨W.heap.size, 0, none⟩) 1 1] (W.alloc (.cells #[.int .i64 wh, .int .i64 bu, .int .i64 o, .int .i64 t, .slice A2 n2 c2] 25)) fun e w' => e = .returned (.bool x) ∧ W.alloc (.cells #[.int .i64 wh, .int .i64 bu, .int .i64 o, .int .i64 t, .slice A2 n2 c2] 25) = w' := by
  have hb := alloc_below W (.cells #[.int .i64 wh, .int .i64 bu, .int .i64 o, .int .i64 t, .slice A2 n2 c2] 25)
  have h := box_cells (heap_alloc_new W (.cells #[.int .i64 wh, .int .i64 bu, .int .i64 o, .int .i64 t, .slice A2 n2 c2] 25))
  refine great_in x 1 _ 1 1 (W.heap.size + 1) (fun _ => ⟨wh, bu, o, t, A2, n2, c2, ys⟩) _ ?_ (by omega) (by omega) ⟨⟨Nat.le_refl _, by omega⟩, fun i hi => ?_⟩
  · rw [← hx]
    simp [longB]
  · obtain rfl : i = 0 := by omega
    exact ⟨W.heap.size, 0, rfl, by omega, h, (rd.below hb (Nat.le_refl _)).more (by omega)⟩
/-- What the law's walk knows of the two pools. -/
structure KB (w : World) (p g m r gr cr : Nat) (L : Slots) (wh bu o t : Int) (A2 : Option Addr) (n2 c2 : Nat) (W : World) : Prop where
  pp : Pp W p g m L (fun _ => True)
  rp : Rp W r gr cr L (fun _ => True)
  bx : W.heap[w.heap.size]? = some (.cells #[.int .i64 wh, .int .i64 bu, .int .i64 o, .int .i64 t, .slice A2 n2 c2] 25 (0, 0))
  b : Below w.heap.size w W
  lo : w.heap.size < p ∧ w.heap.size < g ∧ w.heap.size < r ∧ w.heap.size < gr
  len : L.length = m
  pos : 0 < m
theorem KB.step {w W V : World} {p g m r gr cr : Nat} {L : Slots} {wh bu o t : Int} {A2 : Option Addr} {n2 c2 : Nat} (q : KB w p g m r gr cr L wh bu o t A2 n2 c2 W) (hb : Below W.heap.size W V) : KB w p g m r gr cr L wh bu o t A2 n2 c2 V :=
  ⟨q.pp.below hb, q.rp.below hb, (hb.block _ (Array.getElem?_eq_some_iff.1 q.bx).1).trans q.bx, q.b.trans (hb.mono q.b.size), q.lo, q.len, q.pos⟩
/-- Do on the two pools. -/
theorem do_both {w W : World} {p g m r gr cr : Nat} {L : Slots} {wh bu o t : Int} {A2 : Option Addr} {n2 c2 : Nat} (wh' bu' o' t' : Int) (A : Option Addr) (n c : Nat) (xs : List Int) (q : KB w p g m r gr cr L wh bu o t A2 n2 c2 W) (rd : Rd .u8 w w.heap.size A n c xs) (hn : n ≤ 1600) :
    Calls Try.prog 11 #[ptr p, ptr r, .agg #[.int .i64 wh', .int .i64 bu', .int .i64 o', .int .i64 t', .slice A n c]] W fun e w' => e = .returned (.bool true) ∧ KB w p g m r gr cr (stepL L wh' bu' o' t' xs) wh bu o t A2 n2 c2 w' := by
  have hlo := q.lo
  have hL : 0 < L.length := by rw [q.len]; exact q.pos
  refine (do_any p g m r gr cr L L bu' o' t' A n c w.heap.size xs W q.pp q.rp hL (.inr hL) (rd.below q.b (Nat.le_refl _)) (by omega) hn wh').mono ?_
  rintro e w' ⟨rfl, h1, h2, h3⟩
  refine ⟨by rw [doB_self], h1, h2, (h3.block _ (Array.getElem?_eq_some_iff.1 q.bx).1 (fun z => by rcases z with z | z <;> omega)).trans q.bx, q.b.trans (h3.below q.b.size (fun j e => by rcases e with e | e <;> omega)), hlo, (stepL_len ..).trans q.len, q.pos⟩
theorem agree_both {w W : World} {p g m r gr cr : Nat} {L : Slots} {wh bu o t : Int} {A2 : Option Addr} {n2 c2 : Nat} (q : KB w p g m r gr cr L wh bu o t A2 n2 c2 W) :
    Calls Try.prog 12 #[ptr p, ptr r] W fun e w' => e = .returned (.bool true) ∧ KB w p g m r gr cr L wh bu o t A2 n2 c2 w' := by
  refine (agree_any p g m r gr cr L _ _ W q.pp q.rp (by rw [q.len]; exact q.pos)).mono ?_
  rintro e w' ⟨rfl, hb⟩
  exact ⟨rfl, q.step hb⟩
/-- And of the clone and the copy. -/
structure KX (w : World) (p g m r gr cr : Nat) (L : Slots) (wh bu o t : Int) (A2 : Option Addr) (n2 c2 : Nat) (p2 g2 : Nat) (W : World) : Prop where
  q : KB w p g m r gr cr L wh bu o t A2 n2 c2 W
  c : Pp W p2 g2 m L (fun _ => True)
  ne : (p < g2 ∧ g < g2 ∧ r < g2 ∧ gr < g2)
theorem KX.step {w W V : World} {p g m r gr cr p2 g2 : Nat} {L : Slots} {wh bu o t : Int} {A2 : Option Addr} {n2 c2 : Nat} (q : KX w p g m r gr cr L wh bu o t A2 n2 c2 p2 g2 W) (hb : Below W.heap.size W V) : KX w p g m r gr cr L wh bu o t A2 n2 c2 p2 g2 V := ⟨q.q.step hb, q.c.below hb, q.ne⟩
theorem clone_both {w W : World} {p g m r gr cr : Nat} {L : Slots} {wh bu o t : Int} {A2 : Option Addr} {n2 c2 : Nat} (q : KB w p g m r gr cr L wh bu o t A2 n2 c2 W) :
    Calls Try.prog 13 #[ptr p] W fun e w' => ∃ p2 g2, e = .returned (ptr p2) ∧ KX w p g m r gr cr L wh bu o t A2 n2 c2 p2 g2 w' := by
  refine (clonePool_any p g m L _ W q.pp (by rw [q.len]; exact q.pos)).mono ?_
  rintro e w' ⟨p2, g2, rfl, h1, h2, hb⟩
  have h3 := q.pp.lt
  have h4 := q.rp.lt
  exact ⟨p2, g2, rfl, q.step hb, by have := h1.any; rwa [q.len] at this, by omega⟩
theorem copy_both {w W : World} {p g m r gr cr p2 g2 : Nat} {L : Slots} {wh bu o t : Int} {A2 : Option Addr} {n2 c2 : Nat} (q : KX w p g m r gr cr L wh bu o t A2 n2 c2 p2 g2 W) :
    Calls Try.prog 14 #[ptr r] W fun e w' => ∃ r2 gr2 cr2, e = .returned (ptr r2) ∧ KX w p g m r gr cr L wh bu o t A2 n2 c2 p2 g2 w' ∧ Rp w' r2 gr2 cr2 L (fun _ => True) ∧ (p < gr2 ∧ g < gr2 ∧ r < gr2 ∧ gr < gr2) := by
  refine (copy_any r gr cr L _ W q.q.rp (by rw [q.q.len]; exact q.q.pos)).mono ?_
  rintro e w' ⟨r2, gr2, cr2, rfl, h1, h2, hb⟩
  have h3 := q.q.pp.lt
  have h4 := q.q.rp.lt
  exact ⟨r2, gr2, cr2, rfl, q.step hb, h1, by omega⟩
theorem do_last {w W : World} {p g m r gr cr p2 g2 r2 gr2 cr2 : Nat} {L : Slots} {wh bu o t : Int} {A2 : Option Addr} {n2 c2 : Nat} {ys : List Int} (q : KX w p g m r gr cr L wh bu o t A2 n2 c2 p2 g2 W) (hR : Rp W r2 gr2 cr2 L (fun _ => True)) (hl : p < gr2 ∧ g < gr2 ∧ r < gr2 ∧ gr < gr2) (rd : Rd .u8 w w.heap.size A2 n2 c2 ys) (hn : n2 ≤ 1600) :
    Calls Try.prog 11 #[ptr p2, ptr r2, .agg #[.int .i64 wh, .int .i64 bu, .int .i64 o, .int .i64 t, .slice A2 n2 c2]] W fun e w' => e = .returned (.bool true) ∧ KB w p g m r gr cr L wh bu o t A2 n2 c2 w' := by
  have hlo := q.q.lo
  have hne := q.ne
  have hL : 0 < L.length := by rw [q.q.len]; exact q.q.pos
  obtain ⟨cur, a1, _⟩ := q.c.rows hL
  obtain ⟨cur', a2, _⟩ := hR.rows hL
  refine (do_any p2 g2 m r2 gr2 cr2 L L bu o t A2 n2 c2 w.heap.size ys W q.c hR hL (.inr hL) (rd.below q.q.b (Nat.le_refl _)) (by omega) hn wh).mono ?_
  rintro e w' ⟨rfl, h1, h2, h3⟩
  have h5 : ∀ b, b = g2 ∨ b = gr2 → ∀ cur, W.heap[b]? ≠ some (.cells cur 5 (0, 0)) := by
    rintro b (rfl | rfl)
    · exact not5 a1 (by decide)
    · exact not5 a2 (by decide)
  exact ⟨by rw [doB_self], q.q.pp.kept h3 (fun z => by rcases z with z | z <;> omega) (fun z => by rcases z with z | z <;> omega) (fun b z => .inr (h5 b z)), q.q.rp.kept h3 (fun z => by rcases z with z | z <;> omega) (fun z => by rcases z with z | z <;> omega) (fun b z => .inr (h5 b z)),
    (h3.block _ (Array.getElem?_eq_some_iff.1 q.q.bx).1 (fun z => by rcases z with z | z <;> omega)).trans q.q.bx, q.q.b.trans (h3.below q.q.b.size (fun j e => by rcases e with e | e <;> omega)), hlo, q.q.len, q.q.pos⟩
set_option maxRecDepth 100000 in
set_option maxHeartbeats 4000000 in
theorem calls_big (m : Int) (A : Option Addr) (n c : Nat) (qs : Nat → Cal) (wh bu o t : Int) (A2 : Option Addr) (n2 c2 : Nat) (ys : List Int) (own : Int) (w : World) (H : CallsAt w w.heap.size A n c qs) (rd : Rd .u8 w w.heap.size A2 n2 c2 ys) (h : (100 < m ∧ m ≤ 1024) ∨ 100 < n) : Calls Try.prog 3 #[.int .i64 m, .slice A n c, .agg #[.int .i64 wh, .int .i64 bu, .int .i64 o, .int .i64 t, .slice A2 n2 c2], .int .i64 own] w fun e w' => e = .returned (.bool true) ∧ Below w.heap.size w w' := by
  have hc := Lib.hid (fun W => great_big m A n c W h H.1)
  have ba := alloc_below w (.cells #[.int .i64 wh, .int .i64 bu, .int .i64 o, .int .i64 t, .slice A2 n2 c2] 25)
  have bx : (w.alloc (.cells #[.int .i64 wh, .int .i64 bu, .int .i64 o, .int .i64 t, .slice A2 n2 c2] 25)).heap[w.heap.size]? = some (.cells #[.int .i64 wh, .int .i64 bu, .int .i64 o, .int .i64 t, .slice A2 n2 c2] 25 (0, 0)) := heap_alloc_new w _
  clear H h rd
  go_enter Try.func3, Try.ntmps3
  go_wp2_with fail
  refine (alive_any _).mono ?_
  rintro ev w1 ⟨rfl, hb⟩
  replace bx := (hb.block _ (by simp)).trans bx
  replace hb := ba.trans (hb.mono (by simp))
  obtain ⟨x0, x1, x2, x3, x4⟩ := box_cells bx
  go_wp2_with fail
  refine (hc.out _).mono ?_
  rintro ev w2 ⟨rfl, rfl⟩
  go_wp2
  go_ret
  exact ⟨rfl, hb⟩
set_option maxRecDepth 100000 in
set_option maxHeartbeats 4000000 in
theorem calls_long (m : Int) (A : Option Addr) (n c : Nat) (qs : Nat → Cal) (wh bu o t : Int) (A2 : Option Addr) (n2 c2 : Nat) (ys : List Int) (own : Int) (w : World) (H : CallsAt w w.heap.size A n c qs) (rd : Rd .u8 w w.heap.size A2 n2 c2 ys) (h1 : ¬ (100 < m ∧ m ≤ 1024)) (h2 : n ≤ 100) (h3 : longB n qs = true) : Calls Try.prog 3 #[.int .i64 m, .slice A n c, .agg #[.int .i64 wh, .int .i64 bu, .int .i64 o, .int .i64 t, .slice A2 n2 c2], .int .i64 own] w fun e w' => e = .returned (.bool true) ∧ Below w.heap.size w w' := by
  have hc := Lib.hid (fun W q => great_in true m A n c w.heap.size qs W h3 h1 h2 q)
  have HH := Lib.hid H
  have ba := alloc_below w (.cells #[.int .i64 wh, .int .i64 bu, .int .i64 o, .int .i64 t, .slice A2 n2 c2] 25)
  have bx : (w.alloc (.cells #[.int .i64 wh, .int .i64 bu, .int .i64 o, .int .i64 t, .slice A2 n2 c2] 25)).heap[w.heap.size]? = some (.cells #[.int .i64 wh, .int .i64 bu, .int .i64 o, .int .i64 t, .slice A2 n2 c2] 25 (0, 0)) := heap_alloc_new w _
  clear H h1 h2 h3 rd
  go_enter Try.func3, Try.ntmps3
  go_wp2_with fail
  refine (alive_any _).mono ?_
  rintro ev w1 ⟨rfl, hb⟩
  replace bx := (hb.block _ (by simp)).trans bx
  replace hb := ba.trans (hb.mono (by simp))
  obtain ⟨x0, x1, x2, x3, x4⟩ := box_cells bx
  go_wp2_with fail
  refine (hc.out _ (HH.out.below hb)).mono ?_
  rintro ev w2 ⟨rfl, rfl⟩
  go_wp2
  go_ret
  exact ⟨rfl, hb⟩
set_option maxRecDepth 100000 in
set_option maxHeartbeats 4000000 in
theorem calls_far (m : Int) (A : Option Addr) (n c : Nat) (qs : Nat → Cal) (wh bu o t : Int) (A2 : Option Addr) (n2 c2 : Nat) (ys : List Int) (own : Int) (w : World) (H : CallsAt w w.heap.size A n c qs) (rd : Rd .u8 w w.heap.size A2 n2 c2 ys) (h1 : ¬ (100 < m ∧ m ≤ 1024)) (h2 : n ≤ 100) (h3 : longB n qs = false) (h4 : 1600 < n2) : Calls Try.prog 3 #[.int .i64 m, .slice A n c, .agg #[.int .i64 wh, .int .i64 bu, .int .i64 o, .int .i64 t, .slice A2 n2 c2], .int .i64 own] w fun e w' => e = .returned (.bool true) ∧ Below w.heap.size w w' := by
  have hc := Lib.hid (fun W q => great_in false m A n c w.heap.size qs W h3 h1 h2 q)
  have HH := Lib.hid H
  have RD := Lib.hid rd
  have h5 : Hid (decide (1600 < n2) = true) := Lib.hid (decide_eq_true h4)
  have ba := alloc_below w (.cells #[.int .i64 wh, .int .i64 bu, .int .i64 o, .int .i64 t, .slice A2 n2 c2] 25)
  have bx : (w.alloc (.cells #[.int .i64 wh, .int .i64 bu, .int .i64 o, .int .i64 t, .slice A2 n2 c2] 25)).heap[w.heap.size]? = some (.cells #[.int .i64 wh, .int .i64 bu, .int .i64 o, .int .i64 t, .slice A2 n2 c2] 25 (0, 0)) := heap_alloc_new w _
  clear H h1 h2 h3 rd h4
  go_enter Try.func3, Try.ntmps3
  go_wp2_with fail
  refine (alive_any _).mono ?_
  rintro ev w1 ⟨rfl, hb⟩
  replace bx := (hb.block _ (by simp)).trans bx
  replace hb := ba.trans (hb.mono (by simp))
  obtain ⟨x0, x1, x2, x3, x4⟩ := box_cells bx
  go_wp2_with fail
  refine (hc.out _ (HH.out.below hb)).mono ?_
  rintro ev w2 ⟨rfl, rfl⟩
  have hb2 := alloc_below w1 (.cells #[.int .i64 wh, .int .i64 bu, .int .i64 o, .int .i64 t, .slice A2 n2 c2] 25)
  have hc2 := Lib.hid (great_last true w1 wh bu o t A2 n2 c2 ys ((RD.out.below hb (Nat.le_refl _)).more hb.size) h5.out)
  replace hb2 := hb.trans (hb2.mono hb.size)
  go_wp2_with fail
  refine hc2.out.mono ?_
  rintro ev w2 ⟨rfl, rfl⟩
  clear hc2 hc
  go_wp2
  go_ret
  exact ⟨rfl, hb2⟩
set_option maxRecDepth 100000 in
set_option maxHeartbeats 4000000 in
theorem calls_bad (m : Int) (A : Option Addr) (n c : Nat) (qs : Nat → Cal) (wh bu o t : Int) (A2 : Option Addr) (n2 c2 : Nat) (ys : List Int) (own : Int) (w : World) (H : CallsAt w w.heap.size A n c qs) (rd : Rd .u8 w w.heap.size A2 n2 c2 ys) (h2 : n ≤ 100) (h3 : longB n qs = false) (h4 : n2 ≤ 1600) (h7 : m < 1 ∨ 1024 < m) : Calls Try.prog 3 #[.int .i64 m, .slice A n c, .agg #[.int .i64 wh, .int .i64 bu, .int .i64 o, .int .i64 t, .slice A2 n2 c2], .int .i64 own] w fun e w' => e = .returned (.bool true) ∧ Below w.heap.size w w' := by
  have hc := Lib.hid (fun W q => great_in false m A n c w.heap.size qs W h3 (by omega) h2 q)
  have HN := Lib.hid (fun W => new_no m W h7)
  have HR := Lib.hid (fun W => refNew_no m W h7)
  have HH := Lib.hid H
  have RD := Lib.hid rd
  have h5 : Hid (decide (1600 < n2) = false) := Lib.hid (decide_eq_false (by omega))
  have ba := alloc_below w (.cells #[.int .i64 wh, .int .i64 bu, .int .i64 o, .int .i64 t, .slice A2 n2 c2] 25)
  have bx : (w.alloc (.cells #[.int .i64 wh, .int .i64 bu, .int .i64 o, .int .i64 t, .slice A2 n2 c2] 25)).heap[w.heap.size]? = some (.cells #[.int .i64 wh, .int .i64 bu, .int .i64 o, .int .i64 t, .slice A2 n2 c2] 25 (0, 0)) := heap_alloc_new w _
  clear H h2 h3 rd h4 h7
  go_enter Try.func3, Try.ntmps3
  go_wp2_with fail
  refine (alive_any _).mono ?_
  rintro ev w1 ⟨rfl, hb⟩
  replace bx := (hb.block _ (by simp)).trans bx
  replace hb := ba.trans (hb.mono (by simp))
  obtain ⟨x0, x1, x2, x3, x4⟩ := box_cells bx
  go_wp2_with fail
  refine (hc.out _ (HH.out.below hb)).mono ?_
  rintro ev w2 ⟨rfl, rfl⟩
  have hb2 := alloc_below w1 (.cells #[.int .i64 wh, .int .i64 bu, .int .i64 o, .int .i64 t, .slice A2 n2 c2] 25)
  have hc2 := Lib.hid (great_last false w1 wh bu o t A2 n2 c2 ys ((RD.out.below hb (Nat.le_refl _)).more hb.size) h5.out)
  replace hb2 := hb.trans (hb2.mono hb.size)
  go_wp2_with fail
  refine hc2.out.mono ?_
  rintro ev w2 ⟨rfl, rfl⟩
  clear hc2 hc
  go_wp2_with fail
  refine (HN.out _).mono ?_
  rintro ev w3 ⟨rfl, rfl⟩
  go_wp2_with fail
  refine (HR.out _).mono ?_
  rintro ev w3 ⟨rfl, rfl⟩
  go_wp2
  go_ret
  exact ⟨rfl, hb2⟩
set_option maxRecDepth 100000 in
set_option maxHeartbeats 4000000 in
theorem calls_in (m : Nat) (A : Option Addr) (n c : Nat) (qs : Nat → Cal) (wh bu o t : Int) (A2 : Option Addr) (n2 c2 : Nat) (ys : List Int) (own : Int) (w : World) (H : CallsAt w w.heap.size A n c qs) (rd : Rd .u8 w w.heap.size A2 n2 c2 ys) (h1 : 1 ≤ m) (h8 : m ≤ 100) (h2 : n ≤ 100) (h3 : longB n qs = false) (h4 : n2 ≤ 1600) : Calls Try.prog 3 #[.int .i64 (m : Int), .slice A n c, .agg #[.int .i64 wh, .int .i64 bu, .int .i64 o, .int .i64 t, .slice A2 n2 c2], .int .i64 own] w fun e w' => e = .returned (.bool true) ∧ Below w.heap.size w w' := by
  have hc := Lib.hid (fun W q => great_in false (m : Int) A n c w.heap.size qs W h3 (by omega) h2 q)
  have HN := Lib.hid (fun W => new_yes m W h1 (by omega))
  have HR := Lib.hid (fun W => refNew_yes m W h1 (by omega))
  have HH := Lib.hid H
  have RD := Lib.hid rd
  have HX : Hid (∀ j, j < n → (qs j).n ≤ 1600) := Lib.hid (fun j hj => longB_of h3 hj)
  have h5 : Hid (decide (1600 < n2) = false) := Lib.hid (decide_eq_false (by omega))
  have hcc := H.1.2
  have ba := alloc_below w (.cells #[.int .i64 wh, .int .i64 bu, .int .i64 o, .int .i64 t, .slice A2 n2 c2] 25)
  have bx : (w.alloc (.cells #[.int .i64 wh, .int .i64 bu, .int .i64 o, .int .i64 t, .slice A2 n2 c2] 25)).heap[w.heap.size]? = some (.cells #[.int .i64 wh, .int .i64 bu, .int .i64 o, .int .i64 t, .slice A2 n2 c2] 25 (0, 0)) := heap_alloc_new w _
  clear H h3 rd
  go_enter Try.func3, Try.ntmps3
  go_wp2_with fail
  refine (alive_any _).mono ?_
  rintro ev w1 ⟨rfl, hb⟩
  replace bx := (hb.block _ (by simp)).trans bx
  replace hb := ba.trans (hb.mono (by simp))
  obtain ⟨x0, x1, x2, x3, x4⟩ := box_cells bx
  go_wp2_with fail
  refine (hc.out _ (HH.out.below hb)).mono ?_
  rintro ev w2 ⟨rfl, rfl⟩
  have hb2 := alloc_below w1 (.cells #[.int .i64 wh, .int .i64 bu, .int .i64 o, .int .i64 t, .slice A2 n2 c2] 25)
  have hc2 := Lib.hid (great_last false w1 wh bu o t A2 n2 c2 ys ((RD.out.below hb (Nat.le_refl _)).more hb.size) h5.out)
  replace hb2 := hb.trans (hb2.mono hb.size)
  go_wp2_with fail
  refine hc2.out.mono ?_
  rintro ev w2 ⟨rfl, rfl⟩
  clear hc2 hc
  have bx2 := ((alloc_below w1 (.cells #[.int .i64 wh, .int .i64 bu, .int .i64 o, .int .i64 t, .slice A2 n2 c2] 25)).block _ (Array.getElem?_eq_some_iff.1 bx).1).trans bx
  have sz := (Array.getElem?_eq_some_iff.1 bx).1
  have sz2 : w.heap.size < (w1.alloc (.cells #[.int .i64 wh, .int .i64 bu, .int .i64 o, .int .i64 t, .slice A2 n2 c2] 25)).heap.size := by rw [World.size_alloc]; omega
  clear x0 x1 x2 x3 x4 bx hb
  go_wp2_with fail
  refine (HN.out _).mono ?_
  rintro ev w3 ⟨p, g, rfl, hp, hlo, hb3⟩
  replace bx2 := (hb3.block _ sz2).trans bx2
  replace hb2 := hb2.trans (hb3.mono hb2.size)
  have sz3 : w.heap.size < w3.heap.size := Nat.lt_of_lt_of_le sz2 hb3.size
  go_wp2_with fail
  refine (HR.out _).mono ?_
  rintro ev w4 ⟨r, gr, rfl, hr, hlo2, hb4⟩
  have q0 : KB w p g m r gr m (List.replicate m (0, [])) wh bu o t A2 n2 c2 w4 := ⟨hp.below hb4, hr, (hb4.block _ sz3).trans bx2, hb2.trans (hb4.mono hb2.size), by have := hb3.size; omega, by simp, by omega⟩
  clear hp hr hlo hlo2 hb3 hb4 hb2 bx2 HN HR sz sz2 sz3
  go_wp2
  go_loopw [13] (fun i wr => ∃ (k : Nat) (L : Slots), k ≤ n ∧ i = .int .i64 k ∧ KB w p g m r gr m L wh bu o t A2 n2 c2 wr) (fun i _ => n - (intOf i).toNat)
  case atStart => exact ⟨0, _, Nat.zero_le _, rfl, q0⟩
  case round =>
    clear q0
    obtain ⟨k, L, hk, rfl, q⟩ := hrel
    by_cases hkn : k < n
    · obtain ⟨b0, o0, rfl, hbB, ⟨c0, c1, c2', c3, c4⟩, hrd⟩ := HH.out.2 k hkn
      have hd := Lib.hid (do_both (qs k).wh (qs k).bu (qs k).o (qs k).t (qs k).A (qs k).n (qs k).c (qs k).xs q hrd (HX.out k hkn))
      replace c0 := (q.b.cell hbB).trans c0
      replace c1 := (q.b.cell hbB).trans c1
      replace c2' := (q.b.cell hbB).trans c2'
      replace c3 := (q.b.cell hbB).trans c3
      replace c4 := (q.b.cell hbB).trans c4
      clear hrd q
      go_wp2_with fail
      refine hd.out.mono ?_
      rintro ev w5 ⟨rfl, q5⟩
      clear hd c0 c1 c2' c3 c4
      go_wp2_with fail
      refine (agree_both q5).mono ?_
      rintro ev w6 ⟨rfl, q6⟩
      clear q5
      go_wp2
      go_roundw
      case rel => exact ⟨k + 1, _, by omega, by go_num, q6⟩
      case measure => simp [intOf]; omega
    · have hsame := Lib.hid (held_same q.pp.good own)
      go_wp2_with fail
      refine (clone_both q).mono ?_
      rintro ev w5 ⟨p2, g2, rfl, K⟩
      clear q
      go_wp2
      refine wp_region_held_drew (S := fun w' => w'.heap[w.heap.size]? = some (.cells #[.int .i64 wh, .int .i64 bu, .int .i64 o, .int .i64 t, .slice A2 n2 c2] 25 (0, 0))) (by kernel_rfl) (K.step (below_drew _)).q.bx (fun hHeld => ?_)
      replace K := K.step (below_drew _)
      change wpAnyH _ _ _ _ _ _ _ _ (World.drew _)
      generalize World.drew w5 = W6 at *
      refine wpAnyH_at (i := 0) (some 73) (v := ?v0z1) rfl rfl (by kernel_rfl) (by kernel_rfl) (by kernel_rfl) (fun _ _ _ h => h) (Or.inl ⟨by rfl, ?y0z1⟩) (by assumption) ?r0z1
      case y0z1 =>
        intro w9 hSw
        clear hSw
        go_simp
        all_goals with_reducible rfl
      simp only [Act.put, List.setIfInBounds_toArray, List.set_cons_zero, List.set_cons_succ]
      refine wpAnyH_at (i := 1) (some 74) (v := ?v1z2) rfl rfl (by kernel_rfl) (by kernel_rfl) (by kernel_rfl) (fun _ _ _ h => h) (Or.inl ⟨by rfl, ?y1z2⟩) (by assumption) ?r1z2
      case y1z2 =>
        intro w9 hSw
        clear hSw
        go_simp
        all_goals with_reducible rfl
      simp only [Act.put, List.setIfInBounds_toArray, List.set_cons_zero, List.set_cons_succ]
      refine wpAnyH_at (i := 2) (some 75) (v := ?v2z3) rfl rfl (by kernel_rfl) (by kernel_rfl) (by kernel_rfl) (fun _ _ _ h => h) (Or.inl ⟨by rfl, ?y2z3⟩) (by assumption) ?r2z3
      case y2z3 =>
        intro w9 hSw
        clear hSw
        go_simp
        all_goals with_reducible rfl
      simp only [Act.put, List.setIfInBounds_toArray, List.set_cons_zero, List.set_cons_succ]
      refine wpAnyH_at (i := 3) (some 76) (v := ?v3z4) rfl rfl (by kernel_rfl) (by kernel_rfl) (by kernel_rfl) (fun _ _ _ h => h) (Or.inl ⟨by rfl, ?y3z4⟩) (by assumption) ?r3z4
      case y3z4 =>
        intro w9 hSw
        clear hSw
        go_simp
        all_goals with_reducible rfl
      simp only [Act.put, List.setIfInBounds_toArray, List.set_cons_zero, List.set_cons_succ]
      refine wpAnyH_at (i := 4) (some 77) (v := ?v4z5) rfl rfl (by kernel_rfl) (by kernel_rfl) (by kernel_rfl) (fun _ _ _ h => h) (Or.inl ⟨by rfl, ?y4z5⟩) (by assumption) ?r4z5
      case y4z5 =>
        intro w9 hSw
        clear hSw
        go_simp
        all_goals with_reducible rfl
      simp only [Act.put, List.setIfInBounds_toArray, List.set_cons_zero, List.set_cons_succ]
      refine wpAnyH_at (i := 6) (some 79) (v := ?v6z6) rfl rfl (by kernel_rfl) (by kernel_rfl) (by kernel_rfl) (fun _ _ _ h => h) (Or.inl ⟨by rfl, ?y6z6⟩) (by assumption) ?r6z6
      case y6z6 =>
        intro w9 hSw
        have hSw2 : w9.heap[w.heap.size]? = some (.cells #[.int .i64 wh, .int .i64 bu, .int .i64 o, .int .i64 t, .slice A2 n2 c2] 25 (0, 0)) := hSw; have bc := box_cells hSw2; have a0 := bc.1; have a1 := bc.2.1; have a2 := bc.2.2.1; have a3 := bc.2.2.2.1; have a4 := bc.2.2.2.2; clear hSw hSw2 bc
        go_simp
        all_goals with_reducible rfl
      simp only [Act.put, List.setIfInBounds_toArray, List.set_cons_zero, List.set_cons_succ]
      refine wpAnyH_one (i := 5) (by kernel_rfl) rfl ?_
      go_wp2_with fail
      refine (copy_both K).mono ?_
      rintro ev W7 ⟨r2, gr2, cr2, rfl, K2, hR, hl⟩; clear K; have Q := K2.q
      go_wp2
      clear hHeld
      have hHeld := Q.bx
      refine ⟨hHeld, ?_⟩
      try simp only [Act.put, List.setIfInBounds_toArray, List.set_cons_zero, List.set_cons_succ]
      refine wpAnyH_one (i := 7) (by kernel_rfl) rfl ?_
      go_wp2_with fail
      refine (do_last K2 hR hl RD.out h4).mono ?_
      rintro ev W8 ⟨rfl, Q2⟩; clear Q K2 hR hl; have Q := Q2; clear Q2
      go_wp2
      clear hHeld
      have hHeld := Q.bx
      refine ⟨hHeld, ?_⟩
      try simp only [Act.put, List.setIfInBounds_toArray, List.set_cons_zero, List.set_cons_succ]
      refine wpAnyH_at (i := 8) (some 81) (v := ?v8z7) rfl rfl (by kernel_rfl) (by kernel_rfl) (by kernel_rfl) (fun _ _ _ h => h) (Or.inl ⟨by rfl, ?y8z7⟩) (by assumption) ?r8z7
      case y8z7 =>
        intro w9 hSw
        clear hSw
        go_simp
        all_goals with_reducible rfl
      simp only [Act.put, List.setIfInBounds_toArray, List.set_cons_zero, List.set_cons_succ]
      refine wpAnyH_at (i := 9) (some 82) (v := ?v9z8) rfl rfl (by kernel_rfl) (by kernel_rfl) (by kernel_rfl) (fun _ _ _ h => h) (Or.inl ⟨by rfl, ?y9z8⟩) (by assumption) ?r9z8
      case y9z8 =>
        intro w9 hSw
        clear hSw
        go_simp
        all_goals with_reducible rfl
      simp only [Act.put, List.setIfInBounds_toArray, List.set_cons_zero, List.set_cons_succ]
      refine wpAnyH_at (i := 10) (some 83) (v := ?v10z9) rfl rfl (by kernel_rfl) (by kernel_rfl) (by kernel_rfl) (fun _ _ _ h => h) (Or.inl ⟨by rfl, ?y10z9⟩) (by assumption) ?r10z9
      case y10z9 =>
        intro w9 hSw
        clear hSw
        go_simp
        all_goals with_reducible rfl
      simp only [Act.put, List.setIfInBounds_toArray, List.set_cons_zero, List.set_cons_succ]
      refine wpAnyH_at (i := 11) (some 84) (v := ?v11z10) rfl rfl (by kernel_rfl) (by kernel_rfl) (by kernel_rfl) (fun _ _ _ h => h) (Or.inl ⟨by rfl, ?y11z10⟩) (by assumption) ?r11z10
      case y11z10 =>
        intro w9 hSw
        clear hSw
        go_simp
        all_goals with_reducible rfl
      simp only [Act.put, List.setIfInBounds_toArray, List.set_cons_zero, List.set_cons_succ]
      refine wpAnyH_one (i := 12) (by kernel_rfl) rfl ?_
      go_wp2_with fail
      refine (agree_both Q).mono ?_
      rintro ev W9 ⟨rfl, Q2⟩; clear Q; have Q := Q2; clear Q2
      go_wp2
      clear hHeld
      have hHeld := Q.bx
      refine ⟨hHeld, ?_⟩
      try simp only [Act.put, List.setIfInBounds_toArray, List.set_cons_zero, List.set_cons_succ]
      refine wpAnyH_at (i := 13) (some 86) (v := ?v13z11) rfl rfl (by kernel_rfl) (by kernel_rfl) (by kernel_rfl) (fun _ _ _ h => h) (Or.inl ⟨by rfl, ?y13z11⟩) (by assumption) ?r13z11
      case y13z11 =>
        intro w9 hSw
        clear hSw
        go_simp
        all_goals with_reducible rfl
      simp only [Act.put, List.setIfInBounds_toArray, List.set_cons_zero, List.set_cons_succ]
      refine wpAnyH_at (i := 14) (some 87) (v := ?v14z12) rfl rfl (by kernel_rfl) (by kernel_rfl) (by kernel_rfl) (fun _ _ _ h => h) (Or.inl ⟨by rfl, ?y14z12⟩) (by assumption) ?r14z12
      case y14z12 =>
        intro w9 hSw
        clear hSw
        go_simp
        all_goals with_reducible rfl
      simp only [Act.put, List.setIfInBounds_toArray, List.set_cons_zero, List.set_cons_succ]
      refine wpAnyH_at (i := 15) (some 88) (v := ?v15z13) rfl rfl (by kernel_rfl) (by kernel_rfl) (by kernel_rfl) (fun _ _ _ h => h) (Or.inl ⟨by rfl, ?y15z13⟩) (by assumption) ?r15z13
      case y15z13 =>
        intro w9 hSw
        clear hSw
        go_simp
        all_goals with_reducible rfl
      simp only [Act.put, List.setIfInBounds_toArray, List.set_cons_zero, List.set_cons_succ]
      refine wpAnyH_at (i := 16) (some 89) (v := ?v16z14) rfl rfl (by kernel_rfl) (by kernel_rfl) (by kernel_rfl) (fun _ _ _ h => h) (Or.inl ⟨by rfl, ?y16z14⟩) (by assumption) ?r16z14
      case y16z14 =>
        intro w9 hSw
        clear hSw
        go_simp
        all_goals with_reducible rfl
      simp only [Act.put, List.setIfInBounds_toArray, List.set_cons_zero, List.set_cons_succ]
      refine wpAnyH_at (i := 18) (some 91) (v := ?v18z15) rfl rfl (by kernel_rfl) (by kernel_rfl) (by kernel_rfl) (fun _ _ _ h => h) (Or.inl ⟨by rfl, ?y18z15⟩) (by assumption) ?r18z15
      case y18z15 =>
        intro w9 hSw
        clear hSw
        go_simp
        all_goals with_reducible rfl
      simp only [Act.put, List.setIfInBounds_toArray, List.set_cons_zero, List.set_cons_succ]
      refine wpAnyH_at (i := 19) (some 92) (v := ?v19z16) rfl rfl (by kernel_rfl) (by kernel_rfl) (by kernel_rfl) (fun _ _ _ h => h) (Or.inl ⟨by rfl, ?y19z16⟩) (by assumption) ?r19z16
      case y19z16 =>
        intro w9 hSw
        clear hSw
        go_simp
        all_goals with_reducible rfl
      simp only [Act.put, List.setIfInBounds_toArray, List.set_cons_zero, List.set_cons_succ]
      refine wpAnyH_one (i := 17) (by kernel_rfl) rfl ?_
      go_wp2_with fail
      refine (held_any p g m L _ own _ Q.pp).mono ?_
      rintro ev W10 ⟨A5, m5, c5, rfl, o5, b5⟩; replace Q := Q.step b5; clear b5; rw [hsame.out] at o5
      go_wp2
      clear hHeld
      have hHeld := Q.bx
      refine ⟨hHeld, ?_⟩
      try simp only [Act.put, List.setIfInBounds_toArray, List.set_cons_zero, List.set_cons_succ]
      refine wpAnyH_one (i := 20) (by kernel_rfl) rfl ?_
      go_wp2_with fail
      refine (refHeld_any r gr m L _ own _ Q.rp).mono ?_
      rintro ev W11 ⟨A6, m6, c6, rfl, o6, b6⟩; replace Q := Q.step b6; have r5 := o5.rd.below b6 (Nat.le_refl _); clear b6 o5
      go_wp2
      clear hHeld
      have hHeld := Q.bx
      refine ⟨hHeld, ?_⟩
      try simp only [Act.put, List.setIfInBounds_toArray, List.set_cons_zero, List.set_cons_succ]
      refine wpAnyH_one (i := 21) (by kernel_rfl) rfl ?_
      go_wp2_with fail
      refine (sameInts_any _ _ _ _ _ _ _ _ _ _ r5 o6.rd).mono ?_
      rintro ev W12 ⟨rfl, b7⟩; replace Q := Q.step b7; clear b7 r5 o6
      go_wp2
      clear hHeld
      have hHeld := Q.bx
      refine ⟨hHeld, ?_⟩
      try simp only [Act.put, List.setIfInBounds_toArray, List.set_cons_zero, List.set_cons_succ]
      refine wpAnyH_at (i := 22) (some 95) (v := ?v22z17) rfl rfl (by kernel_rfl) (by kernel_rfl) (by kernel_rfl) (fun _ _ _ h => h) (Or.inl ⟨by rfl, ?y22z17⟩) (by assumption) ?r22z17
      case y22z17 =>
        intro w9 hSw
        clear hSw
        go_simp
        all_goals with_reducible rfl
      simp only [Act.put, List.setIfInBounds_toArray, List.set_cons_zero, List.set_cons_succ]
      refine wpAnyH_at (i := 23) (some 8) (v := ?v23z18) rfl rfl (by kernel_rfl) (by kernel_rfl) (by kernel_rfl) (fun _ _ _ h => h) (Or.inl ⟨by rfl, ?y23z18⟩) (by assumption) ?r23z18
      case y23z18 =>
        intro w9 hSw
        clear hSw
        go_simp
        all_goals with_reducible rfl
      simp only [Act.put, List.setIfInBounds_toArray, List.set_cons_zero, List.set_cons_succ]
      refine wpAnyH_done (by kernel_rfl) ?_ _
      have b9 := Q.b
      clear Q hHeld
      go_wp2
      go_ret
      exact ⟨rfl, b9⟩
theorem calls_law (m : Int) (A : Option Addr) (n c : Nat) (qs : Nat → Cal) (wh bu o t : Int) (A2 : Option Addr) (n2 c2 : Nat) (ys : List Int) (own : Int) (w : World) (H : CallsAt w w.heap.size A n c qs) (rd : Rd .u8 w w.heap.size A2 n2 c2 ys) : Calls Try.prog 3 #[.int .i64 m, .slice A n c, .agg #[.int .i64 wh, .int .i64 bu, .int .i64 o, .int .i64 t, .slice A2 n2 c2], .int .i64 own] w fun e w' => e = .returned (.bool true) ∧ Below w.heap.size w w' := by
  by_cases h1 : (100 < m ∧ m ≤ 1024) ∨ 100 < n
  · exact calls_big m A n c qs wh bu o t A2 n2 c2 ys own w H rd h1
  have h1' : ¬ (100 < m ∧ m ≤ 1024) := fun q => h1 (.inl q)
  have h2 : n ≤ 100 := by omega
  by_cases h3 : longB n qs = true
  · exact calls_long m A n c qs wh bu o t A2 n2 c2 ys own w H rd h1' h2 h3
  have h3' : longB n qs = false := by simpa using h3
  by_cases h4 : 1600 < n2
  · exact calls_far m A n c qs wh bu o t A2 n2 c2 ys own w H rd h1' h2 h3' h4
  have h4' : n2 ≤ 1600 := by omega
  by_cases h7 : m < 1 ∨ 1024 < m
  · exact calls_bad m A n c qs wh bu o t A2 n2 c2 ys own w H rd h2 h3' h4' h7
  obtain ⟨k, rfl⟩ : ∃ k : Nat, m = (k : Int) := ⟨m.toNat, by omega⟩
  exact calls_in k A n c qs wh bu o t A2 n2 c2 ys own w H rd (by omega) (by omega) h2 h3' h4'
end Go.Proofs.Ytddhdfbhjgaffaa
