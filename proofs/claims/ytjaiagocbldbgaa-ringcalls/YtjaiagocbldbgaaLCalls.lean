/-
  The law RingCalls: every row of calls is answered as the document says.
-/
import Derived.Test.YtjaiagocbldbgaaDo1
import Derived.Test.YtjaiagocbldbgaaAgr
import Derived.Test.YtjaiagocbldbgaaAlive
import Derived.Test.YtjaiagocbldbgaaArgu
namespace Go.Proofs.Ytjaiagocbldbgaa
open Go.RowKit
set_option linter.unusedVariables false

theorem box_cells {W : World} {gb : Nat} {wh bu fr : Int} {A2 : Option Addr} {n2 c2 : Nat} (h : W.heap[gb]? = some (.cells (box wh bu fr A2 n2 c2) 25 (0, 0))) :
    W.cell? ⟨gb, 0, none⟩ = some (.int .i64 wh) ∧ W.cell? ⟨gb, 1, none⟩ = some (.int .i64 bu) ∧ W.cell? ⟨gb, 2, none⟩ = some (.int .i64 fr) ∧ W.cell? ⟨gb, 3, none⟩ = some (.slice A2 n2 c2) :=
  ⟨cell_of_row W gb 0 _ 25 (0, 0) h, cell_of_row W gb 1 _ 25 (0, 0) h, cell_of_row W gb 2 _ 25 (0, 0) h, cell_of_row W gb 3 _ 25 (0, 0) h⟩
/-- great of one call. -/
theorem great_last (x : Bool) (W : World) (wh bu fr : Int) (A2 : Option Addr) (n2 c2 : Nat) (ys : List Int) (rd : Rd .u8 W W.heap.size A2 n2 c2 ys) (hx : decide (1600 < n2) = x) :
    Calls Try.prog 8 #[.int .i64 1, .slice (some ⟨W.heap.size, 0, none⟩) 1 1] (W.alloc (.cells (box wh bu fr A2 n2 c2) 25)) fun e w' => e = .returned (.bool x) ∧ W.alloc (.cells (box wh bu fr A2 n2 c2) 25) = w' := by
  have hb := alloc_below W (.cells (box wh bu fr A2 n2 c2) 25)
  have h := box_cells (heap_alloc_new W (.cells (box wh bu fr A2 n2 c2) 25))
  refine great_in x 1 _ 1 1 (W.heap.size + 1) (fun _ => ⟨wh, bu, fr, A2, n2, c2, ys⟩) _ ?_ (by omega) (by omega) ⟨⟨Nat.le_refl _, by omega⟩, fun i hi => ?_⟩
  · rw [← hx]
    simp [longB]
  · obtain rfl : i = 0 := by omega
    exact ⟨W.heap.size, 0, rfl, by omega, h, (rd.below hb (Nat.le_refl _)).more (by omega)⟩
/-- What the law's walk knows of the pools and the rings. -/
structure KB (w : World) (p g m q s r h cr t b z : Nat) (o : Int) (L : Slots) (R : List Nat) (d : Nat) (wh bu fr : Int) (A2 : Option Addr) (n2 c2 : Nat) (W : World) : Prop where
  tw : Two (w.heap.size + 1) p g m q s r h cr t b z o L R d L R d Tr W
  hR : ∀ x ∈ R, x < L.length
  bx : W.heap[w.heap.size]? = some (.cells (box wh bu fr A2 n2 c2) 25 (0, 0))
  b : Below w.heap.size w W
section
variable {w W V : World} {p g m q s r h cr t b z : Nat} {o : Int} {L : Slots} {R : List Nat} {d : Nat} {wh bu fr : Int} {A2 : Option Addr} {n2 c2 : Nat}
theorem KB.step (k : KB w p g m q s r h cr t b z o L R d wh bu fr A2 n2 c2 W) (hb : Below W.heap.size W V) : KB w p g m q s r h cr t b z o L R d wh bu fr A2 n2 c2 V :=
  ⟨k.tw.below hb, k.hR, (hb.block _ (Array.getElem?_eq_some_iff.1 k.bx).1).trans k.bx, k.b.trans (hb.mono k.b.size)⟩
theorem do_both (wh' bu' fr' : Int) (A : Option Addr) (n c : Nat) (xs : List Int) (k : KB w p g m q s r h cr t b z o L R d wh bu fr A2 n2 c2 W) (hd : d ≤ 50000) (rd : Rd .u8 w w.heap.size A n c xs) (hn : n ≤ 1600) :
    Calls Try.prog 13 #[ptr p, ptr q, ptr r, ptr t, .agg (box wh' bu' fr' A n c)] W fun e w' => e = .returned (.bool true) ∧ ∃ L' R' d', d' ≤ d + 1 ∧ KB w p g m q s r h cr t b z o L' R' d' wh bu fr A2 n2 c2 w' := by
  refine (do_any _ p g m q s r h cr t b z o L R d bu' fr' A n c xs W k.tw k.hR hd ((rd.below k.b (Nat.le_refl _)).more (by omega)) hn wh').mono ?_
  rintro e w' ⟨rfl, L', R', d', h1, h2, h3, h4, h5⟩
  exact ⟨rfl, L', R', d', h4, h1, h3, (h5.block _ (by omega)).trans k.bx, k.b.trans (h5.mono (by omega))⟩
theorem agree_both (k : KB w p g m q s r h cr t b z o L R d wh bu fr A2 n2 c2 W) :
    Calls Try.prog 14 #[ptr p, ptr q, ptr r, ptr t] W fun e w' => e = .returned (.bool true) ∧ Below W.heap.size W w' :=
  agr_any _ p g m q s r h cr t b z o L R d Tr W k.tw k.hR
end
/-- And of the clones. -/
structure KX (p g m q s r h cr t b z : Nat) (o : Int) (L : Slots) (R : List Nat) (d : Nat) (w : World) (wh bu fr : Int) (A2 : Option Addr) (n2 c2 : Nat) (V : World) (p2 g2 cp2 q2 s2 r2 h2 cr2 : Nat) (W : World) : Prop where
  k : KB w p g m q s r h cr t b z o L R d wh bu fr A2 n2 c2 V
  bb : Below V.heap.size V W
  pp : Pp W p2 g2 cp2 L Tr
  rp : Rp W r2 h2 cr2 L Tr
  rg : RgAt W q2 p2 s2 z o R d
  lo : V.heap.size ≤ p2 ∧ V.heap.size ≤ g2 ∧ V.heap.size ≤ q2 ∧ V.heap.size ≤ s2 ∧ V.heap.size ≤ r2 ∧ V.heap.size ≤ h2
section
variable {p g m q s r h cr t b z : Nat} {o : Int} {L : Slots} {R : List Nat} {d : Nat} {w V W W' : World} {wh bu fr : Int} {A2 : Option Addr} {n2 c2 p2 g2 cp2 q2 s2 r2 h2 cr2 : Nat}
theorem KX.step (x : KX p g m q s r h cr t b z o L R d w wh bu fr A2 n2 c2 V p2 g2 cp2 q2 s2 r2 h2 cr2 W) (hb : Below W.heap.size W W') : KX p g m q s r h cr t b z o L R d w wh bu fr A2 n2 c2 V p2 g2 cp2 q2 s2 r2 h2 cr2 W' :=
  ⟨x.k, x.bb.trans (hb.mono x.bb.size), x.pp.below hb, x.rp.below hb, x.rg.below hb, x.lo⟩
theorem KX.bx (x : KX p g m q s r h cr t b z o L R d w wh bu fr A2 n2 c2 V p2 g2 cp2 q2 s2 r2 h2 cr2 W) : W.heap[w.heap.size]? = some (.cells (box wh bu fr A2 n2 c2) 25 (0, 0)) := (x.k.step x.bb).bx
theorem rcopy_both (x : KX p g m q s r h cr t b z o L R d w wh bu fr A2 n2 c2 V p2 g2 cp2 q2 s2 r2 h2 cr2 W) :
    Calls Try.prog 18 #[ptr t, ptr r2] W fun e w' => ∃ t2 b2, e = .returned (ptr t2) ∧ KX p g m q s r h cr t b z o L R d w wh bu fr A2 n2 c2 V p2 g2 cp2 q2 s2 r2 h2 cr2 w' ∧ Two V.heap.size p2 g2 cp2 q2 s2 r2 h2 cr2 t2 b2 z o L R d L R d Tr w' := by
  refine (rcopy_any t r r2 b z o R d W (x.k.step x.bb).tw.rr).mono ?_
  rintro e w' ⟨t2, rfl, h1, h2', h3⟩
  have y := x.step h3
  have := x.lo
  have := x.bb.size
  have := x.rg.lt
  exact ⟨t2, W.heap.size, rfl, y, ⟨y.pp, y.rg, y.rp, h1, x.k.tw.hL, by omega, by omega⟩⟩
theorem do_last {t2 b2 : Nat} {ys : List Int} (x : KX p g m q s r h cr t b z o L R d w wh bu fr A2 n2 c2 V p2 g2 cp2 q2 s2 r2 h2 cr2 W) (y : Two V.heap.size p2 g2 cp2 q2 s2 r2 h2 cr2 t2 b2 z o L R d L R d Tr W) (hd : d ≤ 50000) (rd : Rd .u8 w w.heap.size A2 n2 c2 ys) (hn : n2 ≤ 1600) :
    Calls Try.prog 13 #[ptr p2, ptr q2, ptr r2, ptr t2, .agg (box wh bu fr A2 n2 c2)] W fun e w' => e = .returned (.bool true) ∧ KB w p g m q s r h cr t b z o L R d wh bu fr A2 n2 c2 w' := by
  have k := x.k.step x.bb
  have hsz := x.bb.size
  have h1 := x.k.b.size
  refine (do_any _ p2 g2 cp2 q2 s2 r2 h2 cr2 t2 b2 z o L R d bu fr A2 n2 c2 ys W y x.k.hR hd ((rd.below k.b (Nat.le_refl _)).more h1) hn wh).mono ?_
  rintro e w' ⟨rfl, _, _, _, _, _, _, _, h5⟩
  exact ⟨rfl, x.k.step (x.bb.trans h5)⟩
end
set_option maxRecDepth 100000 in
set_option maxHeartbeats 4000000 in
theorem calls_big (m sz own : Int) (A : Option Addr) (n c : Nat) (qs : Nat → Cal) (wh bu fr : Int) (A2 : Option Addr) (n2 c2 : Nat) (ys : List Int) (w : World) (H : CallsAt w w.heap.size A n c qs) (rd : Rd .u8 w w.heap.size A2 n2 c2 ys) (h : 100 < m ∨ 100 < n) : Calls Try.prog 3 #[.int .i64 m, .int .i64 sz, .int .i64 own, .slice A n c, .agg (box wh bu fr A2 n2 c2)] w fun e w' => e = .returned (.bool true) ∧ Below w.heap.size w w' := by
  have hc := Lib.hid (fun W => great_big m A n c W h H.1)
  have ba := alloc_below w (.cells (box wh bu fr A2 n2 c2) 25)
  have bx : (w.alloc (.cells (box wh bu fr A2 n2 c2) 25)).heap[w.heap.size]? = some (.cells (box wh bu fr A2 n2 c2) 25 (0, 0)) := heap_alloc_new w _
  clear H h rd
  go_enter Try.func3, Try.ntmps3
  go_wp2_with fail
  refine (alive_any _).mono ?_
  rintro ev w1 ⟨rfl, hb⟩
  replace bx := (hb.block _ (by simp)).trans bx
  replace hb := ba.trans (hb.mono (by simp))
  obtain ⟨x0, x1, x2, x3⟩ := box_cells bx
  go_wp2_with fail
  refine (hc.out _).mono ?_
  rintro ev w2 ⟨rfl, rfl⟩
  go_wp2
  go_ret
  exact ⟨rfl, hb⟩
set_option maxRecDepth 100000 in
set_option maxHeartbeats 4000000 in
theorem calls_long (m sz own : Int) (A : Option Addr) (n c : Nat) (qs : Nat → Cal) (wh bu fr : Int) (A2 : Option Addr) (n2 c2 : Nat) (ys : List Int) (w : World) (H : CallsAt w w.heap.size A n c qs) (rd : Rd .u8 w w.heap.size A2 n2 c2 ys) (h1 : ¬ 100 < m) (h2 : n ≤ 100) (h3 : longB n qs = true) : Calls Try.prog 3 #[.int .i64 m, .int .i64 sz, .int .i64 own, .slice A n c, .agg (box wh bu fr A2 n2 c2)] w fun e w' => e = .returned (.bool true) ∧ Below w.heap.size w w' := by
  have hc := Lib.hid (fun W q => great_in true m A n c w.heap.size qs W h3 h1 h2 q)
  have HH := Lib.hid H
  have ba := alloc_below w (.cells (box wh bu fr A2 n2 c2) 25)
  have bx : (w.alloc (.cells (box wh bu fr A2 n2 c2) 25)).heap[w.heap.size]? = some (.cells (box wh bu fr A2 n2 c2) 25 (0, 0)) := heap_alloc_new w _
  clear H h1 h2 h3 rd
  go_enter Try.func3, Try.ntmps3
  go_wp2_with fail
  refine (alive_any _).mono ?_
  rintro ev w1 ⟨rfl, hb⟩
  replace bx := (hb.block _ (by simp)).trans bx
  replace hb := ba.trans (hb.mono (by simp))
  obtain ⟨x0, x1, x2, x3⟩ := box_cells bx
  go_wp2_with fail
  refine (hc.out _ (HH.out.below hb)).mono ?_
  rintro ev w2 ⟨rfl, rfl⟩
  go_wp2
  go_ret
  exact ⟨rfl, hb⟩
set_option maxRecDepth 100000 in
set_option maxHeartbeats 4000000 in
theorem calls_far (m sz own : Int) (A : Option Addr) (n c : Nat) (qs : Nat → Cal) (wh bu fr : Int) (A2 : Option Addr) (n2 c2 : Nat) (ys : List Int) (w : World) (H : CallsAt w w.heap.size A n c qs) (rd : Rd .u8 w w.heap.size A2 n2 c2 ys) (h1 : ¬ 100 < m) (h2 : n ≤ 100) (h3 : longB n qs = false) (h4 : 1600 < n2) : Calls Try.prog 3 #[.int .i64 m, .int .i64 sz, .int .i64 own, .slice A n c, .agg (box wh bu fr A2 n2 c2)] w fun e w' => e = .returned (.bool true) ∧ Below w.heap.size w w' := by
  have hc := Lib.hid (fun W q => great_in false m A n c w.heap.size qs W h3 h1 h2 q)
  have HH := Lib.hid H
  have RD := Lib.hid rd
  have h5 : Hid (decide (1600 < n2) = true) := Lib.hid (decide_eq_true h4)
  have ba := alloc_below w (.cells (box wh bu fr A2 n2 c2) 25)
  have bx : (w.alloc (.cells (box wh bu fr A2 n2 c2) 25)).heap[w.heap.size]? = some (.cells (box wh bu fr A2 n2 c2) 25 (0, 0)) := heap_alloc_new w _
  clear H h1 h2 h3 rd h4
  go_enter Try.func3, Try.ntmps3
  go_wp2_with fail
  refine (alive_any _).mono ?_
  rintro ev w1 ⟨rfl, hb⟩
  replace bx := (hb.block _ (by simp)).trans bx
  replace hb := ba.trans (hb.mono (by simp))
  obtain ⟨x0, x1, x2, x3⟩ := box_cells bx
  go_wp2_with fail
  refine (hc.out _ (HH.out.below hb)).mono ?_
  rintro ev w2 ⟨rfl, rfl⟩
  have hb2 := alloc_below w1 (.cells (box wh bu fr A2 n2 c2) 25)
  have hc2 := Lib.hid (great_last true w1 wh bu fr A2 n2 c2 ys ((RD.out.below hb (Nat.le_refl _)).more hb.size) h5.out)
  replace hb2 := hb.trans (hb2.mono hb.size)
  go_wp2_with fail
  refine hc2.out.mono ?_
  rintro ev w2 ⟨rfl, rfl⟩
  clear hc2 hc
  go_wp2
  go_ret
  exact ⟨rfl, hb2⟩
set_option maxRecDepth 100000 in
set_option maxHeartbeats 4000000 in
theorem calls_bad (m sz own : Int) (A : Option Addr) (n c : Nat) (qs : Nat → Cal) (wh bu fr : Int) (A2 : Option Addr) (n2 c2 : Nat) (ys : List Int) (w : World) (H : CallsAt w w.heap.size A n c qs) (rd : Rd .u8 w w.heap.size A2 n2 c2 ys) (h1 : ¬ 100 < m) (h2 : n ≤ 100) (h3 : longB n qs = false) (h4 : n2 ≤ 1600) (h7 : m < 1) : Calls Try.prog 3 #[.int .i64 m, .int .i64 sz, .int .i64 own, .slice A n c, .agg (box wh bu fr A2 n2 c2)] w fun e w' => e = .returned (.bool true) ∧ Below w.heap.size w w' := by
  have hc := Lib.hid (fun W q => great_in false m A n c w.heap.size qs W h3 h1 h2 q)
  have HN := Lib.hid (fun W => new_no m W (.inl h7))
  have HR := Lib.hid (fun W => refNew_no m W (.inl h7))
  have HH := Lib.hid H
  have RD := Lib.hid rd
  have h5 : Hid (decide (1600 < n2) = false) := Lib.hid (decide_eq_false (by omega))
  have ba := alloc_below w (.cells (box wh bu fr A2 n2 c2) 25)
  have bx : (w.alloc (.cells (box wh bu fr A2 n2 c2) 25)).heap[w.heap.size]? = some (.cells (box wh bu fr A2 n2 c2) 25 (0, 0)) := heap_alloc_new w _
  clear H h1 h2 h3 rd h4 h7
  go_enter Try.func3, Try.ntmps3
  go_wp2_with fail
  refine (alive_any _).mono ?_
  rintro ev w1 ⟨rfl, hb⟩
  replace bx := (hb.block _ (by simp)).trans bx
  replace hb := ba.trans (hb.mono (by simp))
  obtain ⟨x0, x1, x2, x3⟩ := box_cells bx
  go_wp2_with fail
  refine (hc.out _ (HH.out.below hb)).mono ?_
  rintro ev w2 ⟨rfl, rfl⟩
  have hb2 := alloc_below w1 (.cells (box wh bu fr A2 n2 c2) 25)
  have hc2 := Lib.hid (great_last false w1 wh bu fr A2 n2 c2 ys ((RD.out.below hb (Nat.le_refl _)).more hb.size) h5.out)
  replace hb2 := hb.trans (hb2.mono hb.size)
  go_wp2_with fail
  refine hc2.out.mono ?_
  rintro ev w2 ⟨rfl, rfl⟩
  clear hc2 hc
  go_wp2_with fail
  refine (HN.out _).mono ?_
  rintro ev w3 ⟨rfl, rfl⟩
  go_wp2_with fail
  refine (HR.out _).mono ?_
  rintro ev w3 ⟨rfl, rfl⟩
  go_wp2
  go_ret
  exact ⟨rfl, hb2⟩
set_option maxRecDepth 100000 in
set_option maxHeartbeats 4000000 in
theorem calls_none (m : Nat) (sz own : Int) (A : Option Addr) (n c : Nat) (qs : Nat → Cal) (wh bu fr : Int) (A2 : Option Addr) (n2 c2 : Nat) (ys : List Int) (w : World) (H : CallsAt w w.heap.size A n c qs) (rd : Rd .u8 w w.heap.size A2 n2 c2 ys) (h1 : 1 ≤ m) (h8 : m ≤ 100) (h2 : n ≤ 100) (h3 : longB n qs = false) (h4 : n2 ≤ 1600) (h9 : sz < 1 ∨ 256 < sz ∨ own < 1 ∨ 255 < own) : Calls Try.prog 3 #[.int .i64 (m : Int), .int .i64 sz, .int .i64 own, .slice A n c, .agg (box wh bu fr A2 n2 c2)] w fun e w' => e = .returned (.bool true) ∧ Below w.heap.size w w' := by
  have hc := Lib.hid (fun W q => great_in false (m : Int) A n c w.heap.size qs W h3 (by omega) h2 q)
  have HN := Lib.hid (fun W => new_yes m W h1 (by omega))
  have HR := Lib.hid (fun W => refNew_yes m W h1 (by omega))
  have HH := Lib.hid H
  have RD := Lib.hid rd
  have HX : Hid (∀ j, j < n → (qs j).n ≤ 1600) := Lib.hid (fun j hj => longB_of h3 hj)
  have h5 : Hid (decide (1600 < n2) = false) := Lib.hid (decide_eq_false (by omega))
  have hcc := H.1.2
  have N1 := Lib.hid (fun p W => newR_no p sz own W h9)
  have N2 := Lib.hid (fun p W => rnew_no p sz own W h9)
  clear h9
  have ba := alloc_below w (.cells (box wh bu fr A2 n2 c2) 25)
  have bx : (w.alloc (.cells (box wh bu fr A2 n2 c2) 25)).heap[w.heap.size]? = some (.cells (box wh bu fr A2 n2 c2) 25 (0, 0)) := heap_alloc_new w _
  clear H h3 rd
  go_enter Try.func3, Try.ntmps3
  go_wp2_with fail
  refine (alive_any _).mono ?_
  rintro ev w1 ⟨rfl, hb⟩
  replace bx := (hb.block _ (by simp)).trans bx
  replace hb := ba.trans (hb.mono (by simp))
  obtain ⟨x0, x1, x2, x3⟩ := box_cells bx
  go_wp2_with fail
  refine (hc.out _ (HH.out.below hb)).mono ?_
  rintro ev w2 ⟨rfl, rfl⟩
  have hb2 := alloc_below w1 (.cells (box wh bu fr A2 n2 c2) 25)
  have hc2 := Lib.hid (great_last false w1 wh bu fr A2 n2 c2 ys ((RD.out.below hb (Nat.le_refl _)).more hb.size) h5.out)
  replace hb2 := hb.trans (hb2.mono hb.size)
  go_wp2_with fail
  refine hc2.out.mono ?_
  rintro ev w2 ⟨rfl, rfl⟩
  clear hc2 hc
  have bx2 := ((alloc_below w1 (.cells (box wh bu fr A2 n2 c2) 25)).block _ (Array.getElem?_eq_some_iff.1 bx).1).trans bx
  have sz1 := (Array.getElem?_eq_some_iff.1 bx).1
  have sz2 : w.heap.size < (w1.alloc (.cells (box wh bu fr A2 n2 c2) 25)).heap.size := by rw [World.size_alloc]; omega
  clear x0 x1 x2 x3 bx hb
  go_wp2_with fail
  refine (HN.out _).mono ?_
  rintro ev w3 ⟨p, g, rfl, hp, hlo, hb3⟩
  replace bx2 := (hb3.block _ sz2).trans bx2
  replace hb2 := hb2.trans (hb3.mono hb2.size)
  have sz3 : w.heap.size < w3.heap.size := Nat.lt_of_lt_of_le sz2 hb3.size
  go_wp2_with fail
  refine (HR.out _).mono ?_
  rintro ev w4 ⟨r, h, rfl, hr, hlo2, hb4⟩
  replace bx2 := (hb4.block _ sz3).trans bx2
  replace hb2 := hb2.trans (hb4.mono hb2.size)
  replace hp := hp.below hb4
  have sz4 : w.heap.size < w4.heap.size := Nat.lt_of_lt_of_le sz3 hb4.size
  have lo4 : w.heap.size + 1 ≤ p ∧ w.heap.size + 1 ≤ g ∧ w.heap.size + 1 ≤ r ∧ w.heap.size + 1 ≤ h := by omega
  clear hlo hlo2 hb3 hb4 HN HR sz1 sz2 sz3
  go_wp2_with fail
  refine (N1.out _ _).mono ?_
  rintro ev w5 ⟨rfl, rfl⟩
  go_wp2_with fail
  refine (N2.out _ _).mono ?_
  rintro ev w5 ⟨rfl, rfl⟩
  go_wp2
  go_ret
  exact ⟨rfl, hb2⟩
set_option maxRecDepth 100000 in
set_option maxHeartbeats 4000000 in
theorem calls_in (m z : Nat) (own : Int) (A : Option Addr) (n c : Nat) (qs : Nat → Cal) (wh bu fr : Int) (A2 : Option Addr) (n2 c2 : Nat) (ys : List Int) (w : World) (H : CallsAt w w.heap.size A n c qs) (rd : Rd .u8 w w.heap.size A2 n2 c2 ys) (h1 : 1 ≤ m) (h8 : m ≤ 100) (h2 : n ≤ 100) (h3 : longB n qs = false) (h4 : n2 ≤ 1600) (hz : 1 ≤ z ∧ z ≤ 256) (ho : isOwn own) : Calls Try.prog 3 #[.int .i64 (m : Int), .int .i64 (z : Int), .int .i64 own, .slice A n c, .agg (box wh bu fr A2 n2 c2)] w fun e w' => e = .returned (.bool true) ∧ Below w.heap.size w w' := by
  have hc := Lib.hid (fun W q => great_in false (m : Int) A n c w.heap.size qs W h3 (by omega) h2 q)
  have HN := Lib.hid (fun W => new_yes m W h1 (by omega))
  have HR := Lib.hid (fun W => refNew_yes m W h1 (by omega))
  have HH := Lib.hid H
  have RD := Lib.hid rd
  have HX : Hid (∀ j, j < n → (qs j).n ≤ 1600) := Lib.hid (fun j hj => longB_of h3 hj)
  have h5 : Hid (decide (1600 < n2) = false) := Lib.hid (decide_eq_false (by omega))
  have hcc := H.1.2
  have ba := alloc_below w (.cells (box wh bu fr A2 n2 c2) 25)
  have bx : (w.alloc (.cells (box wh bu fr A2 n2 c2) 25)).heap[w.heap.size]? = some (.cells (box wh bu fr A2 n2 c2) 25 (0, 0)) := heap_alloc_new w _
  clear H h3 rd
  go_enter Try.func3, Try.ntmps3
  go_wp2_with fail
  refine (alive_any _).mono ?_
  rintro ev w1 ⟨rfl, hb⟩
  replace bx := (hb.block _ (by simp)).trans bx
  replace hb := ba.trans (hb.mono (by simp))
  obtain ⟨x0, x1, x2, x3⟩ := box_cells bx
  go_wp2_with fail
  refine (hc.out _ (HH.out.below hb)).mono ?_
  rintro ev w2 ⟨rfl, rfl⟩
  have hb2 := alloc_below w1 (.cells (box wh bu fr A2 n2 c2) 25)
  have hc2 := Lib.hid (great_last false w1 wh bu fr A2 n2 c2 ys ((RD.out.below hb (Nat.le_refl _)).more hb.size) h5.out)
  replace hb2 := hb.trans (hb2.mono hb.size)
  go_wp2_with fail
  refine hc2.out.mono ?_
  rintro ev w2 ⟨rfl, rfl⟩
  clear hc2 hc
  have bx2 := ((alloc_below w1 (.cells (box wh bu fr A2 n2 c2) 25)).block _ (Array.getElem?_eq_some_iff.1 bx).1).trans bx
  have sz1 := (Array.getElem?_eq_some_iff.1 bx).1
  have sz2 : w.heap.size < (w1.alloc (.cells (box wh bu fr A2 n2 c2) 25)).heap.size := by rw [World.size_alloc]; omega
  clear x0 x1 x2 x3 bx hb
  go_wp2_with fail
  refine (HN.out _).mono ?_
  rintro ev w3 ⟨p, g, rfl, hp, hlo, hb3⟩
  replace bx2 := (hb3.block _ sz2).trans bx2
  replace hb2 := hb2.trans (hb3.mono hb2.size)
  have sz3 : w.heap.size < w3.heap.size := Nat.lt_of_lt_of_le sz2 hb3.size
  go_wp2_with fail
  refine (HR.out _).mono ?_
  rintro ev w4 ⟨r, h, rfl, hr, hlo2, hb4⟩
  replace bx2 := (hb4.block _ sz3).trans bx2
  replace hb2 := hb2.trans (hb4.mono hb2.size)
  replace hp := hp.below hb4
  have sz4 : w.heap.size < w4.heap.size := Nat.lt_of_lt_of_le sz3 hb4.size
  have lo4 : w.heap.size + 1 ≤ p ∧ w.heap.size + 1 ≤ g ∧ w.heap.size + 1 ≤ r ∧ w.heap.size + 1 ≤ h := by omega
  clear hlo hlo2 hb3 hb4 HN HR sz1 sz2 sz3
  go_wp2_with fail
  refine (newR_yes p z own w4 hz.1 hz.2 ho).mono ?_
  rintro ev w5 ⟨q, s, rfl, hg, hlo5, hb5⟩
  replace bx2 := (hb5.block _ sz4).trans bx2
  replace hb2 := hb2.trans (hb5.mono hb2.size)
  replace hp := hp.below hb5
  replace hr := hr.below hb5
  have sz5 : w.heap.size < w5.heap.size := Nat.lt_of_lt_of_le sz4 hb5.size
  go_wp2_with fail
  refine (rnew_yes r z own w5 hz.1 hz.2 ho).mono ?_
  rintro ev w6 ⟨t, rfl, ht, hlo6, hb6⟩
  have q0 : KB w p g m q s r h m t w5.heap.size z own (List.replicate m (0, [])) [] 0 wh bu fr A2 n2 c2 w6 :=
    ⟨⟨hp.below hb6, hg.below hb6, hr.below hb6, ht, ⟨by simp; omega, by simp; omega⟩, hg.lt.2, by omega⟩, fun x hx => absurd hx (by simp), (hb6.block _ sz5).trans bx2, hb2.trans (hb6.mono hb2.size)⟩
  clear hp hr hg ht hlo5 hlo6 hb5 hb6 hb2 bx2 sz4 sz5 lo4 hz ho
  generalize w5.heap.size = b at *
  go_wp2
  go_loopw [19] (fun i wr => ∃ (k : Nat) (L : Slots) (R : List Nat) (d : Nat), k ≤ n ∧ i = .int .i64 k ∧ d ≤ k ∧ KB w p g m q s r h m t b z own L R d wh bu fr A2 n2 c2 wr) (fun i _ => n - (intOf i).toNat)
  case atStart => exact ⟨0, _, _, 0, Nat.zero_le _, rfl, Nat.le_refl _, q0⟩
  case round =>
    clear q0
    obtain ⟨k, L, R, d, hk, rfl, hdk, Q⟩ := hrel
    by_cases hkn : k < n
    · obtain ⟨b0, o0, rfl, hbB, ⟨c0, c1, c2', c3⟩, hrd⟩ := HH.out.2 k hkn
      have hd := Lib.hid (do_both (qs k).wh (qs k).bu (qs k).fr (qs k).A (qs k).n (qs k).c (qs k).xs Q (by omega) hrd (HX.out k hkn))
      replace c0 := (Q.b.cell hbB).trans c0
      replace c1 := (Q.b.cell hbB).trans c1
      replace c2' := (Q.b.cell hbB).trans c2'
      replace c3 := (Q.b.cell hbB).trans c3
      clear hrd Q
      go_wp2_with fail
      refine hd.out.mono ?_
      rintro ev w7 ⟨rfl, L', R', d', hd', Q5⟩
      clear hd c0 c1 c2' c3
      go_wp2_with fail
      refine (agree_both Q5).mono ?_
      rintro ev w8 ⟨rfl, b8⟩
      have Q6 := Q5.step b8
      clear Q5 b8
      go_wp2
      go_roundw
      case rel => exact ⟨k + 1, L', R', d', by omega, by go_num, by omega, Q6⟩
      case measure => simp [intOf]; omega
    · have hd5 : d ≤ 50000 := by omega
      go_wp2_with fail
      refine (clonePool_any p g m L Tr wr Q.tw.pp Q.tw.hL.1).mono ?_
      rintro ev w7 ⟨p2, g2, rfl, hp2, hlo7, b7⟩
      go_wp2_with fail
      refine (copy_any r h m L Tr w7 (Q.tw.rp.below b7) Q.tw.hL.2).mono ?_
      rintro ev w8 ⟨r2, h2, cr2, rfl, hr2, hlo8, b8⟩
      have b78 := b7.trans (b8.mono b7.size)
      go_wp2_with fail
      refine (cloneR_any q p p2 s z own R d w8 (Q.tw.rg.below b78)).mono ?_
      rintro ev w9 ⟨q2, s2, rfl, hg2, hlo9, b9⟩
      have K : KX p g m q s r h m t b z own L R d w wh bu fr A2 n2 c2 wr p2 g2 L.length q2 s2 r2 h2 cr2 w9 := ⟨Q, b78.trans (b9.mono b78.size), hp2.any.below (b8.trans (b9.mono b8.size)), hr2.below b9, hg2, by have := b7.size; have := b8.size; omega⟩
      clear Q hp2 hr2 hg2 hlo7 hlo8 hlo9 b7 b8 b9 b78
      go_wp2
      refine wp_region_held_drew (S := fun w' => w'.heap[w.heap.size]? = some (.cells (box wh bu fr A2 n2 c2) 25 (0, 0))) (by kernel_rfl) (K.step (below_drew _)).bx (fun hHeld => ?_)
      replace K := K.step (below_drew _)
      change wpAnyH _ _ _ _ _ _ _ _ (World.drew _)
      generalize World.drew w9 = W6 at *
      refine wpAnyH_at (i := 0) (some 118) (v := ?v0z1) rfl rfl (by kernel_rfl) (by kernel_rfl) (by kernel_rfl) (fun _ _ _ h => h) (Or.inl ⟨by rfl, ?y0z1⟩) (by assumption) ?r0z1
      case y0z1 =>
        intro w9 hSw
        clear hSw
        go_simp
        all_goals with_reducible rfl
      simp only [Act.put, List.setIfInBounds_toArray, List.set_cons_zero, List.set_cons_succ]
      refine wpAnyH_at (i := 1) (some 119) (v := ?v1z2) rfl rfl (by kernel_rfl) (by kernel_rfl) (by kernel_rfl) (fun _ _ _ h => h) (Or.inl ⟨by rfl, ?y1z2⟩) (by assumption) ?r1z2
      case y1z2 =>
        intro w9 hSw
        clear hSw
        go_simp
        all_goals with_reducible rfl
      simp only [Act.put, List.setIfInBounds_toArray, List.set_cons_zero, List.set_cons_succ]
      refine wpAnyH_at (i := 2) (some 120) (v := ?v2z3) rfl rfl (by kernel_rfl) (by kernel_rfl) (by kernel_rfl) (fun _ _ _ h => h) (Or.inl ⟨by rfl, ?y2z3⟩) (by assumption) ?r2z3
      case y2z3 =>
        intro w9 hSw
        clear hSw
        go_simp
        all_goals with_reducible rfl
      simp only [Act.put, List.setIfInBounds_toArray, List.set_cons_zero, List.set_cons_succ]
      refine wpAnyH_at (i := 3) (some 121) (v := ?v3z4) rfl rfl (by kernel_rfl) (by kernel_rfl) (by kernel_rfl) (fun _ _ _ h => h) (Or.inl ⟨by rfl, ?y3z4⟩) (by assumption) ?r3z4
      case y3z4 =>
        intro w9 hSw
        clear hSw
        go_simp
        all_goals with_reducible rfl
      simp only [Act.put, List.setIfInBounds_toArray, List.set_cons_zero, List.set_cons_succ]
      refine wpAnyH_at (i := 4) (some 122) (v := ?v4z5) rfl rfl (by kernel_rfl) (by kernel_rfl) (by kernel_rfl) (fun _ _ _ h => h) (Or.inl ⟨by rfl, ?y4z5⟩) (by assumption) ?r4z5
      case y4z5 =>
        intro w9 hSw
        clear hSw
        go_simp
        all_goals with_reducible rfl
      simp only [Act.put, List.setIfInBounds_toArray, List.set_cons_zero, List.set_cons_succ]
      refine wpAnyH_at (i := 5) (some 123) (v := ?v5z6) rfl rfl (by kernel_rfl) (by kernel_rfl) (by kernel_rfl) (fun _ _ _ h => h) (Or.inl ⟨by rfl, ?y5z6⟩) (by assumption) ?r5z6
      case y5z6 =>
        intro w9 hSw
        clear hSw
        go_simp
        all_goals with_reducible rfl
      simp only [Act.put, List.setIfInBounds_toArray, List.set_cons_zero, List.set_cons_succ]
      refine wpAnyH_at (i := 6) (some 124) (v := ?v6z7) rfl rfl (by kernel_rfl) (by kernel_rfl) (by kernel_rfl) (fun _ _ _ h => h) (Or.inl ⟨by rfl, ?y6z7⟩) (by assumption) ?r6z7
      case y6z7 =>
        intro w9 hSw
        clear hSw
        go_simp
        all_goals with_reducible rfl
      simp only [Act.put, List.setIfInBounds_toArray, List.set_cons_zero, List.set_cons_succ]
      refine wpAnyH_at (i := 7) (some 125) (v := ?v7z8) rfl rfl (by kernel_rfl) (by kernel_rfl) (by kernel_rfl) (fun _ _ _ h => h) (Or.inl ⟨by rfl, ?y7z8⟩) (by assumption) ?r7z8
      case y7z8 =>
        intro w9 hSw
        clear hSw
        go_simp
        all_goals with_reducible rfl
      simp only [Act.put, List.setIfInBounds_toArray, List.set_cons_zero, List.set_cons_succ]
      refine wpAnyH_at (i := 9) (some 127) (v := ?v9z9) rfl rfl (by kernel_rfl) (by kernel_rfl) (by kernel_rfl) (fun _ _ _ h => h) (Or.inl ⟨by rfl, ?y9z9⟩) (by assumption) ?r9z9
      case y9z9 =>
        intro w9 hSw
        have bc := box_cells hSw; have a0 := bc.1; have a1 := bc.2.1; have a2 := bc.2.2.1; have a3 := bc.2.2.2; clear hSw bc
        go_simp
        all_goals with_reducible rfl
      simp only [Act.put, List.setIfInBounds_toArray, List.set_cons_zero, List.set_cons_succ]
      refine wpAnyH_one (i := 8) (by kernel_rfl) rfl ?_
      go_wp2_with fail
      refine (rcopy_both K).mono ?_
      rintro ev W7 ⟨t2, b2, rfl, K2, y⟩; clear K; have K := K2; clear K2
      go_wp2
      clear hHeld
      have hHeld := K.bx
      refine ⟨hHeld, ?_⟩
      try simp only [Act.put, List.setIfInBounds_toArray, List.set_cons_zero, List.set_cons_succ]
      refine wpAnyH_one (i := 10) (by kernel_rfl) rfl ?_
      go_wp2_with fail
      refine (do_last K y hd5 RD.out h4).mono ?_
      rintro ev W8 ⟨rfl, Q⟩; clear K y
      go_wp2
      clear hHeld
      have hHeld := Q.bx
      refine ⟨hHeld, ?_⟩
      try simp only [Act.put, List.setIfInBounds_toArray, List.set_cons_zero, List.set_cons_succ]
      refine wpAnyH_at (i := 11) (some 129) (v := ?v11z10) rfl rfl (by kernel_rfl) (by kernel_rfl) (by kernel_rfl) (fun _ _ _ h => h) (Or.inl ⟨by rfl, ?y11z10⟩) (by assumption) ?r11z10
      case y11z10 =>
        intro w9 hSw
        clear hSw
        go_simp
        all_goals with_reducible rfl
      simp only [Act.put, List.setIfInBounds_toArray, List.set_cons_zero, List.set_cons_succ]
      refine wpAnyH_at (i := 12) (some 130) (v := ?v12z11) rfl rfl (by kernel_rfl) (by kernel_rfl) (by kernel_rfl) (fun _ _ _ h => h) (Or.inl ⟨by rfl, ?y12z11⟩) (by assumption) ?r12z11
      case y12z11 =>
        intro w9 hSw
        clear hSw
        go_simp
        all_goals with_reducible rfl
      simp only [Act.put, List.setIfInBounds_toArray, List.set_cons_zero, List.set_cons_succ]
      refine wpAnyH_at (i := 13) (some 131) (v := ?v13z12) rfl rfl (by kernel_rfl) (by kernel_rfl) (by kernel_rfl) (fun _ _ _ h => h) (Or.inl ⟨by rfl, ?y13z12⟩) (by assumption) ?r13z12
      case y13z12 =>
        intro w9 hSw
        clear hSw
        go_simp
        all_goals with_reducible rfl
      simp only [Act.put, List.setIfInBounds_toArray, List.set_cons_zero, List.set_cons_succ]
      refine wpAnyH_at (i := 14) (some 132) (v := ?v14z13) rfl rfl (by kernel_rfl) (by kernel_rfl) (by kernel_rfl) (fun _ _ _ h => h) (Or.inl ⟨by rfl, ?y14z13⟩) (by assumption) ?r14z13
      case y14z13 =>
        intro w9 hSw
        clear hSw
        go_simp
        all_goals with_reducible rfl
      simp only [Act.put, List.setIfInBounds_toArray, List.set_cons_zero, List.set_cons_succ]
      refine wpAnyH_at (i := 15) (some 133) (v := ?v15z14) rfl rfl (by kernel_rfl) (by kernel_rfl) (by kernel_rfl) (fun _ _ _ h => h) (Or.inl ⟨by rfl, ?y15z14⟩) (by assumption) ?r15z14
      case y15z14 =>
        intro w9 hSw
        clear hSw
        go_simp
        all_goals with_reducible rfl
      simp only [Act.put, List.setIfInBounds_toArray, List.set_cons_zero, List.set_cons_succ]
      refine wpAnyH_at (i := 16) (some 134) (v := ?v16z15) rfl rfl (by kernel_rfl) (by kernel_rfl) (by kernel_rfl) (fun _ _ _ h => h) (Or.inl ⟨by rfl, ?y16z15⟩) (by assumption) ?r16z15
      case y16z15 =>
        intro w9 hSw
        clear hSw
        go_simp
        all_goals with_reducible rfl
      simp only [Act.put, List.setIfInBounds_toArray, List.set_cons_zero, List.set_cons_succ]
      refine wpAnyH_one (i := 17) (by kernel_rfl) rfl ?_
      go_wp2_with fail
      refine (agree_both Q).mono ?_
      rintro ev W9 ⟨rfl, b9⟩; replace Q := Q.step b9; clear b9
      go_wp2
      clear hHeld
      have hHeld := Q.bx
      refine ⟨hHeld, ?_⟩
      try simp only [Act.put, List.setIfInBounds_toArray, List.set_cons_zero, List.set_cons_succ]
      refine wpAnyH_at (i := 18) (some 136) (v := ?v18z16) rfl rfl (by kernel_rfl) (by kernel_rfl) (by kernel_rfl) (fun _ _ _ h => h) (Or.inl ⟨by rfl, ?y18z16⟩) (by assumption) ?r18z16
      case y18z16 =>
        intro w9 hSw
        clear hSw
        go_simp
        all_goals with_reducible rfl
      simp only [Act.put, List.setIfInBounds_toArray, List.set_cons_zero, List.set_cons_succ]
      refine wpAnyH_at (i := 19) (some 10) (v := ?v19z17) rfl rfl (by kernel_rfl) (by kernel_rfl) (by kernel_rfl) (fun _ _ _ h => h) (Or.inl ⟨by rfl, ?y19z17⟩) (by assumption) ?r19z17
      case y19z17 =>
        intro w9 hSw
        clear hSw
        go_simp
        all_goals with_reducible rfl
      simp only [Act.put, List.setIfInBounds_toArray, List.set_cons_zero, List.set_cons_succ]
      refine wpAnyH_done (by kernel_rfl) ?_ _
      have b9 := Q.b
      clear Q hHeld
      go_wp2
      go_ret
      exact ⟨rfl, b9⟩
theorem calls_law (m sz own : Int) (A : Option Addr) (n c : Nat) (qs : Nat → Cal) (wh bu fr : Int) (A2 : Option Addr) (n2 c2 : Nat) (ys : List Int) (w : World) (H : CallsAt w w.heap.size A n c qs) (rd : Rd .u8 w w.heap.size A2 n2 c2 ys) : Calls Try.prog 3 #[.int .i64 m, .int .i64 sz, .int .i64 own, .slice A n c, .agg (box wh bu fr A2 n2 c2)] w fun e w' => e = .returned (.bool true) ∧ Below w.heap.size w w' := by
  by_cases h1 : 100 < m ∨ 100 < n
  · exact calls_big m sz own A n c qs wh bu fr A2 n2 c2 ys w H rd h1
  have h1' : ¬ 100 < m := fun q => h1 (.inl q)
  have h2 : n ≤ 100 := by omega
  by_cases h3 : longB n qs = true
  · exact calls_long m sz own A n c qs wh bu fr A2 n2 c2 ys w H rd h1' h2 h3
  have h3' : longB n qs = false := by simpa using h3
  by_cases h4 : 1600 < n2
  · exact calls_far m sz own A n c qs wh bu fr A2 n2 c2 ys w H rd h1' h2 h3' h4
  have h4' : n2 ≤ 1600 := by omega
  by_cases h7 : m < 1
  · exact calls_bad m sz own A n c qs wh bu fr A2 n2 c2 ys w H rd h1' h2 h3' h4' h7
  obtain ⟨k, rfl⟩ : ∃ k : Nat, m = (k : Int) := ⟨m.toNat, by omega⟩
  by_cases h9 : sz < 1 ∨ 256 < sz ∨ own < 1 ∨ 255 < own
  · exact calls_none k sz own A n c qs wh bu fr A2 n2 c2 ys w H rd (by omega) (by omega) h2 h3' h4' h9
  obtain ⟨z, rfl⟩ : ∃ z : Nat, sz = (z : Int) := ⟨sz.toNat, by omega⟩
  exact calls_in k z own A n c qs wh bu fr A2 n2 c2 ys w H rd (by omega) (by omega) h2 h3' h4' (by omega) ⟨by omega, by omega⟩
end Go.Proofs.Ytjaiagocbldbgaa
