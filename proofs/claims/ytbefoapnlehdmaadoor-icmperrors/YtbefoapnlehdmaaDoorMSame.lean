/-
  Contracts of the small functions on messages: wrong, same, layTwo, aheadOf, Class, Mark, and the document's.
-/
import Derived.Test.YtbefoapnlehdmaaDoorMk
import Derived.Test.YtbefoapnlehdmaaDoorSameP
namespace Go.Proofs.YtbefoapnlehdmaaDoor
open Go.RowKit

theorem mwrong_any (e : Int) (w : World) (he : ¬ e = 0) : Calls Tryd.prog 35 #[.int .i64 e] w fun ev w' => ev = .returned (errV 1 e) ∧ w = w' := by
  go_enter Tryd.func35, Tryd.ntmps35
  go_wp2_with (go_at_call 36; refine (fault_any 1 e _ (by decide) he).mono ?_; rintro e w1 ⟨rfl, rfl⟩)
  go_ret
  exact ⟨rfl, rfl⟩
set_option maxHeartbeats 1000000 in
/-- The same bytes in memory of their own. -/
theorem mcp_any (A : Option Addr) (n c : Nat) (xs : List Int) (w : World) (hr : Rd .u8 w w.heap.size A n c xs) (hn : n ≤ 100000) :
    Calls Tryd.prog 37 #[.slice A n c] w (GivesRow w xs n) := by
  have HL := Lib.hid hr.len
  go_enter Tryd.func37, Tryd.ntmps37
  go_wp2_with (first
    | (refine wpList_mk (some 6) rfl rfl _ _ 22 rfl Tryd.underlying22 info5 n _ _ rfl rfl rfl rfl (by omega) ?_; intro W4 row hs2 hb2; have rr := hr.below hb2 (Nat.le_refl _))
    | (with_reducible refine wpList_cpRow (some 9) rfl rfl (.tmp 7) (.tmp 8) 22 22 rfl Tryd.underlying22 sz5 w.heap.size 0 _ row (some ⟨w.heap.size, 0, none⟩) n n rfl A n c w.heap.size xs rfl rr (by simp) (Nat.le_refl _) (fun _ => rfl) ?_; intro W5 r5 ho5))
  rw [splice_all _ _ HL.out] at r5
  have b5 : Below w.heap.size w W5 := hb2.trans ho5.below
  clear hb2 row rr ho5
  go_ret
  exact ⟨_, rfl, r5, Nat.le_refl _, b5⟩
set_option maxHeartbeats 1000000 in
theorem mlayTwo_any (g off n c : Nat) (xs : List Int) (k : Int) (w : World) (hrow : Row w g xs) (h4 : off + 2 ≤ xs.length) (hn : 2 ≤ n) (hip : 0 ≤ k ∧ k ≤ 65535) :
    Calls Tryd.prog 43 #[.slice (some ⟨g, off, none⟩) n c, .int .u16 k] w fun e w' => e = .returned (.tuple #[]) ∧ Row w' g (splice xs off (two2 k)) ∧ Only g w w' := by
  have i0 : 0 < n := by omega
  have i1 : (1 : Int) < (n : Int) := by omega
  have c0 := hrow.cell (i := off) (by omega)
  have c1 := hrow.cell (i := off + 1) (by omega)
  have z0 := hrow.frozen off
  have z1 := hrow.frozen (off + 1)
  have e1 : IntKind.u8.wrap (k / 256) = k / 256 := by rw [IntKind.wrap_u8]; omega
  have e2 : IntKind.u8.wrap k = k % 256 := by rw [IntKind.wrap_u8]
  go_enter Tryd.func43, Tryd.ntmps43
  go_wp2
  refine bodyPost_end (v := .tuple #[]) (by simp [results, Tryd.results43, go_sem]) rfl ?_
  refine ⟨rfl, ?_, (Only.setCell g off w _).trans (Only.setCell g (off + 1) _ _)⟩
  have := (hrow.set off (k / 256)).set (off + 1) (k % 256)
  rwa [set_splice2 _ _ _ _ h4] at this
theorem heap_setCell {w : World} {g i : Nat} {cs : Array Value} {T : TypeId} (h : w.heap[g]? = some (.cells cs T (0, 0))) (v : Value) : (w.setCell ⟨g, i, none⟩ v).heap[g]? = some (.cells (cs.setIfInBounds i v) T (0, 0)) := by
  simp [World.setCell, Array.getElem?_modify, h]
set_option maxHeartbeats 1000000 in
/-- The mark, laid into a message's block. -/
theorem mlayMark_any (g : Nat) (h : Ms) (A : Option Addr) (n c : Nat) (k : Int) (w : World) (hm : MsAt w g 27 h A n c) (hip : 0 ≤ k ∧ k ≤ 65535) :
    Calls Tryd.prog 43 #[.slice (some ⟨g, 2, none⟩) 4 4, .int .u16 k] w fun e w' => e = .returned (.tuple #[]) ∧ MsAt w' g 27 (mkS h k) A n c ∧ Only g w w' := by
  obtain ⟨c0, c1, c2, c3, c4, c5, c6⟩ := hm.cells
  have z0 := hm.frozen 2
  have z1 := hm.frozen 3
  have e1 : IntKind.u8.wrap (k / 256) = k / 256 := by rw [IntKind.wrap_u8]; omega
  have e2 : IntKind.u8.wrap k = k % 256 := by rw [IntKind.wrap_u8]
  go_enter Tryd.func43, Tryd.ntmps43
  go_wp2
  refine bodyPost_end (v := .tuple #[]) (by simp [results, Tryd.results43, go_sem]) rfl ?_
  refine ⟨rfl, ?_, (Only.setCell g 2 w _).trans (Only.setCell g 3 _ _)⟩
  exact heap_setCell (heap_setCell hm _) _
set_option maxHeartbeats 1000000 in
theorem class_any (h : Ms) (A : Option Addr) (n c : Nat) (w : World) : Calls Tryd.prog 19 #[msV h A n c] w fun e w' => e = .returned (.int .i64 (clsV h)) ∧ Below w.heap.size w w' := by
  obtain ⟨a0, -, -, -, -, -, -⟩ := (MsAt.new w 27 h A n c).cells
  unfold clsV
  by_cases h3 : h.ty = 3
  · rw [if_pos (.inl h3)]
    go_enter Tryd.func19, Tryd.ntmps19
    go_wp2
    go_ret
    exact ⟨rfl, alloc_below _ _⟩
  by_cases h4 : h.ty = 4
  · rw [if_pos (.inr (.inl h4))]
    go_enter Tryd.func19, Tryd.ntmps19
    go_wp2
    go_ret
    exact ⟨rfl, alloc_below _ _⟩
  by_cases h11 : h.ty = 11
  · rw [if_pos (.inr (.inr (.inl h11)))]
    go_enter Tryd.func19, Tryd.ntmps19
    go_wp2
    go_ret
    exact ⟨rfl, alloc_below _ _⟩
  by_cases h12 : h.ty = 12
  · rw [if_pos (.inr (.inr (.inr h12)))]
    go_enter Tryd.func19, Tryd.ntmps19
    go_wp2
    go_ret
    exact ⟨rfl, alloc_below _ _⟩
  rw [if_neg (by omega)]
  by_cases h0 : h.ty = 0
  · rw [if_pos (.inl h0)]
    go_enter Tryd.func19, Tryd.ntmps19
    go_wp2
    go_ret
    exact ⟨rfl, alloc_below _ _⟩
  by_cases h8 : h.ty = 8
  · rw [if_pos (.inr h8)]
    go_enter Tryd.func19, Tryd.ntmps19
    go_wp2
    go_ret
    exact ⟨rfl, alloc_below _ _⟩
  rw [if_neg (by omega)]
  go_enter Tryd.func19, Tryd.ntmps19
  go_wp2
  go_ret
  exact ⟨rfl, alloc_below _ _⟩
set_option maxHeartbeats 1000000 in
theorem refClass_any (h : Ms) (A : Option Addr) (n c : Nat) (w : World) : Calls Tryd.prog 20 #[msV h A n c] w fun e w' => e = .returned (.int .i64 (clsV h)) ∧ Below w.heap.size w w' := by
  obtain ⟨a0, -, -, -, -, -, -⟩ := (MsAt.new w 32 h A n c).cells
  unfold clsV
  by_cases h3 : h.ty = 3
  · rw [if_pos (.inl h3)]
    go_enter Tryd.func20, Tryd.ntmps20
    go_wp2
    go_ret
    exact ⟨rfl, alloc_below _ _⟩
  have b3 : (h.ty == 3) = false := by simp [h3]
  by_cases h4 : h.ty = 4
  · rw [if_pos (.inr (.inl h4))]
    go_enter Tryd.func20, Tryd.ntmps20
    go_wp2
    go_ret
    exact ⟨rfl, alloc_below _ _⟩
  have b4 : (h.ty == 4) = false := by simp [h4]
  by_cases h11 : h.ty = 11
  · rw [if_pos (.inr (.inr (.inl h11)))]
    go_enter Tryd.func20, Tryd.ntmps20
    go_wp2
    go_ret
    exact ⟨rfl, alloc_below _ _⟩
  have b11 : (h.ty == 11) = false := by simp [h11]
  by_cases h12 : h.ty = 12
  · rw [if_pos (.inr (.inr (.inr h12)))]
    go_enter Tryd.func20, Tryd.ntmps20
    go_wp2
    go_ret
    exact ⟨rfl, alloc_below _ _⟩
  have b12 : (h.ty == 12) = false := by simp [h12]
  rw [if_neg (by omega)]
  by_cases h8 : h.ty = 8
  · rw [if_pos (.inr h8)]
    go_enter Tryd.func20, Tryd.ntmps20
    go_wp2
    go_ret
    exact ⟨rfl, alloc_below _ _⟩
  have b8 : (h.ty == 8) = false := by simp [h8]
  by_cases h0 : h.ty = 0
  · rw [if_pos (.inl h0)]
    go_enter Tryd.func20, Tryd.ntmps20
    go_wp2
    go_ret
    exact ⟨rfl, alloc_below _ _⟩
  have b0 : (h.ty == 0) = false := by simp [h0]
  rw [if_neg (by omega)]
  go_enter Tryd.func20, Tryd.ntmps20
  go_wp2
  go_ret
  exact ⟨rfl, alloc_below _ _⟩
set_option maxHeartbeats 1000000 in
theorem mark_any (h : Ms) (A : Option Addr) (n c : Nat) (w : World) (hk : h.ok) : Calls Tryd.prog 21 #[msV h A n c] w fun e w' => e = .returned (.int .u16 (mkN h)) ∧ Below w.heap.size w w' := by
  obtain ⟨-, -, c0, c1, -, -, -⟩ := (MsAt.new w 27 h A n c).cells
  have w0 := hk.r0
  have w1 := hk.r1
  unfold mkN
  obtain ⟨x4, x5, x0, x1, x2, x3⟩ := h
  dsimp only at *
  have v0 : IntKind.u16.wrap x0 = x0 := by rw [IntKind.wrap_u16]; omega
  have v1 : IntKind.u16.wrap x1 = x1 := by rw [IntKind.wrap_u16]; omega
  have u0 : IntKind.u16.wrap (x0 * 256) = x0 * 256 := by rw [IntKind.wrap_u16]; omega
  have o1 := or_two x0 x1 w0 w1
  go_enter Tryd.func21, Tryd.ntmps21
  go_wp2
  go_ret
  exact ⟨rfl, alloc_below _ _⟩
set_option maxHeartbeats 1000000 in
theorem refMark_any (h : Ms) (A : Option Addr) (n c : Nat) (w : World) (hk : h.ok) : Calls Tryd.prog 22 #[msV h A n c] w fun e w' => e = .returned (.int .u16 (mkN h)) ∧ Below w.heap.size w w' := by
  obtain ⟨-, -, c0, c1, -, -, -⟩ := (MsAt.new w 32 h A n c).cells
  have w0 := hk.r0
  have w1 := hk.r1
  unfold mkN
  obtain ⟨x4, x5, x0, x1, x2, x3⟩ := h
  dsimp only at *
  have v0 : IntKind.i64.wrap x0 = x0 := by rw [IntKind.wrap_i64]; omega
  have v1 : IntKind.i64.wrap x1 = x1 := by rw [IntKind.wrap_i64]; omega
  have u0 : IntKind.i64.wrap (x0 * 256) = x0 * 256 := by rw [IntKind.wrap_i64]; omega
  have u1 : IntKind.i64.wrap (x0 * 256 + x1) = x0 * 256 + x1 := by rw [IntKind.wrap_i64]; omega
  have u2 : IntKind.u16.wrap (x0 * 256 + x1) = x0 * 256 + x1 := by rw [IntKind.wrap_u16]; omega
  go_enter Tryd.func22, Tryd.ntmps22
  go_wp2
  go_ret
  exact ⟨rfl, alloc_below _ _⟩
end Go.Proofs.YtbefoapnlehdmaaDoor

namespace Go.Proofs.YtbefoapnlehdmaaDoor
open Go.RowKit

/-- copy into a known block, all of the source. -/
theorem wpList_cpT {P : Program} {w : World} {ops : Array Oper} {rest : List Oper} {o : Oper} {a : Act} {Q : Exit → Act → World → Prop} (dd : Option Tmp) (hgd : o.guard = none) (hdd : o.dst = dd) (d s : Operand) (dT sT : TypeId)
    (ho : o.op = .call { callee := .builtin .copy, args := #[d, s], argTypes := #[dT, sT] }) (hu : P.underlying dT = some (.slice 5)) (hsz : (P.info? 5).map (·.size) = some 1)
    (g off : Nat) (T : TypeId) (cur cs' : Array Value) (hg : w.heap[g]? = some (.cells cur T (0, 0))) (dl dc : Nat) (hd : a.eval d = .slice (some ⟨g, off, none⟩) dl dc)
    (A : Option Addr) (m c B : Nat) (ys : List Int) (hs : a.eval s = .slice A m c) (hr : Rd .u8 w B A m c ys) (hm : 0 < m) (hfit : off + m ≤ cur.size) (hdl : m ≤ dl)
    (hcs : (cur.toList.take off ++ (ys.map (Value.int .u8) ++ cur.toList.drop (off + m))).toArray = cs')
    (h : ∀ w', w'.heap[g]? = some (.cells cs' T (0, 0)) → Only g w w' → wpList P ops Q rest (a.put dd (.int .i64 (m : Int))) w') :
    wpList P ops Q (o :: rest) a w := by
  subst hdd
  have hl := hr.len
  obtain ⟨b, o', rfl, _, _⟩ := hr.at_ hm
  refine wpList_copy_own hgd d s dT sT ho 5 hu hsz g off dl dc _ m c hd hs _ T hg (ys.map (Value.int .u8)) (by simp [hl, Nat.min_eq_left hdl]) (cells_of_rd hr) (by simp; omega) (ints_one .u8 ys) ?_
  have e := setRow_heap w g cur cs' T _ hg
  have := h _ e (Only.set _ _ _)
  rw [← hcs] at this
  simpa [goInt, hl] using this
theorem MsAt.rest {w : World} {g : Nat} {T : TypeId} {h : Ms} {A : Option Addr} {n c : Nat} (q : MsAt w g T h A n c) (hk : h.ok) : Rd .u8 w w.heap.size (some ⟨g, 2, none⟩) 4 4 [h.r0, h.r1, h.r2, h.r3] := by
  obtain ⟨-, -, c2, c3, c4, c5, -⟩ := q.cells
  refine ⟨rfl, Nat.le_refl _, ⟨by unfold maxLen; omega, fun e => by cases e⟩, bytes_of4 hk.r0 hk.r1 hk.r2 hk.r3, fun i hi => ⟨g, 2, rfl, q.lt, ?_⟩⟩
  have : i = 0 ∨ i = 1 ∨ i = 2 ∨ i = 3 := by omega
  rcases this with rfl | rfl | rfl | rfl
  · exact c2
  · exact c3
  · exact c4
  · exact c5
theorem AhAt.rd {w : World} {g : Nat} {T : TypeId} {h : Ms} (q : AhAt w g T h) (hk : h.ok) : Rd .u8 w w.heap.size (some ⟨g, 0, none⟩) 8 8 (ahL h) := by
  refine ⟨rfl, Nat.le_refl _, ⟨by unfold maxLen; omega, fun e => by cases e⟩, ahL_wf hk, fun i hi => ⟨g, 0, rfl, blk_lt q, ?_⟩⟩
  have : i = 0 ∨ i = 1 ∨ i = 2 ∨ i = 3 ∨ i = 4 ∨ i = 5 ∨ i = 6 ∨ i = 7 := by omega
  rcases this with rfl | rfl | rfl | rfl | rfl | rfl | rfl | rfl <;> exact blk_cell q rfl
/-- What aheadOf's walk knows. -/
structure KAh (w : World) (h : Ms) (A : Option Addr) (n c : Nat) (cs : Array Value) (W : World) : Prop where
  ms : MsAt W w.heap.size 27 h A n c
  z : W.heap[w.heap.size + 1]? = some (.cells (ahC zeroS) 83 (0, 0))
  y : W.heap[w.heap.size + 2]? = some (.cells cs 83 (0, 0))
  below : Below w.heap.size w W
theorem KAh.step {w W V : World} {h : Ms} {A : Option Addr} {n c : Nat} {cs : Array Value} (q : KAh w h A n c cs W) (hb : Below W.heap.size W V) : KAh w h A n c cs V :=
  ⟨q.ms.step hb, (hb.block _ (blk_lt q.z)).trans q.z, (hb.block _ (blk_lt q.y)).trans q.y, q.below.trans (hb.mono q.below.size)⟩
theorem KAh.start (h : Ms) (A : Option Addr) (n c : Nat) (w : World) : KAh w h A n c (ahC ⟨h.ty, h.cd, 0, 0, 0, 0⟩) (((w.alloc (.cells (msC h A n c) 27)).alloc (.cells (ahC zeroS) 83)).alloc (.cells (ahC ⟨h.ty, h.cd, 0, 0, 0, 0⟩) 83)) := by
  have p1 := MsAt.new w 27 h A n c
  have b1 := alloc_below w (.cells (msC h A n c) 27)
  have s1 : (w.alloc (.cells (msC h A n c) 27)).heap.size = w.heap.size + 1 := by simp
  generalize w.alloc (.cells (msC h A n c) 27) = W1 at *
  have p2 := heap_alloc_new W1 (.cells (ahC zeroS) 83)
  have b2 := alloc_below W1 (.cells (ahC zeroS) 83)
  have s2 : (W1.alloc (.cells (ahC zeroS) 83)).heap.size = W1.heap.size + 1 := by simp
  generalize W1.alloc (.cells (ahC zeroS) 83) = W2 at *
  have p3 := heap_alloc_new W2 (.cells (ahC ⟨h.ty, h.cd, 0, 0, 0, 0⟩) 83)
  have b3 := alloc_below W2 (.cells (ahC ⟨h.ty, h.cd, 0, 0, 0, 0⟩) 83)
  rw [s2, s1] at p3
  rw [s1] at p2
  exact ⟨(p1.step b2).step b3, (b3.block _ (by omega)).trans p2, p3, (b1.trans (b2.mono (by omega))).trans (b3.mono (by omega))⟩
set_option maxRecDepth 100000 in
set_option maxHeartbeats 4000000 in
theorem aheadOf_any (h : Ms) (A : Option Addr) (n c : Nat) (w : World) (hk : h.ok) :
    Calls Tryd.prog 42 #[msV h A n c] w fun e w' => e = .returned (ahV h) ∧ Below w.heap.size w w' := by
  have K0 := KAh.start h A n c w
  go_enter Tryd.func42, Tryd.ntmps42
  go_wp2_with fail
  revert K0
  change KAh w h A n c _ (((w.alloc (.cells (msC h A n c) 27)).alloc (.cells (ahC zeroS) 83)).alloc (.cells (ahC ⟨h.ty, h.cd, 0, 0, 0, 0⟩) 83)) → Code.wp _ _ _ _ (((w.alloc (.cells (msC h A n c) 27)).alloc (.cells (ahC zeroS) 83)).alloc (.cells (ahC ⟨h.ty, h.cd, 0, 0, 0, 0⟩) 83))
  generalize ((w.alloc (.cells (msC h A n c) 27)).alloc (.cells (ahC zeroS) 83)).alloc (.cells (ahC ⟨h.ty, h.cd, 0, 0, 0, 0⟩) 83) = W0
  intro K0
  refine wp_region_held_drew (S := fun w' => ∃ cs, KAh w h A n c cs w') (by kernel_rfl) ⟨_, K0.step (below_drew _)⟩ (fun hHeld => ?_)
  replace K0 := K0.step (below_drew _)
  generalize W0.drew = W1 at *
  refine wpAnyH_at (i := 0) (some 10) (v := ?v0z1) rfl rfl (by kernel_rfl) (by kernel_rfl) (by kernel_rfl) (fun _ _ _ h => h) (Or.inl ⟨by rfl, ?y0z1⟩) (by assumption) ?r0z1
  case y0z1 =>
    intro w9 hSw
    clear hSw
    go_simp
    all_goals with_reducible rfl
  simp only [Act.put, List.setIfInBounds_toArray, List.set_cons_zero, List.set_cons_succ]
  refine wpAnyH_at (i := 1) (some 11) (v := ?v1z2) rfl rfl (by kernel_rfl) (by kernel_rfl) (by kernel_rfl) (fun _ _ _ h => h) (Or.inl ⟨by rfl, ?y1z2⟩) (by assumption) ?r1z2
  case y1z2 =>
    intro w9 hSw
    clear hSw
    go_simp
    all_goals with_reducible rfl
  simp only [Act.put, List.setIfInBounds_toArray, List.set_cons_zero, List.set_cons_succ]
  refine wpAnyH_at (i := 2) (some 12) (v := ?v2z3) rfl rfl (by kernel_rfl) (by kernel_rfl) (by kernel_rfl) (fun _ _ _ h => h) (Or.inl ⟨by rfl, ?y2z3⟩) (by assumption) ?r2z3
  case y2z3 =>
    intro w9 hSw
    clear hSw
    go_simp
    all_goals with_reducible rfl
  simp only [Act.put, List.setIfInBounds_toArray, List.set_cons_zero, List.set_cons_succ]
  refine wpAnyH_one (i := 3) (by kernel_rfl) rfl ?_
  refine wpList_cpT (some 13) rfl rfl (.tmp 10) (.tmp 12) 22 22 rfl Tryd.underlying22 sz5 (w.heap.size + 2) 4 83 (ahC ⟨h.ty, h.cd, 0, 0, 0, 0⟩) (ahC h) K0.y 4 4 rfl _ 4 4 W1.heap.size [h.r0, h.r1, h.r2, h.r3] rfl (K0.ms.rest hk) (by decide) (by simp) (by decide) rfl ?_
  intro W2 y2 ho
  have z2 := (ho.other (w.heap.size + 1) (by omega)).trans K0.z
  have m2 : MsAt W2 w.heap.size 27 h A n c := (ho.other w.heap.size (by omega)).trans K0.ms
  have b2 := K0.below.trans (ho.below.mono (by omega))
  clear hHeld ho K0
  go_wp2
  refine ⟨⟨_, ⟨m2, z2, y2, b2⟩⟩, ?_⟩
  refine wpAnyH_done (by kernel_rfl) ?_ _
  have c0 : W2.cell? ⟨w.heap.size + 2, 0, none⟩ = _ := blk_cell y2 rfl
  have c1 : W2.cell? ⟨w.heap.size + 2, 1, none⟩ = _ := blk_cell y2 rfl
  have c2 : W2.cell? ⟨w.heap.size + 2, 2, none⟩ = _ := blk_cell y2 rfl
  have c3 : W2.cell? ⟨w.heap.size + 2, 3, none⟩ = _ := blk_cell y2 rfl
  have c4 : W2.cell? ⟨w.heap.size + 2, 4, none⟩ = _ := blk_cell y2 rfl
  have c5 : W2.cell? ⟨w.heap.size + 2, 5, none⟩ = _ := blk_cell y2 rfl
  have c6 : W2.cell? ⟨w.heap.size + 2, 6, none⟩ = _ := blk_cell y2 rfl
  have c7 : W2.cell? ⟨w.heap.size + 2, 7, none⟩ = _ := blk_cell y2 rfl
  go_wp2_with (refine wpList_stF rfl rfl 83 _ _ rfl (w.heap.size + 1) (ahC h) rfl rfl 83 _ z2 (by kernel_rfl) rfl (by simp [Value.oneCell']) ?_; intro w7 h7 hb7 ho7 hs7)
  have d0 : w7.cell? ⟨w.heap.size + 1, 0, none⟩ = _ := blk_cell h7 rfl
  have d1 : w7.cell? ⟨w.heap.size + 1, 1, none⟩ = _ := blk_cell h7 rfl
  have d2 : w7.cell? ⟨w.heap.size + 1, 2, none⟩ = _ := blk_cell h7 rfl
  have d3 : w7.cell? ⟨w.heap.size + 1, 3, none⟩ = _ := blk_cell h7 rfl
  have d4 : w7.cell? ⟨w.heap.size + 1, 4, none⟩ = _ := blk_cell h7 rfl
  have d5 : w7.cell? ⟨w.heap.size + 1, 5, none⟩ = _ := blk_cell h7 rfl
  have d6 : w7.cell? ⟨w.heap.size + 1, 6, none⟩ = _ := blk_cell h7 rfl
  have d7 : w7.cell? ⟨w.heap.size + 1, 7, none⟩ = _ := blk_cell h7 rfl
  exact bodyPost_ret (v := ahV h) (by simp [results, Tryd.results42, go_sem, d0, d1, d2, d3, d4, d5, d6, d7]) rfl ⟨rfl, b2.trans (hb7.mono (by omega))⟩
end Go.Proofs.YtbefoapnlehdmaaDoor

namespace Go.Proofs.YtbefoapnlehdmaaDoor
open Go.RowKit

set_option maxRecDepth 100000 in
set_option maxHeartbeats 4000000 in
theorem refSame_ms (h k : Ms) (A A' : Option Addr) (n c n' c' : Nat) (xs ys : List Int) (w : World) (hr : Rd .u8 w w.heap.size A n c xs) (hr' : Rd .u8 w w.heap.size A' n' c' ys) :
    Calls Tryd.prog 13 #[msV h A n c, msV k A' n' c'] w fun e w' => e = .returned (.bool (mmB h k xs ys)) ∧ Below w.heap.size w w' := by
  have q25 := eqm25 h k
  obtain ⟨x1, x2, x3, x4, x5, x6⟩ := h
  obtain ⟨y1, y2, y3, y4, y5, y6⟩ := k
  have hstr := str_eq hr.2.2.2.1 hr'.2.2.2.1
  have hb0 : ∀ cs cs', Below w.heap.size w ((w.alloc (.cells cs 32)).alloc (.cells cs' 32)) := fun cs cs' => (alloc_below w _).alloc (by simp) _
  by_cases h1 : ¬ x1 = y1
  · have e : mmB ⟨x1, x2, x3, x4, x5, x6⟩ ⟨y1, y2, y3, y4, y5, y6⟩ xs ys = false := by simp [mmB, hmB, h1]
    rw [e]
    clear e hstr hr hr'
    have h1b : (x1 == y1) = false := by simpa using h1
    go_enter Tryd.func13, Tryd.ntmps13
    go_wp2
    go_ret
    exact ⟨rfl, hb0 _ _⟩
  obtain rfl : y1 = x1 := (Classical.not_not.1 h1).symm
  clear h1
  by_cases h2 : ¬ x2 = y2
  · have e : mmB ⟨y1, x2, x3, x4, x5, x6⟩ ⟨y1, y2, y3, y4, y5, y6⟩ xs ys = false := by simp [mmB, hmB, h2]
    rw [e]
    clear e hstr hr hr'
    have h2b : (x2 == y2) = false := by simpa using h2
    go_enter Tryd.func13, Tryd.ntmps13
    go_wp2
    go_ret
    exact ⟨rfl, hb0 _ _⟩
  obtain rfl : y2 = x2 := (Classical.not_not.1 h2).symm
  clear h2
  cases h3 : r4B ⟨y1, y2, x3, x4, x5, x6⟩ ⟨y1, y2, y3, y4, y5, y6⟩
  · have e : mmB ⟨y1, y2, x3, x4, x5, x6⟩ ⟨y1, y2, y3, y4, y5, y6⟩ xs ys = false := by simp [mmB, hmB, h3]
    rw [e]
    clear e hstr hr hr'
    rw [h3] at q25
    go_enter Tryd.func13, Tryd.ntmps13
    go_wp2
    go_ret
    exact ⟨rfl, hb0 _ _⟩
  have e : mmB ⟨y1, y2, x3, x4, x5, x6⟩ ⟨y1, y2, y3, y4, y5, y6⟩ xs ys = bEq xs ys := by simp [mmB, hmB, h3]
  rw [e]
  rw [h3] at q25
  have q1 : ∀ cs cs', (convert 22 9 (.slice A n c)).run Tryd.prog ((w.alloc (.cells cs 32)).alloc (.cells cs' 32)) = .ok (.string (strOfNums xs)) ((w.alloc (.cells cs 32)).alloc (.cells cs' 32)) := fun cs cs' => conv_str (hr.below (hb0 cs cs') (Nat.le_refl _))
  have q2 : ∀ cs cs', (convert 22 9 (.slice A' n' c')).run Tryd.prog ((w.alloc (.cells cs 32)).alloc (.cells cs' 32)) = .ok (.string (strOfNums ys)) ((w.alloc (.cells cs 32)).alloc (.cells cs' 32)) := fun cs cs' => conv_str (hr'.below (hb0 cs cs') (Nat.le_refl _))
  clear e hr hr'
  go_enter Tryd.func13, Tryd.ntmps13
  go_wp2
  go_ret
  exact ⟨by first | rfl | simp, hb0 _ _⟩
/-- What Of's walk knows. -/
structure KOm (w : World) (h : Ms) (A : Option Addr) (n c : Nat) (xs : List Int) (W : World) : Prop where
  fr : MsAt W w.heap.size 27 h A n c
  z : ∃ cs, cs.size = 7 ∧ W.heap[w.heap.size + 1]? = some (.cells cs 32 (0, 0))
  rd : Rd .u8 W w.heap.size A n c xs
  below : Below w.heap.size w W
section
variable {w W V : World} {h : Ms} {A : Option Addr} {n c : Nat} {xs : List Int}
theorem KOm.step (q : KOm w h A n c xs W) (hb : Below W.heap.size W V) : KOm w h A n c xs V := ⟨q.fr.step hb, (by obtain ⟨cs, h1, h2⟩ := q.z; exact ⟨cs, h1, (hb.block _ (blk_lt h2)).trans h2⟩), q.rd.below hb q.below.size, q.below.trans (hb.mono q.below.size)⟩
end
/-- What Of answers: the same numbers, an own row. -/
def GivesMs (w : World) (h : Ms) (xs : List Int) (ev : Ending) (w' : World) : Prop := ∃ A n c, ev = .returned (msV h A n c) ∧ Out .u8 5 w' w.heap.size A n c xs ∧ Below w.heap.size w w'
set_option maxRecDepth 100000 in
set_option maxHeartbeats 4000000 in
theorem of_ms (h : Ms) (A : Option Addr) (n c : Nat) (xs : List Int) (w : World) (hr : Rd .u8 w w.heap.size A n c xs) (hn : n ≤ 100000) :
    Calls Tryd.prog 14 #[msV h A n c] w (GivesMs w h xs) := by
  have hb0 : Below w.heap.size w ((w.alloc (.cells (msC h A n c) 27)).alloc (.cells (msC zeroS none 0 0) 32)) := (alloc_below w _).alloc (by simp) _
  have K0 : KOm w h A n c xs ((w.alloc (.cells (msC h A n c) 27)).alloc (.cells (msC zeroS none 0 0) 32)) :=
    ⟨(MsAt.new w 27 h A n c).step (alloc_below _ _), ⟨msC zeroS none 0 0, rfl, by simpa using heap_alloc_new (w.alloc (.cells (msC h A n c) 27)) (.cells (msC zeroS none 0 0) 32)⟩, hr.below hb0 (Nat.le_refl _), hb0⟩
  clear hr hb0
  go_enter Tryd.func14, Tryd.ntmps14
  go_wp2_with fail
  revert K0
  change KOm w h A n c xs ((w.alloc (.cells (msC h A n c) 27)).alloc (.cells (msC zeroS none 0 0) 32)) → Code.wp _ _ _ _ ((w.alloc (.cells (msC h A n c) 27)).alloc (.cells (msC zeroS none 0 0) 32))
  generalize (w.alloc (.cells (msC h A n c) 27)).alloc (.cells (msC zeroS none 0 0) 32) = W0
  intro K0
  refine wp_region_held_drew (S := fun w' => KOm w h A n c xs w') (by kernel_rfl) (K0.step (below_drew _)) (fun hHeld => ?_)
  refine wpAnyH_at (i := 0) (some 3) (v := ?v0z1) rfl rfl (by kernel_rfl) (by kernel_rfl) (by kernel_rfl) (fun _ _ _ h => h) (Or.inl ⟨by rfl, ?y0z1⟩) (by assumption) ?r0z1
  case y0z1 =>
    intro w9 hSw
    clear hSw
    go_simp
    all_goals with_reducible rfl
  simp only [Act.put, List.setIfInBounds_toArray, List.set_cons_zero, List.set_cons_succ]
  refine wpAnyH_at (i := 1) (some 4) (v := ?v1z2) rfl rfl (by kernel_rfl) (by kernel_rfl) (by kernel_rfl) (fun _ _ _ h => h) (Or.inl ⟨by rfl, ?y1z2⟩) (by assumption) ?r1z2
  case y1z2 =>
    intro w9 hSw
    (obtain ⟨a0, a1, a2, a3, a4, a5, a6⟩ := (show KOm w h A n c xs w9 from hSw).fr.cells); clear hSw
    go_simp
    all_goals with_reducible rfl
  simp only [Act.put, List.setIfInBounds_toArray, List.set_cons_zero, List.set_cons_succ]
  refine wpAnyH_at (i := 2) (some 5) (v := ?v2z3) rfl rfl (by kernel_rfl) (by kernel_rfl) (by kernel_rfl) (fun _ _ _ h => h) (Or.inl ⟨by rfl, ?y2z3⟩) (by assumption) ?r2z3
  case y2z3 =>
    intro w9 hSw
    clear hSw
    go_simp
    all_goals with_reducible rfl
  simp only [Act.put, List.setIfInBounds_toArray, List.set_cons_zero, List.set_cons_succ]
  refine wpAnyH_at (i := 3) (some 6) (v := ?v3z4) rfl rfl (by kernel_rfl) (by kernel_rfl) (by kernel_rfl) (fun _ _ _ h => h) (Or.inl ⟨by rfl, ?y3z4⟩) (by assumption) ?r3z4
  case y3z4 =>
    intro w9 hSw
    (obtain ⟨a0, a1, a2, a3, a4, a5, a6⟩ := (show KOm w h A n c xs w9 from hSw).fr.cells); clear hSw
    go_simp
    all_goals with_reducible rfl
  simp only [Act.put, List.setIfInBounds_toArray, List.set_cons_zero, List.set_cons_succ]
  refine wpAnyH_at (i := 4) (some 7) (v := ?v4z5) rfl rfl (by kernel_rfl) (by kernel_rfl) (by kernel_rfl) (fun _ _ _ h => h) (Or.inl ⟨by rfl, ?y4z5⟩) (by assumption) ?r4z5
  case y4z5 =>
    intro w9 hSw
    clear hSw
    go_simp
    all_goals with_reducible rfl
  simp only [Act.put, List.setIfInBounds_toArray, List.set_cons_zero, List.set_cons_succ]
  refine wpAnyH_at (i := 5) (some 8) (v := ?v5z6) rfl rfl (by kernel_rfl) (by kernel_rfl) (by kernel_rfl) (fun _ _ _ h => h) (Or.inl ⟨by rfl, ?y5z6⟩) (by assumption) ?r5z6
  case y5z6 =>
    intro w9 hSw
    (obtain ⟨a0, a1, a2, a3, a4, a5, a6⟩ := (show KOm w h A n c xs w9 from hSw).fr.cells); clear hSw
    go_simp
    all_goals with_reducible rfl
  simp only [Act.put, List.setIfInBounds_toArray, List.set_cons_zero, List.set_cons_succ]
  refine wpAnyH_at (i := 6) (some 9) (v := ?v6z7) rfl rfl (by kernel_rfl) (by kernel_rfl) (by kernel_rfl) (fun _ _ _ h => h) (Or.inl ⟨by rfl, ?y6z7⟩) (by assumption) ?r6z7
  case y6z7 =>
    intro w9 hSw
    clear hSw
    go_simp
    all_goals with_reducible rfl
  simp only [Act.put, List.setIfInBounds_toArray, List.set_cons_zero, List.set_cons_succ]
  refine wpAnyH_at (i := 7) (some 10) (v := ?v7z8) rfl rfl (by kernel_rfl) (by kernel_rfl) (by kernel_rfl) (fun _ _ _ h => h) (Or.inl ⟨by rfl, ?y7z8⟩) (by assumption) ?r7z8
  case y7z8 =>
    intro w9 hSw
    (obtain ⟨a0, a1, a2, a3, a4, a5, a6⟩ := (show KOm w h A n c xs w9 from hSw).fr.cells); clear hSw
    go_simp
    all_goals with_reducible rfl
  simp only [Act.put, List.setIfInBounds_toArray, List.set_cons_zero, List.set_cons_succ]
  refine wpAnyH_one (i := 8) (by kernel_rfl) rfl ?_
  generalize W0.drew = W1 at hHeld ⊢
  clear K0
  go_wp2_with (go_at_call 9; refine (own_any A n c w.heap.size xs _ hHeld.rd hHeld.below.size hn).mono ?_; rintro e w3 ⟨A', n', c', rfl, ho, hb1⟩)
  have hHeld0 := hHeld
  replace hHeld := hHeld.step hb1
  have hw1 : w.heap.size ≤ W1.heap.size := hHeld0.below.size
  have hw2 : w.heap.size + 1 < W1.heap.size := by obtain ⟨cs, _, hz⟩ := hHeld0.z; exact blk_lt hz
  refine ⟨hHeld, ?_⟩
  refine wpAnyH_at (i := 9) (some 12) (v := ?v9z9) rfl rfl (by kernel_rfl) (by kernel_rfl) (by kernel_rfl) (fun _ _ _ h => h) (Or.inl ⟨by rfl, ?y9z9⟩) (by assumption) ?r9z9
  case y9z9 =>
    intro w9 hSw
    clear hSw
    go_simp
    all_goals with_reducible rfl
  simp only [Act.put, List.setIfInBounds_toArray, List.set_cons_zero, List.set_cons_succ]
  refine wpAnyH_one (i := 10) (by kernel_rfl) rfl ?_
  obtain ⟨cs, hcs, hz⟩ := hHeld.z
  refine wpList_stF rfl rfl 32 _ _ rfl (w.heap.size + 1) (msC h A' n' c') rfl rfl 32 cs hz (by kernel_rfl) hcs (msC_one ..) ?_
  intro w5 h5 hb5 ho5 hs5
  have ho' : Out .u8 5 w5 w.heap.size A' n' c' xs := (ho.other (fun j hj => ho5 j (by omega))).rebase hw1
  have hH5 : KOm w h A n c xs w5 := ⟨hHeld.fr.below hb5 (by omega), ⟨_, rfl, h5⟩, hHeld.rd.below hb5 (by omega), hHeld.below.trans (hb5.mono (by omega))⟩
  have h5' : MsAt w5 (w.heap.size + 1) 32 h A' n' c' := h5
  clear ho hHeld hz hb5 ho5 h5 hb1
  go_wp2
  refine ⟨hH5, ?_⟩
  refine wpAnyH_done (by kernel_rfl) ?_ _
  obtain ⟨a0, a1, a2, a3, a4, a5, a6⟩ := h5'.cells
  go_wp2
  exact bodyPost_ret (v := msV h A' n' c') (by simp [results, Tryd.results14, go_sem, *]) rfl ⟨A', n', c', rfl, ho', hH5.below⟩
/-- What Same's walk knows. -/
structure KSs (w : World) (h k : Ms) (A A' : Option Addr) (n c n' c' : Nat) (xs ys : List Int) (W : World) : Prop where
  a : MsAt W w.heap.size 27 h A n c
  b : MsAt W (w.heap.size + 1) 27 k A' n' c'
  ra : Rd .u8 W w.heap.size A n c xs
  rb : Rd .u8 W w.heap.size A' n' c' ys
  below : Below w.heap.size w W
theorem KSs.step {w W V : World} {h k : Ms} {A A' : Option Addr} {n c n' c' : Nat} {xs ys : List Int} (q : KSs w h k A A' n c n' c' xs ys W) (hb : Below W.heap.size W V) : KSs w h k A A' n c n' c' xs ys V :=
  ⟨q.a.step hb, q.b.step hb, q.ra.below hb q.below.size, q.rb.below hb q.below.size, q.below.trans (hb.mono q.below.size)⟩
set_option maxRecDepth 100000 in
set_option maxHeartbeats 4000000 in
theorem same_true (h k : Ms) (A A' : Option Addr) (n c n' c' : Nat) (xs ys : List Int) (w : World) (hr : Rd .u8 w w.heap.size A n c xs) (hr' : Rd .u8 w w.heap.size A' n' c' ys) (hh : h.ok) (hk : k.ok) (hB : hmB h k = true) :
    Calls Tryd.prog 25 #[msV h A n c, msV k A' n' c'] w fun e w' => e = .returned (.bool (bEq xs ys)) ∧ Below w.heap.size w w' := by
  have q83 := eqm83 h k
  rw [hB] at q83
  have hb0 : Below w.heap.size w ((w.alloc (.cells (msC h A n c) 27)).alloc (.cells (msC k A' n' c') 27)) := (alloc_below w _).alloc (by simp) _
  have K0 : KSs w h k A A' n c n' c' xs ys ((w.alloc (.cells (msC h A n c) 27)).alloc (.cells (msC k A' n' c') 27)) :=
    ⟨(MsAt.new w 27 h A n c).step (alloc_below _ _), by simpa using MsAt.new (w.alloc (.cells (msC h A n c) 27)) 27 k A' n' c', hr.below hb0 (Nat.le_refl _), hr'.below hb0 (Nat.le_refl _), hb0⟩
  clear hr hr' hb0 hB
  go_enter Tryd.func25, Tryd.ntmps25
  go_wp2_with fail
  revert K0
  change KSs w h k A A' n c n' c' xs ys ((w.alloc (.cells (msC h A n c) 27)).alloc (.cells (msC k A' n' c') 27)) → Code.wp _ _ _ _ ((w.alloc (.cells (msC h A n c) 27)).alloc (.cells (msC k A' n' c') 27))
  generalize (w.alloc (.cells (msC h A n c) 27)).alloc (.cells (msC k A' n' c') 27) = W0
  intro K0
  refine wp_region_held_drew (S := fun w' => KSs w h k A A' n c n' c' xs ys w') (by kernel_rfl) (K0.step (below_drew _)) (fun hHeld => ?_)
  refine wpAnyH_at (i := 0) (some 5) (v := ?v0z10) rfl rfl (by kernel_rfl) (by kernel_rfl) (by kernel_rfl) (fun _ _ _ h => h) (Or.inl ⟨by rfl, ?y0z10⟩) (by assumption) ?r0z10
  case y0z10 =>
    intro w9 hSw
    (obtain ⟨a0, a1, a2, a3, a4, a5, a6⟩ := (show KSs w h k A A' n c n' c' xs ys w9 from hSw).a.cells); clear hSw
    go_simp
    all_goals with_reducible rfl
  simp only [Act.put, List.setIfInBounds_toArray, List.set_cons_zero, List.set_cons_succ]
  refine wpAnyH_at (i := 2) (some 7) (v := ?v2z11) rfl rfl (by kernel_rfl) (by kernel_rfl) (by kernel_rfl) (fun _ _ _ h => h) (Or.inl ⟨by rfl, ?y2z11⟩) (by assumption) ?r2z11
  case y2z11 =>
    intro w9 hSw
    (obtain ⟨a0, a1, a2, a3, a4, a5, a6⟩ := (show KSs w h k A A' n c n' c' xs ys w9 from hSw).b.cells); clear hSw
    go_simp
    all_goals with_reducible rfl
  simp only [Act.put, List.setIfInBounds_toArray, List.set_cons_zero, List.set_cons_succ]
  refine wpAnyH_one (i := 1) (by kernel_rfl) rfl ?_
  generalize W0.drew = W1 at hHeld ⊢
  clear K0
  go_wp2_with (go_at_call 42; refine (aheadOf_any h A n c _ hh).mono ?_; rintro e w3 ⟨rfl, hb1⟩)
  replace hHeld := hHeld.step hb1
  clear hb1
  refine ⟨hHeld, ?_⟩
  refine wpAnyH_one (i := 3) (by kernel_rfl) rfl ?_
  go_wp2_with (go_at_call 42; refine (aheadOf_any k A' n' c' _ hk).mono ?_; rintro e w4 ⟨rfl, hb1⟩)
  replace hHeld := hHeld.step hb1
  clear hb1
  refine ⟨hHeld, ?_⟩
  refine wpAnyH_at (i := 4) (some 9) (v := ?v4z12) rfl rfl (by kernel_rfl) (by kernel_rfl) (by kernel_rfl) (fun _ _ _ h => h) (Or.inl ⟨by rfl, ?y4z12⟩) (by assumption) ?r4z12
  case y4z12 =>
    intro w9 hSw
    clear hSw
    go_simp
    all_goals with_reducible rfl
  simp only [Act.put, List.setIfInBounds_toArray, List.set_cons_zero, List.set_cons_succ]
  refine wpAnyH_at (i := 5) (some 10) (v := ?v5z13) rfl rfl (by kernel_rfl) (by kernel_rfl) (by kernel_rfl) (fun _ _ _ h => h) (Or.inl ⟨by rfl, ?y5z13⟩) (by assumption) ?r5z13
  case y5z13 =>
    intro w9 hSw
    clear hSw
    go_simp
    all_goals with_reducible rfl
  simp only [Act.put, List.setIfInBounds_toArray, List.set_cons_zero, List.set_cons_succ]
  refine wpAnyH_at (i := 6) (some 11) (v := ?v6z14) rfl rfl (by kernel_rfl) (by kernel_rfl) (by kernel_rfl) (fun _ _ _ h => h) (Or.inl ⟨by rfl, ?y6z14⟩) (by assumption) ?r6z14
  case y6z14 =>
    intro w9 hSw
    clear hSw
    go_simp
    all_goals with_reducible rfl
  simp only [Act.put, List.setIfInBounds_toArray, List.set_cons_zero, List.set_cons_succ]
  refine wpAnyH_at (i := 7) (some 12) (v := ?v7z15) rfl rfl (by kernel_rfl) (by kernel_rfl) (by kernel_rfl) (fun _ _ _ h => h) (Or.inl ⟨by rfl, ?y7z15⟩) (by assumption) ?r7z15
  case y7z15 =>
    intro w9 hSw
    (obtain ⟨a0, a1, a2, a3, a4, a5, a6⟩ := (show KSs w h k A A' n c n' c' xs ys w9 from hSw).a.cells); clear hSw
    go_simp
    all_goals with_reducible rfl
  simp only [Act.put, List.setIfInBounds_toArray, List.set_cons_zero, List.set_cons_succ]
  refine wpAnyH_at (i := 8) (some 13) (v := ?v8z16) rfl rfl (by kernel_rfl) (by kernel_rfl) (by kernel_rfl) (fun _ _ _ h => h) (Or.inl ⟨by rfl, ?y8z16⟩) (by assumption) ?r8z16
  case y8z16 =>
    intro w9 hSw
    clear hSw
    go_simp
    all_goals with_reducible rfl
  simp only [Act.put, List.setIfInBounds_toArray, List.set_cons_zero, List.set_cons_succ]
  refine wpAnyH_at (i := 9) (some 14) (v := ?v9z17) rfl rfl (by kernel_rfl) (by kernel_rfl) (by kernel_rfl) (fun _ _ _ h => h) (Or.inl ⟨by rfl, ?y9z17⟩) (by assumption) ?r9z17
  case y9z17 =>
    intro w9 hSw
    (obtain ⟨a0, a1, a2, a3, a4, a5, a6⟩ := (show KSs w h k A A' n c n' c' xs ys w9 from hSw).b.cells); clear hSw
    go_simp
    all_goals with_reducible rfl
  simp only [Act.put, List.setIfInBounds_toArray, List.set_cons_zero, List.set_cons_succ]
  refine wpAnyH_one (i := 10) (by kernel_rfl) rfl ?_
  go_wp2_with (go_at_call 49; refine (equal_any A A' n c n' c' xs ys w.heap.size w.heap.size _ hHeld.ra hHeld.rb).mono ?_; rintro e w5 ⟨rfl, rfl⟩)
  refine ⟨hHeld, ?_⟩
  refine wpAnyH_at (i := 11) (some 16) (v := ?v11z18) rfl rfl (by kernel_rfl) (by kernel_rfl) (by kernel_rfl) (fun _ _ _ h => h) (Or.inl ⟨by rfl, ?y11z18⟩) (by assumption) ?r11z18
  case y11z18 =>
    intro w9 hSw
    clear hSw
    go_simp
    all_goals with_reducible rfl
  simp only [Act.put, List.setIfInBounds_toArray, List.set_cons_zero, List.set_cons_succ]
  refine wpAnyH_at (i := 12) (some 4) (v := ?v12z19) rfl rfl (by kernel_rfl) (by kernel_rfl) (by kernel_rfl) (fun _ _ _ h => h) (Or.inl ⟨by rfl, ?y12z19⟩) (by assumption) ?r12z19
  case y12z19 =>
    intro w9 hSw
    clear hSw
    go_simp
    all_goals with_reducible rfl
  simp only [Act.put, List.setIfInBounds_toArray, List.set_cons_zero, List.set_cons_succ]
  refine wpAnyH_done (by kernel_rfl) ?_ _
  go_wp2
  go_ret
  exact ⟨by first | rfl | simp, hHeld.below⟩
set_option maxRecDepth 100000 in
set_option maxHeartbeats 4000000 in
theorem same_false (h k : Ms) (A A' : Option Addr) (n c n' c' : Nat) (xs ys : List Int) (w : World) (hr : Rd .u8 w w.heap.size A n c xs) (hr' : Rd .u8 w w.heap.size A' n' c' ys) (hh : h.ok) (hk : k.ok) (hB : hmB h k = false) :
    Calls Tryd.prog 25 #[msV h A n c, msV k A' n' c'] w fun e w' => e = .returned (.bool (false)) ∧ Below w.heap.size w w' := by
  have q83 := eqm83 h k
  rw [hB] at q83
  have hb0 : Below w.heap.size w ((w.alloc (.cells (msC h A n c) 27)).alloc (.cells (msC k A' n' c') 27)) := (alloc_below w _).alloc (by simp) _
  have K0 : KSs w h k A A' n c n' c' xs ys ((w.alloc (.cells (msC h A n c) 27)).alloc (.cells (msC k A' n' c') 27)) :=
    ⟨(MsAt.new w 27 h A n c).step (alloc_below _ _), by simpa using MsAt.new (w.alloc (.cells (msC h A n c) 27)) 27 k A' n' c', hr.below hb0 (Nat.le_refl _), hr'.below hb0 (Nat.le_refl _), hb0⟩
  clear hr hr' hb0 hB
  go_enter Tryd.func25, Tryd.ntmps25
  go_wp2_with fail
  revert K0
  change KSs w h k A A' n c n' c' xs ys ((w.alloc (.cells (msC h A n c) 27)).alloc (.cells (msC k A' n' c') 27)) → Code.wp _ _ _ _ ((w.alloc (.cells (msC h A n c) 27)).alloc (.cells (msC k A' n' c') 27))
  generalize (w.alloc (.cells (msC h A n c) 27)).alloc (.cells (msC k A' n' c') 27) = W0
  intro K0
  refine wp_region_held_drew (S := fun w' => KSs w h k A A' n c n' c' xs ys w') (by kernel_rfl) (K0.step (below_drew _)) (fun hHeld => ?_)
  refine wpAnyH_at (i := 0) (some 5) (v := ?v0z20) rfl rfl (by kernel_rfl) (by kernel_rfl) (by kernel_rfl) (fun _ _ _ h => h) (Or.inl ⟨by rfl, ?y0z20⟩) (by assumption) ?r0z20
  case y0z20 =>
    intro w9 hSw
    (obtain ⟨a0, a1, a2, a3, a4, a5, a6⟩ := (show KSs w h k A A' n c n' c' xs ys w9 from hSw).a.cells); clear hSw
    go_simp
    all_goals with_reducible rfl
  simp only [Act.put, List.setIfInBounds_toArray, List.set_cons_zero, List.set_cons_succ]
  refine wpAnyH_at (i := 2) (some 7) (v := ?v2z21) rfl rfl (by kernel_rfl) (by kernel_rfl) (by kernel_rfl) (fun _ _ _ h => h) (Or.inl ⟨by rfl, ?y2z21⟩) (by assumption) ?r2z21
  case y2z21 =>
    intro w9 hSw
    (obtain ⟨a0, a1, a2, a3, a4, a5, a6⟩ := (show KSs w h k A A' n c n' c' xs ys w9 from hSw).b.cells); clear hSw
    go_simp
    all_goals with_reducible rfl
  simp only [Act.put, List.setIfInBounds_toArray, List.set_cons_zero, List.set_cons_succ]
  refine wpAnyH_one (i := 1) (by kernel_rfl) rfl ?_
  generalize W0.drew = W1 at hHeld ⊢
  clear K0
  go_wp2_with (go_at_call 42; refine (aheadOf_any h A n c _ hh).mono ?_; rintro e w3 ⟨rfl, hb1⟩)
  replace hHeld := hHeld.step hb1
  clear hb1
  refine ⟨hHeld, ?_⟩
  refine wpAnyH_one (i := 3) (by kernel_rfl) rfl ?_
  go_wp2_with (go_at_call 42; refine (aheadOf_any k A' n' c' _ hk).mono ?_; rintro e w4 ⟨rfl, hb1⟩)
  replace hHeld := hHeld.step hb1
  clear hb1
  refine ⟨hHeld, ?_⟩
  refine wpAnyH_at (i := 4) (some 9) (v := ?v4z22) rfl rfl (by kernel_rfl) (by kernel_rfl) (by kernel_rfl) (fun _ _ _ h => h) (Or.inl ⟨by rfl, ?y4z22⟩) (by assumption) ?r4z22
  case y4z22 =>
    intro w9 hSw
    clear hSw
    go_simp
    all_goals with_reducible rfl
  simp only [Act.put, List.setIfInBounds_toArray, List.set_cons_zero, List.set_cons_succ]
  refine wpAnyH_at (i := 5) (some 10) (v := ?v5z23) rfl rfl (by kernel_rfl) (by kernel_rfl) (by kernel_rfl) (fun _ _ _ h => h) (Or.inl ⟨by rfl, ?y5z23⟩) (by assumption) ?r5z23
  case y5z23 =>
    intro w9 hSw
    clear hSw
    go_simp
    all_goals with_reducible rfl
  simp only [Act.put, List.setIfInBounds_toArray, List.set_cons_zero, List.set_cons_succ]
  refine wpAnyH_at (i := 6) (some 11) (v := undef) rfl rfl (by kernel_rfl) (by kernel_rfl) (by kernel_rfl) (fun _ _ _ h => h) (Or.inr ⟨by rfl, rfl⟩) (by assumption) ?_
  simp only [Act.put, List.setIfInBounds_toArray, List.set_cons_zero, List.set_cons_succ]
  refine wpAnyH_at (i := 7) (some 12) (v := undef) rfl rfl (by kernel_rfl) (by kernel_rfl) (by kernel_rfl) (fun _ _ _ h => h) (Or.inr ⟨by rfl, rfl⟩) (by assumption) ?_
  simp only [Act.put, List.setIfInBounds_toArray, List.set_cons_zero, List.set_cons_succ]
  refine wpAnyH_at (i := 8) (some 13) (v := undef) rfl rfl (by kernel_rfl) (by kernel_rfl) (by kernel_rfl) (fun _ _ _ h => h) (Or.inr ⟨by rfl, rfl⟩) (by assumption) ?_
  simp only [Act.put, List.setIfInBounds_toArray, List.set_cons_zero, List.set_cons_succ]
  refine wpAnyH_at (i := 9) (some 14) (v := undef) rfl rfl (by kernel_rfl) (by kernel_rfl) (by kernel_rfl) (fun _ _ _ h => h) (Or.inr ⟨by rfl, rfl⟩) (by assumption) ?_
  simp only [Act.put, List.setIfInBounds_toArray, List.set_cons_zero, List.set_cons_succ]
  refine wpAnyH_at (i := 10) (some 15) (v := undef) rfl rfl (by kernel_rfl) (by kernel_rfl) (by kernel_rfl) (fun _ _ _ h => h) (Or.inr ⟨by rfl, rfl⟩) (by assumption) ?_
  simp only [Act.put, List.setIfInBounds_toArray, List.set_cons_zero, List.set_cons_succ]
  refine wpAnyH_at (i := 11) (some 16) (v := ?v11z24) rfl rfl (by kernel_rfl) (by kernel_rfl) (by kernel_rfl) (fun _ _ _ h => h) (Or.inl ⟨by rfl, ?y11z24⟩) (by assumption) ?r11z24
  case y11z24 =>
    intro w9 hSw
    clear hSw
    go_simp
    all_goals with_reducible rfl
  simp only [Act.put, List.setIfInBounds_toArray, List.set_cons_zero, List.set_cons_succ]
  refine wpAnyH_at (i := 12) (some 4) (v := ?v12z25) rfl rfl (by kernel_rfl) (by kernel_rfl) (by kernel_rfl) (fun _ _ _ h => h) (Or.inl ⟨by rfl, ?y12z25⟩) (by assumption) ?r12z25
  case y12z25 =>
    intro w9 hSw
    clear hSw
    go_simp
    all_goals with_reducible rfl
  simp only [Act.put, List.setIfInBounds_toArray, List.set_cons_zero, List.set_cons_succ]
  refine wpAnyH_done (by kernel_rfl) ?_ _
  go_wp2
  go_ret
  exact ⟨by first | rfl | simp, hHeld.below⟩
theorem same_ms (h k : Ms) (A A' : Option Addr) (n c n' c' : Nat) (xs ys : List Int) (w : World) (hr : Rd .u8 w w.heap.size A n c xs) (hr' : Rd .u8 w w.heap.size A' n' c' ys) (hh : h.ok) (hk : k.ok) :
    Calls Tryd.prog 25 #[msV h A n c, msV k A' n' c'] w fun e w' => e = .returned (.bool (mmB h k xs ys)) ∧ Below w.heap.size w w' := by
  unfold mmB
  cases hB : hmB h k
  · exact same_false h k A A' n c n' c' xs ys w hr hr' hh hk hB
  · exact same_true h k A A' n c n' c' xs ys w hr hr' hh hk hB
end Go.Proofs.YtbefoapnlehdmaaDoor
