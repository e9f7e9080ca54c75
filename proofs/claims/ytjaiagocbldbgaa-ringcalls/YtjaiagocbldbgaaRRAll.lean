/-
  Contracts of the document's ring: New, Copy, All.
-/
import Derived.Test.YtjaiagocbldbgaaRRPut
import Derived.Test.YtjaiagocbldbgaaRAll
namespace Go.Proofs.Ytjaiagocbldbgaa
open Go.RowKit
set_option linter.unusedVariables false

/-- What the document's New and Copy give. -/
def GivesRR (w : World) (p z : Nat) (o : Int) (R : List Nat) (d : Nat) (r : Nat → Value) : Ending → World → Prop := fun e w' =>
  ∃ q, e = .returned (r q) ∧ RrAt w' q p w.heap.size z o R d ∧ w.heap.size ≤ q ∧ Below w.heap.size w w'
theorem rnew_no (p : Nat) (z o : Int) (w : World) (h : z < 1 ∨ 256 < z ∨ o < 1 ∨ 255 < o) : Calls Try.prog 12 #[ptr p, .int .i64 z, .int .i64 o] w fun e w' => e = .returned (.tuple #[.pointer none, .int .i64 11]) ∧ w = w' := by
  by_cases h1 : z < 1
  · go_enter Try.func12, Try.ntmps12
    go_wp2
    go_ret2
    exact ⟨rfl, rfl⟩
  by_cases h2 : 256 < z
  · go_enter Try.func12, Try.ntmps12
    go_wp2
    go_ret2
    exact ⟨rfl, rfl⟩
  by_cases h3 : o < 1
  · go_enter Try.func12, Try.ntmps12
    go_wp2
    go_ret2
    exact ⟨rfl, rfl⟩
  have h4 : 255 < o := by omega
  go_enter Try.func12, Try.ntmps12
  go_wp2
  go_ret2
  exact ⟨rfl, rfl⟩
theorem RrRow.box (w : World) (p b z : Nat) (o : Int) (R : List Nat) (d : Nat) (A : Option Addr) (n c : Nat) (hz : 1 ≤ z ∧ z ≤ 256) (ho : isOwn o) (hR : R.length ≤ z) (hb : b ≤ w.heap.size) (h : Out .i64 3 w b A n c (ints R)) :
    RrRow (w.alloc (.cells #[ptr p, .int .i64 (z : Int), .int .i64 o, .slice A n c, .int .i64 (d : Int)] 74)) w.heap.size p b A n c z o R d :=
  ⟨heap_alloc_new w _, h.below (alloc_below w _) (Nat.le_refl _), hz, ho, hR, by simp, by simp; omega⟩
theorem rnew_yes (p z : Nat) (o : Int) (w : World) (h1 : 1 ≤ z) (h2 : z ≤ 256) (ho : isOwn o) : Calls Try.prog 12 #[ptr p, .int .i64 (z : Int), .int .i64 o] w (GivesRR w p z o [] 0 (fun q => .tuple #[ptr q, .int .i64 0])) := by
  have n1 : ¬ (z : Int) < 1 := by omega
  have n2 : ¬ (256 : Int) < (z : Int) := by omega
  have n3 : ¬ o < 1 := by have := ho.1; omega
  have n4 : ¬ 255 < o := by have := ho.2; omega
  have b := alloc_below w (.cells #[ptr p, .int .i64 (z : Int), .int .i64 o, .slice none 0 0, .int .i64 0] 74)
  have K := Lib.hid (RrRow.box w p w.heap.size z o [] 0 none 0 0 ⟨h1, h2⟩ ho (by simp) (Nat.le_refl _) Out.nil)
  clear ho
  go_enter Try.func12, Try.ntmps12
  go_wp2
  go_ret2
  exact ⟨w.heap.size, rfl, ⟨_, _, _, K.out⟩, Nat.le_refl _, b⟩
set_option maxRecDepth 100000 in
set_option maxHeartbeats 2000000 in
theorem rcopy_any (q p p' b z : Nat) (o : Int) (R : List Nat) (d : Nat) (w : World) (h : RrAt w q p b z o R d) :
    Calls Try.prog 18 #[ptr q, ptr p'] w (GivesRR w p' z o R d ptr) := by
  obtain ⟨A, n, c, h⟩ := h
  have hz := h.size
  have hle := h.le
  have hln := h.len
  have ho := h.own
  have hn : n ≤ 256 := by omega
  have FA := Lib.hid (fun W (q : Below w.heap.size w W) => h.cells.below q)
  have hr := h.out.rd
  have K : Hid (∀ W A' n' c', Below w.heap.size w W → Out .i64 3 W w.heap.size A' n' c' (ints R) → GivesRR w p' z o R d ptr (.returned (ptr W.heap.size)) (W.alloc (.cells #[ptr p', .int .i64 (z : Int), .int .i64 o, .slice A' n' c', .int .i64 (d : Int)] 74))) := Lib.hid (fun W A' n' c' b1 o1 =>
    ⟨W.heap.size, rfl, ⟨_, _, _, RrRow.box W p' w.heap.size z o R d A' n' c' hz ho hle b1.size o1⟩, b1.size, b1.trans ((alloc_below W _).mono b1.size)⟩)
  clear h ho hle hln
  go_enter Try.func18, Try.ntmps18
  go_wp2
  refine wp_region_held_drew (S := fun W => Below w.heap.size w W) (by kernel_rfl) (below_drew _) (fun hHeld => ?_)
  have B0 := below_drew w
  change wpAnyH _ _ _ _ _ _ _ _ (World.drew _)
  generalize World.drew w = W0 at *
  refine wpAnyH_at (i := 0) (some 5) (v := ?v0z10) rfl rfl (by kernel_rfl) (by kernel_rfl) (by kernel_rfl) (fun _ _ _ h => h) (Or.inl ⟨by rfl, ?y0z10⟩) (by assumption) ?r0z10
  case y0z10 =>
    intro w9 hSw
    obtain ⟨c0, c1, c2, c3, c4, ff, lt1⟩ := FA.out _ hSw; clear hSw
    go_simp
    all_goals with_reducible rfl
  simp only [Act.put, List.setIfInBounds_toArray, List.set_cons_zero, List.set_cons_succ]
  refine wpAnyH_at (i := 1) (some 6) (v := ?v1z11) rfl rfl (by kernel_rfl) (by kernel_rfl) (by kernel_rfl) (fun _ _ _ h => h) (Or.inl ⟨by rfl, ?y1z11⟩) (by assumption) ?r1z11
  case y1z11 =>
    intro w9 hSw
    obtain ⟨c0, c1, c2, c3, c4, ff, lt1⟩ := FA.out _ hSw; clear hSw
    go_simp
    all_goals with_reducible rfl
  simp only [Act.put, List.setIfInBounds_toArray, List.set_cons_zero, List.set_cons_succ]
  refine wpAnyH_at (i := 2) (some 7) (v := ?v2z12) rfl rfl (by kernel_rfl) (by kernel_rfl) (by kernel_rfl) (fun _ _ _ h => h) (Or.inl ⟨by rfl, ?y2z12⟩) (by assumption) ?r2z12
  case y2z12 =>
    intro w9 hSw
    obtain ⟨c0, c1, c2, c3, c4, ff, lt1⟩ := FA.out _ hSw; clear hSw
    go_simp
    all_goals with_reducible rfl
  simp only [Act.put, List.setIfInBounds_toArray, List.set_cons_zero, List.set_cons_succ]
  refine wpAnyH_at (i := 3) (some 8) (v := ?v3z13) rfl rfl (by kernel_rfl) (by kernel_rfl) (by kernel_rfl) (fun _ _ _ h => h) (Or.inl ⟨by rfl, ?y3z13⟩) (by assumption) ?r3z13
  case y3z13 =>
    intro w9 hSw
    obtain ⟨c0, c1, c2, c3, c4, ff, lt1⟩ := FA.out _ hSw; clear hSw
    go_simp
    all_goals with_reducible rfl
  simp only [Act.put, List.setIfInBounds_toArray, List.set_cons_zero, List.set_cons_succ]
  refine wpAnyH_at (i := 4) (some 9) (v := ?v4z14) rfl rfl (by kernel_rfl) (by kernel_rfl) (by kernel_rfl) (fun _ _ _ h => h) (Or.inl ⟨by rfl, ?y4z14⟩) (by assumption) ?r4z14
  case y4z14 =>
    intro w9 hSw
    obtain ⟨c0, c1, c2, c3, c4, ff, lt1⟩ := FA.out _ hSw; clear hSw
    go_simp
    all_goals with_reducible rfl
  simp only [Act.put, List.setIfInBounds_toArray, List.set_cons_zero, List.set_cons_succ]
  refine wpAnyH_at (i := 5) (some 10) (v := ?v5z15) rfl rfl (by kernel_rfl) (by kernel_rfl) (by kernel_rfl) (fun _ _ _ h => h) (Or.inl ⟨by rfl, ?y5z15⟩) (by assumption) ?r5z15
  case y5z15 =>
    intro w9 hSw
    obtain ⟨c0, c1, c2, c3, c4, ff, lt1⟩ := FA.out _ hSw; clear hSw
    go_simp
    all_goals with_reducible rfl
  simp only [Act.put, List.setIfInBounds_toArray, List.set_cons_zero, List.set_cons_succ]
  refine wpAnyH_at (i := 6) (some 11) (v := ?v6z16) rfl rfl (by kernel_rfl) (by kernel_rfl) (by kernel_rfl) (fun _ _ _ h => h) (Or.inl ⟨by rfl, ?y6z16⟩) (by assumption) ?r6z16
  case y6z16 =>
    intro w9 hSw
    obtain ⟨c0, c1, c2, c3, c4, ff, lt1⟩ := FA.out _ hSw; clear hSw
    go_simp
    all_goals with_reducible rfl
  simp only [Act.put, List.setIfInBounds_toArray, List.set_cons_zero, List.set_cons_succ]
  refine wpAnyH_at (i := 7) (some 12) (v := ?v7z17) rfl rfl (by kernel_rfl) (by kernel_rfl) (by kernel_rfl) (fun _ _ _ h => h) (Or.inl ⟨by rfl, ?y7z17⟩) (by assumption) ?r7z17
  case y7z17 =>
    intro w9 hSw
    obtain ⟨c0, c1, c2, c3, c4, ff, lt1⟩ := FA.out _ hSw; clear hSw
    go_simp
    all_goals with_reducible rfl
  simp only [Act.put, List.setIfInBounds_toArray, List.set_cons_zero, List.set_cons_succ]
  refine wpAnyH_at (i := 8) (some 13) (v := ?v8z18) rfl rfl (by kernel_rfl) (by kernel_rfl) (by kernel_rfl) (fun _ _ _ h => h) (Or.inl ⟨by rfl, ?y8z18⟩) (by assumption) ?r8z18
  case y8z18 =>
    intro w9 hSw
    obtain ⟨c0, c1, c2, c3, c4, ff, lt1⟩ := FA.out _ hSw; clear hSw
    go_simp
    all_goals with_reducible rfl
  simp only [Act.put, List.setIfInBounds_toArray, List.set_cons_zero, List.set_cons_succ]
  refine wpAnyH_at (i := 10) (some 15) (v := ?v10z19) rfl rfl (by kernel_rfl) (by kernel_rfl) (by kernel_rfl) (fun _ _ _ h => h) (Or.inl ⟨by rfl, ?y10z19⟩) (by assumption) ?r10z19
  case y10z19 =>
    intro w9 hSw
    obtain ⟨c0, c1, c2, c3, c4, ff, lt1⟩ := FA.out _ hSw; clear hSw
    go_simp
    all_goals with_reducible rfl
  simp only [Act.put, List.setIfInBounds_toArray, List.set_cons_zero, List.set_cons_succ]
  refine wpAnyH_at (i := 11) (some 16) (v := ?v11z20) rfl rfl (by kernel_rfl) (by kernel_rfl) (by kernel_rfl) (fun _ _ _ h => h) (Or.inl ⟨by rfl, ?y11z20⟩) (by assumption) ?r11z20
  case y11z20 =>
    intro w9 hSw
    obtain ⟨c0, c1, c2, c3, c4, ff, lt1⟩ := FA.out _ hSw; clear hSw
    go_simp
    all_goals with_reducible rfl
  simp only [Act.put, List.setIfInBounds_toArray, List.set_cons_zero, List.set_cons_succ]
  refine wpAnyH_at (i := 12) (some 17) (v := ?v12z21) rfl rfl (by kernel_rfl) (by kernel_rfl) (by kernel_rfl) (fun _ _ _ h => h) (Or.inl ⟨by rfl, ?y12z21⟩) (by assumption) ?r12z21
  case y12z21 =>
    intro w9 hSw
    obtain ⟨c0, c1, c2, c3, c4, ff, lt1⟩ := FA.out _ hSw; clear hSw
    go_simp
    all_goals with_reducible rfl
  simp only [Act.put, List.setIfInBounds_toArray, List.set_cons_zero, List.set_cons_succ]
  refine wpAnyH_at (i := 13) (some 18) (v := ?v13z22) rfl rfl (by kernel_rfl) (by kernel_rfl) (by kernel_rfl) (fun _ _ _ h => h) (Or.inl ⟨by rfl, ?y13z22⟩) (by assumption) ?r13z22
  case y13z22 =>
    intro w9 hSw
    obtain ⟨c0, c1, c2, c3, c4, ff, lt1⟩ := FA.out _ hSw; clear hSw
    go_simp
    all_goals with_reducible rfl
  simp only [Act.put, List.setIfInBounds_toArray, List.set_cons_zero, List.set_cons_succ]
  refine wpAnyH_at (i := 15) (some 20) (v := ?v15z23) rfl rfl (by kernel_rfl) (by kernel_rfl) (by kernel_rfl) (fun _ _ _ h => h) (Or.inl ⟨by rfl, ?y15z23⟩) (by assumption) ?r15z23
  case y15z23 =>
    intro w9 hSw
    obtain ⟨c0, c1, c2, c3, c4, ff, lt1⟩ := FA.out _ hSw; clear hSw
    go_simp
    all_goals with_reducible rfl
  simp only [Act.put, List.setIfInBounds_toArray, List.set_cons_zero, List.set_cons_succ]
  refine wpAnyH_at (i := 16) (some 21) (v := ?v16z24) rfl rfl (by kernel_rfl) (by kernel_rfl) (by kernel_rfl) (fun _ _ _ h => h) (Or.inl ⟨by rfl, ?y16z24⟩) (by assumption) ?r16z24
  case y16z24 =>
    intro w9 hSw
    obtain ⟨c0, c1, c2, c3, c4, ff, lt1⟩ := FA.out _ hSw; clear hSw
    go_simp
    all_goals with_reducible rfl
  simp only [Act.put, List.setIfInBounds_toArray, List.set_cons_zero, List.set_cons_succ]
  refine wpAnyH_at (i := 17) (some 22) (v := ?v17z25) rfl rfl (by kernel_rfl) (by kernel_rfl) (by kernel_rfl) (fun _ _ _ h => h) (Or.inl ⟨by rfl, ?y17z25⟩) (by assumption) ?r17z25
  case y17z25 =>
    intro w9 hSw
    obtain ⟨c0, c1, c2, c3, c4, ff, lt1⟩ := FA.out _ hSw; clear hSw
    go_simp
    all_goals with_reducible rfl
  simp only [Act.put, List.setIfInBounds_toArray, List.set_cons_zero, List.set_cons_succ]
  refine wpAnyH_at (i := 18) (some 23) (v := ?v18z26) rfl rfl (by kernel_rfl) (by kernel_rfl) (by kernel_rfl) (fun _ _ _ h => h) (Or.inl ⟨by rfl, ?y18z26⟩) (by assumption) ?r18z26
  case y18z26 =>
    intro w9 hSw
    obtain ⟨c0, c1, c2, c3, c4, ff, lt1⟩ := FA.out _ hSw; clear hSw
    go_simp
    all_goals with_reducible rfl
  simp only [Act.put, List.setIfInBounds_toArray, List.set_cons_zero, List.set_cons_succ]
  refine wpAnyH_one (i := 9) (by kernel_rfl) rfl ?_
  have ba := alloc_below W0 (.cells #[] 3)
  have o0 := Out.lit0 .i64 3 W0 w.heap.size B0.size
  go_wp2
  replace B0 := B0.trans (ba.mono B0.size)
  clear hHeld ba
  have hHeld := B0
  refine ⟨hHeld, ?_⟩
  try simp only [Act.put, List.setIfInBounds_toArray, List.set_cons_zero, List.set_cons_succ]
  refine wpAnyH_one (i := 14) (by kernel_rfl) rfl ?_
  refine wpList_appD (some 19) rfl rfl (.tmp 14) (.tmp 18) 57 rfl w.heap.size Try.underlying57 info3 (by omega) (some ⟨W0.heap.size, 0, none⟩) 0 0 [] rfl o0 A n c w.heap.size (ints R) rfl (hr.below B0 (Nat.le_refl _)) (by omega) B0.size ?_
  intro A2 m2 c2 W2 o2 hg2
  rw [List.nil_append] at o2
  replace B0 := B0.grown hg2 B0.size (fun k hk => o0.own_ge k hk)
  have K2 := Lib.hid (K.out W2 A2 m2 c2 B0 o2)
  have B2 := B0.trans ((alloc_below W2 (.cells #[ptr p', .int .i64 (z : Int), .int .i64 o, .slice A2 m2 c2, .int .i64 (d : Int)] 74)).mono B0.size)
  clear hHeld hr o0 hg2 o2 K
  go_wp2
  have hHeld := B0
  refine ⟨hHeld, ?_⟩
  try simp only [Act.put, List.setIfInBounds_toArray, List.set_cons_zero, List.set_cons_succ]
  refine wpAnyH_at (i := 19) (some 24) (v := ?v19z27) rfl rfl (by kernel_rfl) (by kernel_rfl) (by kernel_rfl) (fun _ _ _ h => h) (Or.inl ⟨by rfl, ?y19z27⟩) (by assumption) ?r19z27
  case y19z27 =>
    intro w9 hSw
    clear hSw
    go_simp
    all_goals with_reducible rfl
  simp only [Act.put, List.setIfInBounds_toArray, List.set_cons_zero, List.set_cons_succ]
  refine wpAnyH_one (i := 20) (by kernel_rfl) rfl ?_
  go_wp2
  have hHeld := B2
  refine ⟨hHeld, ?_⟩
  try simp only [Act.put, List.setIfInBounds_toArray, List.set_cons_zero, List.set_cons_succ]
  refine wpAnyH_at (i := 21) (some 4) (v := ?v21z28) rfl rfl (by kernel_rfl) (by kernel_rfl) (by kernel_rfl) (fun _ _ _ h => h) (Or.inl ⟨by rfl, ?y21z28⟩) (by assumption) ?r21z28
  case y21z28 =>
    intro w9 hSw
    clear hSw
    go_simp
    all_goals with_reducible rfl
  simp only [Act.put, List.setIfInBounds_toArray, List.set_cons_zero, List.set_cons_succ]
  refine wpAnyH_done (by kernel_rfl) ?_ _
  go_wp2
  go_ret
  exact K2.out

/-- An own row of slices of bytes, k of them: those of the ring's buffers. -/
def RowsO (w : World) (b : Nat) (A : Option Addr) (k c : Nat) (L : Slots) (R : List Nat) : Prop :=
  ∃ vals, w.ownsRow b 23 1 (.slice A k c) k vals ∧ ∀ i, i < k → ∃ A' m c', vals[i]? = some (.slice A' m c') ∧ Out .u8 5 w 0 A' m c' (byt L (R.getD i 0))
theorem RowsO.below {w w' : World} {b B k c : Nat} {A : Option Addr} {L : Slots} {R : List Nat} (h : RowsO w b A k c L R) (hb : Below B w w') (hB : w.heap.size ≤ B) : RowsO w' b A k c L R := by
  obtain ⟨vals, h1, h2⟩ := h
  refine ⟨vals, own_below h1 hb hB, fun i hi => ?_⟩
  obtain ⟨A', m, c', a, o⟩ := h2 i hi
  exact ⟨A', m, c', a, o.below hb hB⟩
theorem RowsO.lit0 (w : World) (b : Nat) (hb : b ≤ w.heap.size) (L : Slots) (R : List Nat) : RowsO (w.alloc (.cells #[] 23)) b (some ⟨w.heap.size, 0, none⟩) 0 0 L R :=
  ⟨[], World.ownsRow_made w #[] 0 hb (by unfold maxLen; omega) rfl, fun i hi => by omega⟩
theorem RowsO.blk {w : World} {b k c : Nat} {A : Option Addr} {L : Slots} {R : List Nat} (h : RowsO w b A k c L R) : ∀ g, (Value.slice A k c).ownBlock = some g → b ≤ g ∧ ∃ cur, w.heap[g]? = some (.cells cur 23 (0, 0)) := by
  obtain ⟨vals, ⟨h1, h2⟩, _⟩ := h
  intro g hg
  rcases h2 with ⟨e, _⟩ | ⟨g', cap, cur, e, hb, hh, _⟩
  · rw [e] at hg; cases hg
  · rw [e] at hg; cases hg; exact ⟨hb, cur, hh⟩
theorem RowsO.push {w w' : World} {b k c : Nat} {A : Option Addr} {L : Slots} {R : List Nat} {vals : List Value} {v' : Value} {A1 : Option Addr} {m1 c1 : Nat}
    (h2 : ∀ i, i < k → ∃ A' m c', vals[i]? = some (.slice A' m c') ∧ Out .u8 5 w 0 A' m c' (byt L (R.getD i 0))) (hl : vals.length = k) (hb : ∀ g, (Value.slice A k c).ownBlock = some g → b ≤ g ∧ ∃ cur, w.heap[g]? = some (.cells cur 23 (0, 0)))
    (h : w'.ownsRow b 23 1 v' (k + 1) (vals ++ [.slice A1 m1 c1])) (hg : w.grownBy w' (Value.slice A k c).ownBlock) (ho : Out .u8 5 w 0 A1 m1 c1 (byt L (R.getD k 0))) : ∃ A' c', v' = .slice A' (k + 1) c' ∧ RowsO w' b A' (k + 1) c' L R := by
  have keep : ∀ (A' : Option Addr) (m c' : Nat) (xs : List Int), Out .u8 5 w 0 A' m c' xs → Out .u8 5 w' 0 A' m c' xs := fun A' m c' xs q => q.grown hg (fun r hr => by
    obtain ⟨_, cur, hc⟩ := hb r hr
    cases A' with
    | none => exact .inl rfl
    | some ad =>
      obtain ⟨_, cur', hc'⟩ := q.block ad rfl
      exact .inr ⟨ad, rfl, blk_ne hc' hc (by decide)⟩)
  have hv : ∃ A' c', v' = .slice A' (k + 1) c' := by
    rcases h.2 with ⟨_, hn⟩ | ⟨g, cap, cur, hv, _⟩
    · omega
    · exact ⟨_, _, hv⟩
  obtain ⟨A', c', rfl⟩ := hv
  refine ⟨A', c', rfl, vals ++ [.slice A1 m1 c1], h, fun i hi => ?_⟩
  by_cases e : i < k
  · obtain ⟨A', m, c', a, o⟩ := h2 i e
    exact ⟨A', m, c', by rw [List.getElem?_append_left (by omega)]; exact a, keep _ _ _ _ o⟩
  · obtain rfl : i = k := by omega
    exact ⟨A1, m1, c1, by rw [List.getElem?_append_right (by omega)]; simp [hl], keep _ _ _ _ ho⟩
theorem RowsO.rows {w : World} {b c : Nat} {A : Option Addr} {L : Slots} {R : List Nat} (h : RowsO w b A R.length c L R) : BRows w w.heap.size A R.length c (bytsOf L R) := by
  obtain ⟨vals, ⟨h1, h2⟩, h3⟩ := h
  rcases h2 with ⟨e, h0⟩ | ⟨g, cap, cur, e, hb, hh, hn, hm, hs, ht⟩
  · simp only [Value.slice.injEq] at e
    obtain ⟨rfl, _, rfl⟩ := e
    exact ⟨by simp [bytsOf], ⟨Nat.le_of_eq h0, by unfold maxLen; omega⟩, fun i hi => by omega⟩
  · simp only [Value.slice.injEq, true_and] at e
    obtain ⟨rfl, rfl⟩ := e
    refine ⟨by simp [bytsOf], ⟨hn, hm⟩, fun i hi => ?_⟩
    obtain ⟨A', m, c', a, o⟩ := h3 i hi
    refine ⟨g, 0, A', m, c', rfl, (Array.getElem?_eq_some_iff.1 hh).1, ?_, by rw [bytsOf_get hi]; exact o.rd⟩
    rw [cell_of_row w g _ _ 23 (0, 0) hh, Nat.zero_add, ← a, ← ht, List.getElem?_take_of_lt (by omega), Array.getElem?_toList]
/-- The step of a walk: one more slice of bytes is appended to the row. -/
theorem wpList_push (dd : Option Tmp) {w : World} {ops : Array Oper} {rest : List Oper} {o : Oper} {a : Act} {Q : Exit → Act → World → Prop} (hgd : o.guard = none) (hdd : o.dst = dd) (s x : Operand) (hop : o.op = .call { callee := .builtin .append, args := #[s, x], argTypes := #[48, 48] })
    {b k c g m1 c1 : Nat} {A A1 : Option Addr} {L : Slots} {R : List Nat} (hs : a.eval s = .slice A k c) (hx : a.eval x = .slice (some ⟨g, 0, none⟩) 1 1) (h : RowsO w b A k c L R) (hk : k ≤ 1000) (hb : b ≤ w.heap.size)
    (hg : w.cell? ⟨g, 0, none⟩ = some (.slice A1 m1 c1)) (ho : Out .u8 5 w 0 A1 m1 c1 (byt L (R.getD k 0)))
    (hK : ∀ A' c' w', RowsO w' b A' (k + 1) c' L R → w.grownBy w' (Value.slice A k c).ownBlock → wpList Try.prog ops Q rest (a.put dd (.slice A' (k + 1) c')) w') : wpList Try.prog ops Q (o :: rest) a w := by
  subst hdd
  obtain ⟨i, hi, hzz⟩ := Option.map_eq_some_iff.1 info23
  simp only [Prod.mk.injEq] at hzz
  have hblk := h.blk
  obtain ⟨vals, hv1, hv2⟩ := h
  have hvl : vals.length = k := by have := hv1.1; omega
  refine wpList_append_own w hgd s x 48 hop b 23 i (.slice none 0 0) 1 24 Try.underlying48 hi hzz.1 hzz.2.1 hzz.2.2 rfl (by decide) _ k vals hs hv1 ⟨g, 0, none⟩ 1 1 [.slice A1 m1 c1] hx rfl ?_ (by intro u hu; obtain rfl := List.mem_singleton.1 hu; rfl) (by unfold maxLen; omega) (by omega) hb ?_
  · intro j u hj
    obtain ⟨rfl, rfl⟩ : j = 0 ∧ u = .slice A1 m1 c1 := by
      cases j with
      | zero => simpa using hj.symm
      | succ j => simp at hj
    exact hg
  · intro v' w' h4 hg4 _
    obtain ⟨A4, c4, rfl, hO⟩ := RowsO.push hv2 hvl hblk h4 hg4 ho
    exact hK A4 c4 w' hO hg4
set_option maxRecDepth 100000 in
set_option maxHeartbeats 2000000 in
theorem rall_any (q p b z : Nat) (o : Int) (R : List Nat) (d g cp : Nat) (L : Slots) (F : Nat → Prop) (w : World) (h : RrAt w q p b z o R d) (hp : Rp w p g cp L F) (hR : ∀ x ∈ R, x < L.length) :
    Calls Try.prog 38 #[ptr q] w fun e w' => ∃ A c, e = .returned (.slice A R.length c) ∧ BRows w' w'.heap.size A R.length c (bytsOf L R) ∧ Below w.heap.size w w' := by
  obtain ⟨A0, n, c, h⟩ := h
  have hle := h.le
  have hsz := h.size
  have hn := h.len
  have hl : Hid (∀ k, k < n → ∃ b0 o0, A0 = some ⟨b0, o0, none⟩ ∧ b0 < w.heap.size ∧ w.cell? ⟨b0, o0 + k, none⟩ = some (.int .i64 (R.getD k 0 : Nat))) := Lib.hid (fun k hk => by
    have := h.out.rd.at_ hk
    rw [ints_get] at this
    exact this)
  have hRm : Hid (∀ k, k < n → R.getD k 0 < L.length) := Lib.hid (fun k hk => hR _ (by
    have e : R.getD k 0 = R[k]'(by omega) := by simp [List.getD, show k < R.length by omega]
    rw [e]; exact List.getElem_mem _))
  have HB : Hid (∀ W A c, RowsO W w.heap.size A n c L R → BRows W W.heap.size A n c (bytsOf L R)) := Lib.hid (fun W A c q => by
    subst hn
    exact q.rows)
  have b0 := alloc_below w (.cells #[] 23)
  have r0 := RowsO.lit0 w w.heap.size (Nat.le_refl _) L R
  have HC := Lib.hid h.cells
  have HP := Lib.hid hp
  have hn256 : n ≤ 256 := by omega
  have hqlt := h.lt.1
  have hplt := hp.lt
  rw [hn]
  clear h hn hR hp hle
  go_enter Try.func38, Try.ntmps38
  go_wp2
  go_loopw [3, 4] (fun v j wr => ∃ (k : Nat) (A : Option Addr) (c : Nat), k ≤ n ∧ j = .int .i64 k ∧ v = .slice A k c ∧ Below w.heap.size w wr ∧ RowsO wr w.heap.size A k c L R) (fun _ j _ => n - (intOf j).toNat)
  case atStart => exact ⟨0, _, 0, Nat.zero_le _, rfl, rfl, b0, r0⟩
  case round =>
    obtain ⟨k, A, ca, hk, rfl, rfl, hb, hO⟩ := hrel
    clear r0 b0
    have hcw := HC.out.below hb
    obtain ⟨c0, c1, c2, c3, c4, ff, lt1⟩ := hcw
    by_cases hkn : k < n
    · obtain ⟨b0, o0, hA0, hb0, hcx⟩ := hl.out k hkn
      subst hA0
      have hxl := hRm.out k hkn
      obtain ⟨x, hx⟩ : ∃ x, R.getD k 0 = x := ⟨_, rfl⟩
      rw [hx] at hxl hcx
      obtain ⟨A1, m1, c1b, hc1x, o1, -⟩ := HP.out.cell1 hxl
      obtain ⟨N, Gp, hN, hNl, hcp, hGp⟩ := HP.out.cells
      obtain rfl := hGp (by omega)
      have hlb : m1 ≤ 1514 := by rw [← o1.len]; exact (HP.out.good.2 x).2.2
      have hxN : x < N := by omega
      have r1 := o1.rd
      have HX := Lib.hid hx
      have FB : ∀ W, Below w.heap.size w W → RrCells W q p (some ⟨b0, o0, none⟩) n c z o d ∧ W.cell? ⟨p, 0, none⟩ = some (.slice (some ⟨g, 0, none⟩) N cp) ∧ W.cell? ⟨b0, o0 + k, none⟩ = some (.int .i64 (x : Int)) ∧ W.cell? ⟨g, x * 2 + 1, none⟩ = some (.slice A1 m1 c1b) :=
        fun W q => ⟨HC.out.below q, (q.cell (p := ⟨p, 0, none⟩) hplt.1).trans hcp, (q.cell (p := ⟨b0, o0 + k, none⟩) hb0).trans hcx, (q.cell (p := ⟨g, x * 2 + 1, none⟩) hplt.2).trans hc1x⟩
      have hk0 : (k : Int) < (n : Int) := by omega
      have hxi : (x : Int) < (N : Int) := by omega
      have HN := Lib.hid hN
      clear hN hx hcx hc1x hcp o1 hxl hGp
      go_wp2
      refine wp_region_held_drew (S := fun W => Below w.heap.size w W) (by kernel_rfl) (hb.trans ((below_drew _).mono hb.size)) (fun hHeld => ?_)
      replace hO := hO.below (below_drew wr) (Nat.le_refl _)
      have B0 := hb.trans ((below_drew wr).mono hb.size)
      change wpAnyH _ _ _ _ _ _ _ _ (World.drew _)
      generalize World.drew wr = W0 at *
      clear hb c0 c1 c2 c3 c4 ff lt1
      refine wpAnyH_at (i := 0) (some 15) (v := ?v0z29) rfl rfl (by kernel_rfl) (by kernel_rfl) (by kernel_rfl) (fun _ _ _ h => h) (Or.inl ⟨by rfl, ?y0z29⟩) (by assumption) ?r0z29
      case y0z29 =>
        intro w9 hSw
        obtain ⟨⟨c0, c1, c2, c3, c4, ff, lt1⟩, x1, x2, x3⟩ := FB _ hSw; clear hSw
        go_simp
        all_goals with_reducible rfl
      simp only [Act.put, List.setIfInBounds_toArray, List.set_cons_zero, List.set_cons_succ]
      refine wpAnyH_at (i := 2) (some 17) (v := ?v2z30) rfl rfl (by kernel_rfl) (by kernel_rfl) (by kernel_rfl) (fun _ _ _ h => h) (Or.inl ⟨by rfl, ?y2z30⟩) (by assumption) ?r2z30
      case y2z30 =>
        intro w9 hSw
        obtain ⟨⟨c0, c1, c2, c3, c4, ff, lt1⟩, x1, x2, x3⟩ := FB _ hSw; clear hSw
        go_simp
        all_goals with_reducible rfl
      simp only [Act.put, List.setIfInBounds_toArray, List.set_cons_zero, List.set_cons_succ]
      refine wpAnyH_at (i := 3) (some 18) (v := ?v3z31) rfl rfl (by kernel_rfl) (by kernel_rfl) (by kernel_rfl) (fun _ _ _ h => h) (Or.inl ⟨by rfl, ?y3z31⟩) (by assumption) ?r3z31
      case y3z31 =>
        intro w9 hSw
        obtain ⟨⟨c0, c1, c2, c3, c4, ff, lt1⟩, x1, x2, x3⟩ := FB _ hSw; clear hSw
        go_simp
        all_goals with_reducible rfl
      simp only [Act.put, List.setIfInBounds_toArray, List.set_cons_zero, List.set_cons_succ]
      refine wpAnyH_at (i := 4) (some 19) (v := ?v4z32) rfl rfl (by kernel_rfl) (by kernel_rfl) (by kernel_rfl) (fun _ _ _ h => h) (Or.inl ⟨by rfl, ?y4z32⟩) (by assumption) ?r4z32
      case y4z32 =>
        intro w9 hSw
        obtain ⟨⟨c0, c1, c2, c3, c4, ff, lt1⟩, x1, x2, x3⟩ := FB _ hSw; clear hSw
        go_simp
        all_goals with_reducible rfl
      simp only [Act.put, List.setIfInBounds_toArray, List.set_cons_zero, List.set_cons_succ]
      refine wpAnyH_at (i := 5) (some 20) (v := ?v5z33) rfl rfl (by kernel_rfl) (by kernel_rfl) (by kernel_rfl) (fun _ _ _ h => h) (Or.inl ⟨by rfl, ?y5z33⟩) (by assumption) ?r5z33
      case y5z33 =>
        intro w9 hSw
        obtain ⟨⟨c0, c1, c2, c3, c4, ff, lt1⟩, x1, x2, x3⟩ := FB _ hSw; clear hSw
        go_simp
        all_goals with_reducible rfl
      simp only [Act.put, List.setIfInBounds_toArray, List.set_cons_zero, List.set_cons_succ]
      refine wpAnyH_at (i := 6) (some 21) (v := ?v6z34) rfl rfl (by kernel_rfl) (by kernel_rfl) (by kernel_rfl) (fun _ _ _ h => h) (Or.inl ⟨by rfl, ?y6z34⟩) (by assumption) ?r6z34
      case y6z34 =>
        intro w9 hSw
        obtain ⟨⟨c0, c1, c2, c3, c4, ff, lt1⟩, x1, x2, x3⟩ := FB _ hSw; clear hSw
        go_simp
        all_goals with_reducible rfl
      simp only [Act.put, List.setIfInBounds_toArray, List.set_cons_zero, List.set_cons_succ]
      refine wpAnyH_at (i := 7) (some 22) (v := ?v7z35) rfl rfl (by kernel_rfl) (by kernel_rfl) (by kernel_rfl) (fun _ _ _ h => h) (Or.inl ⟨by rfl, ?y7z35⟩) (by assumption) ?r7z35
      case y7z35 =>
        intro w9 hSw
        obtain ⟨⟨c0, c1, c2, c3, c4, ff, lt1⟩, x1, x2, x3⟩ := FB _ hSw; clear hSw
        go_simp
        all_goals with_reducible rfl
      simp only [Act.put, List.setIfInBounds_toArray, List.set_cons_zero, List.set_cons_succ]
      refine wpAnyH_at (i := 8) (some 23) (v := ?v8z36) rfl rfl (by kernel_rfl) (by kernel_rfl) (by kernel_rfl) (fun _ _ _ h => h) (Or.inl ⟨by rfl, ?y8z36⟩) (by assumption) ?r8z36
      case y8z36 =>
        intro w9 hSw
        obtain ⟨⟨c0, c1, c2, c3, c4, ff, lt1⟩, x1, x2, x3⟩ := FB _ hSw; clear hSw
        go_simp
        all_goals with_reducible rfl
      simp only [Act.put, List.setIfInBounds_toArray, List.set_cons_zero, List.set_cons_succ]
      refine wpAnyH_at (i := 9) (some 24) (v := ?v9z37) rfl rfl (by kernel_rfl) (by kernel_rfl) (by kernel_rfl) (fun _ _ _ h => h) (Or.inl ⟨by rfl, ?y9z37⟩) (by assumption) ?r9z37
      case y9z37 =>
        intro w9 hSw
        obtain ⟨⟨c0, c1, c2, c3, c4, ff, lt1⟩, x1, x2, x3⟩ := FB _ hSw; clear hSw
        go_simp
        all_goals with_reducible rfl
      simp only [Act.put, List.setIfInBounds_toArray, List.set_cons_zero, List.set_cons_succ]
      refine wpAnyH_at (i := 10) (some 25) (v := ?v10z38) rfl rfl (by kernel_rfl) (by kernel_rfl) (by kernel_rfl) (fun _ _ _ h => h) (Or.inl ⟨by rfl, ?y10z38⟩) (by assumption) ?r10z38
      case y10z38 =>
        intro w9 hSw
        obtain ⟨⟨c0, c1, c2, c3, c4, ff, lt1⟩, x1, x2, x3⟩ := FB _ hSw; clear hSw
        go_simp
        all_goals with_reducible rfl
      simp only [Act.put, List.setIfInBounds_toArray, List.set_cons_zero, List.set_cons_succ]
      refine wpAnyH_at (i := 11) (some 26) (v := ?v11z39) rfl rfl (by kernel_rfl) (by kernel_rfl) (by kernel_rfl) (fun _ _ _ h => h) (Or.inl ⟨by rfl, ?y11z39⟩) (by assumption) ?r11z39
      case y11z39 =>
        intro w9 hSw
        obtain ⟨⟨c0, c1, c2, c3, c4, ff, lt1⟩, x1, x2, x3⟩ := FB _ hSw; clear hSw
        go_simp
        all_goals with_reducible rfl
      simp only [Act.put, List.setIfInBounds_toArray, List.set_cons_zero, List.set_cons_succ]
      refine wpAnyH_at (i := 12) (some 27) (v := ?v12z40) rfl rfl (by kernel_rfl) (by kernel_rfl) (by kernel_rfl) (fun _ _ _ h => h) (Or.inl ⟨by rfl, ?y12z40⟩) (by assumption) ?r12z40
      case y12z40 =>
        intro w9 hSw
        obtain ⟨⟨c0, c1, c2, c3, c4, ff, lt1⟩, x1, x2, x3⟩ := FB _ hSw; clear hSw
        go_simp
        all_goals with_reducible rfl
      simp only [Act.put, List.setIfInBounds_toArray, List.set_cons_zero, List.set_cons_succ]
      refine wpAnyH_at (i := 13) (some 28) (v := ?v13z41) rfl rfl (by kernel_rfl) (by kernel_rfl) (by kernel_rfl) (fun _ _ _ h => h) (Or.inl ⟨by rfl, ?y13z41⟩) (by assumption) ?r13z41
      case y13z41 =>
        intro w9 hSw
        obtain ⟨⟨c0, c1, c2, c3, c4, ff, lt1⟩, x1, x2, x3⟩ := FB _ hSw; clear hSw
        go_simp
        all_goals with_reducible rfl
      simp only [Act.put, List.setIfInBounds_toArray, List.set_cons_zero, List.set_cons_succ]
      refine wpAnyH_at (i := 14) (some 29) (v := ?v14z42) rfl rfl (by kernel_rfl) (by kernel_rfl) (by kernel_rfl) (fun _ _ _ h => h) (Or.inl ⟨by rfl, ?y14z42⟩) (by assumption) ?r14z42
      case y14z42 =>
        intro w9 hSw
        obtain ⟨⟨c0, c1, c2, c3, c4, ff, lt1⟩, x1, x2, x3⟩ := FB _ hSw; clear hSw
        go_simp
        all_goals with_reducible rfl
      simp only [Act.put, List.setIfInBounds_toArray, List.set_cons_zero, List.set_cons_succ]
      refine wpAnyH_at (i := 15) (some 30) (v := ?v15z43) rfl rfl (by kernel_rfl) (by kernel_rfl) (by kernel_rfl) (fun _ _ _ h => h) (Or.inl ⟨by rfl, ?y15z43⟩) (by assumption) ?r15z43
      case y15z43 =>
        intro w9 hSw
        obtain ⟨⟨c0, c1, c2, c3, c4, ff, lt1⟩, x1, x2, x3⟩ := FB _ hSw; clear hSw
        go_simp
        all_goals with_reducible rfl
      simp only [Act.put, List.setIfInBounds_toArray, List.set_cons_zero, List.set_cons_succ]
      refine wpAnyH_at (i := 16) (some 31) (v := ?v16z44) rfl rfl (by kernel_rfl) (by kernel_rfl) (by kernel_rfl) (fun _ _ _ h => h) (Or.inl ⟨by rfl, ?y16z44⟩) (by assumption) ?r16z44
      case y16z44 =>
        intro w9 hSw
        obtain ⟨⟨c0, c1, c2, c3, c4, ff, lt1⟩, x1, x2, x3⟩ := FB _ hSw; clear hSw
        go_simp
        all_goals with_reducible rfl
      simp only [Act.put, List.setIfInBounds_toArray, List.set_cons_zero, List.set_cons_succ]
      refine wpAnyH_at (i := 17) (some 32) (v := ?v17z45) rfl rfl (by kernel_rfl) (by kernel_rfl) (by kernel_rfl) (fun _ _ _ h => h) (Or.inl ⟨by rfl, ?y17z45⟩) (by assumption) ?r17z45
      case y17z45 =>
        intro w9 hSw
        obtain ⟨⟨c0, c1, c2, c3, c4, ff, lt1⟩, x1, x2, x3⟩ := FB _ hSw; clear hSw
        go_simp
        all_goals with_reducible rfl
      simp only [Act.put, List.setIfInBounds_toArray, List.set_cons_zero, List.set_cons_succ]
      refine wpAnyH_at (i := 18) (some 33) (v := ?v18z46) rfl rfl (by kernel_rfl) (by kernel_rfl) (by kernel_rfl) (fun _ _ _ h => h) (Or.inl ⟨by rfl, ?y18z46⟩) (by assumption) ?r18z46
      case y18z46 =>
        intro w9 hSw
        obtain ⟨⟨c0, c1, c2, c3, c4, ff, lt1⟩, x1, x2, x3⟩ := FB _ hSw; clear hSw
        go_simp
        all_goals with_reducible rfl
      simp only [Act.put, List.setIfInBounds_toArray, List.set_cons_zero, List.set_cons_succ]
      refine wpAnyH_one (i := 1) (by kernel_rfl) rfl ?_
      have ba := alloc_below W0 (.cells #[] 5)
      have o0 := Out.lit0 .u8 5 W0 W0.heap.size (Nat.le_refl _)
      go_wp2
      have B1 := B0.trans (ba.mono B0.size)
      clear hHeld
      have hHeld := B1
      refine ⟨hHeld, ?_⟩
      try simp only [Act.put, List.setIfInBounds_toArray, List.set_cons_zero, List.set_cons_succ]
      refine wpAnyH_one (i := 19) (by kernel_rfl) rfl ?_
      refine wpList_appD (some 34) rfl rfl (.tmp 16) (.tmp 33) 23 rfl W0.heap.size Try.underlying23 info5 (by omega) (some ⟨W0.heap.size, 0, none⟩) 0 0 [] rfl o0 A1 m1 c1b w.heap.size (byt L x) rfl (r1.below B1 (Nat.le_refl _)) (by omega) (by simp) ?_
      intro A2 m2 c2' W2 o2 hg2
      rw [List.nil_append] at o2
      have B2 := B1.grown hg2 B1.size (fun k hk => Nat.le_trans B0.size (o0.own_ge k hk))
      have b02 : Below W0.heap.size W0 W2 := ba.grown hg2 (by simp) (fun k hk => o0.own_ge k hk)
      have hO2 := hO.below b02 (Nat.le_refl _)
      clear hHeld hg2 o0 r1 hO b02 ba B1 B0
      go_wp2
      have hHeld := B2
      refine ⟨hHeld, ?_⟩
      try simp only [Act.put, List.setIfInBounds_toArray, List.set_cons_zero, List.set_cons_succ]
      refine wpAnyH_one (i := 20) (by kernel_rfl) rfl ?_
      have ba := alloc_below W2 (.cells #[.slice A2 m2 c2'] 23)
      have hO3 := hO2.below ba (Nat.le_refl _)
      have o3 := (o2.lower (Nat.zero_le _)).below ba (Nat.le_refl _)
      have hl3 := cell_of_one (heap_alloc_new W2 (.cells #[.slice A2 m2 c2'] 23))
      go_wp2
      have B3 := B2.trans (ba.mono B2.size)
      clear hHeld ba hO2 o2
      have hHeld := B3
      refine ⟨hHeld, ?_⟩
      try simp only [Act.put, List.setIfInBounds_toArray, List.set_cons_zero, List.set_cons_succ]
      refine wpAnyH_one (i := 21) (by kernel_rfl) rfl ?_
      have hblk := hO3.blk
      refine wpList_push (some 36) rfl rfl (.tmp 15) (.tmp 35) rfl rfl rfl hO3 (by omega) B3.size hl3 (by rw [HX.out]; exact o3) ?_
      intro A4 c4 W4 hO4 hg4
      have B4 := B3.grown hg4 B3.size (fun g hg => (hblk g hg).1)
      clear hHeld hg4 hO3 hblk o3 hl3 B3 B2
      go_wp2
      have hHeld := B4
      refine ⟨hHeld, ?_⟩
      try simp only [Act.put, List.setIfInBounds_toArray, List.set_cons_zero, List.set_cons_succ]
      refine wpAnyH_at (i := 22) (some 3) (v := ?v22z47) rfl rfl (by kernel_rfl) (by kernel_rfl) (by kernel_rfl) (fun _ _ _ h => h) (Or.inl ⟨by rfl, ?y22z47⟩) (by assumption) ?r22z47
      case y22z47 =>
        intro w9 hSw
        clear hSw
        go_simp
        all_goals with_reducible rfl
      simp only [Act.put, List.setIfInBounds_toArray, List.set_cons_zero, List.set_cons_succ]
      refine wpAnyH_done (by kernel_rfl) ?_ _
      clear hHeld
      go_wp2
      go_roundw
      case rel => exact ⟨k + 1, A4, c4, by omega, by go_num, rfl, B4, hO4⟩
      case measure => simp [intOf]; omega
    · obtain rfl : k = n := by omega
      have G := Lib.hid (HB.out _ _ _ hO)
      clear hO HB
      go_wp2
      go_ret
      exact ⟨A, ca, rfl, G.out, hb⟩
end Go.Proofs.Ytjaiagocbldbgaa
