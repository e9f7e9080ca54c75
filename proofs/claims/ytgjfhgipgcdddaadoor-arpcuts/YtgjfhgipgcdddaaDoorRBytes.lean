/-
  Contract of the document's Bytes.
-/
import Derived.Test.YtgjfhgipgcdddaaDoorBytes
namespace Go.Proofs.YtgjfhgipgcdddaaDoor
open Go.RowKit

theorem wpList_appD (dd : Option Tmp) {P : Program} {w : World} {ops : Array Oper} {rest : List Oper} {o : Oper} {a : Act} {Q : Exit → Act → World → Prop} (hgd : o.guard = none) (hdd : o.dst = dd) (s x : Operand) (t : TypeId)
    (ho : o.op = .call { callee := .builtin .append, args := #[s, x], argTypes := #[t, t] }) (base : Nat) {k : IntKind} {e : TypeId} {by_ : Nat} (ht : P.underlying t = some (.slice e))
    (hinfo : (P.info? e).map (fun i => (i.zero, i.size, i.bytes)) = some (some (.int k 0), 1, by_)) (hby8 : by_ ≤ 8)
    (A0 : Option Addr) (n0 c0 : Nat) (xs : List Int) (hs : a.eval s = .slice A0 n0 c0) (hown : Out k e w base A0 n0 c0 xs)
    (A : Option Addr) (m c B : Nat) (ys : List Int) (hx : a.eval x = .slice A m c) (hr : Rd k w B A m c ys) (hsum : n0 + m ≤ 100000000) (hbase : base ≤ w.heap.size)
    (h : ∀ A' n' c' w', Out k e w' base A' n' c' (xs ++ ys) → w.grownBy w' (Value.slice A0 n0 c0).ownBlock → wpList P ops Q rest (a.put dd (.slice A' n' c')) w') : wpList P ops Q (o :: rest) a w := by
  subst hdd
  exact wpList_app hgd s x t ho base ht hinfo hby8 A0 n0 c0 xs hs hown A m c B ys hx hr hsum hbase h
theorem Out.own {k : IntKind} {e : TypeId} {w : World} {base : Nat} {A : Option Addr} {n c : Nat} {xs : List Int} (h : Out k e w base A n c xs) : (Value.slice A n c).ownBlock = none ∨ ∃ g, (Value.slice A n c).ownBlock = some g ∧ base ≤ g := by
  rcases h.form with ⟨rfl, _⟩ | ⟨g, cur, rfl, hb, _⟩
  · exact .inl rfl
  · exact .inr ⟨g, rfl, hb⟩
theorem grown_low {w w' : World} {k : IntKind} {e : TypeId} {base : Nat} {A : Option Addr} {n c : Nat} {xs : List Int} (h : Out k e w base A n c xs) (hg : w.grownBy w' (Value.slice A n c).ownBlock) (hb : base ≤ w.heap.size) : Below base w w' :=
  (Below.refl base w).grown hg hb (fun k hk => by rcases h.own with e0 | ⟨g, e0, hg⟩ <;> rw [e0] at hk <;> cases hk; exact hg)

/-- What the walk knows: the packet's box. -/
structure SB (w : World) (op : Int) (m : Mac6) (ip : Int) (t : Mac6) (ti : Int) (W : World) : Prop where
  pk : PkAt W w.heap.size 35 op m ip t ti
  below : Below w.heap.size w W
  sz : w.heap.size + 1 ≤ W.heap.size
section
variable {w W V : World} {op : Int} {m : Mac6} {ip : Int} {t : Mac6} {ti : Int}
theorem SB.low (h : SB w op m ip t ti W) (hb : Below (w.heap.size + 1) W V) : SB w op m ip t ti V := ⟨h.pk.below hb (by omega), h.below.trans (hb.mono (by omega)), Nat.le_trans h.sz hb.size⟩
theorem SB.step (h : SB w op m ip t ti W) (hb : Below W.heap.size W V) : SB w op m ip t ti V := h.low (hb.mono h.sz)
end
theorem SB.start (op : Int) (m : Mac6) (ip : Int) (t : Mac6) (ti : Int) (w : World) : SB w op m ip t ti (w.alloc (.cells (pkC op m ip t ti) 35)) := ⟨PkAt.new w 35 op m ip t ti, alloc_below _ _, by simp⟩
theorem Row.own {w : World} {g base : Nat} {xs : List Int} {n : Nat} (h : Row w g xs) (hb : base ≤ g) (hn : xs.length = n) (hm : n ≤ 1000) (hw : ∀ x ∈ xs, (Lit.int .u8 x).wf = true) : Out .u8 5 w base (some ⟨g, 0, none⟩) n n xs := h.out hb hn (by unfold maxLen; omega) hw
theorem Row.all {w : World} {g : Nat} {xs : List Int} {n : Nat} (h : Row w g xs) (hn : xs.length = n) (hm : n ≤ 1000) (hw : ∀ x ∈ xs, (Lit.int .u8 x).wf = true) : Rd .u8 w w.heap.size (some ⟨g, 0, none⟩) n n xs := by
  have := h.rd 0 n n (by omega) (Nat.le_refl _) (by unfold maxLen; omega) hw
  rwa [List.drop_zero, List.take_of_length_le (by omega)] at this

set_option maxRecDepth 100000 in
set_option maxHeartbeats 4000000 in
theorem refBytes_any (op : Int) (m : Mac6) (ip : Int) (t : Mac6) (ti : Int) (w : World) (hm : m.ok) (hi : 0 ≤ ip ∧ ip < 4294967296) (ht : t.ok) (hti : 0 ≤ ti ∧ ti < 4294967296) :
    Calls Tryd.prog 15 #[pkV op m ip t ti] w fun ev w' => ∃ A n c, ev = .returned (.slice A n c) ∧ Out .u8 5 w' w.heap.size A n c (pkB op m ip t ti) ∧ Below w.heap.size w w' := by
  have st := SB.start op m ip t ti w
  obtain ⟨u, hu⟩ : ∃ u, u = IntKind.u64.wrap op := ⟨_, rfl⟩
  have ub : 0 ≤ u ∧ u ≤ 18446744073709551615 := by rw [hu, IntKind.wrap_u64]; omega
  have e1 : u / 256 % 256 = op / 256 % 256 := by rw [hu, IntKind.wrap_u64]; omega
  have e2 : u % 256 = op % 256 := by rw [hu, IntKind.wrap_u64]; omega
  have wu : IntKind.u64.wrap op = u := hu.symm
  clear hu
  have kw : Hid (∀ x ∈ [op / 256 % 256, op % 256], (Lit.int .u8 x).wf = true) := Lib.hid (by
    intro x hx
    simp only [List.mem_cons, List.not_mem_nil, or_false] at hx
    rcases hx with rfl | rfl <;> exact u8_mk (by omega))
  obtain ⟨a0, -⟩ := st.pk.cells
  go_enter Tryd.func15, Tryd.ntmps15
  go_wp2_with fail
  refine (head_any _).mono ?_
  rintro e w1 ⟨g1, rfl, row1, hg1, hb1⟩
  have hg2 := Nat.le_trans st.sz hg1
  replace st := (st.step hb1).step (alloc_below w1 (.cells #[.int .u8 (op / 256 % 256), .int .u8 (op % 256)] 5))
  have o1 := (row1.own (n := 6) hg2 rfl (by omega) head6_wf).below (alloc_below w1 (.cells #[.int .u8 (op / 256 % 256), .int .u8 (op % 256)] 5)) (Nat.le_refl _)
  have r1 := rd_lit .u8 5 w1 [op / 256 % 256, op % 256] 2 rfl (by omega) kw.out
  clear a0 hb1 hg1 row1
  go_wp2_with (at_builtin; refine wpList_app rfl (.tmp 8) (.tmp 16) 22 rfl (w.heap.size + 1) Tryd.underlying22 info5 (by omega) (some ⟨g1, 0, none⟩) 6 6 head6 rfl o1 (some ⟨w1.heap.size, 0, none⟩) 2 2 (w1.heap.size + 1) [op / 256 % 256, op % 256] rfl r1 (by omega) st.sz ?_; intro A2 n2 c2 w2 o2 hgr; replace st := st.low (grown_low o1 hgr st.sz); clear o1 r1 hgr hg2)
  have L2 : n2 ≤ 8 := by have := o2.len; simp [head6] at this; omega
  refine wp_region_held_drew (S := fun w' => SB w op m ip t ti w') (by kernel_rfl) (st.step (below_drew _)) (fun hHeld => ?_)
  replace st := st.step (below_drew _)
  replace o2 := o2.below (below_drew _) (Nat.le_refl _)
  clear hHeld
  have hHeld := st
  generalize w2.drew = Dw2 at *
  refine wpAnyH_at (i := 0) (some 18) (v := ?v0z1) rfl rfl (by kernel_rfl) (by kernel_rfl) (by kernel_rfl) (fun _ _ _ h => h) (Or.inl ⟨by rfl, ?y0z1⟩) (by assumption) ?r0z1
  case y0z1 =>
    intro w9 hSw
    clear hSw
    go_simp
    all_goals with_reducible rfl
  simp only [Act.put, List.setIfInBounds_toArray, List.set_cons_zero, List.set_cons_succ]
  refine wpAnyH_at (i := 1) (some 19) (v := ?v1z2) rfl rfl (by kernel_rfl) (by kernel_rfl) (by kernel_rfl) (fun _ _ _ h => h) (Or.inl ⟨by rfl, ?y1z2⟩) (by assumption) ?r1z2
  case y1z2 =>
    intro w9 hSw
    clear hSw
    go_simp
    all_goals with_reducible rfl
  simp only [Act.put, List.setIfInBounds_toArray, List.set_cons_zero, List.set_cons_succ]
  refine wpAnyH_at (i := 2) (some 20) (v := ?v2z3) rfl rfl (by kernel_rfl) (by kernel_rfl) (by kernel_rfl) (fun _ _ _ h => h) (Or.inl ⟨by rfl, ?y2z3⟩) (by assumption) ?r2z3
  case y2z3 =>
    intro w9 hSw
    clear hSw
    go_simp
    all_goals with_reducible rfl
  simp only [Act.put, List.setIfInBounds_toArray, List.set_cons_zero, List.set_cons_succ]
  refine wpAnyH_at (i := 4) (some 22) (v := ?v4z4) rfl rfl (by kernel_rfl) (by kernel_rfl) (by kernel_rfl) (fun _ _ _ h => h) (Or.inl ⟨by rfl, ?y4z4⟩) (by assumption) ?r4z4
  case y4z4 =>
    intro w9 hSw
    clear hSw
    go_simp
    all_goals with_reducible rfl
  simp only [Act.put, List.setIfInBounds_toArray, List.set_cons_zero, List.set_cons_succ]
  refine wpAnyH_at (i := 5) (some 23) (v := ?v5z5) rfl rfl (by kernel_rfl) (by kernel_rfl) (by kernel_rfl) (fun _ _ _ h => h) (Or.inl ⟨by rfl, ?y5z5⟩) (by assumption) ?r5z5
  case y5z5 =>
    intro w9 hSw
    (obtain ⟨a0, a1, a2, a3, a4, a5, a6, a7, a8, a9, a10, a11, a12, a13, a14⟩ := (show SB w op m ip t ti w9 from hSw).pk.cells); clear hSw
    go_simp
    all_goals with_reducible rfl
  simp only [Act.put, List.setIfInBounds_toArray, List.set_cons_zero, List.set_cons_succ]
  refine wpAnyH_one (i := 3) (by kernel_rfl) rfl ?_
  refine wpList_appD (some 21) rfl rfl (.tmp 18) (.tmp 20) 22 rfl (w.heap.size + 1) Tryd.underlying22 info5 (by omega) A2 n2 c2 (head6 ++ [op / 256 % 256, op % 256]) rfl o2 (some ⟨w.heap.size, 1, none⟩) 6 6 (w.heap.size + 1) m.l rfl (st.pk.rdMac hm) (by omega) st.sz ?_
  intro A3 n3 c3 w3 o3 hgr
  replace st := st.low (grown_low o2 hgr st.sz)
  have L3 : n3 ≤ 14 := by have := o3.len; simp [head6, Mac6.l] at this; omega
  clear o2 hgr hHeld
  have hHeld := st
  go_wp2
  refine ⟨st, ?_⟩
  refine wpAnyH_one (i := 6) (by kernel_rfl) rfl ?_
  go_wp2_with (go_at_call 32; refine (four_any ip _ hi).mono ?_; rintro e v3 ⟨g3, rfl, row3, hg3, hb3⟩)
  replace st := st.step hb3
  replace o3 := o3.below hb3 (Nat.le_refl _)
  have r3 := row3.all (n := 4) rfl (by omega) (four_wf hi)
  clear hb3 hg3 hHeld row3
  have hHeld := st
  refine ⟨st, ?_⟩
  refine wpAnyH_one (i := 7) (by kernel_rfl) rfl ?_
  refine wpList_appD (some 25) rfl rfl (.tmp 21) (.tmp 24) 22 rfl (w.heap.size + 1) Tryd.underlying22 info5 (by omega) A3 n3 c3 ((head6 ++ [op / 256 % 256, op % 256]) ++ m.l) rfl o3 (some ⟨g3, 0, none⟩) 4 4 v3.heap.size (four ip) rfl r3 (by omega) st.sz ?_
  intro A4 n4 c4 w4 o4 hgr
  replace st := st.low (grown_low o3 hgr st.sz)
  have L4 : n4 ≤ 18 := by have := o4.len; simp [head6, Mac6.l, four] at this; omega
  clear o3 hgr hHeld r3
  have hHeld := st
  go_wp2
  refine ⟨st, ?_⟩
  refine wpAnyH_at (i := 8) (some 4) (v := ?v8z6) rfl rfl (by kernel_rfl) (by kernel_rfl) (by kernel_rfl) (fun _ _ _ h => h) (Or.inl ⟨by rfl, ?y8z6⟩) (by assumption) ?r8z6
  case y8z6 =>
    intro w9 hSw
    clear hSw
    go_simp
    all_goals with_reducible rfl
  simp only [Act.put, List.setIfInBounds_toArray, List.set_cons_zero, List.set_cons_succ]
  refine wpAnyH_done (by kernel_rfl) ?_ _
  go_wp2_with fail
  refine wp_region_held_drew (S := fun w' => SB w op m ip t ti w') (by kernel_rfl) (st.step (below_drew _)) (fun hHeld => ?_)
  replace st := st.step (below_drew _)
  replace o4 := o4.below (below_drew _) (Nat.le_refl _)
  clear hHeld
  have hHeld := st
  generalize w4.drew = Dw4 at *
  refine wpAnyH_at (i := 0) (some 26) (v := ?v0z7) rfl rfl (by kernel_rfl) (by kernel_rfl) (by kernel_rfl) (fun _ _ _ h => h) (Or.inl ⟨by rfl, ?y0z7⟩) (by assumption) ?r0z7
  case y0z7 =>
    intro w9 hSw
    clear hSw
    go_simp
    all_goals with_reducible rfl
  simp only [Act.put, List.setIfInBounds_toArray, List.set_cons_zero, List.set_cons_succ]
  refine wpAnyH_at (i := 1) (some 27) (v := ?v1z8) rfl rfl (by kernel_rfl) (by kernel_rfl) (by kernel_rfl) (fun _ _ _ h => h) (Or.inl ⟨by rfl, ?y1z8⟩) (by assumption) ?r1z8
  case y1z8 =>
    intro w9 hSw
    clear hSw
    go_simp
    all_goals with_reducible rfl
  simp only [Act.put, List.setIfInBounds_toArray, List.set_cons_zero, List.set_cons_succ]
  refine wpAnyH_at (i := 2) (some 28) (v := ?v2z9) rfl rfl (by kernel_rfl) (by kernel_rfl) (by kernel_rfl) (fun _ _ _ h => h) (Or.inl ⟨by rfl, ?y2z9⟩) (by assumption) ?r2z9
  case y2z9 =>
    intro w9 hSw
    clear hSw
    go_simp
    all_goals with_reducible rfl
  simp only [Act.put, List.setIfInBounds_toArray, List.set_cons_zero, List.set_cons_succ]
  refine wpAnyH_at (i := 4) (some 30) (v := ?v4z10) rfl rfl (by kernel_rfl) (by kernel_rfl) (by kernel_rfl) (fun _ _ _ h => h) (Or.inl ⟨by rfl, ?y4z10⟩) (by assumption) ?r4z10
  case y4z10 =>
    intro w9 hSw
    clear hSw
    go_simp
    all_goals with_reducible rfl
  simp only [Act.put, List.setIfInBounds_toArray, List.set_cons_zero, List.set_cons_succ]
  refine wpAnyH_at (i := 5) (some 31) (v := ?v5z11) rfl rfl (by kernel_rfl) (by kernel_rfl) (by kernel_rfl) (fun _ _ _ h => h) (Or.inl ⟨by rfl, ?y5z11⟩) (by assumption) ?r5z11
  case y5z11 =>
    intro w9 hSw
    (obtain ⟨a0, a1, a2, a3, a4, a5, a6, a7, a8, a9, a10, a11, a12, a13, a14⟩ := (show SB w op m ip t ti w9 from hSw).pk.cells); clear hSw
    go_simp
    all_goals with_reducible rfl
  simp only [Act.put, List.setIfInBounds_toArray, List.set_cons_zero, List.set_cons_succ]
  refine wpAnyH_one (i := 3) (by kernel_rfl) rfl ?_
  refine wpList_appD (some 29) rfl rfl (.tmp 26) (.tmp 28) 22 rfl (w.heap.size + 1) Tryd.underlying22 info5 (by omega) A4 n4 c4 (((head6 ++ [op / 256 % 256, op % 256]) ++ m.l) ++ four ip) rfl o4 (some ⟨w.heap.size, 8, none⟩) 6 6 (w.heap.size + 1) t.l rfl (st.pk.rdTo ht) (by omega) st.sz ?_
  intro A5 n5 c5 w5 o5 hgr
  replace st := st.low (grown_low o4 hgr st.sz)
  have L5 : n5 ≤ 24 := by have := o5.len; simp [head6, Mac6.l, four] at this; omega
  clear o4 hgr hHeld
  have hHeld := st
  go_wp2
  refine ⟨st, ?_⟩
  refine wpAnyH_one (i := 6) (by kernel_rfl) rfl ?_
  go_wp2_with (go_at_call 32; refine (four_any ti _ hti).mono ?_; rintro e v5 ⟨g5, rfl, row5, hg5, hb5⟩)
  replace st := st.step hb5
  replace o5 := o5.below hb5 (Nat.le_refl _)
  have r5 := row5.all (n := 4) rfl (by omega) (four_wf hti)
  clear hb5 hg5 hHeld row5
  have hHeld := st
  refine ⟨st, ?_⟩
  refine wpAnyH_one (i := 7) (by kernel_rfl) rfl ?_
  refine wpList_appD (some 33) rfl rfl (.tmp 29) (.tmp 32) 22 rfl (w.heap.size + 1) Tryd.underlying22 info5 (by omega) A5 n5 c5 ((((head6 ++ [op / 256 % 256, op % 256]) ++ m.l) ++ four ip) ++ t.l) rfl o5 (some ⟨g5, 0, none⟩) 4 4 v5.heap.size (four ti) rfl r5 (by omega) st.sz ?_
  intro A6 n6 c6 w6 o6 hgr
  replace st := st.low (grown_low o5 hgr st.sz)
  have L6 : n6 ≤ 28 := by have := o6.len; simp [head6, Mac6.l, four] at this; omega
  clear o5 hgr hHeld r5
  have hHeld := st
  go_wp2
  refine ⟨st, ?_⟩
  refine wpAnyH_at (i := 8) (some 2) (v := ?v8z12) rfl rfl (by kernel_rfl) (by kernel_rfl) (by kernel_rfl) (fun _ _ _ h => h) (Or.inl ⟨by rfl, ?y8z12⟩) (by assumption) ?r8z12
  case y8z12 =>
    intro w9 hSw
    clear hSw
    go_simp
    all_goals with_reducible rfl
  simp only [Act.put, List.setIfInBounds_toArray, List.set_cons_zero, List.set_cons_succ]
  refine wpAnyH_done (by kernel_rfl) ?_ _
  go_wp2_with fail
  go_ret
  exact ⟨A6, n6, c6, rfl, o6.rebase (by omega), st.below⟩
end Go.Proofs.YtgjfhgipgcdddaaDoor
