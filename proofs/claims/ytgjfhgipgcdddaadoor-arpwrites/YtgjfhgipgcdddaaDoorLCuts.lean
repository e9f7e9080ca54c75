/-
  The law ArpCuts: what stands behind a packet changes nothing; cut short it is none.
-/
import Derived.Test.YtgjfhgipgcdddaaDoorAlive
import Derived.Test.YtgjfhgipgcdddaaDoorRBytes
namespace Go.Proofs.YtgjfhgipgcdddaaDoor
open Go.RowKit

theorem getD_app (l xs : List Int) (i : Nat) (h : i < l.length) : (l ++ xs).getD i 0 = l.getD i 0 := by simp [List.getD, List.getElem?_append_left h]
theorem six_app (l xs : List Int) (f : Nat) (h : f + 6 ≤ l.length) : six ((l ++ xs).drop f) = six (l.drop f) := by
  have e : ∀ j, j < 6 → ((l ++ xs).drop f).getD j 0 = (l.drop f).getD j 0 := fun j hj => by
    simp only [List.getD, List.getElem?_drop]
    rw [List.getElem?_append_left (by omega)]
  simp only [six, e 0 (by omega), e 1 (by omega), e 2 (by omega), e 3 (by omega), e 4 (by omega), e 5 (by omega)]
theorem num4_app (l xs : List Int) (f : Nat) (h : f + 4 ≤ l.length) : num4 ((l ++ xs).drop f) = num4 (l.drop f) := by
  have e : ∀ j, j < 4 → ((l ++ xs).drop f).getD j 0 = (l.drop f).getD j 0 := fun j hj => by
    simp only [List.getD, List.getElem?_drop]
    rw [List.getElem?_append_left (by omega)]
  simp only [num4, e 0 (by omega), e 1 (by omega), e 2 (by omega), e 3 (by omega)]
theorem opOf_app (l xs : List Int) (h : 8 ≤ l.length) : opOf (l ++ xs) = opOf l := by simp only [opOf, getD_app l xs 6 (by omega), getD_app l xs 7 (by omega)]
theorem kindB_app (l xs : List Int) (h : 8 ≤ l.length) : kindB (l ++ xs) = kindB l := by
  unfold kindB
  rw [opOf_app l xs h, List.take_append_of_le_length (by omega)]
theorem pE_app (l xs : List Int) (h : 28 ≤ l.length) : pE (l ++ xs) = pE l := by
  unfold pE
  rw [kindB_app l xs (by omega), six_app l xs 8 (by omega), if_neg (by simp; omega), if_neg (show ¬ l.length < 28 by omega)]
theorem pkOf_app (l xs : List Int) (h : 28 ≤ l.length) : pkOf (l ++ xs) = pkOf l := by
  unfold pkOf
  rw [opOf_app l xs (by omega), six_app l xs 8 (by omega), num4_app l xs 14 (by omega), six_app l xs 18 (by omega), num4_app l xs 24 (by omega)]
/-- What the walk knows: the packet's bytes, the bytes behind. -/
structure KC (w : World) (A : Option Addr) (n c : Nat) (xs ys : List Int) (g : Nat) (W : World) : Prop where
  kn : Kn w W
  rd : Rd .u8 W w.heap.size A n c xs
  row : Row W g ys
theorem KC.low {w W V : World} {A : Option Addr} {n c g : Nat} {xs ys : List Int} {B : Nat} (h : KC w A n c xs ys g W) (hB : w.heap.size ≤ B) (hg : g < B) (hl : Laid w) (hb : Below B W V) : KC w A n c xs ys g V :=
  have hb' := h.kn.below.trans (hb.mono hB)
  ⟨⟨hl.below hb', hb'⟩, h.rd.below hb hB, h.row.below hb hg⟩
theorem KC.step {w W V : World} {A : Option Addr} {n c g : Nat} {xs ys : List Int} (h : KC w A n c xs ys g W) (hb : Below W.heap.size W V) : KC w A n c xs ys g V := ⟨h.kn.step hb, h.rd.below hb h.kn.below.size, h.row.below hb h.row.lt⟩
/-- Parse of what begins with a packet's bytes, where it is none. -/
theorem parse_bad {A : Option Addr} {n c : Nat} {l xs : List Int} {W : World} {r e : Int} (hr : Rd .u8 W W.heap.size A n c (l ++ xs)) (hl : 28 ≤ l.length) (hE : pE l = (r, e)) (he : ¬ e = 0) :
    Calls Tryd.prog 9 #[.slice A n c] W fun ev w' => ev = .returned (.tuple #[zeroP, errV r e]) ∧ Below W.heap.size W w' := by
  refine (parse_any A n c _ W hr).mono ?_
  rintro ev w' ⟨hb, ⟨_, rfl⟩ | ⟨h1, _⟩⟩
  · rw [pE_app l xs hl, hE]
    exact ⟨rfl, hb⟩
  · rw [pE_app l xs hl, hE] at h1
    exact absurd h1 he
theorem parse_good {A : Option Addr} {n c : Nat} {l xs : List Int} {W : World} (hr : Rd .u8 W W.heap.size A n c (l ++ xs)) (hl : 28 ≤ l.length) (hE : pE l = (0, 0)) :
    Calls Tryd.prog 9 #[.slice A n c] W fun ev w' => ev = .returned (.tuple #[pkOf l, .nilIface]) ∧ Below W.heap.size W w' := by
  refine (parse_any A n c _ W hr).mono ?_
  rintro ev w' ⟨hb, ⟨h1, _⟩ | ⟨_, rfl⟩⟩
  · rw [pE_app l xs hl, hE] at h1
    exact absurd rfl h1
  · rw [pkOf_app l xs hl]
    exact ⟨rfl, hb⟩
theorem pE_two (l : List Int) : pE l = (0, 0) ∨ ∃ r e, pE l = (r, e) ∧ ¬ e = 0 := by
  rcases pE_cases l with h | h | h | h
  · exact .inr ⟨_, _, h.2, by decide⟩
  · exact .inr ⟨_, _, h.2.2, by decide⟩
  · exact .inr ⟨_, _, h.2.2.2, by decide⟩
  · exact .inl h.2.2.2

set_option maxRecDepth 100000 in
set_option maxHeartbeats 4000000 in
theorem cuts_far (op : Int) (m : Mac6) (ip : Int) (t : Mac6) (ti : Int) (A : Option Addr) (n c : Nat) (cut : Int) (w : World) (hg : Laid w) (hm : m.ok) (hi : 0 ≤ ip ∧ ip < 4294967296) (ht : t.ok) (hti : 0 ≤ ti ∧ ti < 4294967296) (hn : 300 < n) (hmax : n ≤ 9223372036854775807) :
    Calls Tryd.prog 6 #[pkV op m ip t ti, .slice A n c, .int .i64 cut] w fun e w' => e = .returned (.bool true) ∧ Below w.heap.size w w' := by
  have k := (Kn.start hg).alloc (.cells (pkC op m ip t ti) 29)
  have pp := PkAt.new w 29 op m ip t ti
  clear hg
  go_enter Tryd.func6, Tryd.ntmps6
  go_wp2_with fail
  refine (alive_any _ k.laid).mono ?_
  rintro ev w1 ⟨rfl, hb⟩
  replace k := k.step hb
  replace pp := pp.step hb
  clear hb
  obtain ⟨x0, x1, x2, x3, x4, x5, x6, x7, x8, x9, x10, x11, x12, x13, x14⟩ := pp.cells
  go_wp2_with fail
  refine (bytes_any op m ip t ti _ hm hi ht hti).mono ?_
  rintro ev w2 ⟨g1, rfl, row, hg1, hb⟩
  replace k := k.step hb
  clear x0 x1 x2 x3 x4 x5 x6 x7 x8 x9 x10 x11 x12 x13 x14
  clear hb pp row hg1
  go_wp2
  go_ret
  exact ⟨rfl, k.below⟩

set_option maxRecDepth 100000 in
set_option maxHeartbeats 4000000 in
theorem cuts_near (op : Int) (m : Mac6) (ip : Int) (t : Mac6) (ti : Int) (A : Option Addr) (n c : Nat) (xs : List Int) (cut : Int) (w : World) (hg : Laid w) (hm : m.ok) (hi : 0 ≤ ip ∧ ip < 4294967296) (ht : t.ok) (hti : 0 ≤ ti ∧ ti < 4294967296) (hr : Rd .u8 w w.heap.size A n c xs) (hn : n ≤ 300) :
    Calls Tryd.prog 6 #[pkV op m ip t ti, .slice A n c, .int .i64 cut] w fun e w' => e = .returned (.bool true) ∧ Below w.heap.size w w' := by
  have k0 := (Kn.start hg).alloc (.cells (pkC op m ip t ti) 29)
  have r0 := hr.below (alloc_below w (.cells (pkC op m ip t ti) 29)) (Nat.le_refl _)
  have pp := PkAt.new w 29 op m ip t ti
  have hmax := hr.max
  clear hr
  go_enter Tryd.func6, Tryd.ntmps6
  go_wp2_with fail
  refine (alive_any _ k0.laid).mono ?_
  rintro ev w1 ⟨rfl, hb⟩
  replace r0 := r0.below hb k0.below.size
  replace k0 := k0.step hb
  replace pp := pp.step hb
  clear hb
  obtain ⟨x0, x1, x2, x3, x4, x5, x6, x7, x8, x9, x10, x11, x12, x13, x14⟩ := pp.cells
  go_wp2_with fail
  refine (bytes_any op m ip t ti _ hm hi ht hti).mono ?_
  rintro ev w2 ⟨g1, rfl, row, hg1, hb⟩
  have k : KC w A n c xs (pkB op m ip t ti) g1 w2 := ⟨k0.step hb, r0.below hb k0.below.size, row⟩
  have hwf := pkB_wf (op := op) hm hi ht hti
  have HL : Hid ((pkB op m ip t ti).length = 28) := Lib.hid rfl
  replace hwf := Lib.hid hwf
  clear x0 x1 x2 x3 x4 x5 x6 x7 x8 x9 x10 x11 x12 x13 x14
  clear hb pp row hg1 k0 r0
  generalize (pkB op m ip t ti) = ys at *
  go_wp2_with fail
  refine (own_any (some ⟨g1, 0, none⟩) 28 28 w2.heap.size ys _ (k.row.rdAll HL.out (by omega) hwf.out) (Nat.le_refl _) (by omega)).mono ?_
  rintro ev w3 ⟨A3, n3, c3, rfl, o3, hb⟩
  have hlt := k.row.lt
  have hsz := k.kn.below.size
  replace k := k.step hb
  have n3e : n3 = 28 := o3.len.symm.trans HL.out
  subst n3e
  have b3 := hb.size
  clear hb
  go_wp2_with (at_builtin; refine wpList_app rfl (.tmp 31) (.tmp 32) 22 rfl w2.heap.size Tryd.underlying22 info5 (by omega) A3 28 c3 ys rfl o3 A n c w.heap.size xs rfl k.rd (by omega) b3 ?_; intro A4 n4 c4 w4 o4 hgr)
  replace k : KC w A n c xs ys g1 w4 := k.low hsz hlt hg (grown_low o3 hgr b3)
  have ro := o4.rd
  clear o3 o4 hgr b3 hlt hsz
  rcases pE_two ys with hE | ⟨r, e, hE, he⟩
  · as_aux_lemma =>
      refine (parse_good ro (Nat.le_of_eq HL.out.symm) hE).mono ?_
      rintro ev w5 ⟨rfl, hb⟩
      replace k := (k.step hb).step (alloc_below w5 (.cells (pkC (opOf ys) (six (ys.drop 8)) (num4 (ys.drop 14)) (six (ys.drop 18)) (num4 (ys.drop 24))) 29))
      have px := PkAt.new w5 29 (opOf ys) (six (ys.drop 8)) (num4 (ys.drop 14)) (six (ys.drop 18)) (num4 (ys.drop 24))
      clear hb ro
      go_wp2_with fail
      refine (parse_good (xs := []) (by rw [List.append_nil]; exact k.row.rdAll HL.out (by omega) hwf.out) (Nat.le_of_eq HL.out.symm) hE).mono ?_
      rintro ev w6 ⟨rfl, hb⟩
      replace k := (k.step hb).step (alloc_below w6 (.cells (pkC (opOf ys) (six (ys.drop 8)) (num4 (ys.drop 14)) (six (ys.drop 18)) (num4 (ys.drop 24))) 29))
      replace px := (px.step hb).step (alloc_below w6 (.cells (pkC (opOf ys) (six (ys.drop 8)) (num4 (ys.drop 14)) (six (ys.drop 18)) (num4 (ys.drop 24))) 29))
      have py := PkAt.new w6 29 (opOf ys) (six (ys.drop 8)) (num4 (ys.drop 14)) (six (ys.drop 18)) (num4 (ys.drop 24))
      clear hb
      generalize w5.heap.size = gx at *
      go_wp2_with fail
      refine wp_region_held_drew (S := fun w' => PkAt w' gx 29 (opOf ys) (six (ys.drop 8)) (num4 (ys.drop 14)) (six (ys.drop 18)) (num4 (ys.drop 24)) ∧ PkAt w' w6.heap.size 29 (opOf ys) (six (ys.drop 8)) (num4 (ys.drop 14)) (six (ys.drop 18)) (num4 (ys.drop 24))) (by kernel_rfl) ⟨px.drew, py.drew⟩ (fun hHeld => ?_)
      replace k := k.step (below_drew _)
      change wpAnyH _ _ _ _ _ _ _ _ (w6.alloc (.cells (pkC (opOf ys) (six (ys.drop 8)) (num4 (ys.drop 14)) (six (ys.drop 18)) (num4 (ys.drop 24))) 29)).drew
      clear px py
      generalize (w6.alloc (.cells (pkC (opOf ys) (six (ys.drop 8)) (num4 (ys.drop 14)) (six (ys.drop 18)) (num4 (ys.drop 24))) 29)).drew = W6 at *
      generalize w6.heap.size = gy at *
      have q1 := eq26'
      refine wpAnyH_at (i := 0) (some 42) (v := ?v0z1) rfl rfl (by kernel_rfl) (by kernel_rfl) (by kernel_rfl) (fun _ _ _ h => h) (Or.inl ⟨by rfl, ?y0z1⟩) (by assumption) ?r0z1
      case y0z1 =>
        intro w9 hSw
        (obtain ⟨a0, a1, a2, a3, a4, a5, a6, a7, a8, a9, a10, a11, a12, a13, a14⟩ := hSw.1.cells); clear hSw
        go_simp
        all_goals with_reducible rfl
      simp only [Act.put, List.setIfInBounds_toArray, List.set_cons_zero, List.set_cons_succ]
      refine wpAnyH_at (i := 1) (some 43) (v := ?v1z2) rfl rfl (by kernel_rfl) (by kernel_rfl) (by kernel_rfl) (fun _ _ _ h => h) (Or.inl ⟨by rfl, ?y1z2⟩) (by assumption) ?r1z2
      case y1z2 =>
        intro w9 hSw
        (obtain ⟨a0, a1, a2, a3, a4, a5, a6, a7, a8, a9, a10, a11, a12, a13, a14⟩ := hSw.2.cells); clear hSw
        go_simp
        all_goals with_reducible rfl
      simp only [Act.put, List.setIfInBounds_toArray, List.set_cons_zero, List.set_cons_succ]
      refine wpAnyH_at (i := 2) (some 44) (v := ?v2z3) rfl rfl (by kernel_rfl) (by kernel_rfl) (by kernel_rfl) (fun _ _ _ h => h) (Or.inl ⟨by rfl, ?y2z3⟩) (by assumption) ?r2z3
      case y2z3 =>
        intro w9 hSw
        clear hSw
        go_simp
        all_goals with_reducible rfl
      simp only [Act.put, List.setIfInBounds_toArray, List.set_cons_zero, List.set_cons_succ]
      refine wpAnyH_at (i := 3) (some 45) (v := ?v3z4) rfl rfl (by kernel_rfl) (by kernel_rfl) (by kernel_rfl) (fun _ _ _ h => h) (Or.inl ⟨by rfl, ?y3z4⟩) (by assumption) ?r3z4
      case y3z4 =>
        intro w9 hSw
        clear hSw
        go_simp
        all_goals with_reducible rfl
      simp only [Act.put, List.setIfInBounds_toArray, List.set_cons_zero, List.set_cons_succ]
      refine wpAnyH_at (i := 4) (some 46) (v := ?v4z5) rfl rfl (by kernel_rfl) (by kernel_rfl) (by kernel_rfl) (fun _ _ _ h => h) (Or.inl ⟨by rfl, ?y4z5⟩) (by assumption) ?r4z5
      case y4z5 =>
        intro w9 hSw
        clear hSw
        go_simp
        all_goals with_reducible rfl
      simp only [Act.put, List.setIfInBounds_toArray, List.set_cons_zero, List.set_cons_succ]
      refine wpAnyH_at (i := 5) (some 47) (v := ?v5z6) rfl rfl (by kernel_rfl) (by kernel_rfl) (by kernel_rfl) (fun _ _ _ h => h) (Or.inl ⟨by rfl, ?y5z6⟩) (by assumption) ?r5z6
      case y5z6 =>
        intro w9 hSw
        clear hSw
        go_simp
        all_goals with_reducible rfl
      simp only [Act.put, List.setIfInBounds_toArray, List.set_cons_zero, List.set_cons_succ]
      refine wpAnyH_at (i := 6) (some 48) (v := ?v6z7) rfl rfl (by kernel_rfl) (by kernel_rfl) (by kernel_rfl) (fun _ _ _ h => h) (Or.inl ⟨by rfl, ?y6z7⟩) (by assumption) ?r6z7
      case y6z7 =>
        intro w9 hSw
        clear hSw
        go_simp
        all_goals with_reducible rfl
      simp only [Act.put, List.setIfInBounds_toArray, List.set_cons_zero, List.set_cons_succ]
      refine wpAnyH_at (i := 7) (some 49) (v := ?v7z8) rfl rfl (by kernel_rfl) (by kernel_rfl) (by kernel_rfl) (fun _ _ _ h => h) (Or.inl ⟨by rfl, ?y7z8⟩) (by assumption) ?r7z8
      case y7z8 =>
        intro w9 hSw
        clear hSw
        go_simp
        all_goals with_reducible rfl
      simp only [Act.put, List.setIfInBounds_toArray, List.set_cons_zero, List.set_cons_succ]
      refine wpAnyH_at (i := 8) (some 50) (v := ?v8z9) rfl rfl (by kernel_rfl) (by kernel_rfl) (by kernel_rfl) (fun _ _ _ h => h) (Or.inl ⟨by rfl, ?y8z9⟩) (by assumption) ?r8z9
      case y8z9 =>
        intro w9 hSw
        clear hSw
        go_simp
        all_goals with_reducible rfl
      simp only [Act.put, List.setIfInBounds_toArray, List.set_cons_zero, List.set_cons_succ]
      refine wpAnyH_at (i := 9) (some 51) (v := ?v9z10) rfl rfl (by kernel_rfl) (by kernel_rfl) (by kernel_rfl) (fun _ _ _ h => h) (Or.inl ⟨by rfl, ?y9z10⟩) (by assumption) ?r9z10
      case y9z10 =>
        intro w9 hSw
        clear hSw
        go_simp
        all_goals with_reducible rfl
      simp only [Act.put, List.setIfInBounds_toArray, List.set_cons_zero, List.set_cons_succ]
      refine wpAnyH_done (by kernel_rfl) ?_ _
      clear hHeld
      by_cases c0 : cut < 0
      · go_wp2
        go_ret
        exact ⟨rfl, k.kn.below⟩
      by_cases c1 : 27 < cut
      · go_wp2
        go_ret
        exact ⟨rfl, k.kn.below⟩
      obtain ⟨d, rfl⟩ := Int.eq_ofNat_of_zero_le (show 0 ≤ cut by omega)
      have d1 : d ≤ 27 := by omega
      have d2 : (d : Int) ≤ 28 := by omega
      have d3 : ¬ 28 < (d : Int) := by omega
      go_wp2_with fail
      refine (parse_short _ d 28 _ (by omega)).mono ?_
      rintro ev w7 ⟨rfl, hb⟩
      replace k := (k.step hb).step (alloc_below w7 (.cells (pkC 0 zero6 0 zero6 0) 29))
      have pz := PkAt.new w7 29 0 zero6 0 zero6 0
      clear hb
      go_wp2_with fail
      refine (whyIs_err 1 12 12 _).mono ?_
      rintro ev w8 ⟨rfl, hb⟩
      replace k := k.step hb
      replace pz := pz.step hb
      clear hb
      obtain ⟨a0, a1, a2, a3, a4, a5, a6, a7, a8, a9, a10, a11, a12, a13, a14⟩ := pz.cells
      go_wp2
      go_ret
      exact ⟨rfl, k.kn.below⟩
  · as_aux_lemma =>
      refine (parse_bad ro (Nat.le_of_eq HL.out.symm) hE he).mono ?_
      rintro ev w5 ⟨rfl, hb⟩
      replace k := (k.step hb).step (alloc_below w5 (.cells (pkC 0 zero6 0 zero6 0) 29))
      have px := PkAt.new w5 29 0 zero6 0 zero6 0
      clear hb ro
      go_wp2_with fail
      refine (parse_bad (xs := []) (by rw [List.append_nil]; exact k.row.rdAll HL.out (by omega) hwf.out) (Nat.le_of_eq HL.out.symm) hE he).mono ?_
      rintro ev w6 ⟨rfl, hb⟩
      replace k := (k.step hb).step (alloc_below w6 (.cells (pkC 0 zero6 0 zero6 0) 29))
      replace px := (px.step hb).step (alloc_below w6 (.cells (pkC 0 zero6 0 zero6 0) 29))
      have py := PkAt.new w6 29 0 zero6 0 zero6 0
      clear hb
      generalize w5.heap.size = gx at *
      go_wp2_with fail
      refine wp_region_held_drew (S := fun w' => PkAt w' gx 29 0 zero6 0 zero6 0 ∧ PkAt w' w6.heap.size 29 0 zero6 0 zero6 0) (by kernel_rfl) ⟨px.drew, py.drew⟩ (fun hHeld => ?_)
      replace k := k.step (below_drew _)
      change wpAnyH _ _ _ _ _ _ _ _ (w6.alloc (.cells (pkC 0 zero6 0 zero6 0) 29)).drew
      clear px py
      generalize (w6.alloc (.cells (pkC 0 zero6 0 zero6 0) 29)).drew = W6 at *
      generalize w6.heap.size = gy at *
      have q1 := eq26'
      refine wpAnyH_at (i := 0) (some 42) (v := ?v0z11) rfl rfl (by kernel_rfl) (by kernel_rfl) (by kernel_rfl) (fun _ _ _ h => h) (Or.inl ⟨by rfl, ?y0z11⟩) (by assumption) ?r0z11
      case y0z11 =>
        intro w9 hSw
        (obtain ⟨a0, a1, a2, a3, a4, a5, a6, a7, a8, a9, a10, a11, a12, a13, a14⟩ := hSw.1.cells); clear hSw
        go_simp
        all_goals with_reducible rfl
      simp only [Act.put, List.setIfInBounds_toArray, List.set_cons_zero, List.set_cons_succ]
      refine wpAnyH_at (i := 1) (some 43) (v := ?v1z12) rfl rfl (by kernel_rfl) (by kernel_rfl) (by kernel_rfl) (fun _ _ _ h => h) (Or.inl ⟨by rfl, ?y1z12⟩) (by assumption) ?r1z12
      case y1z12 =>
        intro w9 hSw
        (obtain ⟨a0, a1, a2, a3, a4, a5, a6, a7, a8, a9, a10, a11, a12, a13, a14⟩ := hSw.2.cells); clear hSw
        go_simp
        all_goals with_reducible rfl
      simp only [Act.put, List.setIfInBounds_toArray, List.set_cons_zero, List.set_cons_succ]
      refine wpAnyH_at (i := 2) (some 44) (v := ?v2z13) rfl rfl (by kernel_rfl) (by kernel_rfl) (by kernel_rfl) (fun _ _ _ h => h) (Or.inl ⟨by rfl, ?y2z13⟩) (by assumption) ?r2z13
      case y2z13 =>
        intro w9 hSw
        clear hSw
        go_simp
        all_goals with_reducible rfl
      simp only [Act.put, List.setIfInBounds_toArray, List.set_cons_zero, List.set_cons_succ]
      refine wpAnyH_at (i := 3) (some 45) (v := ?v3z14) rfl rfl (by kernel_rfl) (by kernel_rfl) (by kernel_rfl) (fun _ _ _ h => h) (Or.inl ⟨by rfl, ?y3z14⟩) (by assumption) ?r3z14
      case y3z14 =>
        intro w9 hSw
        clear hSw
        go_simp
        all_goals with_reducible rfl
      simp only [Act.put, List.setIfInBounds_toArray, List.set_cons_zero, List.set_cons_succ]
      refine wpAnyH_at (i := 4) (some 46) (v := ?v4z15) rfl rfl (by kernel_rfl) (by kernel_rfl) (by kernel_rfl) (fun _ _ _ h => h) (Or.inl ⟨by rfl, ?y4z15⟩) (by assumption) ?r4z15
      case y4z15 =>
        intro w9 hSw
        clear hSw
        go_simp
        all_goals with_reducible rfl
      simp only [Act.put, List.setIfInBounds_toArray, List.set_cons_zero, List.set_cons_succ]
      refine wpAnyH_at (i := 5) (some 47) (v := ?v5z16) rfl rfl (by kernel_rfl) (by kernel_rfl) (by kernel_rfl) (fun _ _ _ h => h) (Or.inl ⟨by rfl, ?y5z16⟩) (by assumption) ?r5z16
      case y5z16 =>
        intro w9 hSw
        clear hSw
        go_simp
        all_goals with_reducible rfl
      simp only [Act.put, List.setIfInBounds_toArray, List.set_cons_zero, List.set_cons_succ]
      refine wpAnyH_at (i := 6) (some 48) (v := ?v6z17) rfl rfl (by kernel_rfl) (by kernel_rfl) (by kernel_rfl) (fun _ _ _ h => h) (Or.inl ⟨by rfl, ?y6z17⟩) (by assumption) ?r6z17
      case y6z17 =>
        intro w9 hSw
        clear hSw
        go_simp
        all_goals with_reducible rfl
      simp only [Act.put, List.setIfInBounds_toArray, List.set_cons_zero, List.set_cons_succ]
      refine wpAnyH_at (i := 7) (some 49) (v := ?v7z18) rfl rfl (by kernel_rfl) (by kernel_rfl) (by kernel_rfl) (fun _ _ _ h => h) (Or.inl ⟨by rfl, ?y7z18⟩) (by assumption) ?r7z18
      case y7z18 =>
        intro w9 hSw
        clear hSw
        go_simp
        all_goals with_reducible rfl
      simp only [Act.put, List.setIfInBounds_toArray, List.set_cons_zero, List.set_cons_succ]
      refine wpAnyH_at (i := 8) (some 50) (v := ?v8z19) rfl rfl (by kernel_rfl) (by kernel_rfl) (by kernel_rfl) (fun _ _ _ h => h) (Or.inl ⟨by rfl, ?y8z19⟩) (by assumption) ?r8z19
      case y8z19 =>
        intro w9 hSw
        clear hSw
        go_simp
        all_goals with_reducible rfl
      simp only [Act.put, List.setIfInBounds_toArray, List.set_cons_zero, List.set_cons_succ]
      refine wpAnyH_at (i := 9) (some 51) (v := ?v9z20) rfl rfl (by kernel_rfl) (by kernel_rfl) (by kernel_rfl) (fun _ _ _ h => h) (Or.inl ⟨by rfl, ?y9z20⟩) (by assumption) ?r9z20
      case y9z20 =>
        intro w9 hSw
        clear hSw
        go_simp
        all_goals with_reducible rfl
      simp only [Act.put, List.setIfInBounds_toArray, List.set_cons_zero, List.set_cons_succ]
      refine wpAnyH_done (by kernel_rfl) ?_ _
      clear hHeld
      by_cases c0 : cut < 0
      · go_wp2
        go_ret
        exact ⟨rfl, k.kn.below⟩
      by_cases c1 : 27 < cut
      · go_wp2
        go_ret
        exact ⟨rfl, k.kn.below⟩
      obtain ⟨d, rfl⟩ := Int.eq_ofNat_of_zero_le (show 0 ≤ cut by omega)
      have d1 : d ≤ 27 := by omega
      have d2 : (d : Int) ≤ 28 := by omega
      have d3 : ¬ 28 < (d : Int) := by omega
      go_wp2_with fail
      refine (parse_short _ d 28 _ (by omega)).mono ?_
      rintro ev w7 ⟨rfl, hb⟩
      replace k := (k.step hb).step (alloc_below w7 (.cells (pkC 0 zero6 0 zero6 0) 29))
      have pz := PkAt.new w7 29 0 zero6 0 zero6 0
      clear hb
      go_wp2_with fail
      refine (whyIs_err 1 12 12 _).mono ?_
      rintro ev w8 ⟨rfl, hb⟩
      replace k := k.step hb
      replace pz := pz.step hb
      clear hb
      obtain ⟨a0, a1, a2, a3, a4, a5, a6, a7, a8, a9, a10, a11, a12, a13, a14⟩ := pz.cells
      go_wp2
      go_ret
      exact ⟨rfl, k.kn.below⟩
theorem cuts_law (op : Int) (m : Mac6) (ip : Int) (t : Mac6) (ti : Int) (A : Option Addr) (n c : Nat) (xs : List Int) (cut : Int) (w : World) (hg : Laid w) (hm : m.ok) (hi : 0 ≤ ip ∧ ip < 4294967296) (ht : t.ok) (hti : 0 ≤ ti ∧ ti < 4294967296) (hr : Rd .u8 w w.heap.size A n c xs) :
    Calls Tryd.prog 6 #[pkV op m ip t ti, .slice A n c, .int .i64 cut] w fun e w' => e = .returned (.bool true) ∧ Below w.heap.size w w' := by
  by_cases hn : 300 < n
  · exact cuts_far op m ip t ti A n c cut w hg hm hi ht hti hn (Nat.le_trans hr.cap hr.max)
  · exact cuts_near op m ip t ti A n c xs cut w hg hm hi ht hti hr (by omega)
end Go.Proofs.YtgjfhgipgcdddaaDoor
