/-
  The law ArpParses: every Parse answers what the document says; a packet's bytes are the first twenty-eight of those that were parsed.
-/
import Derived.Test.YtgjfhgipgcdddaaDoorAlive
import Derived.Test.YtgjfhgipgcdddaaDoorRBytes
namespace Go.Proofs.YtgjfhgipgcdddaaDoor
open Go.RowKit

theorem parse_badX {A : Option Addr} {n c : Nat} {xs : List Int} {W : World} {r e : Int} (hr : Rd .u8 W W.heap.size A n c xs) (hE : pE xs = (r, e)) (he : ¬ e = 0) :
    Calls Tryd.prog 9 #[.slice A n c] W fun ev w' => ev = .returned (.tuple #[zeroP, errV r e]) ∧ Below W.heap.size W w' := by
  refine (parse_any A n c _ W hr).mono ?_
  rintro ev w' ⟨hb, ⟨_, rfl⟩ | ⟨h1, _⟩⟩
  · rw [hE]
    exact ⟨rfl, hb⟩
  · rw [hE] at h1
    exact absurd h1 he
theorem parse_goodX {A : Option Addr} {n c : Nat} {xs : List Int} {W : World} (hr : Rd .u8 W W.heap.size A n c xs) (hE : pE xs = (0, 0)) :
    Calls Tryd.prog 9 #[.slice A n c] W fun ev w' => ev = .returned (.tuple #[pkOf xs, .nilIface]) ∧ Below W.heap.size W w' := by
  refine (parse_any A n c _ W hr).mono ?_
  rintro ev w' ⟨hb, ⟨h1, _⟩ | ⟨_, rfl⟩⟩
  · rw [hE] at h1
    exact absurd rfl h1
  · exact ⟨rfl, hb⟩
theorem refParse_bad {A : Option Addr} {n c : Nat} {xs : List Int} {W : World} {r e : Int} (hr : Rd .u8 W W.heap.size A n c xs) (hE : pE xs = (r, e)) (he : ¬ e = 0) :
    Calls Tryd.prog 10 #[.slice A n c] W fun ev w' => ∃ A' n' c', ev = .returned (.tuple #[zeroP, .agg #[.slice A' n' c', .int .i64 e]]) ∧ Rd .i64 w' w'.heap.size A' n' c' [r] ∧ Below W.heap.size W w' := by
  refine (refParse_any A n c _ W hr).mono ?_
  rintro ev w' ⟨hb, ⟨_, A', n', c', rfl, hr'⟩ | ⟨h1, _⟩⟩
  · rw [hE] at hr' ⊢
    exact ⟨A', n', c', rfl, hr', hb⟩
  · rw [hE] at h1
    exact absurd h1 he
theorem refParse_good {A : Option Addr} {n c : Nat} {xs : List Int} {W : World} (hr : Rd .u8 W W.heap.size A n c xs) (hE : pE xs = (0, 0)) :
    Calls Tryd.prog 10 #[.slice A n c] W fun ev w' => ev = .returned (.tuple #[pkOf xs, .agg #[.slice none 0 0, .int .i64 0]]) ∧ Below W.heap.size W w' := by
  refine (refParse_any A n c _ W hr).mono ?_
  rintro ev w' ⟨hb, ⟨h1, _⟩ | ⟨_, rfl⟩⟩
  · rw [hE] at h1
    exact absurd rfl h1
  · exact ⟨rfl, hb⟩
theorem pE_twoX (l : List Int) : pE l = (0, 0) ∨ ∃ r e, pE l = (r, e) ∧ ¬ e = 0 := by
  rcases pE_cases l with h | h | h | h
  · exact .inr ⟨_, _, h.2, by decide⟩
  · exact .inr ⟨_, _, h.2.2, by decide⟩
  · exact .inr ⟨_, _, h.2.2.2, by decide⟩
  · exact .inl h.2.2.2
theorem good_parts {xs : List Int} (h : pE xs = (0, 0)) : 28 ≤ xs.length ∧ xs.take 6 = head6 := by
  rcases pE_cases xs with h' | h' | h' | h'
  · rw [h] at h'; simp at h'
  · rw [h] at h'; simp at h'
  · rw [h] at h'; simp at h'
  · refine ⟨h'.1, ?_⟩
    have := h'.2.1
    simp [kindB, bEq] at this
    exact this.1
theorem take_step (xs : List Int) (i k : Nat) (h : i < xs.length) : (xs.drop i).take (k + 1) = xs.getD i 0 :: (xs.drop (i + 1)).take k := by
  rw [List.drop_eq_getElem_cons h, List.take_succ_cons]
  simp [List.getD, h]
theorem getD_drop (xs : List Int) (f j : Nat) : (xs.drop f).getD j 0 = xs.getD (f + j) 0 := by simp [List.getD]
theorem six_ok (xs : List Int) (f : Nat) (hw : ∀ x ∈ xs, (Lit.int .u8 x).wf = true) (hf : f + 6 ≤ xs.length) : (six (xs.drop f)).ok := by
  have b : ∀ j, j < 6 → 0 ≤ (xs.drop f).getD j 0 ∧ (xs.drop f).getD j 0 ≤ 255 := fun i hi => by
    rw [getD_drop]
    have e : xs.getD (f + i) 0 = xs[f + i]'(by omega) := by simp [List.getD, List.getElem?_eq_getElem (show f + i < xs.length by omega)]
    rw [e]
    exact u8_bd (hw _ (List.getElem_mem _))
  exact ⟨b 0 (by omega), b 1 (by omega), b 2 (by omega), b 3 (by omega), b 4 (by omega), b 5 (by omega)⟩
theorem num4_ok (xs : List Int) (f : Nat) (hw : ∀ x ∈ xs, (Lit.int .u8 x).wf = true) (hf : f + 4 ≤ xs.length) : 0 ≤ num4 (xs.drop f) ∧ num4 (xs.drop f) < 4294967296 := by
  have b : ∀ j, j < 4 → 0 ≤ (xs.drop f).getD j 0 ∧ (xs.drop f).getD j 0 ≤ 255 := fun i hi => by
    rw [getD_drop]
    have e : xs.getD (f + i) 0 = xs[f + i]'(by omega) := by simp [List.getD, List.getElem?_eq_getElem (show f + i < xs.length by omega)]
    rw [e]
    exact u8_bd (hw _ (List.getElem_mem _))
  have b0 := b 0 (by omega)
  have b1 := b 1 (by omega)
  have b2 := b 2 (by omega)
  have b3 := b 3 (by omega)
  unfold num4
  omega
/-- A packet's bytes are those that were parsed. -/
theorem back (xs : List Int) (hw : ∀ x ∈ xs, (Lit.int .u8 x).wf = true) (h : pE xs = (0, 0)) : pkB (opOf xs) (six (xs.drop 8)) (num4 (xs.drop 14)) (six (xs.drop 18)) (num4 (xs.drop 24)) = xs.take 28 := by
  obtain ⟨hl, h6⟩ := good_parts h
  clear h
  have e6 : xs.take 6 = (xs.drop 0).take 6 := by rw [List.drop_zero]
  have e28 : xs.take 28 = (xs.drop 0).take 28 := by rw [List.drop_zero]
  rw [e6, take_step xs 0 5 (by omega), take_step xs 1 4 (by omega), take_step xs 2 3 (by omega), take_step xs 3 2 (by omega), take_step xs 4 1 (by omega), take_step xs 5 0 (by omega)] at h6
  rw [e28, take_step xs 0 27 (by omega), take_step xs 1 26 (by omega), take_step xs 2 25 (by omega), take_step xs 3 24 (by omega), take_step xs 4 23 (by omega), take_step xs 5 22 (by omega), take_step xs 6 21 (by omega), take_step xs 7 20 (by omega), take_step xs 8 19 (by omega), take_step xs 9 18 (by omega), take_step xs 10 17 (by omega), take_step xs 11 16 (by omega), take_step xs 12 15 (by omega), take_step xs 13 14 (by omega), take_step xs 14 13 (by omega), take_step xs 15 12 (by omega), take_step xs 16 11 (by omega), take_step xs 17 10 (by omega), take_step xs 18 9 (by omega), take_step xs 19 8 (by omega), take_step xs 20 7 (by omega), take_step xs 21 6 (by omega), take_step xs 22 5 (by omega), take_step xs 23 4 (by omega), take_step xs 24 3 (by omega), take_step xs 25 2 (by omega), take_step xs 26 1 (by omega), take_step xs 27 0 (by omega)]
  simp only [List.take_zero, head6, List.cons.injEq, and_true] at h6
  have b : ∀ i, i < 28 → 0 ≤ xs.getD i 0 ∧ xs.getD i 0 ≤ 255 := fun i hi => by
    have e : xs.getD i 0 = xs[i]'(by omega) := by simp [List.getD, List.getElem?_eq_getElem (show i < xs.length by omega)]
    rw [e]
    exact u8_bd (hw _ (List.getElem_mem _))
  have b6 := b 6 (by omega)
  have b7 := b 7 (by omega)
  have b14 := b 14 (by omega)
  have b15 := b 15 (by omega)
  have b16 := b 16 (by omega)
  have b17 := b 17 (by omega)
  have b24 := b 24 (by omega)
  have b25 := b 25 (by omega)
  have b26 := b 26 (by omega)
  have b27 := b 27 (by omega)
  clear hw b e6 e28
  obtain ⟨h0, h1, h2, h3, h4, h5⟩ := h6
  simp only [pkB, opOf, six, num4, getD_drop, List.take_zero, List.cons.injEq, true_and, and_true, Nat.reduceAdd]
  omega
/-- What the walk knows ahead of the document's answer. -/
structure KQ (w : World) (A : Option Addr) (n c : Nat) (A2 : Option Addr) (n2 c2 : Nat) (xs : List Int) (op : Int) (m : Mac6) (ip : Int) (t : Mac6) (ti : Int) (gp : Nat) (W : World) : Prop where
  kn : Kn w W
  rd : Rd .u8 W w.heap.size A n c xs
  own : Rd .u8 W W.heap.size A2 n2 c2 xs
  p : PkAt W gp 29 op m ip t ti
/-- And behind it. -/
structure KP (w : World) (A : Option Addr) (n c : Nat) (A2 : Option Addr) (n2 c2 : Nat) (xs : List Int) (op : Int) (m : Mac6) (ip : Int) (t : Mac6) (ti : Int) (gp gq gf : Nat) (Af : Option Addr) (nf cf : Nat) (ef : Int) (rs : List Int) (W : World) : Prop where
  k : KQ w A n c A2 n2 c2 xs op m ip t ti gp W
  q : PkAt W gq 35 op m ip t ti
  f : W.heap[gf]? = some (.cells (flC Af nf cf ef) 39 (0, 0))
  r : Rd .i64 W W.heap.size Af nf cf rs
section
variable {w W V : World} {A : Option Addr} {n c : Nat} {A2 : Option Addr} {n2 c2 : Nat} {xs : List Int} {op : Int} {m : Mac6} {ip : Int} {t : Mac6} {ti : Int} {gp gq gf : Nat} {Af : Option Addr} {nf cf : Nat} {ef : Int} {rs : List Int}
theorem KQ.step (h : KQ w A n c A2 n2 c2 xs op m ip t ti gp W) (hb : Below W.heap.size W V) : KQ w A n c A2 n2 c2 xs op m ip t ti gp V := ⟨h.kn.step hb, h.rd.below hb h.kn.below.size, (h.own.below hb (Nat.le_refl _)).more hb.size, h.p.step hb⟩
theorem KQ.rd' (h : KQ w A n c A2 n2 c2 xs op m ip t ti gp W) : Rd .u8 W W.heap.size A n c xs := h.rd.more h.kn.below.size
theorem KP.step (h : KP w A n c A2 n2 c2 xs op m ip t ti gp gq gf Af nf cf ef rs W) (hb : Below W.heap.size W V) : KP w A n c A2 n2 c2 xs op m ip t ti gp gq gf Af nf cf ef rs V := ⟨h.k.step hb, h.q.step hb, (hb.block _ (blk_lt h.f)).trans h.f, (h.r.below hb (Nat.le_refl _)).more hb.size⟩
theorem KP.start (h : KQ w A n c A2 n2 c2 xs op m ip t ti gp W) (Af : Option Addr) (nf cf : Nat) (ef : Int) (rs : List Int) (hr : Rd .i64 W W.heap.size Af nf cf rs) :
    KP w A n c A2 n2 c2 xs op m ip t ti gp W.heap.size (W.heap.size + 1) Af nf cf ef rs ((W.alloc (.cells (pkC op m ip t ti) 35)).alloc (.cells (flC Af nf cf ef) 39)) :=
  ⟨(h.step (alloc_below _ _)).step (alloc_below _ _), (PkAt.new W 35 op m ip t ti).step (alloc_below _ _), by simpa using heap_alloc_new (W.alloc (.cells (pkC op m ip t ti) 35)) (.cells (flC Af nf cf ef) 39), (((hr.below (alloc_below W (.cells (pkC op m ip t ti) 35)) (Nat.le_refl _)).more (alloc_below W (.cells (pkC op m ip t ti) 35)).size).below (alloc_below _ _) (Nat.le_refl _)).more (alloc_below _ _).size⟩
theorem KP.fault (h : KP w A n c A2 n2 c2 xs op m ip t ti gp gq gf Af nf cf ef rs W) : W.cell? ⟨gf, 0, none⟩ = some (.slice Af nf cf) ∧ W.cell? ⟨gf, 1, none⟩ = some (.int .i64 ef) := ⟨blk_cell h.f rfl, blk_cell h.f rfl⟩
end
theorem parses_far (A : Option Addr) (n c : Nat) (w : World) (hg : Laid w) (hn : 3000 < n) (hmax : n ≤ 9223372036854775807) : Calls Tryd.prog 3 #[.slice A n c] w fun e w' => e = .returned (.bool true) ∧ Below w.heap.size w w' := by
  go_enter Tryd.func3, Tryd.ntmps3
  go_wp2_with (go_at_call 7; refine (alive_any _ hg).mono ?_; rintro ev w1 ⟨rfl, hb⟩)
  go_ret
  exact ⟨rfl, hb⟩

set_option maxRecDepth 100000 in
set_option maxHeartbeats 4000000 in
theorem parses_near (A : Option Addr) (n c : Nat) (xs : List Int) (w : World) (hg : Laid w) (hr : Rd .u8 w w.heap.size A n c xs) (hn : n ≤ 3000) : Calls Tryd.prog 3 #[.slice A n c] w fun e w' => e = .returned (.bool true) ∧ Below w.heap.size w w' := by
  have k0 := Kn.start hg
  have HL := Lib.hid hr.len
  have hcap := hr.cap
  have hmax := hr.max
  have hwf := Lib.hid hr.2.2.2.1
  go_enter Tryd.func3, Tryd.ntmps3
  go_wp2_with fail
  refine (alive_any _ k0.laid).mono ?_
  rintro ev w1 ⟨rfl, hb⟩
  have r0 := hr.below hb (Nat.le_refl _)
  replace k0 := k0.step hb
  clear hr hb hg
  go_wp2_with fail
  refine (own_any A n c w.heap.size xs _ r0 k0.below.size (by omega)).mono ?_
  rintro ev w3 ⟨A2, n2, c2, rfl, o2, hb⟩
  replace r0 := r0.below hb k0.below.size
  replace k0 := k0.step hb
  have b2 := k0.below.size
  clear hb
  go_wp2_with fail
  rcases pE_twoX xs with hE | ⟨r, e, hE, he⟩
  · as_aux_lemma =>
      obtain ⟨hl28, -⟩ := good_parts hE
      have hmx := six_ok xs 8 hwf.out (by omega)
      have hix := num4_ok xs 14 hwf.out (by omega)
      have htx := six_ok xs 18 hwf.out (by omega)
      have htix := num4_ok xs 24 hwf.out (by omega)
      have hn28 : 28 ≤ n := by rw [← HL.out]; exact hl28
      have hn28' : (28 : Int) ≤ (n : Int) := by omega
      have hc28' : (28 : Int) ≤ (c : Int) := by omega
      refine (parse_goodX o2.rd hE).mono ?_
      rintro ev w4 ⟨rfl, hb⟩
      replace k0 := (k0.step hb).step (alloc_below w4 (.cells (pkC (opOf xs) (six (xs.drop 8)) (num4 (xs.drop 14)) (six (xs.drop 18)) (num4 (xs.drop 24))) 29))
      have r1 := (r0.below hb b2).below (alloc_below w4 (.cells (pkC (opOf xs) (six (xs.drop 8)) (num4 (xs.drop 14)) (six (xs.drop 18)) (num4 (xs.drop 24))) 29)) (Nat.le_trans b2 hb.size)
      have px := PkAt.new w4 29 (opOf xs) (six (xs.drop 8)) (num4 (xs.drop 14)) (six (xs.drop 18)) (num4 (xs.drop 24))
      replace o2 := (o2.below hb (Nat.le_refl _)).below (alloc_below w4 (.cells (pkC (opOf xs) (six (xs.drop 8)) (num4 (xs.drop 14)) (six (xs.drop 18)) (num4 (xs.drop 24))) 29)) (Nat.le_refl _)
      clear hb r0 b2
      have k : KQ w A n c A2 n2 c2 xs (opOf xs) (six (xs.drop 8)) (num4 (xs.drop 14)) (six (xs.drop 18)) (num4 (xs.drop 24)) w4.heap.size (w4.alloc (.cells (pkC (opOf xs) (six (xs.drop 8)) (num4 (xs.drop 14)) (six (xs.drop 18)) (num4 (xs.drop 24))) 29)) := ⟨k0, r1, o2.rd, px⟩
      clear k0 r1 o2 px
      go_wp2_with fail
      refine (refParse_good k.rd' hE).mono ?_
      rintro ev w5 ⟨rfl, hb⟩
      have kk := KP.start (k.step hb) none 0 0 0 [] Rd.nil
      clear k hb
      generalize w4.heap.size = gp at *
      go_wp2_with fail
      replace kk := kk.step (below_drew _)
      refine wp_region_held_drew (S := fun w' => KP w A n c A2 n2 c2 xs (opOf xs) (six (xs.drop 8)) (num4 (xs.drop 14)) (six (xs.drop 18)) (num4 (xs.drop 24)) gp w5.heap.size (w5.heap.size + 1) none 0 0 0 [] w') (by kernel_rfl) kk (fun hHeld => ?_)
      change wpAnyH _ _ _ _ _ _ _ _ ((w5.alloc (.cells (pkC (opOf xs) (six (xs.drop 8)) (num4 (xs.drop 14)) (six (xs.drop 18)) (num4 (xs.drop 24))) 35)).alloc (.cells (flC none 0 0 0) 39)).drew
      clear hHeld
      generalize ((w5.alloc (.cells (pkC (opOf xs) (six (xs.drop 8)) (num4 (xs.drop 14)) (six (xs.drop 18)) (num4 (xs.drop 24))) 35)).alloc (.cells (flC none 0 0 0) 39)).drew = W6 at *
      generalize hgf : w5.heap.size + 1 = gf at *
      clear hgf
      generalize w5.heap.size = gq at *
      have hHeld := kk
      have q1 := eq25'
      refine wpAnyH_at (i := 0) (some 25) (v := ?v0z1) rfl rfl (by kernel_rfl) (by kernel_rfl) (by kernel_rfl) (fun _ _ _ h => h) (Or.inl ⟨by rfl, ?y0z1⟩) (by assumption) ?r0z1
      case y0z1 =>
        intro w9 hSw
        clear hSw
        go_simp
        all_goals with_reducible rfl
      simp only [Act.put, List.setIfInBounds_toArray, List.set_cons_zero, List.set_cons_succ]
      refine wpAnyH_at (i := 1) (some 26) (v := ?v1z2) rfl rfl (by kernel_rfl) (by kernel_rfl) (by kernel_rfl) (fun _ _ _ h => h) (Or.inl ⟨by rfl, ?y1z2⟩) (by assumption) ?r1z2
      case y1z2 =>
        intro w9 hSw
        (obtain ⟨a0, a1⟩ := (show KP w A n c A2 n2 c2 xs (opOf xs) (six (xs.drop 8)) (num4 (xs.drop 14)) (six (xs.drop 18)) (num4 (xs.drop 24)) gp gq gf none 0 0 0 [] w9 from hSw).fault); clear hSw
        go_simp
        all_goals with_reducible rfl
      simp only [Act.put, List.setIfInBounds_toArray, List.set_cons_zero, List.set_cons_succ]
      refine wpAnyH_one (i := 2) (by kernel_rfl) rfl ?_
      go_wp2_with (go_at_call 11; refine (is_nil none 0 0 _).mono ?_; rintro ev V1 ⟨rfl, hb⟩)
      replace kk := kk.step hb
      clear hb hHeld
      have hHeld := kk
      refine ⟨hHeld, ?_⟩
      try simp only [Act.put, List.setIfInBounds_toArray, List.set_cons_zero, List.set_cons_succ]
      refine wpAnyH_at (i := 3) (some 28) (v := ?v3z3) rfl rfl (by kernel_rfl) (by kernel_rfl) (by kernel_rfl) (fun _ _ _ h => h) (Or.inl ⟨by rfl, ?y3z3⟩) (by assumption) ?r3z3
      case y3z3 =>
        intro w9 hSw
        clear hSw
        go_simp
        all_goals with_reducible rfl
      simp only [Act.put, List.setIfInBounds_toArray, List.set_cons_zero, List.set_cons_succ]
      refine wpAnyH_at (i := 4) (some 29) (v := ?v4z4) rfl rfl (by kernel_rfl) (by kernel_rfl) (by kernel_rfl) (fun _ _ _ h => h) (Or.inl ⟨by rfl, ?y4z4⟩) (by assumption) ?r4z4
      case y4z4 =>
        intro w9 hSw
        clear hSw
        go_simp
        all_goals with_reducible rfl
      simp only [Act.put, List.setIfInBounds_toArray, List.set_cons_zero, List.set_cons_succ]
      refine wpAnyH_at (i := 5) (some 30) (v := ?v5z5) rfl rfl (by kernel_rfl) (by kernel_rfl) (by kernel_rfl) (fun _ _ _ h => h) (Or.inl ⟨by rfl, ?y5z5⟩) (by assumption) ?r5z5
      case y5z5 =>
        intro w9 hSw
        (obtain ⟨a0, a1, a2, a3, a4, a5, a6, a7, a8, a9, a10, a11, a12, a13, a14⟩ := (show KP w A n c A2 n2 c2 xs (opOf xs) (six (xs.drop 8)) (num4 (xs.drop 14)) (six (xs.drop 18)) (num4 (xs.drop 24)) gp gq gf none 0 0 0 [] w9 from hSw).k.p.cells); clear hSw
        go_simp
        all_goals with_reducible rfl
      simp only [Act.put, List.setIfInBounds_toArray, List.set_cons_zero, List.set_cons_succ]
      refine wpAnyH_at (i := 7) (some 32) (v := ?v7z6) rfl rfl (by kernel_rfl) (by kernel_rfl) (by kernel_rfl) (fun _ _ _ h => h) (Or.inl ⟨by rfl, ?y7z6⟩) (by assumption) ?r7z6
      case y7z6 =>
        intro w9 hSw
        (obtain ⟨a0, a1, a2, a3, a4, a5, a6, a7, a8, a9, a10, a11, a12, a13, a14⟩ := (show KP w A n c A2 n2 c2 xs (opOf xs) (six (xs.drop 8)) (num4 (xs.drop 14)) (six (xs.drop 18)) (num4 (xs.drop 24)) gp gq gf none 0 0 0 [] w9 from hSw).q.cells); clear hSw
        go_simp
        all_goals with_reducible rfl
      simp only [Act.put, List.setIfInBounds_toArray, List.set_cons_zero, List.set_cons_succ]
      refine wpAnyH_one (i := 6) (by kernel_rfl) rfl ?_
      go_wp2_with (go_at_call 12; refine (of_any_ (opOf xs) (six (xs.drop 8)) (num4 (xs.drop 14)) (six (xs.drop 18)) (num4 (xs.drop 24)) _).mono ?_; rintro ev V2 ⟨rfl, hb⟩)
      replace kk := kk.step hb
      clear hb hHeld
      have hHeld := kk
      refine ⟨hHeld, ?_⟩
      try simp only [Act.put, List.setIfInBounds_toArray, List.set_cons_zero, List.set_cons_succ]
      refine wpAnyH_at (i := 8) (some 33) (v := ?v8z7) rfl rfl (by kernel_rfl) (by kernel_rfl) (by kernel_rfl) (fun _ _ _ h => h) (Or.inl ⟨by rfl, ?y8z7⟩) (by assumption) ?r8z7
      case y8z7 =>
        intro w9 hSw
        clear hSw
        go_simp
        all_goals with_reducible rfl
      simp only [Act.put, List.setIfInBounds_toArray, List.set_cons_zero, List.set_cons_succ]
      refine wpAnyH_at (i := 9) (some 34) (v := ?v9z8) rfl rfl (by kernel_rfl) (by kernel_rfl) (by kernel_rfl) (fun _ _ _ h => h) (Or.inl ⟨by rfl, ?y9z8⟩) (by assumption) ?r9z8
      case y9z8 =>
        intro w9 hSw
        clear hSw
        go_simp
        all_goals with_reducible rfl
      simp only [Act.put, List.setIfInBounds_toArray, List.set_cons_zero, List.set_cons_succ]
      refine wpAnyH_at (i := 10) (some 35) (v := ?v10z9) rfl rfl (by kernel_rfl) (by kernel_rfl) (by kernel_rfl) (fun _ _ _ h => h) (Or.inl ⟨by rfl, ?y10z9⟩) (by assumption) ?r10z9
      case y10z9 =>
        intro w9 hSw
        clear hSw
        go_simp
        all_goals with_reducible rfl
      simp only [Act.put, List.setIfInBounds_toArray, List.set_cons_zero, List.set_cons_succ]
      refine wpAnyH_at (i := 11) (some 36) (v := ?v11z10) rfl rfl (by kernel_rfl) (by kernel_rfl) (by kernel_rfl) (fun _ _ _ h => h) (Or.inl ⟨by rfl, ?y11z10⟩) (by assumption) ?r11z10
      case y11z10 =>
        intro w9 hSw
        clear hSw
        go_simp
        all_goals with_reducible rfl
      simp only [Act.put, List.setIfInBounds_toArray, List.set_cons_zero, List.set_cons_succ]
      refine wpAnyH_at (i := 12) (some 37) (v := ?v12z11) rfl rfl (by kernel_rfl) (by kernel_rfl) (by kernel_rfl) (fun _ _ _ h => h) (Or.inl ⟨by rfl, ?y12z11⟩) (by assumption) ?r12z11
      case y12z11 =>
        intro w9 hSw
        clear hSw
        go_simp
        all_goals with_reducible rfl
      simp only [Act.put, List.setIfInBounds_toArray, List.set_cons_zero, List.set_cons_succ]
      refine wpAnyH_one (i := 13) (by kernel_rfl) rfl ?_
      go_wp2_with (go_at_call 13; refine (same_any _ _ _ _ _ _ xs _ _ _ kk.k.own kk.k.rd).mono ?_; rintro ev V3 ⟨rfl, hb⟩)
      replace kk := kk.step hb
      clear hb hHeld
      have hHeld := kk
      refine ⟨hHeld, ?_⟩
      try simp only [Act.put, List.setIfInBounds_toArray, List.set_cons_zero, List.set_cons_succ]
      refine wpAnyH_at (i := 14) (some 39) (v := ?v14z12) rfl rfl (by kernel_rfl) (by kernel_rfl) (by kernel_rfl) (fun _ _ _ h => h) (Or.inl ⟨by rfl, ?y14z12⟩) (by assumption) ?r14z12
      case y14z12 =>
        intro w9 hSw
        clear hSw
        go_simp
        all_goals with_reducible rfl
      simp only [Act.put, List.setIfInBounds_toArray, List.set_cons_zero, List.set_cons_succ]
      refine wpAnyH_at (i := 15) (some 40) (v := ?v15z13) rfl rfl (by kernel_rfl) (by kernel_rfl) (by kernel_rfl) (fun _ _ _ h => h) (Or.inl ⟨by rfl, ?y15z13⟩) (by assumption) ?r15z13
      case y15z13 =>
        intro w9 hSw
        clear hSw
        go_simp
        all_goals with_reducible rfl
      simp only [Act.put, List.setIfInBounds_toArray, List.set_cons_zero, List.set_cons_succ]
      refine wpAnyH_done (by kernel_rfl) ?_ _
      clear hHeld
      go_wp2_with fail
      replace kk := kk.step (below_drew _)
      refine wp_region_held_drew (S := fun w' => KP w A n c A2 n2 c2 xs (opOf xs) (six (xs.drop 8)) (num4 (xs.drop 14)) (six (xs.drop 18)) (num4 (xs.drop 24)) gp gq gf none 0 0 0 [] w') (by kernel_rfl) kk (fun hHeld => ?_)
      generalize V3.drew = W7 at *
      refine wpAnyH_at (i := 0) (some 41) (v := ?v0z14) rfl rfl (by kernel_rfl) (by kernel_rfl) (by kernel_rfl) (fun _ _ _ h => h) (Or.inl ⟨by rfl, ?y0z14⟩) (by assumption) ?r0z14
      case y0z14 =>
        intro w9 hSw
        clear hSw
        go_simp
        all_goals with_reducible rfl
      simp only [Act.put, List.setIfInBounds_toArray, List.set_cons_zero, List.set_cons_succ]
      refine wpAnyH_at (i := 1) (some 42) (v := ?v1z15) rfl rfl (by kernel_rfl) (by kernel_rfl) (by kernel_rfl) (fun _ _ _ h => h) (Or.inl ⟨by rfl, ?y1z15⟩) (by assumption) ?r1z15
      case y1z15 =>
        intro w9 hSw
        clear hSw
        go_simp
        all_goals with_reducible rfl
      simp only [Act.put, List.setIfInBounds_toArray, List.set_cons_zero, List.set_cons_succ]
      refine wpAnyH_at (i := 2) (some 43) (v := ?v2z16) rfl rfl (by kernel_rfl) (by kernel_rfl) (by kernel_rfl) (fun _ _ _ h => h) (Or.inl ⟨by rfl, ?y2z16⟩) (by assumption) ?r2z16
      case y2z16 =>
        intro w9 hSw
        clear hSw
        go_simp
        all_goals with_reducible rfl
      simp only [Act.put, List.setIfInBounds_toArray, List.set_cons_zero, List.set_cons_succ]
      refine wpAnyH_at (i := 3) (some 44) (v := ?v3z17) rfl rfl (by kernel_rfl) (by kernel_rfl) (by kernel_rfl) (fun _ _ _ h => h) (Or.inl ⟨by rfl, ?y3z17⟩) (by assumption) ?r3z17
      case y3z17 =>
        intro w9 hSw
        (obtain ⟨a0, a1, a2, a3, a4, a5, a6, a7, a8, a9, a10, a11, a12, a13, a14⟩ := (show KP w A n c A2 n2 c2 xs (opOf xs) (six (xs.drop 8)) (num4 (xs.drop 14)) (six (xs.drop 18)) (num4 (xs.drop 24)) gp gq gf none 0 0 0 [] w9 from hSw).k.p.cells); clear hSw
        go_simp
        all_goals with_reducible rfl
      simp only [Act.put, List.setIfInBounds_toArray, List.set_cons_zero, List.set_cons_succ]
      refine wpAnyH_at (i := 5) (some 46) (v := ?v5z18) rfl rfl (by kernel_rfl) (by kernel_rfl) (by kernel_rfl) (fun _ _ _ h => h) (Or.inl ⟨by rfl, ?y5z18⟩) (by assumption) ?r5z18
      case y5z18 =>
        intro w9 hSw
        clear hSw
        go_simp
        all_goals with_reducible rfl
      simp only [Act.put, List.setIfInBounds_toArray, List.set_cons_zero, List.set_cons_succ]
      refine wpAnyH_at (i := 6) (some 47) (v := ?v6z19) rfl rfl (by kernel_rfl) (by kernel_rfl) (by kernel_rfl) (fun _ _ _ h => h) (Or.inl ⟨by rfl, ?y6z19⟩) (by assumption) ?r6z19
      case y6z19 =>
        intro w9 hSw
        clear hSw
        go_simp
        all_goals with_reducible rfl
      simp only [Act.put, List.setIfInBounds_toArray, List.set_cons_zero, List.set_cons_succ]
      refine wpAnyH_one (i := 4) (by kernel_rfl) rfl ?_
      go_wp2_with (go_at_call 14; refine (bytes_any (opOf xs) (six (xs.drop 8)) (num4 (xs.drop 14)) (six (xs.drop 18)) (num4 (xs.drop 24)) _ hmx hix htx htix).mono ?_; rintro ev V4 ⟨g4, rfl, row4, -, hb⟩)
      replace kk := kk.step hb
      clear hb hHeld
      have hHeld := kk
      refine ⟨hHeld, ?_⟩
      rw [back xs hwf.out hE] at row4
      try simp only [Act.put, List.setIfInBounds_toArray, List.set_cons_zero, List.set_cons_succ]
      refine wpAnyH_one (i := 7) (by kernel_rfl) rfl ?_
      go_wp2_with (go_at_call 13; refine (same_any _ _ _ _ _ _ (xs.take 28) _ _ _ (row4.rdAll (by simp; omega) (by omega) (fun x hx => hwf.out x (List.mem_of_mem_take hx))) (kk.k.rd.cutTo 28 (by omega))).mono ?_; rintro ev V5 ⟨rfl, hb⟩)
      replace kk := kk.step hb
      clear hb hHeld
      have hHeld := kk
      refine ⟨hHeld, ?_⟩
      try simp only [Act.put, List.setIfInBounds_toArray, List.set_cons_zero, List.set_cons_succ]
      refine wpAnyH_at (i := 8) (some 49) (v := ?v8z20) rfl rfl (by kernel_rfl) (by kernel_rfl) (by kernel_rfl) (fun _ _ _ h => h) (Or.inl ⟨by rfl, ?y8z20⟩) (by assumption) ?r8z20
      case y8z20 =>
        intro w9 hSw
        clear hSw
        go_simp
        all_goals with_reducible rfl
      simp only [Act.put, List.setIfInBounds_toArray, List.set_cons_zero, List.set_cons_succ]
      refine wpAnyH_at (i := 9) (some 2) (v := ?v9z21) rfl rfl (by kernel_rfl) (by kernel_rfl) (by kernel_rfl) (fun _ _ _ h => h) (Or.inl ⟨by rfl, ?y9z21⟩) (by assumption) ?r9z21
      case y9z21 =>
        intro w9 hSw
        clear hSw
        go_simp
        all_goals with_reducible rfl
      simp only [Act.put, List.setIfInBounds_toArray, List.set_cons_zero, List.set_cons_succ]
      refine wpAnyH_done (by kernel_rfl) ?_ _
      go_wp2
      go_ret
      exact ⟨rfl, kk.k.kn.below⟩
  · as_aux_lemma =>
      refine (parse_badX o2.rd hE he).mono ?_
      rintro ev w4 ⟨rfl, hb⟩
      replace k0 := (k0.step hb).step (alloc_below w4 (.cells (pkC 0 zero6 0 zero6 0) 29))
      have r1 := (r0.below hb b2).below (alloc_below w4 (.cells (pkC 0 zero6 0 zero6 0) 29)) (Nat.le_trans b2 hb.size)
      have px := PkAt.new w4 29 0 zero6 0 zero6 0
      replace o2 := (o2.below hb (Nat.le_refl _)).below (alloc_below w4 (.cells (pkC 0 zero6 0 zero6 0) 29)) (Nat.le_refl _)
      clear hb r0 b2
      have k : KQ w A n c A2 n2 c2 xs 0 zero6 0 zero6 0 w4.heap.size (w4.alloc (.cells (pkC 0 zero6 0 zero6 0) 29)) := ⟨k0, r1, o2.rd, px⟩
      clear k0 r1 o2 px
      go_wp2_with fail
      refine (refParse_bad k.rd' hE he).mono ?_
      rintro ev w5 ⟨A7, n7, c7, rfl, rr, hb⟩
      have kk := KP.start (k.step hb) A7 n7 c7 e [r] rr
      clear k hb
      generalize w4.heap.size = gp at *
      go_wp2_with fail
      replace kk := kk.step (below_drew _)
      refine wp_region_held_drew (S := fun w' => KP w A n c A2 n2 c2 xs 0 zero6 0 zero6 0 gp w5.heap.size (w5.heap.size + 1) A7 n7 c7 e [r] w') (by kernel_rfl) kk (fun hHeld => ?_)
      change wpAnyH _ _ _ _ _ _ _ _ ((w5.alloc (.cells (pkC 0 zero6 0 zero6 0) 35)).alloc (.cells (flC A7 n7 c7 e) 39)).drew
      clear hHeld
      generalize ((w5.alloc (.cells (pkC 0 zero6 0 zero6 0) 35)).alloc (.cells (flC A7 n7 c7 e) 39)).drew = W6 at *
      generalize hgf : w5.heap.size + 1 = gf at *
      clear hgf
      generalize w5.heap.size = gq at *
      have hHeld := kk
      have q1 := eq25'
      refine wpAnyH_at (i := 0) (some 25) (v := ?v0z22) rfl rfl (by kernel_rfl) (by kernel_rfl) (by kernel_rfl) (fun _ _ _ h => h) (Or.inl ⟨by rfl, ?y0z22⟩) (by assumption) ?r0z22
      case y0z22 =>
        intro w9 hSw
        clear hSw
        go_simp
        all_goals with_reducible rfl
      simp only [Act.put, List.setIfInBounds_toArray, List.set_cons_zero, List.set_cons_succ]
      refine wpAnyH_at (i := 1) (some 26) (v := ?v1z23) rfl rfl (by kernel_rfl) (by kernel_rfl) (by kernel_rfl) (fun _ _ _ h => h) (Or.inl ⟨by rfl, ?y1z23⟩) (by assumption) ?r1z23
      case y1z23 =>
        intro w9 hSw
        (obtain ⟨a0, a1⟩ := (show KP w A n c A2 n2 c2 xs 0 zero6 0 zero6 0 gp gq gf A7 n7 c7 e [r] w9 from hSw).fault); clear hSw
        go_simp
        all_goals with_reducible rfl
      simp only [Act.put, List.setIfInBounds_toArray, List.set_cons_zero, List.set_cons_succ]
      refine wpAnyH_one (i := 2) (by kernel_rfl) rfl ?_
      go_wp2_with (go_at_call 11; refine (is_err A7 n7 c7 r e _ kk.k.kn.laid kk.r he).mono ?_; rintro ev V1 ⟨rfl, hb⟩)
      replace kk := kk.step hb
      clear hb hHeld
      have hHeld := kk
      refine ⟨hHeld, ?_⟩
      try simp only [Act.put, List.setIfInBounds_toArray, List.set_cons_zero, List.set_cons_succ]
      refine wpAnyH_at (i := 3) (some 28) (v := ?v3z24) rfl rfl (by kernel_rfl) (by kernel_rfl) (by kernel_rfl) (fun _ _ _ h => h) (Or.inl ⟨by rfl, ?y3z24⟩) (by assumption) ?r3z24
      case y3z24 =>
        intro w9 hSw
        clear hSw
        go_simp
        all_goals with_reducible rfl
      simp only [Act.put, List.setIfInBounds_toArray, List.set_cons_zero, List.set_cons_succ]
      refine wpAnyH_at (i := 4) (some 29) (v := ?v4z25) rfl rfl (by kernel_rfl) (by kernel_rfl) (by kernel_rfl) (fun _ _ _ h => h) (Or.inl ⟨by rfl, ?y4z25⟩) (by assumption) ?r4z25
      case y4z25 =>
        intro w9 hSw
        clear hSw
        go_simp
        all_goals with_reducible rfl
      simp only [Act.put, List.setIfInBounds_toArray, List.set_cons_zero, List.set_cons_succ]
      refine wpAnyH_at (i := 5) (some 30) (v := ?v5z26) rfl rfl (by kernel_rfl) (by kernel_rfl) (by kernel_rfl) (fun _ _ _ h => h) (Or.inl ⟨by rfl, ?y5z26⟩) (by assumption) ?r5z26
      case y5z26 =>
        intro w9 hSw
        (obtain ⟨a0, a1, a2, a3, a4, a5, a6, a7, a8, a9, a10, a11, a12, a13, a14⟩ := (show KP w A n c A2 n2 c2 xs 0 zero6 0 zero6 0 gp gq gf A7 n7 c7 e [r] w9 from hSw).k.p.cells); clear hSw
        go_simp
        all_goals with_reducible rfl
      simp only [Act.put, List.setIfInBounds_toArray, List.set_cons_zero, List.set_cons_succ]
      refine wpAnyH_at (i := 7) (some 32) (v := ?v7z27) rfl rfl (by kernel_rfl) (by kernel_rfl) (by kernel_rfl) (fun _ _ _ h => h) (Or.inl ⟨by rfl, ?y7z27⟩) (by assumption) ?r7z27
      case y7z27 =>
        intro w9 hSw
        (obtain ⟨a0, a1, a2, a3, a4, a5, a6, a7, a8, a9, a10, a11, a12, a13, a14⟩ := (show KP w A n c A2 n2 c2 xs 0 zero6 0 zero6 0 gp gq gf A7 n7 c7 e [r] w9 from hSw).q.cells); clear hSw
        go_simp
        all_goals with_reducible rfl
      simp only [Act.put, List.setIfInBounds_toArray, List.set_cons_zero, List.set_cons_succ]
      refine wpAnyH_one (i := 6) (by kernel_rfl) rfl ?_
      go_wp2_with (go_at_call 12; refine (of_any_ 0 zero6 0 zero6 0 _).mono ?_; rintro ev V2 ⟨rfl, hb⟩)
      replace kk := kk.step hb
      clear hb hHeld
      have hHeld := kk
      refine ⟨hHeld, ?_⟩
      try simp only [Act.put, List.setIfInBounds_toArray, List.set_cons_zero, List.set_cons_succ]
      refine wpAnyH_at (i := 8) (some 33) (v := ?v8z28) rfl rfl (by kernel_rfl) (by kernel_rfl) (by kernel_rfl) (fun _ _ _ h => h) (Or.inl ⟨by rfl, ?y8z28⟩) (by assumption) ?r8z28
      case y8z28 =>
        intro w9 hSw
        clear hSw
        go_simp
        all_goals with_reducible rfl
      simp only [Act.put, List.setIfInBounds_toArray, List.set_cons_zero, List.set_cons_succ]
      refine wpAnyH_at (i := 9) (some 34) (v := ?v9z29) rfl rfl (by kernel_rfl) (by kernel_rfl) (by kernel_rfl) (fun _ _ _ h => h) (Or.inl ⟨by rfl, ?y9z29⟩) (by assumption) ?r9z29
      case y9z29 =>
        intro w9 hSw
        clear hSw
        go_simp
        all_goals with_reducible rfl
      simp only [Act.put, List.setIfInBounds_toArray, List.set_cons_zero, List.set_cons_succ]
      refine wpAnyH_at (i := 10) (some 35) (v := ?v10z30) rfl rfl (by kernel_rfl) (by kernel_rfl) (by kernel_rfl) (fun _ _ _ h => h) (Or.inl ⟨by rfl, ?y10z30⟩) (by assumption) ?r10z30
      case y10z30 =>
        intro w9 hSw
        clear hSw
        go_simp
        all_goals with_reducible rfl
      simp only [Act.put, List.setIfInBounds_toArray, List.set_cons_zero, List.set_cons_succ]
      refine wpAnyH_at (i := 11) (some 36) (v := ?v11z31) rfl rfl (by kernel_rfl) (by kernel_rfl) (by kernel_rfl) (fun _ _ _ h => h) (Or.inl ⟨by rfl, ?y11z31⟩) (by assumption) ?r11z31
      case y11z31 =>
        intro w9 hSw
        clear hSw
        go_simp
        all_goals with_reducible rfl
      simp only [Act.put, List.setIfInBounds_toArray, List.set_cons_zero, List.set_cons_succ]
      refine wpAnyH_at (i := 12) (some 37) (v := ?v12z32) rfl rfl (by kernel_rfl) (by kernel_rfl) (by kernel_rfl) (fun _ _ _ h => h) (Or.inl ⟨by rfl, ?y12z32⟩) (by assumption) ?r12z32
      case y12z32 =>
        intro w9 hSw
        clear hSw
        go_simp
        all_goals with_reducible rfl
      simp only [Act.put, List.setIfInBounds_toArray, List.set_cons_zero, List.set_cons_succ]
      refine wpAnyH_one (i := 13) (by kernel_rfl) rfl ?_
      go_wp2_with (go_at_call 13; refine (same_any _ _ _ _ _ _ xs _ _ _ kk.k.own kk.k.rd).mono ?_; rintro ev V3 ⟨rfl, hb⟩)
      replace kk := kk.step hb
      clear hb hHeld
      have hHeld := kk
      refine ⟨hHeld, ?_⟩
      try simp only [Act.put, List.setIfInBounds_toArray, List.set_cons_zero, List.set_cons_succ]
      refine wpAnyH_at (i := 14) (some 39) (v := ?v14z33) rfl rfl (by kernel_rfl) (by kernel_rfl) (by kernel_rfl) (fun _ _ _ h => h) (Or.inl ⟨by rfl, ?y14z33⟩) (by assumption) ?r14z33
      case y14z33 =>
        intro w9 hSw
        clear hSw
        go_simp
        all_goals with_reducible rfl
      simp only [Act.put, List.setIfInBounds_toArray, List.set_cons_zero, List.set_cons_succ]
      refine wpAnyH_at (i := 15) (some 40) (v := ?v15z34) rfl rfl (by kernel_rfl) (by kernel_rfl) (by kernel_rfl) (fun _ _ _ h => h) (Or.inl ⟨by rfl, ?y15z34⟩) (by assumption) ?r15z34
      case y15z34 =>
        intro w9 hSw
        clear hSw
        go_simp
        all_goals with_reducible rfl
      simp only [Act.put, List.setIfInBounds_toArray, List.set_cons_zero, List.set_cons_succ]
      refine wpAnyH_done (by kernel_rfl) ?_ _
      clear hHeld
      go_wp2_with fail
      replace kk := kk.step (below_drew _)
      refine wp_region_held_drew (S := fun w' => KP w A n c A2 n2 c2 xs 0 zero6 0 zero6 0 gp gq gf A7 n7 c7 e [r] w') (by kernel_rfl) kk (fun hHeld => ?_)
      generalize V3.drew = W7 at *
      refine wpAnyH_at (i := 0) (some 41) (v := ?v0z35) rfl rfl (by kernel_rfl) (by kernel_rfl) (by kernel_rfl) (fun _ _ _ h => h) (Or.inl ⟨by rfl, ?y0z35⟩) (by assumption) ?r0z35
      case y0z35 =>
        intro w9 hSw
        clear hSw
        go_simp
        all_goals with_reducible rfl
      simp only [Act.put, List.setIfInBounds_toArray, List.set_cons_zero, List.set_cons_succ]
      refine wpAnyH_at (i := 1) (some 42) (v := ?v1z36) rfl rfl (by kernel_rfl) (by kernel_rfl) (by kernel_rfl) (fun _ _ _ h => h) (Or.inl ⟨by rfl, ?y1z36⟩) (by assumption) ?r1z36
      case y1z36 =>
        intro w9 hSw
        clear hSw
        go_simp
        all_goals with_reducible rfl
      simp only [Act.put, List.setIfInBounds_toArray, List.set_cons_zero, List.set_cons_succ]
      refine wpAnyH_at (i := 2) (some 43) (v := ?v2z37) rfl rfl (by kernel_rfl) (by kernel_rfl) (by kernel_rfl) (fun _ _ _ h => h) (Or.inl ⟨by rfl, ?y2z37⟩) (by assumption) ?r2z37
      case y2z37 =>
        intro w9 hSw
        clear hSw
        go_simp
        all_goals with_reducible rfl
      simp only [Act.put, List.setIfInBounds_toArray, List.set_cons_zero, List.set_cons_succ]
      refine wpAnyH_at (i := 3) (some 44) (v := undef) rfl rfl (by kernel_rfl) (by kernel_rfl) (by kernel_rfl) (fun _ _ _ h => h) (Or.inr ⟨by rfl, rfl⟩) (by assumption) ?_
      simp only [Act.put, List.setIfInBounds_toArray, List.set_cons_zero, List.set_cons_succ]
      refine wpAnyH_at (i := 5) (some 46) (v := undef) rfl rfl (by kernel_rfl) (by kernel_rfl) (by kernel_rfl) (fun _ _ _ h => h) (Or.inr ⟨by rfl, rfl⟩) (by assumption) ?_
      simp only [Act.put, List.setIfInBounds_toArray, List.set_cons_zero, List.set_cons_succ]
      refine wpAnyH_at (i := 6) (some 47) (v := undef) rfl rfl (by kernel_rfl) (by kernel_rfl) (by kernel_rfl) (fun _ _ _ h => h) (Or.inr ⟨by rfl, rfl⟩) (by assumption) ?_
      simp only [Act.put, List.setIfInBounds_toArray, List.set_cons_zero, List.set_cons_succ]
      refine wpAnyH_one (i := 4) (by kernel_rfl) rfl ?_
      go_wp2
      refine ⟨hHeld, ?_⟩
      refine wpAnyH_one (i := 7) (by kernel_rfl) rfl ?_
      go_wp2
      refine ⟨hHeld, ?_⟩
      refine wpAnyH_at (i := 8) (some 49) (v := ?v8z38) rfl rfl (by kernel_rfl) (by kernel_rfl) (by kernel_rfl) (fun _ _ _ h => h) (Or.inl ⟨by rfl, ?y8z38⟩) (by assumption) ?r8z38
      case y8z38 =>
        intro w9 hSw
        clear hSw
        go_simp
        all_goals with_reducible rfl
      simp only [Act.put, List.setIfInBounds_toArray, List.set_cons_zero, List.set_cons_succ]
      refine wpAnyH_at (i := 9) (some 2) (v := ?v9z39) rfl rfl (by kernel_rfl) (by kernel_rfl) (by kernel_rfl) (fun _ _ _ h => h) (Or.inl ⟨by rfl, ?y9z39⟩) (by assumption) ?r9z39
      case y9z39 =>
        intro w9 hSw
        clear hSw
        go_simp
        all_goals with_reducible rfl
      simp only [Act.put, List.setIfInBounds_toArray, List.set_cons_zero, List.set_cons_succ]
      refine wpAnyH_done (by kernel_rfl) ?_ _
      go_wp2
      go_ret
      exact ⟨rfl, kk.k.kn.below⟩
theorem parses_law (A : Option Addr) (n c : Nat) (xs : List Int) (w : World) (hg : Laid w) (hr : Rd .u8 w w.heap.size A n c xs) : Calls Tryd.prog 3 #[.slice A n c] w fun e w' => e = .returned (.bool true) ∧ Below w.heap.size w w' := by
  by_cases hn : 3000 < n
  · exact parses_far A n c w hg hn (Nat.le_trans hr.cap hr.max)
  · exact parses_near A n c xs w hg hr (by omega)
end Go.Proofs.YtgjfhgipgcdddaaDoor
