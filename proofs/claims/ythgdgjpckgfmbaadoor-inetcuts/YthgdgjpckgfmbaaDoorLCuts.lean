/-
  The law InetCuts: of a packet cut short Peek tells what is there, and Parse the end.
-/
import Derived.Test.YthgdgjpckgfmbaaDoorZed
namespace Go.Proofs.YthgdgjpckgfmbaaDoor
open Go.RowKit

set_option maxRecDepth 100000 in
set_option maxHeartbeats 4000000 in
theorem cuts_far (h : Hd) (A : Option Addr) (n c : Nat) (cut : Int) (w : World) (hg : Laid w) (hn : 1480 < n) (hmax : n ≤ 9223372036854775807) : Calls Tryd.prog 6 #[pkV h A n c, .int .i64 cut] w fun e w' => e = .returned (.bool true) ∧ Below w.heap.size w w' := by
  have k := (Kn.start hg).alloc (.cells (pkC h A n c) 28)
  have pp := PkAt.new w 28 h A n c
  clear hg
  go_enter Tryd.func6, Tryd.ntmps6
  go_wp2_with fail
  refine (alive_any _ k.laid).mono ?_
  rintro ev w1 ⟨rfl, hb⟩
  replace k := k.step hb
  replace pp := pp.step hb
  clear hb
  obtain ⟨x0, x1, x2, x3, x4, x5, x6, x7⟩ := pp.cells
  go_wp2_with fail
  refine (bytes_far h A n c _ hn hmax).mono ?_
  rintro ev w2 ⟨rfl, hb⟩
  replace k := k.step hb
  clear x0 x1 x2 x3 x4 x5 x6 x7
  clear hb pp
  go_wp2
  go_ret
  exact ⟨rfl, k.below⟩

set_option maxRecDepth 100000 in
set_option maxHeartbeats 4000000 in
theorem cuts_near (h : Hd) (A : Option Addr) (n c : Nat) (xs : List Int) (cut : Int) (w : World) (hg : Laid w) (hk : h.ok) (hr : Rd .u8 w w.heap.size A n c xs) (hn : n ≤ 1480) (m : Nat) (hm : m = 20 + n) : Calls Tryd.prog 6 #[pkV h A n c, .int .i64 cut] w fun e w' => e = .returned (.bool true) ∧ Below w.heap.size w w' := by
  have k := (Kn.start hg).alloc (.cells (pkC h A n c) 28)
  have r0 := hr.below (alloc_below w (.cells (pkC h A n c) 28)) (Nat.le_refl _)
  have pp := PkAt.new w 28 h A n c
  have hcap := hr.cap
  have hmax := hr.max
  have HX := Lib.hid hr.len
  have HW := Lib.hid hr.2.2.2.1
  have by_ := Lib.hid (fun W (q : Rd .u8 W W.heap.size A n c xs) => bytes_ok h A n c xs W hk q hn)
  rw [← hm] at by_
  have hwf : Hid (∀ x ∈ hdR h n ++ xs, (Lit.int .u8 x).wf = true) := Lib.hid (fun x hx => (List.mem_append.1 hx).elim (hdR_wf hk (by omega) x) (HW.out x))
  have hl : Hid ((hdR h n ++ xs).length = m) := Lib.hid (by unfold hdR; rw [z_len HX.out, hm])
  have cEnd : Hid (∀ t, t < m → pE true ((hdR h n ++ xs).take t) = (1, 12)) := Lib.hid (fun t ht => by unfold hdR; exact zt_end HX.out (by omega))
  have cShort : Hid (∀ t, t < 20 → pE false ((hdR h n ++ xs).take t) = (1, 12)) := Lib.hid (fun t ht => by unfold hdR; exact zt_short HX.out ht)
  have cPeek : Hid (∀ t, 20 ≤ t → t ≤ m → pE false ((hdR h n ++ xs).take t) = (0, 0) ∧ hdOf ((hdR h n ++ xs).take t) = h ∧ bodyOf ((hdR h n ++ xs).take t) = xs.take (t - 20)) := Lib.hid (fun t h1 h2 => by
    unfold hdR
    exact ⟨zt_peek HX.out h1 (by omega), zt_hd h1, zt_body h1 (by omega)⟩)
  generalize hdR h n ++ xs = zs at *
  have hm1 : 20 + n ≤ m := by omega
  have hm2 : m ≤ 20 + n := by omega
  clear hr hk hm
  go_enter Tryd.func6, Tryd.ntmps6
  go_wp2_with fail
  refine (alive_any _ k.laid).mono ?_
  rintro ev w1 ⟨rfl, hb⟩
  replace r0 := r0.below hb k.below.size
  replace k := k.step hb
  replace pp := pp.step hb
  clear hb
  obtain ⟨x0, x1, x2, x3, x4, x5, x6, x7⟩ := pp.cells
  go_wp2_with fail
  refine (by_.out _ (r0.more k.below.size)).mono ?_
  rintro ev w2 ⟨g, rfl, row, hgw, hb⟩
  replace r0 := r0.below hb k.below.size
  replace k := k.step hb
  replace pp := pp.step hb
  clear x0 x1 x2 x3 x4 x5 x6 x7
  clear hb hgw by_ hg
  by_cases c0 : cut < 0
  · go_wp2
    go_ret
    exact ⟨rfl, k.below⟩
  by_cases c1 : (m : Int) ≤ cut
  · go_wp2
    go_ret
    exact ⟨rfl, k.below⟩
  obtain ⟨d, rfl⟩ := Int.eq_ofNat_of_zero_le (show 0 ≤ cut by omega)
  have d1 : d < m := by omega
  have d2 : (d : Int) ≤ (m : Int) := by omega
  have d3 : ¬ (m : Int) ≤ (d : Int) := by omega
  have d4 : ¬ (d : Int) < 0 := by omega
  clear c0 c1
  go_wp2_with fail
  refine (parse_no ((row.rdW hl.out (by omega) hwf.out).cutTo d (by omega)) (cEnd.out d d1) (by decide)).mono ?_
  rintro ev w3 ⟨rfl, hb⟩
  replace hb := hb.trans ((alloc_below w3 (.cells (pkC zeroH none 0 0) 28)).mono hb.size)
  replace r0 := r0.below hb k.below.size
  replace k := k.step hb
  replace pp := pp.step hb
  replace row := row.below hb row.lt
  clear hb
  go_wp2_with fail
  by_cases d5 : d < 20
  · as_aux_lemma =>
    refine (peek_no ((row.rdW hl.out (by omega) hwf.out).cutTo d (by omega)) (cShort.out d d5) (by decide)).mono ?_
    rintro ev w4 ⟨rfl, hb⟩
    replace hb := hb.trans ((alloc_below w4 (.cells (pkC zeroH none 0 0) 28)).mono hb.size)
    replace k := k.step hb
    clear hb
    go_wp2_with fail
    refine (whyIs_err 1 12 12 _).mono ?_
    rintro ev w5 ⟨rfl, hb⟩
    replace k := k.step hb
    clear hb
    have d6 : (d : Int) < 20 := by omega
    go_wp2_with fail
    refine (whyIs_err 1 12 12 _).mono ?_
    rintro ev w6 ⟨rfl, hb⟩
    replace k := k.step hb
    clear hb
    go_wp2
    go_ret
    exact ⟨rfl, k.below⟩
  · as_aux_lemma =>
    obtain ⟨z1, z2, z3⟩ := cPeek.out d (by omega) (by omega)
    have hly : (xs.take (d - 20)).length = d - 20 := by rw [List.length_take, HX.out]; omega
    have hwy : Hid (∀ x ∈ xs.take (d - 20), (Lit.int .u8 x).wf = true) := Lib.hid (fun x hx => HW.out x (List.mem_of_mem_take hx))
    refine (peek_yes ((row.rdW hl.out (by omega) hwf.out).cutTo d (by omega)) (by rw [z1]) z2 z3 hly).mono ?_
    rintro ev w4 ⟨g4, rfl, row4, -, hb⟩
    have Hly := Lib.hid hly
    clear z1 z2 z3 hly
    have d6 : ¬ (d : Int) < 20 := by omega
    obtain ⟨t, ht⟩ : ∃ t, d - 20 = t := ⟨_, rfl⟩
    have d7 : (d : Int) - 20 = (t : Int) := by omega
    have d8 : IntKind.i64.wrap (t : Int) = (t : Int) := by rw [IntKind.wrap_i64]; omega
    have d9 : (t : Int) ≤ (c : Int) := by omega
    have t1 : t ≤ n := by omega
    have t2 : ¬ (c : Int) < (t : Int) := by omega
    rw [ht] at Hly hwy row4 ⊢
    clear ht
    replace row4 := row4.below (alloc_below w4 (.cells (pkC h (some ⟨g4, 0, none⟩) t t) 28)) row4.lt
    have p4 := PkAt.new w4 28 h (some ⟨g4, 0, none⟩) t t
    replace hb := hb.trans ((alloc_below w4 (.cells (pkC h (some ⟨g4, 0, none⟩) t t) 28)).mono hb.size)
    replace r0 := r0.below hb k.below.size
    replace k := k.step hb
    replace pp := pp.step hb
    clear hb row
    go_wp2_with fail
    refine (whyIs_err 1 12 12 _).mono ?_
    rintro ev w5 ⟨rfl, hb⟩
    replace r0 := r0.below hb k.below.size
    replace k := k.step hb
    replace pp := pp.step hb
    replace p4 := p4.step hb
    replace row4 := row4.below hb row4.lt
    clear hb
    generalize w4.heap.size = g5 at *
    obtain ⟨x0, x1, x2, x3, x4, x5, x6, x7⟩ := pp.cells
    have p5 := PkAt.new w5 28 h A n c
    have z5 := p5.frozen 7
    have b6 := alloc_below w5 (.cells (pkC h A t c) 28)
    have p6 := PkAt.new w5 28 h A t c
    have q6 := p4.step b6
    have row6 := row4.below b6 row4.lt
    have r6 := (r0.below b6 k.below.size).cutTo t t1
    have k6 := k.step b6
    obtain ⟨u0, u1, u2, u3, u4, u5, u6, u7⟩ := (pp.step (alloc_below w5 (.cells (pkC h A n c) 28))).cells
    obtain ⟨y0, y1, y2, y3, y4, y5, y6, y7⟩ := p5.cells
    obtain ⟨v0, v1, v2, v3, v4, v5, v6, v7⟩ := p6.cells
    obtain ⟨z0, z1, z2, z3, z4, z5, z6, z7⟩ := q6.cells
    go_wp2_with fail
    have sm := same_pk h h _ _ t t t c (xs.take t) (xs.take t) _ (row6.rdW Hly.out (by omega) hwy.out) (r6.more k6.below.size)
    rw [smB_self] at sm
    refine sm.mono ?_
    rintro ev w7 ⟨rfl, hb⟩
    replace k6 := k6.step hb
    clear x0 x1 x2 x3 x4 x5 x6 x7
    clear u0 u1 u2 u3 u4 u5 u6 u7
    clear y0 y1 y2 y3 y4 y5 y6 y7
    clear v0 v1 v2 v3 v4 v5 v6 v7
    clear z0 z1 z2 z3 z4 z5 z6 z7
    clear hb sm p6 q6 row6 r6 b6 k z5
    go_wp2
    go_ret
    exact ⟨rfl, k6.below⟩
theorem cuts_law (h : Hd) (A : Option Addr) (n c : Nat) (xs : List Int) (cut : Int) (w : World) (hg : Laid w) (hk : h.ok) (hr : Rd .u8 w w.heap.size A n c xs) : Calls Tryd.prog 6 #[pkV h A n c, .int .i64 cut] w fun e w' => e = .returned (.bool true) ∧ Below w.heap.size w w' := by
  by_cases hn : 1480 < n
  · exact cuts_far h A n c cut w hg hn (Nat.le_trans hr.cap hr.max)
  · exact cuts_near h A n c xs cut w hg hk hr (by omega) (20 + n) rfl
end Go.Proofs.YthgdgjpckgfmbaaDoor
