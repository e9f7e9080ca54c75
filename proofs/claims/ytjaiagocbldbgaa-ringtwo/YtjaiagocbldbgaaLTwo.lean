/-
  The law RingTwo: two rings on one pool never have a buffer in common.
-/
import Derived.Test.YtjaiagocbldbgaaAlive
import Derived.Test.YtjaiagocbldbgaaArgu
import Derived.Test.YtjaiagocbldbgaaCount
import Derived.Test.YtjaiagocbldbgaaK2
namespace Go.Proofs.Ytjaiagocbldbgaa
open Go.RowKit
set_option linter.unusedVariables false

section
variable {w W : World} {p g m q s z q' s' z' : Nat} {o o' : Int} {L : Slots} {R R' : List Nat} {d d' : Nat}
theorem tHeld (k : K2 w p g m q s z o L R d q' s' z' o' R' d' W) (i : I2 m L R o R' o') : Calls Try.prog 28 #[ptr p, .int .i64 o] W fun e w' => ∃ A c, e = .returned (.slice A R.length c) ∧ K2 w p g m q s z o L R d q' s' z' o' R' d' w' := by
  refine (kHeld k.k o).mono ?_
  rintro e w' ⟨A, n, c, rfl, h1, h2, hb⟩
  rw [heldV_own i.oo.1, i.i.cnt] at h1
  subst h1
  exact ⟨A, c, rfl, k.step hb⟩
theorem tHeld' (k : K2 w p g m q s z o L R d q' s' z' o' R' d' W) (i : I2 m L R o R' o') : Calls Try.prog 28 #[ptr p, .int .i64 o'] W fun e w' => ∃ A c, e = .returned (.slice A R'.length c) ∧ K2 w p g m q s z o L R d q' s' z' o' R' d' w' := by
  refine (kHeld k.k o').mono ?_
  rintro e w' ⟨A, n, c, rfl, h1, h2, hb⟩
  rw [heldV_own i.oo.2.1, i.i'.cnt] at h1
  subst h1
  exact ⟨A, c, rfl, k.step hb⟩
theorem tHeld3 (k : K2 w p g m q s z o L R d q' s' z' o' R' d' W) (i : I2 m L R o R' o') : Calls Try.prog 28 #[ptr p, .int .i64 3] W fun e w' => ∃ A c, e = .returned (.slice A 0 c) ∧ K2 w p g m q s z o L R d q' s' z' o' R' d' w' := by
  refine (kHeld k.k 3).mono ?_
  rintro e w' ⟨A, n, c, rfl, h1, h2, hb⟩
  rw [heldV_own (by decide), i.c3] at h1
  subst h1
  exact ⟨A, c, rfl, k.step hb⟩
theorem tLeft (k : K2 w p g m q s z o L R d q' s' z' o' R' d' W) (i : I2 m L R o R' o') : Calls Try.prog 25 #[ptr p] W fun e w' => ∃ l : Nat, e = .returned (.int .i64 (l : Int)) ∧ (l : Int) + (R.length : Int) + (R'.length : Int) = (m : Int) ∧ K2 w p g m q s z o L R d q' s' z' o' R' d' w' := by
  refine (kLeft k.k).mono ?_
  rintro e w' ⟨rfl, h2, hb⟩
  have := i.tot
  exact ⟨left L, rfl, by unfold left; omega, k.step hb⟩
theorem tLen (k : K2 w p g m q s z o L R d q' s' z' o' R' d' W) : Calls Try.prog 23 #[ptr q] W fun e w' => e = .returned (.int .i64 (R.length : Int)) ∧ W = w' := kLen k.k
theorem tLen' (k : K2 w p g m q s z o L R d q' s' z' o' R' d' W) : Calls Try.prog 23 #[ptr q'] W fun e w' => e = .returned (.int .i64 (R'.length : Int)) ∧ W = w' := kLen k.swap.k
end

set_option maxRecDepth 100000 in
set_option maxHeartbeats 4000000 in
theorem two_big (m : Int) (A : Option Addr) (n c : Nat) (qs : Nat → Cal) (w : World) (H : CallsAt w w.heap.size A n c qs) (h : 100 < m ∨ 100 < n) : Calls Try.prog 5 #[.int .i64 m, .slice A n c] w fun e w' => e = .returned (.bool true) ∧ Below w.heap.size w w' := by
  have hc := Lib.hid (fun W => great_big m A n c W h H.1)
  clear H h
  go_enter Try.func5, Try.ntmps5
  go_wp2_with fail
  refine (alive_any _).mono ?_
  rintro ev w1 ⟨rfl, hb⟩
  go_wp2_with fail
  refine (hc.out _).mono ?_
  rintro ev w2 ⟨rfl, rfl⟩
  go_wp2
  go_ret
  exact ⟨rfl, hb⟩
set_option maxRecDepth 100000 in
set_option maxHeartbeats 4000000 in
theorem two_long (m : Int) (A : Option Addr) (n c : Nat) (qs : Nat → Cal) (w : World) (H : CallsAt w w.heap.size A n c qs) (h1 : ¬ 100 < m) (h2 : n ≤ 100) (h3 : longB n qs = true) : Calls Try.prog 5 #[.int .i64 m, .slice A n c] w fun e w' => e = .returned (.bool true) ∧ Below w.heap.size w w' := by
  have hc := Lib.hid (fun W q => great_in true m A n c w.heap.size qs W h3 h1 h2 q)
  have HH := Lib.hid H
  clear H h1 h2 h3
  go_enter Try.func5, Try.ntmps5
  go_wp2_with fail
  refine (alive_any _).mono ?_
  rintro ev w1 ⟨rfl, hb⟩
  go_wp2_with fail
  refine (hc.out _ (HH.out.below hb)).mono ?_
  rintro ev w2 ⟨rfl, rfl⟩
  go_wp2
  go_ret
  exact ⟨rfl, hb⟩
set_option maxRecDepth 100000 in
set_option maxHeartbeats 4000000 in
theorem two_bad (m : Int) (A : Option Addr) (n c : Nat) (qs : Nat → Cal) (w : World) (H : CallsAt w w.heap.size A n c qs) (h1 : ¬ 100 < m) (h2 : n ≤ 100) (h3 : longB n qs = false) (h7 : m < 1) : Calls Try.prog 5 #[.int .i64 m, .slice A n c] w fun e w' => e = .returned (.bool true) ∧ Below w.heap.size w w' := by
  have hc := Lib.hid (fun W q => great_in false m A n c w.heap.size qs W h3 h1 h2 q)
  have HN := Lib.hid (fun W => new_no m W (.inl h7))
  have HH := Lib.hid H
  clear H h1 h2 h3
  go_enter Try.func5, Try.ntmps5
  go_wp2_with fail
  refine (alive_any _).mono ?_
  rintro ev w1 ⟨rfl, hb⟩
  go_wp2_with fail
  refine (hc.out _ (HH.out.below hb)).mono ?_
  rintro ev w2 ⟨rfl, rfl⟩
  go_wp2_with fail
  refine (HN.out _).mono ?_
  rintro ev w3 ⟨rfl, rfl⟩
  go_wp2
  go_ret
  exact ⟨rfl, hb⟩
set_option maxRecDepth 100000 in
set_option maxHeartbeats 4000000 in
theorem two_in (m : Nat) (A : Option Addr) (n c : Nat) (qs : Nat → Cal) (w : World) (H : CallsAt w w.heap.size A n c qs) (h1 : 1 ≤ m) (h8 : m ≤ 100) (h2 : n ≤ 100) (h3 : longB n qs = false) : Calls Try.prog 5 #[.int .i64 (m : Int), .slice A n c] w fun e w' => e = .returned (.bool true) ∧ Below w.heap.size w w' := by
  have hc := Lib.hid (fun W q => great_in false (m : Int) A n c w.heap.size qs W h3 (by omega) h2 q)
  have HN := Lib.hid (fun W => new_yes m W h1 (by omega))
  have HH := Lib.hid H
  have HX : Hid (∀ j, j < n → (qs j).n ≤ 1600) := Lib.hid (fun j hj => longB_of h3 hj)
  have hcc := H.1.2
  have h1' : ¬ (m : Int) < 1 := by omega
  clear H h3
  go_enter Try.func5, Try.ntmps5
  go_wp2_with fail
  refine (alive_any _).mono ?_
  rintro ev w1 ⟨rfl, hb⟩
  go_wp2_with fail
  refine (hc.out _ (HH.out.below hb)).mono ?_
  rintro ev w2 ⟨rfl, rfl⟩
  go_wp2_with fail
  refine (HN.out _).mono ?_
  rintro ev w3 ⟨p, g, rfl, hp, hlo, hb3⟩
  have hbw := hb.trans (hb3.mono hb.size)
  have hlo3 : w.heap.size ≤ p ∧ w.heap.size ≤ g := by have := hb.size; omega
  clear hb hb3 hlo hc HN
  go_wp2_with fail
  refine (newR_yes p 8 1 w3 (by omega) (by omega) (by decide)).mono ?_
  rintro ev w4 ⟨qa, sa, rfl, ha, hlo4, hb4⟩
  go_wp2_with fail
  refine (newR_yes p 3 2 w4 (by omega) (by omega) (by decide)).mono ?_
  rintro ev w5 ⟨qb, sb, rfl, hbb, hlo5, hb5⟩
  have b35 := hb4.trans (hb5.mono hb4.size)
  have y0 : K2 w p g m qa sa 8 1 (List.replicate m (0, [])) [] 0 qb sb 3 2 [] 0 w5 :=
    ⟨⟨hp.below b35, ha.below hb5, hbw.trans (b35.mono hbw.size), by have := hbw.size; omega, by simp; omega⟩, hbb, by have := ha.lt; omega, by have := hbw.size; have := hb4.size; omega⟩
  have i0 : I2 m (List.replicate m (0, [])) [] 1 [] 2 := I2.new m 1 2 (by decide)
  clear hp ha hbb hlo4 hlo5 hb4 hb5 hbw hlo3 b35
  go_wp2
  go_loopw [11] (fun i wr => ∃ (k : Nat) (L : Slots) (Ra Rb : List Nat) (da db : Nat), k ≤ n ∧ i = .int .i64 k ∧ da ≤ k ∧ db ≤ k ∧ K2 w p g m qa sa 8 1 L Ra da qb sb 3 2 Rb db wr ∧ I2 m L Ra 1 Rb 2) (fun i _ => n - (intOf i).toNat)
  case atStart => exact ⟨0, _, [], [], 0, 0, Nat.zero_le _, rfl, Nat.le_refl _, Nat.le_refl _, y0, i0⟩
  case round =>
    clear y0 i0
    obtain ⟨k, L, Ra, Rb, da, db, hk, rfl, hda, hdb, y, i⟩ := hrel
    by_cases hkn : k < n
    · obtain ⟨b0, o0, rfl, hbB, ⟨c0, c1, c2, c3⟩, hrd⟩ := HH.out.2 k hkn
      have ba := alloc_below wr (.cells (box (qs k).wh (qs k).bu (qs k).fr (qs k).A (qs k).n (qs k).c) 25)
      have bx := heap_alloc_new wr (.cells (box (qs k).wh (qs k).bu (qs k).fr (qs k).A (qs k).n (qs k).c) 25)
      replace c0 := (y.k.b.cell hbB).trans c0
      replace c1 := (y.k.b.cell hbB).trans c1
      replace c2 := (y.k.b.cell hbB).trans c2
      replace c3 := (y.k.b.cell hbB).trans c3
      replace hrd := (hrd.below y.k.b (Nat.le_refl _)).below ba y.k.b.size
      replace y := y.step ba
      have hq1 := hrd.cap
      have hq2 := hrd.max
      have hq3 := HX.out k hkn
      have hxs := hrd.len
      have hw0 := y.k.b.size
      generalize (qs k).wh = wh at *
      generalize (qs k).bu = bu at *
      generalize (qs k).fr = fr at *
      generalize (qs k).n = nk at *
      generalize (qs k).c = ck at *
      generalize (qs k).A = Ak at *
      generalize (qs k).xs = xs at *
      have Y := Lib.hid y
      have I := Lib.hid i
      have RR := Lib.hid hrd
      clear y i hrd
      by_cases hbu : (bu.tmod 2 != 0) = true
      · skip
        by_cases h0 : wh = 0
        · subst h0
          have y := Y.out.swap
          have i := I.out.swap
          clear Y I
          have Ow := Lib.hid (own_any Ak nk ck _ xs _ RR.out hw0 (by omega))
          go_wp2_with fail
          refine Ow.out.mono ?_
          rintro ev w6 ⟨A6, n6, c6, rfl, o6, hb6⟩
          obtain rfl : nk = n6 := by rw [← o6.len, ← hxs]
          replace y := y.step hb6
          clear Ow hb6 c0 c1 c2 c3 bx ba
          have Pt := Lib.hid (kPut y.k (by omega) o6.rd (Nat.le_refl _))
          have i2 := i.put 3 xs
          rw [hxs] at i2
          have hdr := drp_le (ptE L Rb 3 2 nk) db
          clear i o6
          generalize ptL L Rb 3 2 xs = L3 at *
          generalize ptR L Rb 3 2 nk = R3 at *
          generalize ptE L Rb 3 2 nk = E at *
          generalize drp E db = d3 at *
          go_wp2_with fail
          refine Pt.out.mono ?_
          rintro ev w7 ⟨rfl, k7, h7⟩
          replace y := y.turn k7 h7
          clear Pt k7 h7
          replace y := y.swap
          replace i2 := i2.swap
          obtain ⟨Aa, hAa⟩ : ∃ Aa, Ra = Aa := ⟨_, rfl⟩
          obtain ⟨Ab, hAb⟩ : ∃ Ab, R3 = Ab := ⟨_, rfl⟩
          obtain ⟨L2, hL2⟩ : ∃ L2, L3 = L2 := ⟨_, rfl⟩
          obtain ⟨ea, hea⟩ : ∃ ea, da = ea := ⟨_, rfl⟩
          obtain ⟨eb, heb⟩ : ∃ eb, d3 = eb := ⟨_, rfl⟩
          have hda2 : ea ≤ k + 1 := by rw [← hea]; omega
          have hdb2 : eb ≤ k + 1 := by rw [← heb]; omega
          rw [hAa, hAb, hL2, hea, heb] at y
          rw [hAa, hAb, hL2] at i2
          clear hAa hAb hL2 hea heb
          have hla : Aa.length ≤ 8 := y.k.rg.le
          have hlb : Ab.length ≤ 3 := y.r.le
          have hml := Lib.hid i2
          clear i2
          go_wp2_with (first
            | (go_at_call 28; with_reducible refine (tHeld y hml.out).mono ?_; rintro ev u1 ⟨A1, c1, rfl, y2⟩; clear y; have y := y2; clear y2)
            | (go_at_call 28; with_reducible refine (tHeld' y hml.out).mono ?_; rintro ev u2 ⟨A2, c2, rfl, y2⟩; clear y; have y := y2; clear y2)
            | (go_at_call 28; with_reducible refine (tHeld3 y hml.out).mono ?_; rintro ev u3 ⟨A3, c3, rfl, y2⟩; clear y; have y := y2; clear y2)
            | (go_at_call 25; with_reducible refine (tLeft y hml.out).mono ?_; rintro ev u4 ⟨lf, rfl, hlf, y2⟩; clear y; have y := y2; clear y2)
            | (go_at_call 23; with_reducible refine (tLen y).mono ?_; rintro ev u5 ⟨rfl, rfl⟩)
            | (go_at_call 23; with_reducible refine (tLen' y).mono ?_; rintro ev u6 ⟨rfl, rfl⟩))
          go_roundw
          case rel => exact ⟨k + 1, L2, Aa, Ab, ea, eb, by omega, by go_num, hda2, hdb2, y, hml.out⟩
          case measure => simp [intOf]; omega
        by_cases h1 : wh = 1
        · subst h1
          by_cases hE0 : tkE L 3 nk = 0
          · by_cases hf : Rb.length < 3
            · skip
              have y := Y.out.swap
              have i := I.out.swap
              clear Y I
              have Ow := Lib.hid (own_any Ak nk ck _ xs _ RR.out hw0 (by omega))
              go_wp2_with fail
              refine Ow.out.mono ?_
              rintro ev w6 ⟨A6, n6, c6, rfl, o6, hb6⟩
              obtain rfl : nk = n6 := by rw [← o6.len, ← hxs]
              replace y := y.step hb6
              clear Ow hb6 c0 c1 c2 c3 bx ba
              have Tk := Lib.hid (kPTake y.k 3 o6.rd (Nat.le_refl _))
              have hE : tkE L 3 nk = 0 := hE0
              have hl := (tkE_of hE).2.2
              have h0 := free1_ow L hl
              rw [tkN_yes hE, hE, tkL_yes (by rw [hxs]; exact hE)] at Tk
              obtain ⟨hin, hfu⟩ := i.hand hl h0 xs 3
              clear hE0 hE o6
              generalize free1 L = v at *
              obtain ⟨e1, i2⟩ := hin hf
              clear hin hfu i hl h0 hf
              generalize L.set v (3, xs) = M at *
              go_wp2_with fail
              refine Tk.out.mono ?_
              rintro ev w7 ⟨rfl, k7, h7⟩
              replace y := y.turn k7 (h7.mono (fun _ _ e => .inl e))
              have Mv := Lib.hid (kMove y.k (by omega) (v : Int) 3)
              rw [e1, drp_ok] at Mv
              clear Tk k7 h7 e1
              generalize mvL M Rb 3 2 (v : Int) 3 = L3 at *
              generalize mvR M Rb 3 2 (v : Int) 3 = R3 at *
              go_wp2_with fail
              refine Mv.out.mono ?_
              rintro ev w8 ⟨rfl, k8, h8⟩
              replace y := y.turn k8 h8
              clear Mv k8 h8
              replace y := y.swap
              replace i2 := i2.swap
              obtain ⟨Aa, hAa⟩ : ∃ Aa, Ra = Aa := ⟨_, rfl⟩
              obtain ⟨Ab, hAb⟩ : ∃ Ab, R3 = Ab := ⟨_, rfl⟩
              obtain ⟨L2, hL2⟩ : ∃ L2, L3 = L2 := ⟨_, rfl⟩
              obtain ⟨ea, hea⟩ : ∃ ea, da = ea := ⟨_, rfl⟩
              obtain ⟨eb, heb⟩ : ∃ eb, db = eb := ⟨_, rfl⟩
              have hda2 : ea ≤ k + 1 := by rw [← hea]; omega
              have hdb2 : eb ≤ k + 1 := by rw [← heb]; omega
              rw [hAa, hAb, hL2, hea, heb] at y
              rw [hAa, hAb, hL2] at i2
              clear hAa hAb hL2 hea heb
              have hla : Aa.length ≤ 8 := y.k.rg.le
              have hlb : Ab.length ≤ 3 := y.r.le
              have hml := Lib.hid i2
              clear i2
              go_wp2_with (first
                | (go_at_call 28; with_reducible refine (tHeld y hml.out).mono ?_; rintro ev u1 ⟨A1, c1, rfl, y2⟩; clear y; have y := y2; clear y2)
                | (go_at_call 28; with_reducible refine (tHeld' y hml.out).mono ?_; rintro ev u2 ⟨A2, c2, rfl, y2⟩; clear y; have y := y2; clear y2)
                | (go_at_call 28; with_reducible refine (tHeld3 y hml.out).mono ?_; rintro ev u3 ⟨A3, c3, rfl, y2⟩; clear y; have y := y2; clear y2)
                | (go_at_call 25; with_reducible refine (tLeft y hml.out).mono ?_; rintro ev u4 ⟨lf, rfl, hlf, y2⟩; clear y; have y := y2; clear y2)
                | (go_at_call 23; with_reducible refine (tLen y).mono ?_; rintro ev u5 ⟨rfl, rfl⟩)
                | (go_at_call 23; with_reducible refine (tLen' y).mono ?_; rintro ev u6 ⟨rfl, rfl⟩))
              go_roundw
              case rel => exact ⟨k + 1, L2, Aa, Ab, ea, eb, by omega, by go_num, hda2, hdb2, y, hml.out⟩
              case measure => simp [intOf]; omega
            · skip
              have y := Y.out.swap
              have i := I.out.swap
              clear Y I
              have Ow := Lib.hid (own_any Ak nk ck _ xs _ RR.out hw0 (by omega))
              go_wp2_with fail
              refine Ow.out.mono ?_
              rintro ev w6 ⟨A6, n6, c6, rfl, o6, hb6⟩
              obtain rfl : nk = n6 := by rw [← o6.len, ← hxs]
              replace y := y.step hb6
              clear Ow hb6 c0 c1 c2 c3 bx ba
              have Tk := Lib.hid (kPTake y.k 3 o6.rd (Nat.le_refl _))
              have hE : tkE L 3 nk = 0 := hE0
              have hl := (tkE_of hE).2.2
              have h0 := free1_ow L hl
              rw [tkN_yes hE, hE, tkL_yes (by rw [hxs]; exact hE)] at Tk
              obtain ⟨hin, hfu⟩ := i.hand hl h0 xs 3
              clear hE0 hE o6
              generalize free1 L = v at *
              obtain ⟨e1, e2, e3, e4, i2⟩ := hfu hf
              clear hin hfu i hl h0 hf
              generalize L.set v (3, xs) = M at *
              go_wp2_with fail
              refine Tk.out.mono ?_
              rintro ev w7 ⟨rfl, k7, h7⟩
              replace y := y.turn k7 (h7.mono (fun _ _ e => .inl e))
              have Mv := Lib.hid (kMove y.k (by omega) (v : Int) 3)
              rw [e1, e2, e3, drp_no (by decide)] at Mv
              clear Tk k7 h7 e1 e2 e3
              go_wp2_with fail
              refine Mv.out.mono ?_
              rintro ev w8 ⟨rfl, k8, h8⟩
              replace y := y.turn k8 h8
              have Fr := Lib.hid (kPFree y.k (v : Int) 3)
              rw [e4] at Fr
              clear Mv k8 h8 e4
              generalize frL M (v : Int) 3 = L3 at *
              go_wp2_with fail
              refine Fr.out.mono ?_
              rintro ev w9 ⟨rfl, k9, h9⟩
              replace y := y.turn k9 (h9.mono (fun _ _ e => .inl e))
              clear Fr k9 h9
              replace y := y.swap
              replace i2 := i2.swap
              obtain ⟨Aa, hAa⟩ : ∃ Aa, Ra = Aa := ⟨_, rfl⟩
              obtain ⟨Ab, hAb⟩ : ∃ Ab, Rb = Ab := ⟨_, rfl⟩
              obtain ⟨L2, hL2⟩ : ∃ L2, L3 = L2 := ⟨_, rfl⟩
              obtain ⟨ea, hea⟩ : ∃ ea, da = ea := ⟨_, rfl⟩
              obtain ⟨eb, heb⟩ : ∃ eb, (db + 1) = eb := ⟨_, rfl⟩
              have hda2 : ea ≤ k + 1 := by rw [← hea]; omega
              have hdb2 : eb ≤ k + 1 := by rw [← heb]; omega
              rw [hAa, hAb, hL2, hea, heb] at y
              rw [hAa, hAb, hL2] at i2
              clear hAa hAb hL2 hea heb
              have hla : Aa.length ≤ 8 := y.k.rg.le
              have hlb : Ab.length ≤ 3 := y.r.le
              have hml := Lib.hid i2
              clear i2
              go_wp2_with (first
                | (go_at_call 28; with_reducible refine (tHeld y hml.out).mono ?_; rintro ev u1 ⟨A1, c1, rfl, y2⟩; clear y; have y := y2; clear y2)
                | (go_at_call 28; with_reducible refine (tHeld' y hml.out).mono ?_; rintro ev u2 ⟨A2, c2, rfl, y2⟩; clear y; have y := y2; clear y2)
                | (go_at_call 28; with_reducible refine (tHeld3 y hml.out).mono ?_; rintro ev u3 ⟨A3, c3, rfl, y2⟩; clear y; have y := y2; clear y2)
                | (go_at_call 25; with_reducible refine (tLeft y hml.out).mono ?_; rintro ev u4 ⟨lf, rfl, hlf, y2⟩; clear y; have y := y2; clear y2)
                | (go_at_call 23; with_reducible refine (tLen y).mono ?_; rintro ev u5 ⟨rfl, rfl⟩)
                | (go_at_call 23; with_reducible refine (tLen' y).mono ?_; rintro ev u6 ⟨rfl, rfl⟩))
              go_roundw
              case rel => exact ⟨k + 1, L2, Aa, Ab, ea, eb, by omega, by go_num, hda2, hdb2, y, hml.out⟩
              case measure => simp [intOf]; omega
          · skip
            have y := Y.out.swap
            have i := I.out.swap
            clear Y I
            have Ow := Lib.hid (own_any Ak nk ck _ xs _ RR.out hw0 (by omega))
            go_wp2_with fail
            refine Ow.out.mono ?_
            rintro ev w6 ⟨A6, n6, c6, rfl, o6, hb6⟩
            obtain rfl : nk = n6 := by rw [← o6.len, ← hxs]
            replace y := y.step hb6
            clear Ow hb6 c0 c1 c2 c3 bx ba
            have Tk := Lib.hid (kPTake y.k 3 o6.rd (Nat.le_refl _))
            have hE : ¬ tkE L 3 nk = 0 := hE0
            have hE2 : (tkE L 3 nk == 0) = false := by simpa using hE
            rw [tkN_no hE, tkL_no (by rw [hxs]; exact hE)] at Tk
            have i2 := i
            clear i o6 hE hE0
            generalize tkE L 3 nk = E at *
            go_wp2_with fail
            refine Tk.out.mono ?_
            rintro ev w7 ⟨rfl, k7, h7⟩
            replace y := y.turn k7 (h7.mono (fun _ _ e => .inl e))
            clear Tk k7 h7
            replace y := y.swap
            replace i2 := i2.swap
            obtain ⟨Aa, hAa⟩ : ∃ Aa, Ra = Aa := ⟨_, rfl⟩
            obtain ⟨Ab, hAb⟩ : ∃ Ab, Rb = Ab := ⟨_, rfl⟩
            obtain ⟨L2, hL2⟩ : ∃ L2, L = L2 := ⟨_, rfl⟩
            obtain ⟨ea, hea⟩ : ∃ ea, da = ea := ⟨_, rfl⟩
            obtain ⟨eb, heb⟩ : ∃ eb, db = eb := ⟨_, rfl⟩
            have hda2 : ea ≤ k + 1 := by rw [← hea]; omega
            have hdb2 : eb ≤ k + 1 := by rw [← heb]; omega
            rw [hAa, hAb, hL2, hea, heb] at y
            rw [hAa, hAb, hL2] at i2
            clear hAa hAb hL2 hea heb
            have hla : Aa.length ≤ 8 := y.k.rg.le
            have hlb : Ab.length ≤ 3 := y.r.le
            have hml := Lib.hid i2
            clear i2
            go_wp2_with (first
              | (go_at_call 28; with_reducible refine (tHeld y hml.out).mono ?_; rintro ev u1 ⟨A1, c1, rfl, y2⟩; clear y; have y := y2; clear y2)
              | (go_at_call 28; with_reducible refine (tHeld' y hml.out).mono ?_; rintro ev u2 ⟨A2, c2, rfl, y2⟩; clear y; have y := y2; clear y2)
              | (go_at_call 28; with_reducible refine (tHeld3 y hml.out).mono ?_; rintro ev u3 ⟨A3, c3, rfl, y2⟩; clear y; have y := y2; clear y2)
              | (go_at_call 25; with_reducible refine (tLeft y hml.out).mono ?_; rintro ev u4 ⟨lf, rfl, hlf, y2⟩; clear y; have y := y2; clear y2)
              | (go_at_call 23; with_reducible refine (tLen y).mono ?_; rintro ev u5 ⟨rfl, rfl⟩)
              | (go_at_call 23; with_reducible refine (tLen' y).mono ?_; rintro ev u6 ⟨rfl, rfl⟩))
            go_roundw
            case rel => exact ⟨k + 1, L2, Aa, Ab, ea, eb, by omega, by go_num, hda2, hdb2, y, hml.out⟩
            case measure => simp [intOf]; omega
        by_cases h3 : wh = 3
        · subst h3
          by_cases hE0 : tkE L 3 nk = 0
          · by_cases hf : Rb.length < 3
            · skip
              have y := Y.out.swap
              have i := I.out.swap
              clear Y I
              have Ow := Lib.hid (own_any Ak nk ck _ xs _ RR.out hw0 (by omega))
              go_wp2_with fail
              refine Ow.out.mono ?_
              rintro ev w6 ⟨A6, n6, c6, rfl, o6, hb6⟩
              obtain rfl : nk = n6 := by rw [← o6.len, ← hxs]
              replace y := y.step hb6
              clear Ow hb6 c0 c1 c2 c3 bx ba
              have Tk := Lib.hid (kPTake y.k 3 o6.rd (Nat.le_refl _))
              have hE : tkE L 3 nk = 0 := hE0
              have hl := (tkE_of hE).2.2
              have h0 := free1_ow L hl
              rw [tkN_yes hE, hE, tkL_yes (by rw [hxs]; exact hE)] at Tk
              obtain ⟨hin, hfu⟩ := i.hand hl h0 xs 3
              clear hE0 hE o6
              generalize free1 L = v at *
              obtain ⟨e1, i2⟩ := hin hf
              clear hin hfu i hl h0 hf
              generalize L.set v (3, xs) = M at *
              go_wp2_with fail
              refine Tk.out.mono ?_
              rintro ev w7 ⟨rfl, k7, h7⟩
              replace y := y.turn k7 (h7.mono (fun _ _ e => .inl e))
              have Mv := Lib.hid (kMove y.k (by omega) (v : Int) 3)
              rw [e1, drp_ok] at Mv
              clear Tk k7 h7 e1
              generalize mvL M Rb 3 2 (v : Int) 3 = L3 at *
              generalize mvR M Rb 3 2 (v : Int) 3 = R3 at *
              go_wp2_with fail
              refine Mv.out.mono ?_
              rintro ev w8 ⟨rfl, k8, h8⟩
              replace y := y.turn k8 h8
              clear Mv k8 h8
              replace y := y.swap
              replace i2 := i2.swap
              obtain ⟨Aa, hAa⟩ : ∃ Aa, Ra = Aa := ⟨_, rfl⟩
              obtain ⟨Ab, hAb⟩ : ∃ Ab, R3 = Ab := ⟨_, rfl⟩
              obtain ⟨L2, hL2⟩ : ∃ L2, L3 = L2 := ⟨_, rfl⟩
              obtain ⟨ea, hea⟩ : ∃ ea, da = ea := ⟨_, rfl⟩
              obtain ⟨eb, heb⟩ : ∃ eb, db = eb := ⟨_, rfl⟩
              have hda2 : ea ≤ k + 1 := by rw [← hea]; omega
              have hdb2 : eb ≤ k + 1 := by rw [← heb]; omega
              rw [hAa, hAb, hL2, hea, heb] at y
              rw [hAa, hAb, hL2] at i2
              clear hAa hAb hL2 hea heb
              have hla : Aa.length ≤ 8 := y.k.rg.le
              have hlb : Ab.length ≤ 3 := y.r.le
              have hml := Lib.hid i2
              clear i2
              go_wp2_with (first
                | (go_at_call 28; with_reducible refine (tHeld y hml.out).mono ?_; rintro ev u1 ⟨A1, c1, rfl, y2⟩; clear y; have y := y2; clear y2)
                | (go_at_call 28; with_reducible refine (tHeld' y hml.out).mono ?_; rintro ev u2 ⟨A2, c2, rfl, y2⟩; clear y; have y := y2; clear y2)
                | (go_at_call 28; with_reducible refine (tHeld3 y hml.out).mono ?_; rintro ev u3 ⟨A3, c3, rfl, y2⟩; clear y; have y := y2; clear y2)
                | (go_at_call 25; with_reducible refine (tLeft y hml.out).mono ?_; rintro ev u4 ⟨lf, rfl, hlf, y2⟩; clear y; have y := y2; clear y2)
                | (go_at_call 23; with_reducible refine (tLen y).mono ?_; rintro ev u5 ⟨rfl, rfl⟩)
                | (go_at_call 23; with_reducible refine (tLen' y).mono ?_; rintro ev u6 ⟨rfl, rfl⟩))
              go_roundw
              case rel => exact ⟨k + 1, L2, Aa, Ab, ea, eb, by omega, by go_num, hda2, hdb2, y, hml.out⟩
              case measure => simp [intOf]; omega
            · skip
              have y := Y.out.swap
              have i := I.out.swap
              clear Y I
              have Ow := Lib.hid (own_any Ak nk ck _ xs _ RR.out hw0 (by omega))
              go_wp2_with fail
              refine Ow.out.mono ?_
              rintro ev w6 ⟨A6, n6, c6, rfl, o6, hb6⟩
              obtain rfl : nk = n6 := by rw [← o6.len, ← hxs]
              replace y := y.step hb6
              clear Ow hb6 c0 c1 c2 c3 bx ba
              have Tk := Lib.hid (kPTake y.k 3 o6.rd (Nat.le_refl _))
              have hE : tkE L 3 nk = 0 := hE0
              have hl := (tkE_of hE).2.2
              have h0 := free1_ow L hl
              rw [tkN_yes hE, hE, tkL_yes (by rw [hxs]; exact hE)] at Tk
              obtain ⟨hin, hfu⟩ := i.hand hl h0 xs 3
              clear hE0 hE o6
              generalize free1 L = v at *
              obtain ⟨e1, e2, e3, e4, i2⟩ := hfu hf
              clear hin hfu i hl h0 hf
              generalize L.set v (3, xs) = M at *
              go_wp2_with fail
              refine Tk.out.mono ?_
              rintro ev w7 ⟨rfl, k7, h7⟩
              replace y := y.turn k7 (h7.mono (fun _ _ e => .inl e))
              have Mv := Lib.hid (kMove y.k (by omega) (v : Int) 3)
              rw [e1, e2, e3, drp_no (by decide)] at Mv
              clear Tk k7 h7 e1 e2 e3
              go_wp2_with fail
              refine Mv.out.mono ?_
              rintro ev w8 ⟨rfl, k8, h8⟩
              replace y := y.turn k8 h8
              have Fr := Lib.hid (kPFree y.k (v : Int) 3)
              rw [e4] at Fr
              clear Mv k8 h8 e4
              generalize frL M (v : Int) 3 = L3 at *
              go_wp2_with fail
              refine Fr.out.mono ?_
              rintro ev w9 ⟨rfl, k9, h9⟩
              replace y := y.turn k9 (h9.mono (fun _ _ e => .inl e))
              clear Fr k9 h9
              replace y := y.swap
              replace i2 := i2.swap
              obtain ⟨Aa, hAa⟩ : ∃ Aa, Ra = Aa := ⟨_, rfl⟩
              obtain ⟨Ab, hAb⟩ : ∃ Ab, Rb = Ab := ⟨_, rfl⟩
              obtain ⟨L2, hL2⟩ : ∃ L2, L3 = L2 := ⟨_, rfl⟩
              obtain ⟨ea, hea⟩ : ∃ ea, da = ea := ⟨_, rfl⟩
              obtain ⟨eb, heb⟩ : ∃ eb, (db + 1) = eb := ⟨_, rfl⟩
              have hda2 : ea ≤ k + 1 := by rw [← hea]; omega
              have hdb2 : eb ≤ k + 1 := by rw [← heb]; omega
              rw [hAa, hAb, hL2, hea, heb] at y
              rw [hAa, hAb, hL2] at i2
              clear hAa hAb hL2 hea heb
              have hla : Aa.length ≤ 8 := y.k.rg.le
              have hlb : Ab.length ≤ 3 := y.r.le
              have hml := Lib.hid i2
              clear i2
              go_wp2_with (first
                | (go_at_call 28; with_reducible refine (tHeld y hml.out).mono ?_; rintro ev u1 ⟨A1, c1, rfl, y2⟩; clear y; have y := y2; clear y2)
                | (go_at_call 28; with_reducible refine (tHeld' y hml.out).mono ?_; rintro ev u2 ⟨A2, c2, rfl, y2⟩; clear y; have y := y2; clear y2)
                | (go_at_call 28; with_reducible refine (tHeld3 y hml.out).mono ?_; rintro ev u3 ⟨A3, c3, rfl, y2⟩; clear y; have y := y2; clear y2)
                | (go_at_call 25; with_reducible refine (tLeft y hml.out).mono ?_; rintro ev u4 ⟨lf, rfl, hlf, y2⟩; clear y; have y := y2; clear y2)
                | (go_at_call 23; with_reducible refine (tLen y).mono ?_; rintro ev u5 ⟨rfl, rfl⟩)
                | (go_at_call 23; with_reducible refine (tLen' y).mono ?_; rintro ev u6 ⟨rfl, rfl⟩))
              go_roundw
              case rel => exact ⟨k + 1, L2, Aa, Ab, ea, eb, by omega, by go_num, hda2, hdb2, y, hml.out⟩
              case measure => simp [intOf]; omega
          · skip
            have y := Y.out.swap
            have i := I.out.swap
            clear Y I
            have Ow := Lib.hid (own_any Ak nk ck _ xs _ RR.out hw0 (by omega))
            go_wp2_with fail
            refine Ow.out.mono ?_
            rintro ev w6 ⟨A6, n6, c6, rfl, o6, hb6⟩
            obtain rfl : nk = n6 := by rw [← o6.len, ← hxs]
            replace y := y.step hb6
            clear Ow hb6 c0 c1 c2 c3 bx ba
            have Tk := Lib.hid (kPTake y.k 3 o6.rd (Nat.le_refl _))
            have hE : ¬ tkE L 3 nk = 0 := hE0
            have hE2 : (tkE L 3 nk == 0) = false := by simpa using hE
            rw [tkN_no hE, tkL_no (by rw [hxs]; exact hE)] at Tk
            have i2 := i
            clear i o6 hE hE0
            generalize tkE L 3 nk = E at *
            go_wp2_with fail
            refine Tk.out.mono ?_
            rintro ev w7 ⟨rfl, k7, h7⟩
            replace y := y.turn k7 (h7.mono (fun _ _ e => .inl e))
            clear Tk k7 h7
            replace y := y.swap
            replace i2 := i2.swap
            obtain ⟨Aa, hAa⟩ : ∃ Aa, Ra = Aa := ⟨_, rfl⟩
            obtain ⟨Ab, hAb⟩ : ∃ Ab, Rb = Ab := ⟨_, rfl⟩
            obtain ⟨L2, hL2⟩ : ∃ L2, L = L2 := ⟨_, rfl⟩
            obtain ⟨ea, hea⟩ : ∃ ea, da = ea := ⟨_, rfl⟩
            obtain ⟨eb, heb⟩ : ∃ eb, db = eb := ⟨_, rfl⟩
            have hda2 : ea ≤ k + 1 := by rw [← hea]; omega
            have hdb2 : eb ≤ k + 1 := by rw [← heb]; omega
            rw [hAa, hAb, hL2, hea, heb] at y
            rw [hAa, hAb, hL2] at i2
            clear hAa hAb hL2 hea heb
            have hla : Aa.length ≤ 8 := y.k.rg.le
            have hlb : Ab.length ≤ 3 := y.r.le
            have hml := Lib.hid i2
            clear i2
            go_wp2_with (first
              | (go_at_call 28; with_reducible refine (tHeld y hml.out).mono ?_; rintro ev u1 ⟨A1, c1, rfl, y2⟩; clear y; have y := y2; clear y2)
              | (go_at_call 28; with_reducible refine (tHeld' y hml.out).mono ?_; rintro ev u2 ⟨A2, c2, rfl, y2⟩; clear y; have y := y2; clear y2)
              | (go_at_call 28; with_reducible refine (tHeld3 y hml.out).mono ?_; rintro ev u3 ⟨A3, c3, rfl, y2⟩; clear y; have y := y2; clear y2)
              | (go_at_call 25; with_reducible refine (tLeft y hml.out).mono ?_; rintro ev u4 ⟨lf, rfl, hlf, y2⟩; clear y; have y := y2; clear y2)
              | (go_at_call 23; with_reducible refine (tLen y).mono ?_; rintro ev u5 ⟨rfl, rfl⟩)
              | (go_at_call 23; with_reducible refine (tLen' y).mono ?_; rintro ev u6 ⟨rfl, rfl⟩))
            go_roundw
            case rel => exact ⟨k + 1, L2, Aa, Ab, ea, eb, by omega, by go_num, hda2, hdb2, y, hml.out⟩
            case measure => simp [intOf]; omega
        by_cases h2 : wh = 2
        · subst h2
          cases Rb with
          | nil =>
            have y := Y.out.swap
            have i := I.out.swap
            clear Y I
            clear RR
            have Tk := Lib.hid (kTake0 y.k)
            have i2 := i
            clear i
            go_wp2_with fail
            refine Tk.out.mono ?_
            rintro ev w7 ⟨rfl, rfl⟩
            clear Tk c0 c1 c2 c3 bx ba
            replace y := y.swap
            replace i2 := i2.swap
            obtain ⟨Aa, hAa⟩ : ∃ Aa, Ra = Aa := ⟨_, rfl⟩
            obtain ⟨Ab, hAb⟩ : ∃ Ab, ([] : List Nat) = Ab := ⟨_, rfl⟩
            obtain ⟨L2, hL2⟩ : ∃ L2, L = L2 := ⟨_, rfl⟩
            obtain ⟨ea, hea⟩ : ∃ ea, da = ea := ⟨_, rfl⟩
            obtain ⟨eb, heb⟩ : ∃ eb, db = eb := ⟨_, rfl⟩
            have hda2 : ea ≤ k + 1 := by rw [← hea]; omega
            have hdb2 : eb ≤ k + 1 := by rw [← heb]; omega
            rw [hAa, hAb, hL2, hea, heb] at y
            rw [hAa, hAb, hL2] at i2
            clear hAa hAb hL2 hea heb
            have hla : Aa.length ≤ 8 := y.k.rg.le
            have hlb : Ab.length ≤ 3 := y.r.le
            have hml := Lib.hid i2
            clear i2
            go_wp2_with (first
              | (go_at_call 28; with_reducible refine (tHeld y hml.out).mono ?_; rintro ev u1 ⟨A1, c1, rfl, y2⟩; clear y; have y := y2; clear y2)
              | (go_at_call 28; with_reducible refine (tHeld' y hml.out).mono ?_; rintro ev u2 ⟨A2, c2, rfl, y2⟩; clear y; have y := y2; clear y2)
              | (go_at_call 28; with_reducible refine (tHeld3 y hml.out).mono ?_; rintro ev u3 ⟨A3, c3, rfl, y2⟩; clear y; have y := y2; clear y2)
              | (go_at_call 25; with_reducible refine (tLeft y hml.out).mono ?_; rintro ev u4 ⟨lf, rfl, hlf, y2⟩; clear y; have y := y2; clear y2)
              | (go_at_call 23; with_reducible refine (tLen y).mono ?_; rintro ev u5 ⟨rfl, rfl⟩)
              | (go_at_call 23; with_reducible refine (tLen' y).mono ?_; rintro ev u6 ⟨rfl, rfl⟩))
            go_roundw
            case rel => exact ⟨k + 1, L2, Aa, Ab, ea, eb, by omega, by go_num, hda2, hdb2, y, hml.out⟩
            case measure => simp [intOf]; omega
          | cons v T =>
            have y := Y.out.swap
            have i := I.out.swap
            clear Y I
            clear RR
            obtain ⟨e1, i2⟩ := i.pop
            have Tk := Lib.hid (kTake1 y.k (i.i.lt v (.head _)))
            rw [e1] at Tk
            clear i e1
            generalize L.set v (0, []) = L3 at *
            go_wp2_with fail
            refine Tk.out.mono ?_
            rintro ev w7 ⟨A7, n7, c7, rfl, -, k7, h7⟩
            replace y := y.turn k7 h7
            clear Tk k7 h7 c0 c1 c2 c3 bx ba
            replace y := y.swap
            replace i2 := i2.swap
            obtain ⟨Aa, hAa⟩ : ∃ Aa, Ra = Aa := ⟨_, rfl⟩
            obtain ⟨Ab, hAb⟩ : ∃ Ab, T = Ab := ⟨_, rfl⟩
            obtain ⟨L2, hL2⟩ : ∃ L2, L3 = L2 := ⟨_, rfl⟩
            obtain ⟨ea, hea⟩ : ∃ ea, da = ea := ⟨_, rfl⟩
            obtain ⟨eb, heb⟩ : ∃ eb, db = eb := ⟨_, rfl⟩
            have hda2 : ea ≤ k + 1 := by rw [← hea]; omega
            have hdb2 : eb ≤ k + 1 := by rw [← heb]; omega
            rw [hAa, hAb, hL2, hea, heb] at y
            rw [hAa, hAb, hL2] at i2
            clear hAa hAb hL2 hea heb
            have hla : Aa.length ≤ 8 := y.k.rg.le
            have hlb : Ab.length ≤ 3 := y.r.le
            have hml := Lib.hid i2
            clear i2
            go_wp2_with (first
              | (go_at_call 28; with_reducible refine (tHeld y hml.out).mono ?_; rintro ev u1 ⟨A1, c1, rfl, y2⟩; clear y; have y := y2; clear y2)
              | (go_at_call 28; with_reducible refine (tHeld' y hml.out).mono ?_; rintro ev u2 ⟨A2, c2, rfl, y2⟩; clear y; have y := y2; clear y2)
              | (go_at_call 28; with_reducible refine (tHeld3 y hml.out).mono ?_; rintro ev u3 ⟨A3, c3, rfl, y2⟩; clear y; have y := y2; clear y2)
              | (go_at_call 25; with_reducible refine (tLeft y hml.out).mono ?_; rintro ev u4 ⟨lf, rfl, hlf, y2⟩; clear y; have y := y2; clear y2)
              | (go_at_call 23; with_reducible refine (tLen y).mono ?_; rintro ev u5 ⟨rfl, rfl⟩)
              | (go_at_call 23; with_reducible refine (tLen' y).mono ?_; rintro ev u6 ⟨rfl, rfl⟩))
            go_roundw
            case rel => exact ⟨k + 1, L2, Aa, Ab, ea, eb, by omega, by go_num, hda2, hdb2, y, hml.out⟩
            case measure => simp [intOf]; omega
        have g0 : (wh == 0) = false := by simpa using h0
        have g1 : (wh == 1) = false := by simpa using h1
        have g2 : (wh == 2) = false := by simpa using h2
        have g3 : (wh == 3) = false := by simpa using h3
        clear h0 h1 h2 h3
        have y := Y.out.swap
        have i := I.out.swap
        clear Y I
        have i2 := i
        clear RR i
        replace y := y.swap
        replace i2 := i2.swap
        obtain ⟨Aa, hAa⟩ : ∃ Aa, Ra = Aa := ⟨_, rfl⟩
        obtain ⟨Ab, hAb⟩ : ∃ Ab, Rb = Ab := ⟨_, rfl⟩
        obtain ⟨L2, hL2⟩ : ∃ L2, L = L2 := ⟨_, rfl⟩
        obtain ⟨ea, hea⟩ : ∃ ea, da = ea := ⟨_, rfl⟩
        obtain ⟨eb, heb⟩ : ∃ eb, db = eb := ⟨_, rfl⟩
        have hda2 : ea ≤ k + 1 := by rw [← hea]; omega
        have hdb2 : eb ≤ k + 1 := by rw [← heb]; omega
        rw [hAa, hAb, hL2, hea, heb] at y
        rw [hAa, hAb, hL2] at i2
        clear hAa hAb hL2 hea heb
        have hla : Aa.length ≤ 8 := y.k.rg.le
        have hlb : Ab.length ≤ 3 := y.r.le
        have hml := Lib.hid i2
        clear i2
        go_wp2_with (first
          | (go_at_call 28; with_reducible refine (tHeld y hml.out).mono ?_; rintro ev u1 ⟨A1, c1, rfl, y2⟩; clear y; have y := y2; clear y2)
          | (go_at_call 28; with_reducible refine (tHeld' y hml.out).mono ?_; rintro ev u2 ⟨A2, c2, rfl, y2⟩; clear y; have y := y2; clear y2)
          | (go_at_call 28; with_reducible refine (tHeld3 y hml.out).mono ?_; rintro ev u3 ⟨A3, c3, rfl, y2⟩; clear y; have y := y2; clear y2)
          | (go_at_call 25; with_reducible refine (tLeft y hml.out).mono ?_; rintro ev u4 ⟨lf, rfl, hlf, y2⟩; clear y; have y := y2; clear y2)
          | (go_at_call 23; with_reducible refine (tLen y).mono ?_; rintro ev u5 ⟨rfl, rfl⟩)
          | (go_at_call 23; with_reducible refine (tLen' y).mono ?_; rintro ev u6 ⟨rfl, rfl⟩))
        go_roundw
        case rel => exact ⟨k + 1, L2, Aa, Ab, ea, eb, by omega, by go_num, hda2, hdb2, y, hml.out⟩
        case measure => simp [intOf]; omega
      · replace hbu : (bu.tmod 2 != 0) = false := by simpa using hbu
        by_cases h0 : wh = 0
        · subst h0
          have y := Y.out
          have i := I.out
          clear Y I
          have Ow := Lib.hid (own_any Ak nk ck _ xs _ RR.out hw0 (by omega))
          go_wp2_with fail
          refine Ow.out.mono ?_
          rintro ev w6 ⟨A6, n6, c6, rfl, o6, hb6⟩
          obtain rfl : nk = n6 := by rw [← o6.len, ← hxs]
          replace y := y.step hb6
          clear Ow hb6 c0 c1 c2 c3 bx ba
          have Pt := Lib.hid (kPut y.k (by omega) o6.rd (Nat.le_refl _))
          have i2 := i.put 8 xs
          rw [hxs] at i2
          have hdr := drp_le (ptE L Ra 8 1 nk) da
          clear i o6
          generalize ptL L Ra 8 1 xs = L3 at *
          generalize ptR L Ra 8 1 nk = R3 at *
          generalize ptE L Ra 8 1 nk = E at *
          generalize drp E da = d3 at *
          go_wp2_with fail
          refine Pt.out.mono ?_
          rintro ev w7 ⟨rfl, k7, h7⟩
          replace y := y.turn k7 h7
          clear Pt k7 h7
          obtain ⟨Aa, hAa⟩ : ∃ Aa, R3 = Aa := ⟨_, rfl⟩
          obtain ⟨Ab, hAb⟩ : ∃ Ab, Rb = Ab := ⟨_, rfl⟩
          obtain ⟨L2, hL2⟩ : ∃ L2, L3 = L2 := ⟨_, rfl⟩
          obtain ⟨ea, hea⟩ : ∃ ea, d3 = ea := ⟨_, rfl⟩
          obtain ⟨eb, heb⟩ : ∃ eb, db = eb := ⟨_, rfl⟩
          have hda2 : ea ≤ k + 1 := by rw [← hea]; omega
          have hdb2 : eb ≤ k + 1 := by rw [← heb]; omega
          rw [hAa, hAb, hL2, hea, heb] at y
          rw [hAa, hAb, hL2] at i2
          clear hAa hAb hL2 hea heb
          have hla : Aa.length ≤ 8 := y.k.rg.le
          have hlb : Ab.length ≤ 3 := y.r.le
          have hml := Lib.hid i2
          clear i2
          go_wp2_with (first
            | (go_at_call 28; with_reducible refine (tHeld y hml.out).mono ?_; rintro ev u1 ⟨A1, c1, rfl, y2⟩; clear y; have y := y2; clear y2)
            | (go_at_call 28; with_reducible refine (tHeld' y hml.out).mono ?_; rintro ev u2 ⟨A2, c2, rfl, y2⟩; clear y; have y := y2; clear y2)
            | (go_at_call 28; with_reducible refine (tHeld3 y hml.out).mono ?_; rintro ev u3 ⟨A3, c3, rfl, y2⟩; clear y; have y := y2; clear y2)
            | (go_at_call 25; with_reducible refine (tLeft y hml.out).mono ?_; rintro ev u4 ⟨lf, rfl, hlf, y2⟩; clear y; have y := y2; clear y2)
            | (go_at_call 23; with_reducible refine (tLen y).mono ?_; rintro ev u5 ⟨rfl, rfl⟩)
            | (go_at_call 23; with_reducible refine (tLen' y).mono ?_; rintro ev u6 ⟨rfl, rfl⟩))
          go_roundw
          case rel => exact ⟨k + 1, L2, Aa, Ab, ea, eb, by omega, by go_num, hda2, hdb2, y, hml.out⟩
          case measure => simp [intOf]; omega
        by_cases h1 : wh = 1
        · subst h1
          by_cases hE0 : tkE L 3 nk = 0
          · by_cases hf : Ra.length < 8
            · skip
              have y := Y.out
              have i := I.out
              clear Y I
              have Ow := Lib.hid (own_any Ak nk ck _ xs _ RR.out hw0 (by omega))
              go_wp2_with fail
              refine Ow.out.mono ?_
              rintro ev w6 ⟨A6, n6, c6, rfl, o6, hb6⟩
              obtain rfl : nk = n6 := by rw [← o6.len, ← hxs]
              replace y := y.step hb6
              clear Ow hb6 c0 c1 c2 c3 bx ba
              have Tk := Lib.hid (kPTake y.k 3 o6.rd (Nat.le_refl _))
              have hE : tkE L 3 nk = 0 := hE0
              have hl := (tkE_of hE).2.2
              have h0 := free1_ow L hl
              rw [tkN_yes hE, hE, tkL_yes (by rw [hxs]; exact hE)] at Tk
              obtain ⟨hin, hfu⟩ := i.hand hl h0 xs 8
              clear hE0 hE o6
              generalize free1 L = v at *
              obtain ⟨e1, i2⟩ := hin hf
              clear hin hfu i hl h0 hf
              generalize L.set v (3, xs) = M at *
              go_wp2_with fail
              refine Tk.out.mono ?_
              rintro ev w7 ⟨rfl, k7, h7⟩
              replace y := y.turn k7 (h7.mono (fun _ _ e => .inl e))
              have Mv := Lib.hid (kMove y.k (by omega) (v : Int) 3)
              rw [e1, drp_ok] at Mv
              clear Tk k7 h7 e1
              generalize mvL M Ra 8 1 (v : Int) 3 = L3 at *
              generalize mvR M Ra 8 1 (v : Int) 3 = R3 at *
              go_wp2_with fail
              refine Mv.out.mono ?_
              rintro ev w8 ⟨rfl, k8, h8⟩
              replace y := y.turn k8 h8
              clear Mv k8 h8
              obtain ⟨Aa, hAa⟩ : ∃ Aa, R3 = Aa := ⟨_, rfl⟩
              obtain ⟨Ab, hAb⟩ : ∃ Ab, Rb = Ab := ⟨_, rfl⟩
              obtain ⟨L2, hL2⟩ : ∃ L2, L3 = L2 := ⟨_, rfl⟩
              obtain ⟨ea, hea⟩ : ∃ ea, da = ea := ⟨_, rfl⟩
              obtain ⟨eb, heb⟩ : ∃ eb, db = eb := ⟨_, rfl⟩
              have hda2 : ea ≤ k + 1 := by rw [← hea]; omega
              have hdb2 : eb ≤ k + 1 := by rw [← heb]; omega
              rw [hAa, hAb, hL2, hea, heb] at y
              rw [hAa, hAb, hL2] at i2
              clear hAa hAb hL2 hea heb
              have hla : Aa.length ≤ 8 := y.k.rg.le
              have hlb : Ab.length ≤ 3 := y.r.le
              have hml := Lib.hid i2
              clear i2
              go_wp2_with (first
                | (go_at_call 28; with_reducible refine (tHeld y hml.out).mono ?_; rintro ev u1 ⟨A1, c1, rfl, y2⟩; clear y; have y := y2; clear y2)
                | (go_at_call 28; with_reducible refine (tHeld' y hml.out).mono ?_; rintro ev u2 ⟨A2, c2, rfl, y2⟩; clear y; have y := y2; clear y2)
                | (go_at_call 28; with_reducible refine (tHeld3 y hml.out).mono ?_; rintro ev u3 ⟨A3, c3, rfl, y2⟩; clear y; have y := y2; clear y2)
                | (go_at_call 25; with_reducible refine (tLeft y hml.out).mono ?_; rintro ev u4 ⟨lf, rfl, hlf, y2⟩; clear y; have y := y2; clear y2)
                | (go_at_call 23; with_reducible refine (tLen y).mono ?_; rintro ev u5 ⟨rfl, rfl⟩)
                | (go_at_call 23; with_reducible refine (tLen' y).mono ?_; rintro ev u6 ⟨rfl, rfl⟩))
              go_roundw
              case rel => exact ⟨k + 1, L2, Aa, Ab, ea, eb, by omega, by go_num, hda2, hdb2, y, hml.out⟩
              case measure => simp [intOf]; omega
            · skip
              have y := Y.out
              have i := I.out
              clear Y I
              have Ow := Lib.hid (own_any Ak nk ck _ xs _ RR.out hw0 (by omega))
              go_wp2_with fail
              refine Ow.out.mono ?_
              rintro ev w6 ⟨A6, n6, c6, rfl, o6, hb6⟩
              obtain rfl : nk = n6 := by rw [← o6.len, ← hxs]
              replace y := y.step hb6
              clear Ow hb6 c0 c1 c2 c3 bx ba
              have Tk := Lib.hid (kPTake y.k 3 o6.rd (Nat.le_refl _))
              have hE : tkE L 3 nk = 0 := hE0
              have hl := (tkE_of hE).2.2
              have h0 := free1_ow L hl
              rw [tkN_yes hE, hE, tkL_yes (by rw [hxs]; exact hE)] at Tk
              obtain ⟨hin, hfu⟩ := i.hand hl h0 xs 8
              clear hE0 hE o6
              generalize free1 L = v at *
              obtain ⟨e1, e2, e3, e4, i2⟩ := hfu hf
              clear hin hfu i hl h0 hf
              generalize L.set v (3, xs) = M at *
              go_wp2_with fail
              refine Tk.out.mono ?_
              rintro ev w7 ⟨rfl, k7, h7⟩
              replace y := y.turn k7 (h7.mono (fun _ _ e => .inl e))
              have Mv := Lib.hid (kMove y.k (by omega) (v : Int) 3)
              rw [e1, e2, e3, drp_no (by decide)] at Mv
              clear Tk k7 h7 e1 e2 e3
              go_wp2_with fail
              refine Mv.out.mono ?_
              rintro ev w8 ⟨rfl, k8, h8⟩
              replace y := y.turn k8 h8
              have Fr := Lib.hid (kPFree y.k (v : Int) 3)
              rw [e4] at Fr
              clear Mv k8 h8 e4
              generalize frL M (v : Int) 3 = L3 at *
              go_wp2_with fail
              refine Fr.out.mono ?_
              rintro ev w9 ⟨rfl, k9, h9⟩
              replace y := y.turn k9 (h9.mono (fun _ _ e => .inl e))
              clear Fr k9 h9
              obtain ⟨Aa, hAa⟩ : ∃ Aa, Ra = Aa := ⟨_, rfl⟩
              obtain ⟨Ab, hAb⟩ : ∃ Ab, Rb = Ab := ⟨_, rfl⟩
              obtain ⟨L2, hL2⟩ : ∃ L2, L3 = L2 := ⟨_, rfl⟩
              obtain ⟨ea, hea⟩ : ∃ ea, (da + 1) = ea := ⟨_, rfl⟩
              obtain ⟨eb, heb⟩ : ∃ eb, db = eb := ⟨_, rfl⟩
              have hda2 : ea ≤ k + 1 := by rw [← hea]; omega
              have hdb2 : eb ≤ k + 1 := by rw [← heb]; omega
              rw [hAa, hAb, hL2, hea, heb] at y
              rw [hAa, hAb, hL2] at i2
              clear hAa hAb hL2 hea heb
              have hla : Aa.length ≤ 8 := y.k.rg.le
              have hlb : Ab.length ≤ 3 := y.r.le
              have hml := Lib.hid i2
              clear i2
              go_wp2_with (first
                | (go_at_call 28; with_reducible refine (tHeld y hml.out).mono ?_; rintro ev u1 ⟨A1, c1, rfl, y2⟩; clear y; have y := y2; clear y2)
                | (go_at_call 28; with_reducible refine (tHeld' y hml.out).mono ?_; rintro ev u2 ⟨A2, c2, rfl, y2⟩; clear y; have y := y2; clear y2)
                | (go_at_call 28; with_reducible refine (tHeld3 y hml.out).mono ?_; rintro ev u3 ⟨A3, c3, rfl, y2⟩; clear y; have y := y2; clear y2)
                | (go_at_call 25; with_reducible refine (tLeft y hml.out).mono ?_; rintro ev u4 ⟨lf, rfl, hlf, y2⟩; clear y; have y := y2; clear y2)
                | (go_at_call 23; with_reducible refine (tLen y).mono ?_; rintro ev u5 ⟨rfl, rfl⟩)
                | (go_at_call 23; with_reducible refine (tLen' y).mono ?_; rintro ev u6 ⟨rfl, rfl⟩))
              go_roundw
              case rel => exact ⟨k + 1, L2, Aa, Ab, ea, eb, by omega, by go_num, hda2, hdb2, y, hml.out⟩
              case measure => simp [intOf]; omega
          · skip
            have y := Y.out
            have i := I.out
            clear Y I
            have Ow := Lib.hid (own_any Ak nk ck _ xs _ RR.out hw0 (by omega))
            go_wp2_with fail
            refine Ow.out.mono ?_
            rintro ev w6 ⟨A6, n6, c6, rfl, o6, hb6⟩
            obtain rfl : nk = n6 := by rw [← o6.len, ← hxs]
            replace y := y.step hb6
            clear Ow hb6 c0 c1 c2 c3 bx ba
            have Tk := Lib.hid (kPTake y.k 3 o6.rd (Nat.le_refl _))
            have hE : ¬ tkE L 3 nk = 0 := hE0
            have hE2 : (tkE L 3 nk == 0) = false := by simpa using hE
            rw [tkN_no hE, tkL_no (by rw [hxs]; exact hE)] at Tk
            have i2 := i
            clear i o6 hE hE0
            generalize tkE L 3 nk = E at *
            go_wp2_with fail
            refine Tk.out.mono ?_
            rintro ev w7 ⟨rfl, k7, h7⟩
            replace y := y.turn k7 (h7.mono (fun _ _ e => .inl e))
            clear Tk k7 h7
            obtain ⟨Aa, hAa⟩ : ∃ Aa, Ra = Aa := ⟨_, rfl⟩
            obtain ⟨Ab, hAb⟩ : ∃ Ab, Rb = Ab := ⟨_, rfl⟩
            obtain ⟨L2, hL2⟩ : ∃ L2, L = L2 := ⟨_, rfl⟩
            obtain ⟨ea, hea⟩ : ∃ ea, da = ea := ⟨_, rfl⟩
            obtain ⟨eb, heb⟩ : ∃ eb, db = eb := ⟨_, rfl⟩
            have hda2 : ea ≤ k + 1 := by rw [← hea]; omega
            have hdb2 : eb ≤ k + 1 := by rw [← heb]; omega
            rw [hAa, hAb, hL2, hea, heb] at y
            rw [hAa, hAb, hL2] at i2
            clear hAa hAb hL2 hea heb
            have hla : Aa.length ≤ 8 := y.k.rg.le
            have hlb : Ab.length ≤ 3 := y.r.le
            have hml := Lib.hid i2
            clear i2
            go_wp2_with (first
              | (go_at_call 28; with_reducible refine (tHeld y hml.out).mono ?_; rintro ev u1 ⟨A1, c1, rfl, y2⟩; clear y; have y := y2; clear y2)
              | (go_at_call 28; with_reducible refine (tHeld' y hml.out).mono ?_; rintro ev u2 ⟨A2, c2, rfl, y2⟩; clear y; have y := y2; clear y2)
              | (go_at_call 28; with_reducible refine (tHeld3 y hml.out).mono ?_; rintro ev u3 ⟨A3, c3, rfl, y2⟩; clear y; have y := y2; clear y2)
              | (go_at_call 25; with_reducible refine (tLeft y hml.out).mono ?_; rintro ev u4 ⟨lf, rfl, hlf, y2⟩; clear y; have y := y2; clear y2)
              | (go_at_call 23; with_reducible refine (tLen y).mono ?_; rintro ev u5 ⟨rfl, rfl⟩)
              | (go_at_call 23; with_reducible refine (tLen' y).mono ?_; rintro ev u6 ⟨rfl, rfl⟩))
            go_roundw
            case rel => exact ⟨k + 1, L2, Aa, Ab, ea, eb, by omega, by go_num, hda2, hdb2, y, hml.out⟩
            case measure => simp [intOf]; omega
        by_cases h3 : wh = 3
        · subst h3
          by_cases hE0 : tkE L 3 nk = 0
          · by_cases hf : Ra.length < 8
            · skip
              have y := Y.out
              have i := I.out
              clear Y I
              have Ow := Lib.hid (own_any Ak nk ck _ xs _ RR.out hw0 (by omega))
              go_wp2_with fail
              refine Ow.out.mono ?_
              rintro ev w6 ⟨A6, n6, c6, rfl, o6, hb6⟩
              obtain rfl : nk = n6 := by rw [← o6.len, ← hxs]
              replace y := y.step hb6
              clear Ow hb6 c0 c1 c2 c3 bx ba
              have Tk := Lib.hid (kPTake y.k 3 o6.rd (Nat.le_refl _))
              have hE : tkE L 3 nk = 0 := hE0
              have hl := (tkE_of hE).2.2
              have h0 := free1_ow L hl
              rw [tkN_yes hE, hE, tkL_yes (by rw [hxs]; exact hE)] at Tk
              obtain ⟨hin, hfu⟩ := i.hand hl h0 xs 8
              clear hE0 hE o6
              generalize free1 L = v at *
              obtain ⟨e1, i2⟩ := hin hf
              clear hin hfu i hl h0 hf
              generalize L.set v (3, xs) = M at *
              go_wp2_with fail
              refine Tk.out.mono ?_
              rintro ev w7 ⟨rfl, k7, h7⟩
              replace y := y.turn k7 (h7.mono (fun _ _ e => .inl e))
              have Mv := Lib.hid (kMove y.k (by omega) (v : Int) 3)
              rw [e1, drp_ok] at Mv
              clear Tk k7 h7 e1
              generalize mvL M Ra 8 1 (v : Int) 3 = L3 at *
              generalize mvR M Ra 8 1 (v : Int) 3 = R3 at *
              go_wp2_with fail
              refine Mv.out.mono ?_
              rintro ev w8 ⟨rfl, k8, h8⟩
              replace y := y.turn k8 h8
              clear Mv k8 h8
              obtain ⟨Aa, hAa⟩ : ∃ Aa, R3 = Aa := ⟨_, rfl⟩
              obtain ⟨Ab, hAb⟩ : ∃ Ab, Rb = Ab := ⟨_, rfl⟩
              obtain ⟨L2, hL2⟩ : ∃ L2, L3 = L2 := ⟨_, rfl⟩
              obtain ⟨ea, hea⟩ : ∃ ea, da = ea := ⟨_, rfl⟩
              obtain ⟨eb, heb⟩ : ∃ eb, db = eb := ⟨_, rfl⟩
              have hda2 : ea ≤ k + 1 := by rw [← hea]; omega
              have hdb2 : eb ≤ k + 1 := by rw [← heb]; omega
              rw [hAa, hAb, hL2, hea, heb] at y
              rw [hAa, hAb, hL2] at i2
              clear hAa hAb hL2 hea heb
              have hla : Aa.length ≤ 8 := y.k.rg.le
              have hlb : Ab.length ≤ 3 := y.r.le
              have hml := Lib.hid i2
              clear i2
              go_wp2_with (first
                | (go_at_call 28; with_reducible refine (tHeld y hml.out).mono ?_; rintro ev u1 ⟨A1, c1, rfl, y2⟩; clear y; have y := y2; clear y2)
                | (go_at_call 28; with_reducible refine (tHeld' y hml.out).mono ?_; rintro ev u2 ⟨A2, c2, rfl, y2⟩; clear y; have y := y2; clear y2)
                | (go_at_call 28; with_reducible refine (tHeld3 y hml.out).mono ?_; rintro ev u3 ⟨A3, c3, rfl, y2⟩; clear y; have y := y2; clear y2)
                | (go_at_call 25; with_reducible refine (tLeft y hml.out).mono ?_; rintro ev u4 ⟨lf, rfl, hlf, y2⟩; clear y; have y := y2; clear y2)
                | (go_at_call 23; with_reducible refine (tLen y).mono ?_; rintro ev u5 ⟨rfl, rfl⟩)
                | (go_at_call 23; with_reducible refine (tLen' y).mono ?_; rintro ev u6 ⟨rfl, rfl⟩))
              go_roundw
              case rel => exact ⟨k + 1, L2, Aa, Ab, ea, eb, by omega, by go_num, hda2, hdb2, y, hml.out⟩
              case measure => simp [intOf]; omega
            · skip
              have y := Y.out
              have i := I.out
              clear Y I
              have Ow := Lib.hid (own_any Ak nk ck _ xs _ RR.out hw0 (by omega))
              go_wp2_with fail
              refine Ow.out.mono ?_
              rintro ev w6 ⟨A6, n6, c6, rfl, o6, hb6⟩
              obtain rfl : nk = n6 := by rw [← o6.len, ← hxs]
              replace y := y.step hb6
              clear Ow hb6 c0 c1 c2 c3 bx ba
              have Tk := Lib.hid (kPTake y.k 3 o6.rd (Nat.le_refl _))
              have hE : tkE L 3 nk = 0 := hE0
              have hl := (tkE_of hE).2.2
              have h0 := free1_ow L hl
              rw [tkN_yes hE, hE, tkL_yes (by rw [hxs]; exact hE)] at Tk
              obtain ⟨hin, hfu⟩ := i.hand hl h0 xs 8
              clear hE0 hE o6
              generalize free1 L = v at *
              obtain ⟨e1, e2, e3, e4, i2⟩ := hfu hf
              clear hin hfu i hl h0 hf
              generalize L.set v (3, xs) = M at *
              go_wp2_with fail
              refine Tk.out.mono ?_
              rintro ev w7 ⟨rfl, k7, h7⟩
              replace y := y.turn k7 (h7.mono (fun _ _ e => .inl e))
              have Mv := Lib.hid (kMove y.k (by omega) (v : Int) 3)
              rw [e1, e2, e3, drp_no (by decide)] at Mv
              clear Tk k7 h7 e1 e2 e3
              go_wp2_with fail
              refine Mv.out.mono ?_
              rintro ev w8 ⟨rfl, k8, h8⟩
              replace y := y.turn k8 h8
              have Fr := Lib.hid (kPFree y.k (v : Int) 3)
              rw [e4] at Fr
              clear Mv k8 h8 e4
              generalize frL M (v : Int) 3 = L3 at *
              go_wp2_with fail
              refine Fr.out.mono ?_
              rintro ev w9 ⟨rfl, k9, h9⟩
              replace y := y.turn k9 (h9.mono (fun _ _ e => .inl e))
              clear Fr k9 h9
              obtain ⟨Aa, hAa⟩ : ∃ Aa, Ra = Aa := ⟨_, rfl⟩
              obtain ⟨Ab, hAb⟩ : ∃ Ab, Rb = Ab := ⟨_, rfl⟩
              obtain ⟨L2, hL2⟩ : ∃ L2, L3 = L2 := ⟨_, rfl⟩
              obtain ⟨ea, hea⟩ : ∃ ea, (da + 1) = ea := ⟨_, rfl⟩
              obtain ⟨eb, heb⟩ : ∃ eb, db = eb := ⟨_, rfl⟩
              have hda2 : ea ≤ k + 1 := by rw [← hea]; omega
              have hdb2 : eb ≤ k + 1 := by rw [← heb]; omega
              rw [hAa, hAb, hL2, hea, heb] at y
              rw [hAa, hAb, hL2] at i2
              clear hAa hAb hL2 hea heb
              have hla : Aa.length ≤ 8 := y.k.rg.le
              have hlb : Ab.length ≤ 3 := y.r.le
              have hml := Lib.hid i2
              clear i2
              go_wp2_with (first
                | (go_at_call 28; with_reducible refine (tHeld y hml.out).mono ?_; rintro ev u1 ⟨A1, c1, rfl, y2⟩; clear y; have y := y2; clear y2)
                | (go_at_call 28; with_reducible refine (tHeld' y hml.out).mono ?_; rintro ev u2 ⟨A2, c2, rfl, y2⟩; clear y; have y := y2; clear y2)
                | (go_at_call 28; with_reducible refine (tHeld3 y hml.out).mono ?_; rintro ev u3 ⟨A3, c3, rfl, y2⟩; clear y; have y := y2; clear y2)
                | (go_at_call 25; with_reducible refine (tLeft y hml.out).mono ?_; rintro ev u4 ⟨lf, rfl, hlf, y2⟩; clear y; have y := y2; clear y2)
                | (go_at_call 23; with_reducible refine (tLen y).mono ?_; rintro ev u5 ⟨rfl, rfl⟩)
                | (go_at_call 23; with_reducible refine (tLen' y).mono ?_; rintro ev u6 ⟨rfl, rfl⟩))
              go_roundw
              case rel => exact ⟨k + 1, L2, Aa, Ab, ea, eb, by omega, by go_num, hda2, hdb2, y, hml.out⟩
              case measure => simp [intOf]; omega
          · skip
            have y := Y.out
            have i := I.out
            clear Y I
            have Ow := Lib.hid (own_any Ak nk ck _ xs _ RR.out hw0 (by omega))
            go_wp2_with fail
            refine Ow.out.mono ?_
            rintro ev w6 ⟨A6, n6, c6, rfl, o6, hb6⟩
            obtain rfl : nk = n6 := by rw [← o6.len, ← hxs]
            replace y := y.step hb6
            clear Ow hb6 c0 c1 c2 c3 bx ba
            have Tk := Lib.hid (kPTake y.k 3 o6.rd (Nat.le_refl _))
            have hE : ¬ tkE L 3 nk = 0 := hE0
            have hE2 : (tkE L 3 nk == 0) = false := by simpa using hE
            rw [tkN_no hE, tkL_no (by rw [hxs]; exact hE)] at Tk
            have i2 := i
            clear i o6 hE hE0
            generalize tkE L 3 nk = E at *
            go_wp2_with fail
            refine Tk.out.mono ?_
            rintro ev w7 ⟨rfl, k7, h7⟩
            replace y := y.turn k7 (h7.mono (fun _ _ e => .inl e))
            clear Tk k7 h7
            obtain ⟨Aa, hAa⟩ : ∃ Aa, Ra = Aa := ⟨_, rfl⟩
            obtain ⟨Ab, hAb⟩ : ∃ Ab, Rb = Ab := ⟨_, rfl⟩
            obtain ⟨L2, hL2⟩ : ∃ L2, L = L2 := ⟨_, rfl⟩
            obtain ⟨ea, hea⟩ : ∃ ea, da = ea := ⟨_, rfl⟩
            obtain ⟨eb, heb⟩ : ∃ eb, db = eb := ⟨_, rfl⟩
            have hda2 : ea ≤ k + 1 := by rw [← hea]; omega
            have hdb2 : eb ≤ k + 1 := by rw [← heb]; omega
            rw [hAa, hAb, hL2, hea, heb] at y
            rw [hAa, hAb, hL2] at i2
            clear hAa hAb hL2 hea heb
            have hla : Aa.length ≤ 8 := y.k.rg.le
            have hlb : Ab.length ≤ 3 := y.r.le
            have hml := Lib.hid i2
            clear i2
            go_wp2_with (first
              | (go_at_call 28; with_reducible refine (tHeld y hml.out).mono ?_; rintro ev u1 ⟨A1, c1, rfl, y2⟩; clear y; have y := y2; clear y2)
              | (go_at_call 28; with_reducible refine (tHeld' y hml.out).mono ?_; rintro ev u2 ⟨A2, c2, rfl, y2⟩; clear y; have y := y2; clear y2)
              | (go_at_call 28; with_reducible refine (tHeld3 y hml.out).mono ?_; rintro ev u3 ⟨A3, c3, rfl, y2⟩; clear y; have y := y2; clear y2)
              | (go_at_call 25; with_reducible refine (tLeft y hml.out).mono ?_; rintro ev u4 ⟨lf, rfl, hlf, y2⟩; clear y; have y := y2; clear y2)
              | (go_at_call 23; with_reducible refine (tLen y).mono ?_; rintro ev u5 ⟨rfl, rfl⟩)
              | (go_at_call 23; with_reducible refine (tLen' y).mono ?_; rintro ev u6 ⟨rfl, rfl⟩))
            go_roundw
            case rel => exact ⟨k + 1, L2, Aa, Ab, ea, eb, by omega, by go_num, hda2, hdb2, y, hml.out⟩
            case measure => simp [intOf]; omega
        by_cases h2 : wh = 2
        · subst h2
          cases Ra with
          | nil =>
            have y := Y.out
            have i := I.out
            clear Y I
            clear RR
            have Tk := Lib.hid (kTake0 y.k)
            have i2 := i
            clear i
            go_wp2_with fail
            refine Tk.out.mono ?_
            rintro ev w7 ⟨rfl, rfl⟩
            clear Tk c0 c1 c2 c3 bx ba
            obtain ⟨Aa, hAa⟩ : ∃ Aa, ([] : List Nat) = Aa := ⟨_, rfl⟩
            obtain ⟨Ab, hAb⟩ : ∃ Ab, Rb = Ab := ⟨_, rfl⟩
            obtain ⟨L2, hL2⟩ : ∃ L2, L = L2 := ⟨_, rfl⟩
            obtain ⟨ea, hea⟩ : ∃ ea, da = ea := ⟨_, rfl⟩
            obtain ⟨eb, heb⟩ : ∃ eb, db = eb := ⟨_, rfl⟩
            have hda2 : ea ≤ k + 1 := by rw [← hea]; omega
            have hdb2 : eb ≤ k + 1 := by rw [← heb]; omega
            rw [hAa, hAb, hL2, hea, heb] at y
            rw [hAa, hAb, hL2] at i2
            clear hAa hAb hL2 hea heb
            have hla : Aa.length ≤ 8 := y.k.rg.le
            have hlb : Ab.length ≤ 3 := y.r.le
            have hml := Lib.hid i2
            clear i2
            go_wp2_with (first
              | (go_at_call 28; with_reducible refine (tHeld y hml.out).mono ?_; rintro ev u1 ⟨A1, c1, rfl, y2⟩; clear y; have y := y2; clear y2)
              | (go_at_call 28; with_reducible refine (tHeld' y hml.out).mono ?_; rintro ev u2 ⟨A2, c2, rfl, y2⟩; clear y; have y := y2; clear y2)
              | (go_at_call 28; with_reducible refine (tHeld3 y hml.out).mono ?_; rintro ev u3 ⟨A3, c3, rfl, y2⟩; clear y; have y := y2; clear y2)
              | (go_at_call 25; with_reducible refine (tLeft y hml.out).mono ?_; rintro ev u4 ⟨lf, rfl, hlf, y2⟩; clear y; have y := y2; clear y2)
              | (go_at_call 23; with_reducible refine (tLen y).mono ?_; rintro ev u5 ⟨rfl, rfl⟩)
              | (go_at_call 23; with_reducible refine (tLen' y).mono ?_; rintro ev u6 ⟨rfl, rfl⟩))
            go_roundw
            case rel => exact ⟨k + 1, L2, Aa, Ab, ea, eb, by omega, by go_num, hda2, hdb2, y, hml.out⟩
            case measure => simp [intOf]; omega
          | cons v T =>
            have y := Y.out
            have i := I.out
            clear Y I
            clear RR
            obtain ⟨e1, i2⟩ := i.pop
            have Tk := Lib.hid (kTake1 y.k (i.i.lt v (.head _)))
            rw [e1] at Tk
            clear i e1
            generalize L.set v (0, []) = L3 at *
            go_wp2_with fail
            refine Tk.out.mono ?_
            rintro ev w7 ⟨A7, n7, c7, rfl, -, k7, h7⟩
            replace y := y.turn k7 h7
            clear Tk k7 h7 c0 c1 c2 c3 bx ba
            obtain ⟨Aa, hAa⟩ : ∃ Aa, T = Aa := ⟨_, rfl⟩
            obtain ⟨Ab, hAb⟩ : ∃ Ab, Rb = Ab := ⟨_, rfl⟩
            obtain ⟨L2, hL2⟩ : ∃ L2, L3 = L2 := ⟨_, rfl⟩
            obtain ⟨ea, hea⟩ : ∃ ea, da = ea := ⟨_, rfl⟩
            obtain ⟨eb, heb⟩ : ∃ eb, db = eb := ⟨_, rfl⟩
            have hda2 : ea ≤ k + 1 := by rw [← hea]; omega
            have hdb2 : eb ≤ k + 1 := by rw [← heb]; omega
            rw [hAa, hAb, hL2, hea, heb] at y
            rw [hAa, hAb, hL2] at i2
            clear hAa hAb hL2 hea heb
            have hla : Aa.length ≤ 8 := y.k.rg.le
            have hlb : Ab.length ≤ 3 := y.r.le
            have hml := Lib.hid i2
            clear i2
            go_wp2_with (first
              | (go_at_call 28; with_reducible refine (tHeld y hml.out).mono ?_; rintro ev u1 ⟨A1, c1, rfl, y2⟩; clear y; have y := y2; clear y2)
              | (go_at_call 28; with_reducible refine (tHeld' y hml.out).mono ?_; rintro ev u2 ⟨A2, c2, rfl, y2⟩; clear y; have y := y2; clear y2)
              | (go_at_call 28; with_reducible refine (tHeld3 y hml.out).mono ?_; rintro ev u3 ⟨A3, c3, rfl, y2⟩; clear y; have y := y2; clear y2)
              | (go_at_call 25; with_reducible refine (tLeft y hml.out).mono ?_; rintro ev u4 ⟨lf, rfl, hlf, y2⟩; clear y; have y := y2; clear y2)
              | (go_at_call 23; with_reducible refine (tLen y).mono ?_; rintro ev u5 ⟨rfl, rfl⟩)
              | (go_at_call 23; with_reducible refine (tLen' y).mono ?_; rintro ev u6 ⟨rfl, rfl⟩))
            go_roundw
            case rel => exact ⟨k + 1, L2, Aa, Ab, ea, eb, by omega, by go_num, hda2, hdb2, y, hml.out⟩
            case measure => simp [intOf]; omega
        have g0 : (wh == 0) = false := by simpa using h0
        have g1 : (wh == 1) = false := by simpa using h1
        have g2 : (wh == 2) = false := by simpa using h2
        have g3 : (wh == 3) = false := by simpa using h3
        clear h0 h1 h2 h3
        have y := Y.out
        have i := I.out
        clear Y I
        have i2 := i
        clear RR i
        obtain ⟨Aa, hAa⟩ : ∃ Aa, Ra = Aa := ⟨_, rfl⟩
        obtain ⟨Ab, hAb⟩ : ∃ Ab, Rb = Ab := ⟨_, rfl⟩
        obtain ⟨L2, hL2⟩ : ∃ L2, L = L2 := ⟨_, rfl⟩
        obtain ⟨ea, hea⟩ : ∃ ea, da = ea := ⟨_, rfl⟩
        obtain ⟨eb, heb⟩ : ∃ eb, db = eb := ⟨_, rfl⟩
        have hda2 : ea ≤ k + 1 := by rw [← hea]; omega
        have hdb2 : eb ≤ k + 1 := by rw [← heb]; omega
        rw [hAa, hAb, hL2, hea, heb] at y
        rw [hAa, hAb, hL2] at i2
        clear hAa hAb hL2 hea heb
        have hla : Aa.length ≤ 8 := y.k.rg.le
        have hlb : Ab.length ≤ 3 := y.r.le
        have hml := Lib.hid i2
        clear i2
        go_wp2_with (first
          | (go_at_call 28; with_reducible refine (tHeld y hml.out).mono ?_; rintro ev u1 ⟨A1, c1, rfl, y2⟩; clear y; have y := y2; clear y2)
          | (go_at_call 28; with_reducible refine (tHeld' y hml.out).mono ?_; rintro ev u2 ⟨A2, c2, rfl, y2⟩; clear y; have y := y2; clear y2)
          | (go_at_call 28; with_reducible refine (tHeld3 y hml.out).mono ?_; rintro ev u3 ⟨A3, c3, rfl, y2⟩; clear y; have y := y2; clear y2)
          | (go_at_call 25; with_reducible refine (tLeft y hml.out).mono ?_; rintro ev u4 ⟨lf, rfl, hlf, y2⟩; clear y; have y := y2; clear y2)
          | (go_at_call 23; with_reducible refine (tLen y).mono ?_; rintro ev u5 ⟨rfl, rfl⟩)
          | (go_at_call 23; with_reducible refine (tLen' y).mono ?_; rintro ev u6 ⟨rfl, rfl⟩))
        go_roundw
        case rel => exact ⟨k + 1, L2, Aa, Ab, ea, eb, by omega, by go_num, hda2, hdb2, y, hml.out⟩
        case measure => simp [intOf]; omega
    · clear i
      go_wp2
      go_ret
      exact ⟨rfl, y.k.b⟩
theorem two_law (m : Int) (A : Option Addr) (n c : Nat) (qs : Nat → Cal) (w : World) (H : CallsAt w w.heap.size A n c qs) : Calls Try.prog 5 #[.int .i64 m, .slice A n c] w fun e w' => e = .returned (.bool true) ∧ Below w.heap.size w w' := by
  by_cases h1 : 100 < m ∨ 100 < n
  · exact two_big m A n c qs w H h1
  have h1' : ¬ 100 < m := fun q => h1 (.inl q)
  have h2 : n ≤ 100 := by omega
  by_cases h3 : longB n qs = true
  · exact two_long m A n c qs w H h1' h2 h3
  have h3' : longB n qs = false := by simpa using h3
  by_cases h7 : m < 1
  · exact two_bad m A n c qs w H h1' h2 h3' h7
  obtain ⟨k, rfl⟩ : ∃ k : Nat, m = (k : Int) := ⟨m.toNat, by omega⟩
  exact two_in k A n c qs w H (by omega) (by omega) h2 h3'
end Go.Proofs.Ytjaiagocbldbgaa
