/-
  The law RingOrder: what is laid in is taken out in that order, each once; no buffer is lost.
-/
import Derived.Test.YtjaiagocbldbgaaAlive
import Derived.Test.YtjaiagocbldbgaaArgu
import Derived.Test.YtjaiagocbldbgaaCount
import Derived.Test.YtjaiagocbldbgaaInRow
import Derived.Test.YtjaiagocbldbgaaRowsB
namespace Go.Proofs.Ytjaiagocbldbgaa
open Go.RowKit
set_option linter.unusedVariables false

theorem held0_push {L : Slots} {i : Nat} (hi : i < L.length) (h0 : ow L i = 0) (b : List Int) : (held (L.set i (9, b)) 0).length + 1 = (held L 0).length := by
  have := held_set L 0 hi (9, b)
  rw [h0, if_pos rfl, if_neg (show ¬ (9 : Int) = 0 by decide)] at this
  omega
theorem held0_pop {L : Slots} {i : Nat} (hi : i < L.length) (h9 : ow L i = 9) : (held (L.set i (0, [])) 0).length = (held L 0).length + 1 := by
  have := held_set L 0 hi (0, [])
  rw [h9, if_neg (by decide), if_pos rfl] at this
  omega
theorem byts_away {L : Slots} {R : List Nat} {i : Nat} (hi : i < L.length) (hn : i ∉ R) (r : Int × List Int) : bytsOf (L.set i r) R = bytsOf L R := by
  unfold bytsOf
  exact List.map_congr_left (fun x hx => byt_same hi r (fun e => hn (e ▸ hx)))

theorem box_c {W : World} {gb : Nat} {wh bu fr : Int} {A2 : Option Addr} {n2 c2 : Nat} (h : W.heap[gb]? = some (.cells (box wh bu fr A2 n2 c2) 25 (0, 0))) :
    W.cell? ⟨gb, 0, none⟩ = some (.int .i64 wh) ∧ W.cell? ⟨gb, 1, none⟩ = some (.int .i64 bu) ∧ W.cell? ⟨gb, 2, none⟩ = some (.int .i64 fr) ∧ W.cell? ⟨gb, 3, none⟩ = some (.slice A2 n2 c2) :=
  ⟨cell_of_row W gb 0 _ 25 (0, 0) h, cell_of_row W gb 1 _ 25 (0, 0) h, cell_of_row W gb 2 _ 25 (0, 0) h, cell_of_row W gb 3 _ 25 (0, 0) h⟩
set_option maxRecDepth 100000 in
set_option maxHeartbeats 4000000 in
theorem order_big (m : Int) (sz : Int) (A : Option Addr) (n c : Nat) (qs : Nat → Cal) (w : World) (H : CallsAt w w.heap.size A n c qs) (h : 100 < m ∨ 100 < n) : Calls Try.prog 4 #[.int .i64 m, .int .i64 sz, .slice A n c] w fun e w' => e = .returned (.bool true) ∧ Below w.heap.size w w' := by
  have hc := Lib.hid (fun W => great_big m A n c W h H.1)
  clear H h
  go_enter Try.func4, Try.ntmps4
  go_wp2_with fail
  refine (alive_any _).mono ?_
  rintro ev w1 ⟨rfl, hb⟩
  go_wp2_with fail
  refine (hc.out _).mono ?_
  rintro ev w2 ⟨rfl, rfl⟩
  go_wp2
  go_ret
  exact ⟨rfl, hb⟩
set_option maxRecDepth 100000 in
set_option maxHeartbeats 4000000 in
theorem order_long (m : Int) (sz : Int) (A : Option Addr) (n c : Nat) (qs : Nat → Cal) (w : World) (H : CallsAt w w.heap.size A n c qs) (h1 : ¬ 100 < m) (h2 : n ≤ 100) (h3 : longB n qs = true) : Calls Try.prog 4 #[.int .i64 m, .int .i64 sz, .slice A n c] w fun e w' => e = .returned (.bool true) ∧ Below w.heap.size w w' := by
  have hc := Lib.hid (fun W q => great_in true m A n c w.heap.size qs W h3 h1 h2 q)
  have HH := Lib.hid H
  clear H h1 h2 h3
  go_enter Try.func4, Try.ntmps4
  go_wp2_with fail
  refine (alive_any _).mono ?_
  rintro ev w1 ⟨rfl, hb⟩
  go_wp2_with fail
  refine (hc.out _ (HH.out.below hb)).mono ?_
  rintro ev w2 ⟨rfl, rfl⟩
  go_wp2
  go_ret
  exact ⟨rfl, hb⟩
set_option maxRecDepth 100000 in
set_option maxHeartbeats 4000000 in
theorem order_bad (m : Int) (sz : Int) (A : Option Addr) (n c : Nat) (qs : Nat → Cal) (w : World) (H : CallsAt w w.heap.size A n c qs) (h1 : ¬ 100 < m) (h2 : n ≤ 100) (h3 : longB n qs = false) (h7 : m < 1) : Calls Try.prog 4 #[.int .i64 m, .int .i64 sz, .slice A n c] w fun e w' => e = .returned (.bool true) ∧ Below w.heap.size w w' := by
  have hc := Lib.hid (fun W q => great_in false m A n c w.heap.size qs W h3 h1 h2 q)
  have HN := Lib.hid (fun W => new_no m W (.inl h7))
  have HH := Lib.hid H
  clear H h1 h2 h3
  go_enter Try.func4, Try.ntmps4
  go_wp2_with fail
  refine (alive_any _).mono ?_
  rintro ev w1 ⟨rfl, hb⟩
  go_wp2_with fail
  refine (hc.out _ (HH.out.below hb)).mono ?_
  rintro ev w2 ⟨rfl, rfl⟩
  go_wp2_with fail
  refine (HN.out _).mono ?_
  rintro ev w3 ⟨rfl, rfl⟩
  go_wp2
  go_ret
  exact ⟨rfl, hb⟩
set_option maxRecDepth 100000 in
set_option maxHeartbeats 4000000 in
theorem order_none (m : Nat) (sz : Int) (A : Option Addr) (n c : Nat) (qs : Nat → Cal) (w : World) (H : CallsAt w w.heap.size A n c qs) (h1 : 1 ≤ m) (h8 : m ≤ 100) (h2 : n ≤ 100) (h3 : longB n qs = false) (h9 : sz < 1 ∨ 256 < sz) : Calls Try.prog 4 #[.int .i64 (m : Int), .int .i64 sz, .slice A n c] w fun e w' => e = .returned (.bool true) ∧ Below w.heap.size w w' := by
  have hc := Lib.hid (fun W q => great_in false (m : Int) A n c w.heap.size qs W h3 (by omega) h2 q)
  have HN := Lib.hid (fun W => new_yes m W h1 (by omega))
  have HH := Lib.hid H
  have HX : Hid (∀ j, j < n → (qs j).n ≤ 1600) := Lib.hid (fun j hj => longB_of h3 hj)
  have hcc := H.1.2
  have h1' : ¬ (m : Int) < 1 := by omega
  have N1 := Lib.hid (fun p W => newR_no p sz 9 W (by omega))
  clear h9
  clear H h3
  go_enter Try.func4, Try.ntmps4
  go_wp2_with fail
  refine (alive_any _).mono ?_
  rintro ev w1 ⟨rfl, hb⟩
  go_wp2_with fail
  refine (hc.out _ (HH.out.below hb)).mono ?_
  rintro ev w2 ⟨rfl, rfl⟩
  go_wp2_with fail
  refine (HN.out _).mono ?_
  rintro ev w3 ⟨p, g, rfl, hp, hlo, hb3⟩
  have hbw := hb.trans (hb3.mono hb.size)
  have hlo3 : w.heap.size ≤ p ∧ w.heap.size ≤ g := by have := hb.size; omega
  clear hb hb3 hlo hc HN
  go_wp2_with fail
  refine (N1.out _ _).mono ?_
  rintro ev w4 ⟨rfl, rfl⟩
  go_wp2
  go_ret
  exact ⟨rfl, hbw⟩
set_option maxRecDepth 100000 in
set_option maxHeartbeats 4000000 in
theorem order_in (m : Nat) (z : Nat) (A : Option Addr) (n c : Nat) (qs : Nat → Cal) (w : World) (H : CallsAt w w.heap.size A n c qs) (h1 : 1 ≤ m) (h8 : m ≤ 100) (h2 : n ≤ 100) (h3 : longB n qs = false) (hz : 1 ≤ z ∧ z ≤ 256) : Calls Try.prog 4 #[.int .i64 (m : Int), .int .i64 (z : Int), .slice A n c] w fun e w' => e = .returned (.bool true) ∧ Below w.heap.size w w' := by
  have hc := Lib.hid (fun W q => great_in false (m : Int) A n c w.heap.size qs W h3 (by omega) h2 q)
  have HN := Lib.hid (fun W => new_yes m W h1 (by omega))
  have HH := Lib.hid H
  have HX : Hid (∀ j, j < n → (qs j).n ≤ 1600) := Lib.hid (fun j hj => longB_of h3 hj)
  have hcc := H.1.2
  have h1' : ¬ (m : Int) < 1 := by omega
  clear H h3
  go_enter Try.func4, Try.ntmps4
  go_wp2_with fail
  refine (alive_any _).mono ?_
  rintro ev w1 ⟨rfl, hb⟩
  go_wp2_with fail
  refine (hc.out _ (HH.out.below hb)).mono ?_
  rintro ev w2 ⟨rfl, rfl⟩
  go_wp2_with fail
  refine (HN.out _).mono ?_
  rintro ev w3 ⟨p, g, rfl, hp, hlo, hb3⟩
  have hbw := hb.trans (hb3.mono hb.size)
  have hlo3 : w.heap.size ≤ p ∧ w.heap.size ≤ g := by have := hb.size; omega
  clear hb hb3 hlo hc HN
  go_wp2_with fail
  refine (newR_yes p z 9 w3 hz.1 hz.2 (by decide)).mono ?_
  rintro ev w4 ⟨q, s, rfl, hg, hlo4, hb4⟩
  have q0 : KA w p g m q s z 9 (List.replicate m (0, [])) [] 0 w4 := ⟨hp.below hb4, hg, hbw.trans (hb4.mono hbw.size), by have := hbw.size; omega, by simp; omega⟩
  have i0 : Inv (List.replicate m (0, [])) [] 9 := Inv.new m 9 (by decide)
  clear hp hg hlo4 hb4 hbw hlo3
  go_wp2
  have a0 := InAt.lit0 w w4 q0.b.size
  have y0 : KO w p g m q s z (List.replicate m (0, [])) [] 0 0 (some ⟨w4.heap.size, 0, none⟩) 0 (w4.alloc (.cells #[] 23)) :=
    ⟨q0.step (alloc_below w4 _), i0, rfl, by rw [held_count, List.countP_replicate]; simp, a0⟩
  clear q0 i0 a0
  go_loopw [11, 12, 13] (fun v e i wr => ∃ (k : Nat) (L : Slots) (R : List Nat) (l d : Nat) (A : Option Addr) (cin : Nat), k ≤ n ∧ v = .slice A l cin ∧ e = .int .i64 d ∧ i = .int .i64 k ∧ d ≤ k ∧ KO w p g m q s z L R l d A cin wr) (fun _ _ i _ => n - (intOf i).toNat)
  case atStart => exact ⟨0, _, [], 0, 0, _, 0, Nat.zero_le _, rfl, rfl, rfl, Nat.le_refl _, y0⟩
  case round =>
    clear y0
    obtain ⟨k, L, R, l, d, A, cin, hk, rfl, rfl, rfl, hdk, y⟩ := hrel
    by_cases hkn : k < n
    · obtain ⟨b0, o0, rfl, hbB, ⟨c0, c1, c2, c3⟩, hrd⟩ := HH.out.2 k hkn
      have ba := alloc_below wr (.cells (box (qs k).wh (qs k).bu (qs k).fr (qs k).A (qs k).n (qs k).c) 25)
      have bx := heap_alloc_new wr (.cells (box (qs k).wh (qs k).bu (qs k).fr (qs k).A (qs k).n (qs k).c) 25)
      have hng : wr.heap.size ≠ g ∧ wr.heap.size ≠ q ∧ wr.heap.size ≠ s := by have := y.k.pp.lt; have := y.k.rg.lt; omega
      replace c0 := (y.k.b.cell hbB).trans c0
      replace c1 := (y.k.b.cell hbB).trans c1
      replace c2 := (y.k.b.cell hbB).trans c2
      replace c3 := (y.k.b.cell hbB).trans c3
      have RRd := Lib.hid hrd
      have RR := Lib.hid ((hrd.below y.k.b (Nat.le_refl _)).below ba y.k.b.size)
      replace y := y.step ba
      have hq1 := hrd.cap
      have hq2 := hrd.max
      have hq3 := HX.out k hkn
      have hxs := hrd.len
      have hw0 := y.k.b.size
      have hzz : 1 ≤ z := y.k.rg.size.1
      clear hrd
      generalize (qs k).wh = wh at *
      generalize (qs k).bu = bu at *
      generalize (qs k).fr = fr at *
      generalize (qs k).n = nk at *
      generalize (qs k).c = ck at *
      generalize (qs k).A = Ak at *
      generalize (qs k).xs = xs at *
      by_cases h2 : wh = 2
      · subst h2
        cases R with
        | nil =>
          obtain rfl : 0 = l := y.hl
          have Tk := Lib.hid (kTake0 y.k)
          have hlz : ¬ (z : Int) < ((0 : Nat) : Int) := by omega
          clear RRd hxs hq3
          go_wp2_with (first
            | (go_at_call 19; refine Tk.out.mono ?_; rintro ev w7 ⟨rfl, rfl⟩)
            | (go_at_call 23; with_reducible refine (oLen y).mono ?_; rintro ev u1 ⟨rfl, rfl⟩)
            | (go_at_call 24; with_reducible refine (oDropped y).mono ?_; rintro ev u2 ⟨rfl, rfl⟩)
            | (go_at_call 25; with_reducible refine (oLeft y).mono ?_; rintro ev u3 ⟨lf, rfl, hlf, y2⟩; clear y; have y := y2; clear y2)
            | (go_at_call 27; with_reducible refine (oAll y).mono ?_; rintro ev u4 ⟨A9, c9, rfl, B1, B2, y2⟩; clear y; have y := y2; clear y2)
            | (go_at_call 26; refine (sameRows_any _ _ 0 _ _ (bytsOf L []) _ _ _ B1 B2 (Nat.le_refl _) (Nat.le_refl _)).mono ?_; rintro ev u5 ⟨rfl, hb9⟩; replace y := y.step hb9; clear B1 B2 hb9)
            | (go_at_call 28; with_reducible refine (oHeld y).mono ?_; rintro ev u6 ⟨A8, c8, rfl, y2⟩; clear y; have y := y2; clear y2))
          go_roundw
          case rel => exact ⟨k + 1, L, [], 0, d, A, cin, by omega, rfl, rfl, by go_num, by omega, y⟩
          case measure => simp [intOf]; omega
        | cons x T =>
          by_cases hcin : cin = 1
          · skip
            obtain ⟨t, ht⟩ : ∃ t, T.length = t := ⟨_, rfl⟩
            obtain rfl : t + 1 = l := by rw [← y.hl, ← ht]; rfl
            have hx := y.i.lt x (.head _)
            have h9 := (y.i.own x (.head _)).2
            obtain ⟨e1, i2⟩ := y.i.pop (by decide)
            have hnd := (List.nodup_cons.1 y.i.nodup).1
            have Tk := Lib.hid (kTake1 y.k hx)
            rw [e1] at Tk
            have htot2 : (held (L.set x (0, [])) 0).length + t = m := by have := y.tot; have := held0_pop hx h9; omega
            have hby : (bytsOf L (x :: T)).tail = bytsOf (L.set x (0, [])) T := by rw [byts_away hx hnd]; rfl
            have ya := y.a
            have n23 := y.k.no23
            have hlz : ¬ (z : Int) < (t : Int) := by have := y.k.rg.le; have := y.hl; omega
            have hl256 : t ≤ 256 := by have := y.k.rg.le; have := y.k.rg.size; have := y.hl; omega
            clear RRd hxs hq3 y e1 h9
            go_wp2_with fail
            refine Tk.out.mono ?_
            rintro ev w7 ⟨A7, n7, c7, rfl, o7, k7, h7⟩
            have a7 := ya.kept h7 n23
            have cut := a7.cut (by omega)
            obtain ⟨bb, off, cur, hAe, hbb, hcur, hoc, hrow⟩ := a7.row
            have hrow0 := hrow 0 (by omega)
            rw [show (bytsOf L (x :: T)).getD 0 [] = byt L x from rfl] at hrow0
            obtain ⟨A8, n8, c8, e8, r8⟩ := hrow0
            have x8 : w7.cell? ⟨bb, off, none⟩ = some (.slice A8 n8 c8) := by rw [cell_of_row w7 bb _ _ 23 (0, 0) hcur]; rw [Nat.add_zero] at e8; exact e8
            have r8' := r8.below k7.b (Nat.le_refl _)
            have r7 := o7.rd
            have hcap := a7.cap
            have hc7 : cin = 1 := hcin
            rw [if_pos hc7, hby, Nat.add_sub_cancel] at cut
            subst hAe
            clear Tk ya h7 n23 hcur hoc hrow e8 r8 a7 hby o7 hx hnd c0 c1 c2 c3 bx ba
            generalize byt L x = xb at *
            generalize L.set x (0, []) = L2 at *
            go_wp2_with fail
            refine (same_any A7 A8 n7 c7 n8 c8 xb _ _ w7 r7 r8').mono ?_
            rintro ev w8 ⟨rfl, hb8⟩
            have y : KO w p g m q s z L2 T t d (some ⟨bb, off, none⟩) (cin - 1) w8 := ⟨k7.step hb8, i2, ht, htot2, cut.below hb8⟩
            clear k7 cut r7 r8' x8 hb8 i2 htot2
            have ht0 : t = 0 := by omega
            clear hcap ht
            subst hc7
            subst ht0
            go_wp2_with (first
              | (go_at_call 23; with_reducible refine (oLen y).mono ?_; rintro ev u1 ⟨rfl, rfl⟩)
              | (go_at_call 24; with_reducible refine (oDropped y).mono ?_; rintro ev u2 ⟨rfl, rfl⟩)
              | (go_at_call 25; with_reducible refine (oLeft y).mono ?_; rintro ev u3 ⟨lf, rfl, hlf, y2⟩; clear y; have y := y2; clear y2)
              | (go_at_call 27; with_reducible refine (oAll y).mono ?_; rintro ev u4 ⟨A9, c9, rfl, B1, B2, y2⟩; clear y; have y := y2; clear y2)
              | (go_at_call 26; refine (sameRows_any _ _ 0 _ _ (bytsOf L2 T) _ _ _ B1 B2 (Nat.le_refl _) (Nat.le_refl _)).mono ?_; rintro ev u5 ⟨rfl, hb9⟩; replace y := y.step hb9; clear B1 B2 hb9)
              | (go_at_call 28; with_reducible refine (oHeld y).mono ?_; rintro ev u6 ⟨A8, c8, rfl, y2⟩; clear y; have y := y2; clear y2))
            go_roundw
            case rel => exact ⟨k + 1, L2, T, 0, d, _, _, by omega, rfl, rfl, by go_num, by omega, y⟩
            case measure => simp [intOf]; omega
          · skip
            obtain ⟨t, ht⟩ : ∃ t, T.length = t := ⟨_, rfl⟩
            obtain rfl : t + 1 = l := by rw [← y.hl, ← ht]; rfl
            have hx := y.i.lt x (.head _)
            have h9 := (y.i.own x (.head _)).2
            obtain ⟨e1, i2⟩ := y.i.pop (by decide)
            have hnd := (List.nodup_cons.1 y.i.nodup).1
            have Tk := Lib.hid (kTake1 y.k hx)
            rw [e1] at Tk
            have htot2 : (held (L.set x (0, [])) 0).length + t = m := by have := y.tot; have := held0_pop hx h9; omega
            have hby : (bytsOf L (x :: T)).tail = bytsOf (L.set x (0, [])) T := by rw [byts_away hx hnd]; rfl
            have ya := y.a
            have n23 := y.k.no23
            have hlz : ¬ (z : Int) < (t : Int) := by have := y.k.rg.le; have := y.hl; omega
            have hl256 : t ≤ 256 := by have := y.k.rg.le; have := y.k.rg.size; have := y.hl; omega
            clear RRd hxs hq3 y e1 h9
            go_wp2_with fail
            refine Tk.out.mono ?_
            rintro ev w7 ⟨A7, n7, c7, rfl, o7, k7, h7⟩
            have a7 := ya.kept h7 n23
            have cut := a7.cut (by omega)
            obtain ⟨bb, off, cur, hAe, hbb, hcur, hoc, hrow⟩ := a7.row
            have hrow0 := hrow 0 (by omega)
            rw [show (bytsOf L (x :: T)).getD 0 [] = byt L x from rfl] at hrow0
            obtain ⟨A8, n8, c8, e8, r8⟩ := hrow0
            have x8 : w7.cell? ⟨bb, off, none⟩ = some (.slice A8 n8 c8) := by rw [cell_of_row w7 bb _ _ 23 (0, 0) hcur]; rw [Nat.add_zero] at e8; exact e8
            have r8' := r8.below k7.b (Nat.le_refl _)
            have r7 := o7.rd
            have hcap := a7.cap
            have hc7 : ¬ cin = 1 := hcin
            rw [if_neg hc7, hby, Nat.add_sub_cancel] at cut
            subst hAe
            clear Tk ya h7 n23 hcur hoc hrow e8 r8 a7 hby o7 hx hnd c0 c1 c2 c3 bx ba
            generalize byt L x = xb at *
            generalize L.set x (0, []) = L2 at *
            go_wp2_with fail
            refine (same_any A7 A8 n7 c7 n8 c8 xb _ _ w7 r7 r8').mono ?_
            rintro ev w8 ⟨rfl, hb8⟩
            have y : KO w p g m q s z L2 T t d (some ⟨bb, off + 1, none⟩) (cin - 1) w8 := ⟨k7.step hb8, i2, ht, htot2, (show InAt w w7 (some ⟨bb, off + 1, none⟩) t (cin - 1) (bytsOf L2 T) from by simpa [Addr.add] using cut).below hb8⟩
            clear k7 cut r7 r8' x8 hb8 i2 htot2
            skip
            go_wp2_with (first
              | (go_at_call 23; with_reducible refine (oLen y).mono ?_; rintro ev u1 ⟨rfl, rfl⟩)
              | (go_at_call 24; with_reducible refine (oDropped y).mono ?_; rintro ev u2 ⟨rfl, rfl⟩)
              | (go_at_call 25; with_reducible refine (oLeft y).mono ?_; rintro ev u3 ⟨lf, rfl, hlf, y2⟩; clear y; have y := y2; clear y2)
              | (go_at_call 27; with_reducible refine (oAll y).mono ?_; rintro ev u4 ⟨A9, c9, rfl, B1, B2, y2⟩; clear y; have y := y2; clear y2)
              | (go_at_call 26; refine (sameRows_any _ _ t _ _ (bytsOf L2 T) _ _ _ B1 B2 (Nat.le_refl _) (Nat.le_refl _)).mono ?_; rintro ev u5 ⟨rfl, hb9⟩; replace y := y.step hb9; clear B1 B2 hb9)
              | (go_at_call 28; with_reducible refine (oHeld y).mono ?_; rintro ev u6 ⟨A8, c8, rfl, y2⟩; clear y; have y := y2; clear y2))
            go_roundw
            case rel => exact ⟨k + 1, L2, T, t, d, _, _, by omega, rfl, rfl, by go_num, by omega, y⟩
            case measure => simp [intOf]; omega
      · by_cases hE : ptE L R z 9 nk = 0
        · skip
          have hw2 : (wh == 2) = false := by simpa using h2
          have Ow := Lib.hid (own_any Ak nk ck _ xs _ RR.out hw0 (by omega))
          go_wp2_with fail
          refine Ow.out.mono ?_
          rintro ev w6 ⟨A6, n6, c6, rfl, o6, hb6⟩
          obtain rfl : nk = n6 := by rw [← o6.len, ← hxs]
          replace y := y.step hb6
          have hbx6 := (hb6.block _ (Array.getElem?_eq_some_iff.1 bx).1).trans bx
          have hwr : wr.heap.size < w6.heap.size := (Array.getElem?_eq_some_iff.1 hbx6).1
          have Pt := Lib.hid (kPut y.k (by omega) o6.rd (Nat.le_refl _))
          have n23 := y.k.no23
          have ya := y.a
          clear Ow hb6 c0 c1 c2 c3 ba bx o6
          obtain ⟨hf, hE1⟩ := ptE_of hE
          have hl := (tkE_of hE1).2.2
          have h0 := free1_ow L hl
          have hE' : ptE L R z 9 xs.length = 0 := by rw [hxs]; exact hE
          have i2 := y.i.push hl (by rw [h0]; decide) xs
          have hn : free1 L ∉ R := fun hm => by have := (y.i.own _ hm).2; rw [h0] at this; exact absurd this (by decide)
          have hby : bytsOf L R ++ [xs] = bytsOf (L.set (free1 L) (9, xs)) (R ++ [free1 L]) := by
            have e : bytsOf (L.set (free1 L) (9, xs)) (R ++ [free1 L]) = bytsOf (L.set (free1 L) (9, xs)) R ++ [byt (L.set (free1 L) (9, xs)) (free1 L)] := by simp [bytsOf]
            rw [e, byts_away hl hn, byt_new hl]
          have hl2 : (R ++ [free1 L]).length = l + 1 := by simp [y.hl]
          have ht2 : (held (L.set (free1 L) (9, xs)) 0).length + (l + 1) = m := by have := y.tot; have := held0_push hl h0 xs; omega
          rw [ptL_yes hE', ptR_yes hE, hE, drp_ok] at Pt
          have hlz : ¬ (z : Int) < ((l + 1 : Nat) : Int) := by have := y.hl; omega
          have hl256 : l + 1 ≤ 256 := by have := y.k.rg.size; have := y.hl; omega
          have HBY := Lib.hid hby
          clear hby
          generalize free1 L = v at *
          generalize L.set v (9, xs) = L2 at *
          generalize R ++ [v] = R2 at *
          clear hE hE1 hE' hf hl h0 hn y
          go_wp2_with fail
          refine Pt.out.mono ?_
          rintro ev w7 ⟨rfl, k7, h7⟩
          have a7 := ya.kept h7 n23
          have hbx7 := (h7.block _ hwr (fun e => by rcases e with e | e | e <;> (subst e; first | exact absurd rfl (hng.1) | exact absurd rfl (hng.2.1) | exact absurd rfl (hng.2.2)))).trans hbx6
          clear hbx6 n23 ya h7 Pt RR
          obtain ⟨-, -, -, x3⟩ := box_c hbx7
          have ba7 := alloc_below w7 (.cells #[.slice Ak nk ck] 23)
          have a8 := a7.below ba7
          have k8 := k7.step ba7
          have g8 := cell_of_one (heap_alloc_new w7 (.cells #[.slice Ak nk ck] 23))
          clear a7 k7 ba7 hbx7
          go_wp2_with (at_builtin; refine wpList_in rfl (.tmp 89) (.tmp 92) rfl A l cin _ rfl w7.heap.size rfl a8 (by omega) k8.b.size RRd.out g8 ?_)
          intro Ab cb w9 a9 h9
          rw [HBY.out] at a9
          have y : KO w p g m q s z L2 R2 (l + 1) d Ab cb w9 := ⟨k8.rowB h9, i2, hl2, ht2, a9⟩
          clear a8 k8 g8 a9 h9 i2 hl2 ht2 HBY RRd x3
          go_wp2_with (first
            | (go_at_call 23; with_reducible refine (oLen y).mono ?_; rintro ev u1 ⟨rfl, rfl⟩)
            | (go_at_call 24; with_reducible refine (oDropped y).mono ?_; rintro ev u2 ⟨rfl, rfl⟩)
            | (go_at_call 25; with_reducible refine (oLeft y).mono ?_; rintro ev u3 ⟨lf, rfl, hlf, y2⟩; clear y; have y := y2; clear y2)
            | (go_at_call 27; with_reducible refine (oAll y).mono ?_; rintro ev u4 ⟨A9, c9, rfl, B1, B2, y2⟩; clear y; have y := y2; clear y2)
            | (go_at_call 26; refine (sameRows_any _ _ (l + 1) _ _ (bytsOf L2 R2) _ _ _ B1 B2 (Nat.le_refl _) (Nat.le_refl _)).mono ?_; rintro ev u5 ⟨rfl, hb9⟩; replace y := y.step hb9; clear B1 B2 hb9)
            | (go_at_call 28; with_reducible refine (oHeld y).mono ?_; rintro ev u6 ⟨A8, c8, rfl, y2⟩; clear y; have y := y2; clear y2))
          go_roundw
          case rel => exact ⟨k + 1, L2, R2, l + 1, d, Ab, cb, by omega, rfl, rfl, by go_num, by omega, y⟩
          case measure => simp [intOf]; omega
        · skip
          have hw2 : (wh == 2) = false := by simpa using h2
          have Ow := Lib.hid (own_any Ak nk ck _ xs _ RR.out hw0 (by omega))
          go_wp2_with fail
          refine Ow.out.mono ?_
          rintro ev w6 ⟨A6, n6, c6, rfl, o6, hb6⟩
          obtain rfl : nk = n6 := by rw [← o6.len, ← hxs]
          replace y := y.step hb6
          have hbx6 := (hb6.block _ (Array.getElem?_eq_some_iff.1 bx).1).trans bx
          have hwr : wr.heap.size < w6.heap.size := (Array.getElem?_eq_some_iff.1 hbx6).1
          have Pt := Lib.hid (kPut y.k (by omega) o6.rd (Nat.le_refl _))
          have n23 := y.k.no23
          have ya := y.a
          clear Ow hb6 c0 c1 c2 c3 ba bx o6
          have hE2 : (ptE L R z 9 nk == 0) = false := by simpa using hE
          rw [ptL_no (by rw [hxs]; exact hE), ptR_no hE, drp_no hE] at Pt
          have hlz : ¬ (z : Int) < (l : Int) := by have := y.k.rg.le; have := y.hl; omega
          have hl256 : l ≤ 256 := by have := y.k.rg.le; have := y.k.rg.size; have := y.hl; omega
          have i2 := y.i
          have hl2 := y.hl
          have ht2 := y.tot
          clear hbx6 hwr hE RRd y RR
          generalize ptE L R z 9 nk = E at *
          go_wp2_with fail
          refine Pt.out.mono ?_
          rintro ev w7 ⟨rfl, k7, h7⟩
          have y : KO w p g m q s z L R l (d + 1) A cin w7 := ⟨k7, i2, hl2, ht2, ya.kept h7 n23⟩
          clear Pt k7 h7 n23 ya i2 hl2 ht2
          go_wp2_with (first
            | (go_at_call 23; with_reducible refine (oLen y).mono ?_; rintro ev u1 ⟨rfl, rfl⟩)
            | (go_at_call 24; with_reducible refine (oDropped y).mono ?_; rintro ev u2 ⟨rfl, rfl⟩)
            | (go_at_call 25; with_reducible refine (oLeft y).mono ?_; rintro ev u3 ⟨lf, rfl, hlf, y2⟩; clear y; have y := y2; clear y2)
            | (go_at_call 27; with_reducible refine (oAll y).mono ?_; rintro ev u4 ⟨A9, c9, rfl, B1, B2, y2⟩; clear y; have y := y2; clear y2)
            | (go_at_call 26; refine (sameRows_any _ _ l _ _ (bytsOf L R) _ _ _ B1 B2 (Nat.le_refl _) (Nat.le_refl _)).mono ?_; rintro ev u5 ⟨rfl, hb9⟩; replace y := y.step hb9; clear B1 B2 hb9)
            | (go_at_call 28; with_reducible refine (oHeld y).mono ?_; rintro ev u6 ⟨A8, c8, rfl, y2⟩; clear y; have y := y2; clear y2))
          go_roundw
          case rel => exact ⟨k + 1, L, R, l, d + 1, A, cin, by omega, rfl, rfl, by go_num, by omega, y⟩
          case measure => simp [intOf]; omega
    · have hbw := y.k.b
      clear y
      go_wp2
      go_ret
      exact ⟨rfl, hbw⟩
theorem order_law (m : Int) (sz : Int) (A : Option Addr) (n c : Nat) (qs : Nat → Cal) (w : World) (H : CallsAt w w.heap.size A n c qs) : Calls Try.prog 4 #[.int .i64 m, .int .i64 sz, .slice A n c] w fun e w' => e = .returned (.bool true) ∧ Below w.heap.size w w' := by
  by_cases h1 : 100 < m ∨ 100 < n
  · exact order_big m sz A n c qs w H h1
  have h1' : ¬ 100 < m := fun q => h1 (.inl q)
  have h2 : n ≤ 100 := by omega
  by_cases h3 : longB n qs = true
  · exact order_long m sz A n c qs w H h1' h2 h3
  have h3' : longB n qs = false := by simpa using h3
  by_cases h7 : m < 1
  · exact order_bad m sz A n c qs w H h1' h2 h3' h7
  obtain ⟨k, rfl⟩ : ∃ k : Nat, m = (k : Int) := ⟨m.toNat, by omega⟩
  by_cases h9 : sz < 1 ∨ 256 < sz
  · exact order_none k sz A n c qs w H (by omega) (by omega) h2 h3' h9
  obtain ⟨z, rfl⟩ : ∃ z : Nat, sz = (z : Int) := ⟨sz.toNat, by omega⟩
  exact order_in k z A n c qs w H (by omega) (by omega) h2 h3' (by omega)
end Go.Proofs.Ytjaiagocbldbgaa
