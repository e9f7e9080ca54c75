/-
  The law RingMoves: a buffer that is moved into a ring is its last one, with its bytes; one that can't be moved stays its owner's.
-/
import Derived.Test.YtjaiagocbldbgaaAlive
import Derived.Test.YtjaiagocbldbgaaArgu
import Derived.Test.YtjaiagocbldbgaaCount
import Derived.Test.YtjaiagocbldbgaaRAllO
namespace Go.Proofs.Ytjaiagocbldbgaa
open Go.RowKit
set_option linter.unusedVariables false

theorem mv_new {L : Slots} {n : Nat} (hn : n < L.length) (h7 : ow L n = 7) {R : List Nat} {z : Nat} (hf : R.length < z) : mvE L R z 9 (n : Int) 7 = 0 ∧ mvL L R z 9 (n : Int) 7 = L.set n (9, byt L n) ∧ mvR L R z 9 (n : Int) 7 = R ++ [n] := by
  have h1 : hdE L (n : Int) 7 9 = 0 := by rw [hdE_to (by decide)]; exact chE_ok (by decide) hn h7
  have h2 : mvE L R z 9 (n : Int) 7 = 0 := by unfold mvE; rw [if_pos hf, h1]
  refine ⟨h2, ?_, ?_⟩
  · unfold mvL; rw [if_pos hf, hdL_yes h1]
  · unfold mvR; rw [if_pos h2]; simp
theorem mv_again {L : Slots} {n : Nat} (hn : n < L.length) (h9 : ow L n = 9) {R : List Nat} {z : Nat} : ¬ mvE L R z 9 (n : Int) 7 = 0 := by
  unfold mvE
  split
  · rw [hdE_to (by decide), chE_ne (by decide) hn (by rw [h9]; decide)]; decide
  · decide
theorem mv_full {L : Slots} {R : List Nat} {z : Nat} (hf : ¬ R.length < z) (b : Int) : mvE L R z 9 b 7 = 18 ∧ mvL L R z 9 b 7 = L ∧ mvR L R z 9 b 7 = R := by
  have h : mvE L R z 9 b 7 = 18 := by unfold mvE; rw [if_neg hf]
  refine ⟨h, ?_, ?_⟩
  · unfold mvL; rw [if_neg hf]
  · unfold mvR; rw [h]; rfl
theorem bytsOf_away {L : Slots} {R : List Nat} {i : Nat} (hi : i < L.length) (hn : i ∉ R) (r : Int × List Int) : bytsOf (L.set i r) R = bytsOf L R := by
  unfold bytsOf
  exact List.map_congr_left (fun x hx => byt_same hi r (fun e => hn (e ▸ hx)))

set_option maxRecDepth 100000 in
set_option maxHeartbeats 4000000 in
theorem moves_big (m : Int) (sz : Int) (A : Option Addr) (n c : Nat) (qs : Nat → Cal) (A2 : Option Addr) (n2 c2 : Nat) (ys : List Int) (w : World) (H : CallsAt w w.heap.size A n c qs) (rd : Rd .u8 w w.heap.size A2 n2 c2 ys) (h : 100 < m ∨ 100 < n) : Calls Try.prog 6 #[.int .i64 m, .int .i64 sz, .slice A n c, .slice A2 n2 c2] w fun e w' => e = .returned (.bool true) ∧ Below w.heap.size w w' := by
  have hc := Lib.hid (fun W => great_big m A n c W h H.1)
  clear H h
  go_enter Try.func6, Try.ntmps6
  go_wp2_with fail
  refine (alive_any _).mono ?_
  rintro ev w1 ⟨rfl, hb⟩
  go_wp2_with fail
  refine (hc.out _).mono ?_
  rintro ev w2 ⟨rfl, rfl⟩
  go_wp2
  go_ret
  exact ⟨rfl, hb⟩
set_option maxRecDepth 100000 in
set_option maxHeartbeats 4000000 in
theorem moves_long (m : Int) (sz : Int) (A : Option Addr) (n c : Nat) (qs : Nat → Cal) (A2 : Option Addr) (n2 c2 : Nat) (ys : List Int) (w : World) (H : CallsAt w w.heap.size A n c qs) (rd : Rd .u8 w w.heap.size A2 n2 c2 ys) (h1 : ¬ 100 < m) (h2 : n ≤ 100) (h3 : longB n qs = true) : Calls Try.prog 6 #[.int .i64 m, .int .i64 sz, .slice A n c, .slice A2 n2 c2] w fun e w' => e = .returned (.bool true) ∧ Below w.heap.size w w' := by
  have hc := Lib.hid (fun W q => great_in true m A n c w.heap.size qs W h3 h1 h2 q)
  have HH := Lib.hid H
  clear H h1 h2 h3
  go_enter Try.func6, Try.ntmps6
  go_wp2_with fail
  refine (alive_any _).mono ?_
  rintro ev w1 ⟨rfl, hb⟩
  go_wp2_with fail
  refine (hc.out _ (HH.out.below hb)).mono ?_
  rintro ev w2 ⟨rfl, rfl⟩
  go_wp2
  go_ret
  exact ⟨rfl, hb⟩
set_option maxRecDepth 100000 in
set_option maxHeartbeats 4000000 in
theorem moves_far (m : Int) (sz : Int) (A : Option Addr) (n c : Nat) (qs : Nat → Cal) (A2 : Option Addr) (n2 c2 : Nat) (ys : List Int) (w : World) (H : CallsAt w w.heap.size A n c qs) (rd : Rd .u8 w w.heap.size A2 n2 c2 ys) (h1 : ¬ 100 < m) (h2 : n ≤ 100) (h3 : longB n qs = false) (h4 : 1514 < n2) : Calls Try.prog 6 #[.int .i64 m, .int .i64 sz, .slice A n c, .slice A2 n2 c2] w fun e w' => e = .returned (.bool true) ∧ Below w.heap.size w w' := by
  have hc := Lib.hid (fun W q => great_in false m A n c w.heap.size qs W h3 h1 h2 q)
  have HH := Lib.hid H
  have h5 : (1514 : Int) < (n2 : Int) := by omega
  have h6 := rd.max
  have h7 := rd.cap
  clear H h1 h2 h3 rd
  go_enter Try.func6, Try.ntmps6
  go_wp2_with fail
  refine (alive_any _).mono ?_
  rintro ev w1 ⟨rfl, hb⟩
  go_wp2_with fail
  refine (hc.out _ (HH.out.below hb)).mono ?_
  rintro ev w2 ⟨rfl, rfl⟩
  go_wp2
  go_ret
  exact ⟨rfl, hb⟩
set_option maxRecDepth 100000 in
set_option maxHeartbeats 4000000 in
theorem moves_bad (m : Int) (sz : Int) (A : Option Addr) (n c : Nat) (qs : Nat → Cal) (A2 : Option Addr) (n2 c2 : Nat) (ys : List Int) (w : World) (H : CallsAt w w.heap.size A n c qs) (rd : Rd .u8 w w.heap.size A2 n2 c2 ys) (h1 : ¬ 100 < m) (h2 : n ≤ 100) (h3 : longB n qs = false) (h4 : n2 ≤ 1514) (h7 : m < 1) : Calls Try.prog 6 #[.int .i64 m, .int .i64 sz, .slice A n c, .slice A2 n2 c2] w fun e w' => e = .returned (.bool true) ∧ Below w.heap.size w w' := by
  have hc := Lib.hid (fun W q => great_in false m A n c w.heap.size qs W h3 h1 h2 q)
  have HN := Lib.hid (fun W => new_no m W (.inl h7))
  have HH := Lib.hid H
  have h5 : ¬ (1514 : Int) < (n2 : Int) := by omega
  have h6 := rd.max
  have h6' := rd.cap
  clear H h1 h2 h3 rd h4
  go_enter Try.func6, Try.ntmps6
  go_wp2_with fail
  refine (alive_any _).mono ?_
  rintro ev w1 ⟨rfl, hb⟩
  go_wp2_with fail
  refine (hc.out _ (HH.out.below hb)).mono ?_
  rintro ev w2 ⟨rfl, rfl⟩
  go_wp2_with fail
  refine (HN.out _).mono ?_
  rintro ev w3 ⟨rfl, rfl⟩
  go_wp2
  go_ret
  exact ⟨rfl, hb⟩
set_option maxRecDepth 100000 in
set_option maxHeartbeats 4000000 in
theorem moves_none (m : Nat) (sz : Int) (A : Option Addr) (n c : Nat) (qs : Nat → Cal) (A2 : Option Addr) (n2 c2 : Nat) (ys : List Int) (w : World) (H : CallsAt w w.heap.size A n c qs) (rd : Rd .u8 w w.heap.size A2 n2 c2 ys) (h1 : 1 ≤ m) (h8 : m ≤ 100) (h2 : n ≤ 100) (h3 : longB n qs = false) (h4 : n2 ≤ 1514) (h9 : sz < 1 ∨ 256 < sz) : Calls Try.prog 6 #[.int .i64 (m : Int), .int .i64 sz, .slice A n c, .slice A2 n2 c2] w fun e w' => e = .returned (.bool true) ∧ Below w.heap.size w w' := by
  have hc := Lib.hid (fun W q => great_in false (m : Int) A n c w.heap.size qs W h3 (by omega) h2 q)
  have HN := Lib.hid (fun W => new_yes m W h1 (by omega))
  have HH := Lib.hid H
  have HX : Hid (∀ j, j < n → (qs j).n ≤ 1600) := Lib.hid (fun j hj => longB_of h3 hj)
  have h5 : ¬ (1514 : Int) < (n2 : Int) := by omega
  have h6 := rd.max
  have h6' := rd.cap
  have hcc := H.1.2
  have h1' : ¬ (m : Int) < 1 := by omega
  have N1 := Lib.hid (fun p W => newR_no p sz 9 W (by omega))
  clear h9
  clear H h3
  go_enter Try.func6, Try.ntmps6
  go_wp2_with fail
  refine (alive_any _).mono ?_
  rintro ev w1 ⟨rfl, hb⟩
  go_wp2_with fail
  refine (hc.out _ (HH.out.below hb)).mono ?_
  rintro ev w2 ⟨rfl, rfl⟩
  go_wp2_with fail
  refine (HN.out _).mono ?_
  rintro ev w3 ⟨p, g, rfl, hp, hlo, hb3⟩
  have hbw := hb.trans (hb3.mono hb.size)
  have hlo3 : w.heap.size ≤ p ∧ w.heap.size ≤ g := by have := hb.size; omega
  clear hb hb3 hlo hc HN
  go_wp2_with fail
  refine (N1.out _ _).mono ?_
  rintro ev w4 ⟨rfl, rfl⟩
  go_wp2
  go_ret
  exact ⟨rfl, hbw⟩
set_option maxRecDepth 100000 in
set_option maxHeartbeats 4000000 in
theorem moves_in (m : Nat) (z : Nat) (A : Option Addr) (n c : Nat) (qs : Nat → Cal) (A2 : Option Addr) (n2 c2 : Nat) (ys : List Int) (w : World) (H : CallsAt w w.heap.size A n c qs) (rd : Rd .u8 w w.heap.size A2 n2 c2 ys) (h1 : 1 ≤ m) (h8 : m ≤ 100) (h2 : n ≤ 100) (h3 : longB n qs = false) (h4 : n2 ≤ 1514) (hz : 1 ≤ z ∧ z ≤ 256) : Calls Try.prog 6 #[.int .i64 (m : Int), .int .i64 (z : Int), .slice A n c, .slice A2 n2 c2] w fun e w' => e = .returned (.bool true) ∧ Below w.heap.size w w' := by
  have hc := Lib.hid (fun W q => great_in false (m : Int) A n c w.heap.size qs W h3 (by omega) h2 q)
  have HN := Lib.hid (fun W => new_yes m W h1 (by omega))
  have HH := Lib.hid H
  have HX : Hid (∀ j, j < n → (qs j).n ≤ 1600) := Lib.hid (fun j hj => longB_of h3 hj)
  have h5 : ¬ (1514 : Int) < (n2 : Int) := by omega
  have h6 := rd.max
  have h6' := rd.cap
  have hcc := H.1.2
  have h1' : ¬ (m : Int) < 1 := by omega
  clear H h3
  go_enter Try.func6, Try.ntmps6
  go_wp2_with fail
  refine (alive_any _).mono ?_
  rintro ev w1 ⟨rfl, hb⟩
  go_wp2_with fail
  refine (hc.out _ (HH.out.below hb)).mono ?_
  rintro ev w2 ⟨rfl, rfl⟩
  go_wp2_with fail
  refine (HN.out _).mono ?_
  rintro ev w3 ⟨p, g, rfl, hp, hlo, hb3⟩
  have hbw := hb.trans (hb3.mono hb.size)
  have hlo3 : w.heap.size ≤ p ∧ w.heap.size ≤ g := by have := hb.size; omega
  clear hb hb3 hlo hc HN
  go_wp2_with fail
  refine (newR_yes p z 9 w3 hz.1 hz.2 (by decide)).mono ?_
  rintro ev w4 ⟨q, s, rfl, hg, hlo4, hb4⟩
  have q0 : KA w p g m q s z 9 (List.replicate m (0, [])) [] 0 w4 := ⟨hp.below hb4, hg, hbw.trans (hb4.mono hbw.size), by have := hbw.size; omega, by simp; omega⟩
  have i0 : Inv (List.replicate m (0, [])) [] 9 := Inv.new m 9 (by decide)
  clear hp hg hlo4 hb4 hbw hlo3
  go_wp2
  go_loopw [13] (fun i wr => ∃ (k : Nat) (L : Slots) (R : List Nat) (d : Nat), k ≤ n ∧ i = .int .i64 k ∧ d ≤ k ∧ KA w p g m q s z 9 L R d wr ∧ Inv L R 9) (fun i _ => n - (intOf i).toNat)
  case atStart => exact ⟨0, _, [], 0, Nat.zero_le _, rfl, Nat.le_refl _, q0, i0⟩
  case round =>
    clear q0 i0
    obtain ⟨k, L, R, d, hk, rfl, hdk, q, i⟩ := hrel
    by_cases hkn : k < n
    · obtain ⟨b0, o0, rfl, hbB, ⟨c0, c1, c2, c3⟩, hrd⟩ := HH.out.2 k hkn
      replace c0 := (q.b.cell hbB).trans c0
      replace c3 := (q.b.cell hbB).trans c3
      replace hrd := hrd.below q.b (Nat.le_refl _)
      have hq1 := hrd.cap
      have hq2 := hrd.max
      have hq3 := HX.out k hkn
      have hxs := hrd.len
      clear c1 c2
      generalize (qs k).wh = wh at *
      generalize (qs k).n = nk at *
      generalize (qs k).c = ck at *
      generalize (qs k).A = Ak at *
      generalize (qs k).xs = xs at *
      by_cases h2w : wh = 2
      · subst h2w
        clear hrd hq3 c3
        cases R with
        | nil =>
          go_wp2_with fail
          refine (kTake0 q).mono ?_
          rintro ev w5 ⟨rfl, rfl⟩
          clear c0
          go_wp2
          go_roundw
          case rel => exact ⟨k + 1, L, [], d, by omega, by go_num, by omega, q, i⟩
          case measure => simp [intOf]; omega
        | cons x T =>
          obtain ⟨e1, i2⟩ := i.pop (by decide)
          have Tk := Lib.hid (kTake1 q (i.lt x (.head _)))
          rw [e1] at Tk
          generalize L.set x (0, []) = L2 at *
          clear i e1 q
          go_wp2_with fail
          refine Tk.out.mono ?_
          rintro ev w5 ⟨A5, n5, c5, rfl, -, q5, -⟩
          clear c0 Tk
          go_wp2
          go_roundw
          case rel => exact ⟨k + 1, L2, T, d, by omega, by go_num, by omega, q5, i2⟩
          case measure => simp [intOf]; omega
      · have Ow := Lib.hid (own_any Ak nk ck _ xs wr hrd q.b.size (by omega))
        have hw2 : (wh == 2) = false := by simpa using h2w
        clear hrd
        go_wp2_with fail
        refine Ow.out.mono ?_
        rintro ev w5 ⟨A5, n5, c5, rfl, o5, hb5⟩
        obtain rfl : nk = n5 := by rw [← o5.len, ← hxs]
        have Pt := Lib.hid (kPut (q.step hb5) (by omega) o5.rd (Nat.le_refl _))
        have hdr := drp_le (ptE L R z 9 nk) d
        have i2 := i.put (z := z) (by decide) hxs
        clear c0 c3 Ow i hxs q o5 hb5
        generalize ptL L R z 9 xs = L2 at *
        generalize ptR L R z 9 nk = R2 at *
        generalize ptE L R z 9 nk = E at *
        generalize drp E d = d2 at *
        go_wp2_with fail
        refine Pt.out.mono ?_
        rintro ev w6 ⟨rfl, q6, -⟩
        clear Pt
        go_wp2
        go_roundw
        case rel => exact ⟨k + 1, L2, R2, d2, by omega, by go_num, by omega, q6, i2⟩
        case measure => simp [intOf]; omega
    · -- behind the loop
      have hRk := i.lt
      have hmx := rd.max
      have rdw := rd.below q.b (Nat.le_refl _)
      have Ow := Lib.hid (own_any A2 n2 c2 _ ys wr rdw q.b.size (by omega))
      clear rdw
      go_wp2_with fail
      refine Ow.out.mono ?_
      rintro ev w5 ⟨A4, n4, c4, rfl, o4, hb4⟩
      obtain rfl : n2 = n4 := by rw [← o4.len, ← rd.len]
      have q5 := q.step hb4
      clear Ow q
      have Tk := Lib.hid (kPTake q5 7 o4.rd (Nat.le_refl _))
      by_cases hf : free1 L < L.length
      · have hE : tkE L 7 n2 = 0 := tk_ok (by decide) h4 hf
        have hL2 : tkL L 7 ys = L.set (free1 L) (7, ys) := tkL_yes (by rw [rd.len]; exact hE)
        obtain ⟨x, hx⟩ : ∃ x, free1 L = x := ⟨_, rfl⟩
        rw [tkN_yes hE, hE, hL2, hx] at Tk
        rw [hx] at hf
        have h0 : ow L x = 0 := by rw [← hx]; exact free1_ow L (by omega)
        have i6 : Inv (L.set x (7, ys)) R 9 := i.away hf (by rw [h0]; decide) (show ¬ (7 : Int) = 9 by decide)
        have hxl : x < (L.set x (7, ys)).length := by simpa using hf
        have h7 : ow (L.set x (7, ys)) x = 7 := by rw [ow_set hf, if_pos rfl]
        have hby : byt (L.set x (7, ys)) x = ys := byt_new hf _
        have hxR : x ∉ R := fun hm => by have := (i6.own x hm).2; rw [h7] at this; exact absurd this (by decide)
        generalize L.set x (7, ys) = M at *
        clear i hE hL2 hx hf h0 hRk q5
        have RD := Lib.hid rd
        clear rd
        go_wp2_with fail
        refine Tk.out.mono ?_
        rintro ev w6 ⟨rfl, q6, -⟩
        clear Tk o4 hb4
        go_wp2_with fail
        refine (kLen q6).mono ?_
        rintro ev w7 ⟨rfl, rfl⟩
        go_wp2_with fail
        refine (kSize q6).mono ?_
        rintro ev w7 ⟨rfl, rfl⟩
        go_wp2_with fail
        refine (kAllO q6 i6.lt).mono ?_
        rintro ev w8 ⟨g8, rfl, r8, hg8, q8, hb8⟩
        have hz8 := q8.rg.le
        have hl256 := q8.rg.size
        clear q6 hb8
        obtain ⟨l, hl⟩ : ∃ l, R.length = l := ⟨_, rfl⟩
        by_cases hful : R.length < z
        · obtain ⟨e1, e2, e3⟩ := mv_new hxl h7 hful
          have Mv := Lib.hid (kMove q8 (by omega) (x : Int) 7)
          rw [e1, e2, e3, drp_ok, hby] at Mv
          have i9 : Inv (M.set x (9, ys)) (R ++ [x]) 9 := i6.push hxl (by rw [h7]; decide) ys
          have h9 : ow (M.set x (9, ys)) x = 9 := by rw [ow_set hxl, if_pos rfl]
          have hb9 : bytsOf (M.set x (9, ys)) (R ++ [x]) = bytsOf M R ++ [ys] := by
            have e : bytsOf (M.set x (9, ys)) (R ++ [x]) = bytsOf (M.set x (9, ys)) R ++ [byt (M.set x (9, ys)) x] := by simp [bytsOf]
            rw [e, bytsOf_away hxl hxR, byt_new hxl]
          have hxl9 : x < (M.set x (9, ys)).length := by simpa using hxl
          have ho9 : owV (M.set x (9, ys)) (x : Int) = 9 := by rw [owV_yes hxl9, h9]
          have hag : ¬ mvE (M.set x (9, ys)) (R ++ [x]) z 9 (x : Int) 7 = 0 := mv_again hxl9 h9
          have hln : (R ++ [x]).length = l + 1 := by simp [hl]
          have hbl : byt (M.set x (9, ys)) ((R ++ [x]).getD l 0) = ys := by
            have e : (R ++ [x]).getD l 0 = x := by simp [List.getD, ← hl]
            rw [e, byt_new hxl]
          have hlb : (bytsOf M R).length = l := by simp [bytsOf, hl]
          have hz0 : ((l : Int) == (z : Int)) = false := by simp; omega
          generalize M.set x (9, ys) = N at *
          obtain ⟨Q, hQ⟩ : ∃ Q, R ++ [x] = Q := ⟨_, rfl⟩
          rw [hQ] at Mv i9 hb9 hag hln hbl
          rw [hl] at hz8 hful
          have HL := Lib.hid hl
          clear e1 e2 e3 i6 hby hxR h7 hxl hQ hl
          go_wp2_with fail
          refine Mv.out.mono ?_
          rintro ev w9 ⟨rfl, q9, k9⟩
          have r9 := r8.kept k9 (fun j e => by omega)
          clear Mv q8 k9 r8
          go_wp2_with fail
          refine (kAllO q9 i9.lt).mono ?_
          rintro ev w10 ⟨g10, rfl, a10, hg10, q10, hb10⟩
          have r10 := r9.below hb10
          have hsz := hb10.size
          have b10 := r10.rows (by have := HL.out; omega)
          have c10 := a10.rows (by have := HL.out; omega)
          obtain ⟨cur, hcur, hcs, hrow⟩ := a10
          obtain ⟨A11, m11, c11, e11, o11⟩ := hrow l (by omega)
          rw [hbl] at o11
          have x11 : w10.cell? ⟨g10, l, none⟩ = some (.slice A11 m11 c11) := by rw [cell_of_row w10 g10 l _ 23 (0, 0) hcur]; exact e11
          have f11 := c10.take (m := l) (by omega)
          rw [hb9, List.take_left' hlb] at f11
          rw [HL.out] at b10
          rw [hln] at f11
          have rd10 := RD.out.below q10.b (Nat.le_refl _)
          have o11r := o11.rd
          have hl1 : (l : Int) < ((l + 1 : Nat) : Int) := by omega
          have Mv2 := Lib.hid (fun W (y : KA w p g m q s z 9 N Q d W) => kMove y (by omega) (x : Int) 7)
          rw [hln, HL.out]
          generalize mvE N Q z 9 (x : Int) 7 = E at *
          have hE : (E != 0) = true := by simpa using hag
          clear r9 r10 c10 hcur hcs hrow e11 o11 hb9 hbl q9 hag
          go_wp2_with (first
            | (go_at_call 33; with_reducible refine (kOwner q10 (x : Int)).mono ?_; rintro ev w12 ⟨rfl, rfl⟩; rw [ho9])
            | (go_at_call 26; refine (sameRows_any _ _ l _ _ (bytsOf M R) _ _ _ f11 b10 (Nat.le_refl _) (Nat.le_refl _)).mono ?_; rintro ev w13 ⟨rfl, hb13⟩; have rd13 := rd10.below hb13 q10.b.size; replace q10 := q10.step hb13; replace x11 := (hb13.cell (World.block_lt_of_cell? _ _ x11)).trans x11; replace o11r := o11r.below hb13 (Nat.le_refl _); clear f11 b10 hb13)
            | (go_at_call 20; refine (same_any _ _ _ _ _ _ ys _ _ _ o11r rd13).mono ?_; rintro ev w14 ⟨rfl, hb14⟩; replace q10 := q10.step hb14; clear o11r rd13 hb14)
            | (go_at_call 30; with_reducible refine (Mv2.out _ q10).mono ?_; rintro ev w15 ⟨rfl, q15, -⟩))
          go_ret
          exact ⟨rfl, q15.b⟩
        · obtain ⟨e1, e2, e3⟩ := mv_full hful (L := M) (R := R) (x : Int)
          have Mv := Lib.hid (kMove q8 (by omega) (x : Int) 7)
          rw [e1, e2, e3, drp_no (by decide)] at Mv
          have ho7 : owV M (x : Int) = 7 := by rw [owV_yes hxl, h7]
          have hlz : z = l := by omega
          have i9 := Lib.hid i6.lt
          have HL := Lib.hid hl
          clear e1 e2 e3 i6 hby hxR h7 hxl hful hl
          subst hlz
          have hzt : ((R.length : Int) == (z : Int)) = true := by rw [HL.out]; simp
          go_wp2_with fail
          refine Mv.out.mono ?_
          rintro ev w9 ⟨rfl, q9, k9⟩
          have r9 := r8.kept k9 (fun j e => by omega)
          clear Mv q8 k9 r8
          go_wp2_with fail
          refine (kAllO q9 i9.out).mono ?_
          rintro ev w10 ⟨g10, rfl, a10, hg10, q10, hb10⟩
          have r10 := r9.below hb10
          have b10 := r10.rows (by have := HL.out; omega)
          have c10 := a10.rows (by have := HL.out; omega)
          clear r9 r10 a10 q9 hb10
          go_wp2_with (first
            | (go_at_call 33; with_reducible refine (kOwner q10 (x : Int)).mono ?_; rintro ev w12 ⟨rfl, rfl⟩; rw [ho7])
            | (go_at_call 26; refine (sameRows_any _ _ _ _ _ (bytsOf M R) _ _ _ b10 c10 (Nat.le_refl _) (Nat.le_refl _)).mono ?_; rintro ev w13 ⟨rfl, hb13⟩; replace q10 := q10.step hb13; clear b10 c10 hb13))
          go_ret
          exact ⟨rfl, q10.b⟩
      · have hE : tkE L 7 n2 = 18 := tk_full (by decide) h4 hf
        have hN : ¬ tkE L 7 n2 = 0 := by rw [hE]; decide
        rw [tkN_no hN, hE, tkL_no (by rw [rd.len]; exact hN)] at Tk
        have hl0 := left_none hf
        clear i hf hN hE q5 rd
        go_wp2_with fail
        refine Tk.out.mono ?_
        rintro ev w6 ⟨rfl, q6, -⟩
        clear Tk o4 hb4
        go_wp2_with fail
        refine (kLeft q6).mono ?_
        rintro ev w7 ⟨rfl, q7, -⟩
        rw [hl0]
        go_wp2
        go_ret
        exact ⟨rfl, q7.b⟩
theorem moves_law (m : Int) (sz : Int) (A : Option Addr) (n c : Nat) (qs : Nat → Cal) (A2 : Option Addr) (n2 c2 : Nat) (ys : List Int) (w : World) (H : CallsAt w w.heap.size A n c qs) (rd : Rd .u8 w w.heap.size A2 n2 c2 ys) : Calls Try.prog 6 #[.int .i64 m, .int .i64 sz, .slice A n c, .slice A2 n2 c2] w fun e w' => e = .returned (.bool true) ∧ Below w.heap.size w w' := by
  by_cases h1 : 100 < m ∨ 100 < n
  · exact moves_big m sz A n c qs A2 n2 c2 ys w H rd h1
  have h1' : ¬ 100 < m := fun q => h1 (.inl q)
  have h2 : n ≤ 100 := by omega
  by_cases h3 : longB n qs = true
  · exact moves_long m sz A n c qs A2 n2 c2 ys w H rd h1' h2 h3
  have h3' : longB n qs = false := by simpa using h3
  by_cases h4 : 1514 < n2
  · exact moves_far m sz A n c qs A2 n2 c2 ys w H rd h1' h2 h3' h4
  have h4' : n2 ≤ 1514 := by omega
  by_cases h7 : m < 1
  · exact moves_bad m sz A n c qs A2 n2 c2 ys w H rd h1' h2 h3' h4' h7
  obtain ⟨k, rfl⟩ : ∃ k : Nat, m = (k : Int) := ⟨m.toNat, by omega⟩
  by_cases h9 : sz < 1 ∨ 256 < sz
  · exact moves_none k sz A n c qs A2 n2 c2 ys w H rd (by omega) (by omega) h2 h3' h4' h9
  obtain ⟨z, rfl⟩ : ∃ z : Nat, sz = (z : Int) := ⟨sz.toNat, by omega⟩
  exact moves_in k z A n c qs A2 n2 c2 ys w H rd (by omega) (by omega) h2 h3' h4' (by omega)
end Go.Proofs.Ytjaiagocbldbgaa
