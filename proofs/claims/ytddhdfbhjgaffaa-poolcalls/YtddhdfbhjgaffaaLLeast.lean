/-
  The law PoolLeast: the buffer that is taken is the least one that was free.
-/
import Derived.Test.YtddhdfbhjgaffaaAlive
import Derived.Test.YtddhdfbhjgaffaaArgu
namespace Go.Proofs.Ytddhdfbhjgaffaa
open Go.RowKit
set_option linter.unusedVariables false

/-- What the walk knows of its pool and of its clone. -/
structure KM (w : World) (p g m : Nat) (L : Slots) (p2 g2 : Nat) (M : Slots) (W : World) : Prop where
  k : KL w p g m L W
  c : Pp W p2 g2 m M (fun _ => True)
  ne : g ≠ p2 ∧ g ≠ g2
theorem KM.step {w W V : World} {p g m p2 g2 : Nat} {L M : Slots} (q : KM w p g m L p2 g2 M W) (hb : Below W.heap.size W V) : KM w p g m L p2 g2 M V := ⟨q.k.step hb, q.c.below hb, q.ne⟩
theorem KM.turn {w W V : World} {p g m p2 g2 : Nat} {L L' M : Slots} (q : KM w p g m L p2 g2 M W) (hL : 0 < L.length) (hp : Pp V p g m L' (fun _ => True)) (hk : Kept (· = g) W V) (hl : L'.length = L.length) : KM w p g m L' p2 g2 M V := by
  obtain ⟨cur, a2, _⟩ := q.k.pp.rows hL
  exact ⟨q.k.turn hp hk hl, q.c.kept hk (fun e => q.ne.1 e.symm) (fun e => q.ne.2 e.symm) (fun k e => .inr (by rw [e]; exact not5 a2 (by decide))), q.ne⟩
section
variable {w W : World} {p g m p2 g2 j : Nat} {L M : Slots}
theorem least_bytes (hj : j < M.length) (q : KM w p g m L p2 g2 M W) : Calls Try.prog 23 #[ptr p2, .int .i64 (j : Int)] W fun e w' => ∃ A n c, e = .returned (.tuple #[.slice A n c, .bool (takenB M (j : Int))]) ∧ Rd .u8 w' w'.heap.size A n c (byt M j) ∧ Below W.heap.size W w' ∧ KM w p g m L p2 g2 M w' := by
  refine (bytes_any p2 g2 m M _ (j : Int) W q.c).mono ?_
  rintro e w' ⟨A, n, c, xs, rfl, o, hb, hx⟩
  obtain rfl := hx j rfl hj
  exact ⟨A, n, c, rfl, o.rd, hb, q.step hb⟩
theorem least_bytes' (hj : j < L.length) (q : KM w p g m L p2 g2 M W) : Calls Try.prog 23 #[ptr p, .int .i64 (j : Int)] W fun e w' => ∃ A n c, e = .returned (.tuple #[.slice A n c, .bool (takenB L (j : Int))]) ∧ Rd .u8 w' w'.heap.size A n c (byt L j) ∧ Below W.heap.size W w' ∧ KM w p g m L p2 g2 M w' := by
  refine (bytes_any p g m L _ (j : Int) W q.k.pp).mono ?_
  rintro e w' ⟨A, n, c, xs, rfl, o, hb, hx⟩
  obtain rfl := hx j rfl hj
  exact ⟨A, n, c, rfl, o.rd, hb, q.step hb⟩
theorem least_owner (hj : j < M.length) (q : KM w p g m L p2 g2 M W) : Calls Try.prog 21 #[ptr p2, .int .i64 (j : Int)] W fun e w' => e = .returned (.int .i64 (ow M j)) ∧ W = w' := by
  have := owner_any p2 g2 m M _ (j : Int) W q.c
  rwa [owV_yes hj] at this
theorem least_owner' (hj : j < L.length) (q : KM w p g m L p2 g2 M W) : Calls Try.prog 21 #[ptr p, .int .i64 (j : Int)] W fun e w' => e = .returned (.int .i64 (ow L j)) ∧ W = w' := by
  have := owner_any p g m L _ (j : Int) W q.k.pp
  rwa [owV_yes hj] at this
end
theorem least_taken {L : Slots} {k j : Nat} {r : Int × List Int} (hk : k < L.length) (hj : ¬ j = k) : takenB (L.set k r) (j : Int) = takenB L (j : Int) := by
  unfold takenB
  rw [List.length_set]
  have : ow (L.set k r) (j : Int).toNat = ow L (j : Int).toNat := by
    rw [ow_set hk, if_neg (by simpa using hj)]
  rw [this]

set_option maxRecDepth 100000 in
set_option maxHeartbeats 4000000 in
theorem least_big (m : Int) (A : Option Addr) (n c : Nat) (qs : Nat → Cal) (a : Int) (A2 : Option Addr) (n2 c2 : Nat) (ys : List Int) (w : World) (H : CallsAt w w.heap.size A n c qs) (rd : Rd .u8 w w.heap.size A2 n2 c2 ys) (h : (100 < m ∧ m ≤ 1024) ∨ 100 < n) : Calls Try.prog 6 #[.int .i64 m, .slice A n c, .int .i64 a, .slice A2 n2 c2] w fun e w' => e = .returned (.bool true) ∧ Below w.heap.size w w' := by
  have hc := Lib.hid (fun W => great_big m A n c W h H.1)
  clear H h
  go_enter Try.func6, Try.ntmps6
  go_wp2_with fail
  refine (alive_any _).mono ?_
  rintro ev w1 ⟨rfl, hb⟩
  go_wp2_with fail
  refine (hc.out _).mono ?_
  rintro ev w2 ⟨rfl, rfl⟩
  go_wp2
  go_ret
  exact ⟨rfl, hb⟩
set_option maxRecDepth 100000 in
set_option maxHeartbeats 4000000 in
theorem least_long (m : Int) (A : Option Addr) (n c : Nat) (qs : Nat → Cal) (a : Int) (A2 : Option Addr) (n2 c2 : Nat) (ys : List Int) (w : World) (H : CallsAt w w.heap.size A n c qs) (rd : Rd .u8 w w.heap.size A2 n2 c2 ys) (h1 : ¬ (100 < m ∧ m ≤ 1024)) (h2 : n ≤ 100) (h3 : longB n qs = true) : Calls Try.prog 6 #[.int .i64 m, .slice A n c, .int .i64 a, .slice A2 n2 c2] w fun e w' => e = .returned (.bool true) ∧ Below w.heap.size w w' := by
  have hc := Lib.hid (fun W q => great_in true m A n c w.heap.size qs W h3 h1 h2 q)
  have HH := Lib.hid H
  clear H h1 h2 h3
  go_enter Try.func6, Try.ntmps6
  go_wp2_with fail
  refine (alive_any _).mono ?_
  rintro ev w1 ⟨rfl, hb⟩
  go_wp2_with fail
  refine (hc.out _ (HH.out.below hb)).mono ?_
  rintro ev w2 ⟨rfl, rfl⟩
  go_wp2
  go_ret
  exact ⟨rfl, hb⟩
set_option maxRecDepth 100000 in
set_option maxHeartbeats 4000000 in
theorem least_far (m : Int) (A : Option Addr) (n c : Nat) (qs : Nat → Cal) (a : Int) (A2 : Option Addr) (n2 c2 : Nat) (ys : List Int) (w : World) (H : CallsAt w w.heap.size A n c qs) (rd : Rd .u8 w w.heap.size A2 n2 c2 ys) (h1 : ¬ (100 < m ∧ m ≤ 1024)) (h2 : n ≤ 100) (h3 : longB n qs = false) (h4 : 1600 < n2) : Calls Try.prog 6 #[.int .i64 m, .slice A n c, .int .i64 a, .slice A2 n2 c2] w fun e w' => e = .returned (.bool true) ∧ Below w.heap.size w w' := by
  have hc := Lib.hid (fun W q => great_in false m A n c w.heap.size qs W h3 h1 h2 q)
  have HH := Lib.hid H
  have h5 : (1600 : Int) < (n2 : Int) := by omega
  have h6 := rd.max
  clear H h1 h2 h3 rd
  go_enter Try.func6, Try.ntmps6
  go_wp2_with fail
  refine (alive_any _).mono ?_
  rintro ev w1 ⟨rfl, hb⟩
  go_wp2_with fail
  refine (hc.out _ (HH.out.below hb)).mono ?_
  rintro ev w2 ⟨rfl, rfl⟩
  go_wp2
  go_ret
  exact ⟨rfl, hb⟩
set_option maxRecDepth 100000 in
set_option maxHeartbeats 4000000 in
theorem least_bad (m : Int) (A : Option Addr) (n c : Nat) (qs : Nat → Cal) (a : Int) (A2 : Option Addr) (n2 c2 : Nat) (ys : List Int) (w : World) (H : CallsAt w w.heap.size A n c qs) (rd : Rd .u8 w w.heap.size A2 n2 c2 ys) (h2 : n ≤ 100) (h3 : longB n qs = false) (h4 : n2 ≤ 1600) (h7 : m < 1 ∨ 1024 < m) : Calls Try.prog 6 #[.int .i64 m, .slice A n c, .int .i64 a, .slice A2 n2 c2] w fun e w' => e = .returned (.bool true) ∧ Below w.heap.size w w' := by
  have hc := Lib.hid (fun W q => great_in false m A n c w.heap.size qs W h3 (by omega) h2 q)
  have HN := Lib.hid (fun W => new_no m W h7)
  have HH := Lib.hid H
  have h5 : ¬ (1600 : Int) < (n2 : Int) := by omega
  have h6 := rd.max
  clear H h2 h3 h7 rd h4
  go_enter Try.func6, Try.ntmps6
  go_wp2_with fail
  refine (alive_any _).mono ?_
  rintro ev w1 ⟨rfl, hb⟩
  go_wp2_with fail
  refine (hc.out _ (HH.out.below hb)).mono ?_
  rintro ev w2 ⟨rfl, rfl⟩
  go_wp2_with fail
  refine (HN.out _).mono ?_
  rintro ev w3 ⟨rfl, rfl⟩
  go_wp2
  go_ret
  exact ⟨rfl, hb⟩
set_option maxRecDepth 100000 in
set_option maxHeartbeats 4000000 in
theorem least_in (m : Nat) (A : Option Addr) (n c : Nat) (qs : Nat → Cal) (a : Int) (A2 : Option Addr) (n2 c2 : Nat) (ys : List Int) (w : World) (H : CallsAt w w.heap.size A n c qs) (rd : Rd .u8 w w.heap.size A2 n2 c2 ys) (h1 : 1 ≤ m) (h8 : m ≤ 100) (h2 : n ≤ 100) (h3 : longB n qs = false) (h4 : n2 ≤ 1600) : Calls Try.prog 6 #[.int .i64 (m : Int), .slice A n c, .int .i64 a, .slice A2 n2 c2] w fun e w' => e = .returned (.bool true) ∧ Below w.heap.size w w' := by
  have hc := Lib.hid (fun W q => great_in false (m : Int) A n c w.heap.size qs W h3 (by omega) h2 q)
  have HN := Lib.hid (fun W => new_yes m W h1 (by omega))
  have HH := Lib.hid H
  have HX : Hid (∀ j, j < n → (qs j).n ≤ 1600) := Lib.hid (fun j hj => longB_of h3 hj)
  have h5 : ¬ (1600 : Int) < (n2 : Int) := by omega
  have h6 := rd.max
  have hcc := H.1.2
  clear H h3
  go_enter Try.func6, Try.ntmps6
  go_wp2_with fail
  refine (alive_any _).mono ?_
  rintro ev w1 ⟨rfl, hb⟩
  go_wp2_with fail
  refine (hc.out _ (HH.out.below hb)).mono ?_
  rintro ev w2 ⟨rfl, rfl⟩
  go_wp2_with fail
  refine (HN.out _).mono ?_
  rintro ev w3 ⟨p, g, rfl, hp, hlo, hb3⟩
  have q0 : KL w p g m (List.replicate m (0, [])) w3 := ⟨hp, hb.trans (hb3.mono hb.size), by have := hb.size; omega, by simp, by omega⟩
  clear hp hlo hb3 hb hc HN
  go_wp2
  go_loopw [11] (fun i wr => ∃ (k : Nat) (L : Slots), k ≤ n ∧ i = .int .i64 k ∧ KL w p g m L wr) (fun i _ => n - (intOf i).toNat)
  case atStart => exact ⟨0, _, Nat.zero_le _, rfl, q0⟩
  case round =>
    clear q0
    obtain ⟨k, L, hk, rfl, q⟩ := hrel
    by_cases hkn : k < n
    · obtain ⟨b0, o0, rfl, hbB, ⟨c0, c1, c2, c3, c4⟩, hrd⟩ := HH.out.2 k hkn
      have hb9 := q.b.trans ((alloc_below wr (.cells #[.slice none 0 0] 50)).mono q.b.size)
      have hd := Lib.hid (do_alone (qs k).wh (qs k).bu (qs k).o (qs k).t (qs k).A (qs k).n (qs k).c (qs k).xs q hrd (HX.out k hkn))
      replace c0 := (hb9.cell hbB).trans c0
      replace c1 := (hb9.cell hbB).trans c1
      replace c2 := (hb9.cell hbB).trans c2
      replace c3 := (hb9.cell hbB).trans c3
      replace c4 := (hb9.cell hbB).trans c4
      clear hrd hb9 q
      go_wp2_with fail
      refine hd.out.mono ?_
      rintro ev w5 ⟨⟨x, rfl⟩, q5⟩
      clear hd c0 c1 c2 c3 c4
      go_wp2
      go_roundw
      case rel => exact ⟨k + 1, _, by omega, by go_num, q5⟩
      case measure => simp [intOf]; omega
    · have hL : 0 < L.length := by rw [q.len]; exact q.pos
      have hG := q.pp.good
      have cC := Lib.hid (clonePool_any p g m L _ wr q.pp hL)
      go_wp2_with fail
      refine cC.out.mono ?_
      rintro ev w6 ⟨p2, g2, rfl, hC, hlo2, hb6⟩
      have Q6 : KM w p g m L p2 g2 L w6 := ⟨q.step hb6, by have := hC.any; rwa [q.len] at this, by have := q.pp.lt; omega⟩
      clear q cC hC hlo2 hb6
      have rd6 := rd.below Q6.k.b (Nat.le_refl _)
      go_wp2_with fail
      refine (own_any A2 n2 c2 w.heap.size ys w6 rd6 Q6.k.b.size (by omega)).mono ?_
      rintro ev w7 ⟨A3, n3, c3, rfl, o3, hb7⟩
      obtain rfl : n2 = n3 := by rw [← o3.len, ← rd.len]
      replace Q6 := Q6.step hb7
      clear hb7 rd6
      have cT := Lib.hid (take_any p g m L _ a A3 n2 c3 _ ys w7 Q6.k.pp o3.rd hL (Nat.le_refl _) (fun _ _ => trivial))
      clear o3
      have hyl := rd.len
      by_cases h0 : tkE L a n2 = 0
      · obtain ⟨hoa, hn15, hfk⟩ := tkE_of h0
        obtain ⟨k', hk'⟩ : ∃ k, free1 L = k := ⟨_, rfl⟩
        have hkL : k' < L.length := by omega
        have hk0 : ow L k' = 0 := by rw [← hk']; exact free1_ow L hfk
        have hah : Hid (∀ j, j < k' → ow L j ≠ 0) := Lib.hid (fun j hj => free1_ahead L j (by omega))
        have cN : Hid (Calls Try.prog 19 #[ptr p, .int .i64 a, .slice A3 n2 c3] w7 fun e w' => e = .returned (.tuple #[.int .i64 (k' : Int), .int .i64 0]) ∧ KM w p g m (L.set k' (a, ys)) p2 g2 L w') := Lib.hid (cT.out.mono (by
          rintro e w' ⟨rfl, h1, h2⟩
          rw [tkL_yes (by rw [hyl]; exact h0), hk'] at h1
          exact ⟨by rw [tkN_yes h0, h0, hk'], Q6.turn hL h1 h2 (by simp)⟩))
        have hlm : Hid (L.length = m) := Lib.hid Q6.k.len
        have HkL := Lib.hid hkL
        have Hk0 := Lib.hid hk0
        have Hoa := Lib.hid hoa
        have hkm : k' < m := by have := Q6.k.len; omega
        clear hk' hkL hk0 hfk h0 hoa hn15 cT Q6 hL hG rd hyl
        go_wp2_with fail
        refine cN.out.mono ?_
        rintro ev w8 ⟨rfl, Q8⟩
        clear cN
        go_wp2
        go_loopw [15] (fun i wr => ∃ j : Nat, j ≤ m ∧ i = .int .i64 j ∧ KM w p g m (L.set k' (a, ys)) p2 g2 L wr) (fun i _ => m - (intOf i).toNat)
        case atStart => exact ⟨0, Nat.zero_le _, rfl, Q8⟩
        case round =>
          clear Q8
          obtain ⟨j, hj, rfl, Q⟩ := hrel
          by_cases hjm : j < m
          · have hjL : j < L.length := by rw [hlm.out]; exact hjm
            have hjL' : j < (L.set k' (a, ys)).length := by simpa using hjL
            rcases Nat.lt_trichotomy j k' with hjk | hjk | hjk
            · have cB := Lib.hid (fun W (q : KM w p g m (L.set k' (a, ys)) p2 g2 L W) => least_bytes hjL q)
              have cD := Lib.hid (fun W (q : KM w p g m (L.set k' (a, ys)) p2 g2 L W) => least_bytes' hjL' q)
              have cO := Lib.hid (fun W (q : KM w p g m (L.set k' (a, ys)) p2 g2 L W) => least_owner hjL q)
              have cQ := Lib.hid (fun W (q : KM w p g m (L.set k' (a, ys)) p2 g2 L W) => least_owner' hjL' q)
              have hne : ¬ j = k' := by omega
              rw [takenB_yes hjL (hah.out j hjk)] at cB
              rw [takenB_yes hjL' (by rw [ow_set HkL.out, if_neg hne]; exact hah.out j hjk), byt_set HkL.out, if_neg hne] at cD
              rw [ow_set HkL.out, if_neg hne] at cQ
              have i1 : (j : Int) < (k' : Int) := by omega
              have i2 : ((j : Int) == (k' : Int)) = false := by simp; omega
              generalize ow L j = o at *
              generalize byt L j = xs at *
              clear hjL hjL' hne hjk
              go_wp2_with fail
              refine (cB.out _ Q).mono ?_
              rintro ev w9 ⟨A4, m4, c4, rfl, r4, b4, Q9⟩
              go_wp2_with fail
              refine (cD.out _ Q9).mono ?_
              rintro ev w10 ⟨A5, m5, c5, rfl, r5, b5, Q10⟩
              have r4' := (r4.below b5 (Nat.le_refl _)).more b5.size
              clear r4 b4 b5 Q9 Q
              go_wp2_with fail
              refine (same_any _ _ _ _ _ _ _ _ _ _ r4' r5).mono ?_
              rintro ev w11 ⟨rfl, b11⟩
              have Q11 := Q10.step b11
              clear r4' r5 b11 Q10
              go_wp2_with fail
              refine (cO.out _ Q11).mono ?_
              rintro ev w12 ⟨rfl, rfl⟩
              go_wp2_with fail
              refine (cQ.out _ Q11).mono ?_
              rintro ev w13 ⟨rfl, rfl⟩
              go_wp2
              go_roundw
              case rel => exact ⟨j + 1, by omega, by go_num, Q11⟩
              case measure => simp [intOf]; omega
            · subst hjk
              have cB := Lib.hid (fun W (q : KM w p g m (L.set j (a, ys)) p2 g2 L W) => least_bytes hjL q)
              have cD := Lib.hid (fun W (q : KM w p g m (L.set j (a, ys)) p2 g2 L W) => least_bytes' hjL' q)
              have cQ := Lib.hid (fun W (q : KM w p g m (L.set j (a, ys)) p2 g2 L W) => least_owner' hjL' q)
              rw [takenB_free Hk0.out] at cB
              rw [takenB_yes hjL' (by rw [ow_set HkL.out, if_pos rfl]; have := Hoa.out.1; show ¬ a = 0; omega), byt_set HkL.out, if_pos rfl] at cD
              rw [ow_set HkL.out, if_pos rfl] at cQ
              generalize byt L j = xs at *
              clear hjL hjL'
              go_wp2_with fail
              refine (cB.out _ Q).mono ?_
              rintro ev w9 ⟨A4, m4, c4, rfl, r4, b4, Q9⟩
              go_wp2_with fail
              refine (cD.out _ Q9).mono ?_
              rintro ev w10 ⟨A5, m5, c5, rfl, r5, b5, Q10⟩
              have r4' := (r4.below b5 (Nat.le_refl _)).more b5.size
              clear r4 b4 b5 Q9 Q
              clear r4' r5
              go_wp2_with fail
              refine (cQ.out _ Q10).mono ?_
              rintro ev w11 ⟨rfl, rfl⟩
              go_wp2
              go_roundw
              case rel => exact ⟨j + 1, by omega, by go_num, Q10⟩
              case measure => simp [intOf]; omega
            · have cB := Lib.hid (fun W (q : KM w p g m (L.set k' (a, ys)) p2 g2 L W) => least_bytes hjL q)
              have cD := Lib.hid (fun W (q : KM w p g m (L.set k' (a, ys)) p2 g2 L W) => least_bytes' hjL' q)
              have cO := Lib.hid (fun W (q : KM w p g m (L.set k' (a, ys)) p2 g2 L W) => least_owner hjL q)
              have cQ := Lib.hid (fun W (q : KM w p g m (L.set k' (a, ys)) p2 g2 L W) => least_owner' hjL' q)
              have hne : ¬ j = k' := by omega
              rw [byt_set HkL.out, if_neg hne, least_taken HkL.out hne] at cD
              rw [ow_set HkL.out, if_neg hne] at cQ
              have i1 : ¬ (j : Int) < (k' : Int) := by omega
              have i3 : (k' : Int) < (j : Int) := by omega
              have i2 : ((j : Int) == (k' : Int)) = false := by simp; omega
              generalize takenB L (j : Int) = tb at *
              generalize ow L j = o at *
              generalize byt L j = xs at *
              clear hjL hjL' hne hjk
              go_wp2_with fail
              refine (cB.out _ Q).mono ?_
              rintro ev w9 ⟨A4, m4, c4, rfl, r4, b4, Q9⟩
              go_wp2_with fail
              refine (cD.out _ Q9).mono ?_
              rintro ev w10 ⟨A5, m5, c5, rfl, r5, b5, Q10⟩
              have r4' := (r4.below b5 (Nat.le_refl _)).more b5.size
              clear r4 b4 b5 Q9 Q
              go_wp2_with fail
              refine (same_any _ _ _ _ _ _ _ _ _ _ r4' r5).mono ?_
              rintro ev w11 ⟨rfl, b11⟩
              have Q11 := Q10.step b11
              clear r4' r5 b11 Q10
              go_wp2_with fail
              refine (cO.out _ Q11).mono ?_
              rintro ev w12 ⟨rfl, rfl⟩
              go_wp2_with fail
              refine (cQ.out _ Q11).mono ?_
              rintro ev w13 ⟨rfl, rfl⟩
              go_wp2
              go_roundw
              case rel => exact ⟨j + 1, by omega, by go_num, Q11⟩
              case measure => simp [intOf]; omega
          · have i1 : ¬ (k' : Int) < 0 := by omega
            have b9 := Q.k.b
            clear Q
            go_wp2
            go_ret
            exact ⟨rfl, b9⟩
      · have cN : Hid (Calls Try.prog 19 #[ptr p, .int .i64 a, .slice A3 n2 c3] w7 fun e w' => e = .returned (.tuple #[.int .i64 (-1), .int .i64 (tkE L a n2)]) ∧ Below w.heap.size w w') := Lib.hid (cT.out.mono (by
          rintro e w' ⟨rfl, h1, h2⟩
          rw [tkL_no (by rw [hyl]; exact h0)] at h1
          exact ⟨by rw [tkN_no h0], (Q6.k.turn h1 h2 rfl).b⟩))
        have h0' : (tkE L a n2 == 0) = false := by simpa using h0
        generalize tkE L a n2 = E at *
        clear cT Q6 rd h0 hL hG hyl
        go_wp2_with fail
        refine cN.out.mono ?_
        rintro ev w8 ⟨rfl, b8⟩
        go_wp2
        go_ret
        exact ⟨rfl, b8⟩
theorem least_law (m : Int) (A : Option Addr) (n c : Nat) (qs : Nat → Cal) (a : Int) (A2 : Option Addr) (n2 c2 : Nat) (ys : List Int) (w : World) (H : CallsAt w w.heap.size A n c qs) (rd : Rd .u8 w w.heap.size A2 n2 c2 ys) : Calls Try.prog 6 #[.int .i64 m, .slice A n c, .int .i64 a, .slice A2 n2 c2] w fun e w' => e = .returned (.bool true) ∧ Below w.heap.size w w' := by
  by_cases h1 : (100 < m ∧ m ≤ 1024) ∨ 100 < n
  · exact least_big m A n c qs a A2 n2 c2 ys w H rd h1
  have h1' : ¬ (100 < m ∧ m ≤ 1024) := fun q => h1 (.inl q)
  have h2 : n ≤ 100 := by omega
  by_cases h3 : longB n qs = true
  · exact least_long m A n c qs a A2 n2 c2 ys w H rd h1' h2 h3
  have h3' : longB n qs = false := by simpa using h3
  by_cases h4 : 1600 < n2
  · exact least_far m A n c qs a A2 n2 c2 ys w H rd h1' h2 h3' h4
  have h4' : n2 ≤ 1600 := by omega
  by_cases h7 : m < 1 ∨ 1024 < m
  · exact least_bad m A n c qs a A2 n2 c2 ys w H rd h2 h3' h4' h7
  obtain ⟨k, rfl⟩ : ∃ k : Nat, m = (k : Int) := ⟨m.toNat, by omega⟩
  exact least_in k A n c qs a A2 n2 c2 ys w H rd (by omega) (by omega) h2 h3' h4'
end Go.Proofs.Ytddhdfbhjgaffaa
