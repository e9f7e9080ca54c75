/-
  The law PoolBack: what is taken and freed leaves the pool as it was.
-/
import Derived.Test.YtddhdfbhjgaffaaAlive
import Derived.Test.YtddhdfbhjgaffaaArgu
namespace Go.Proofs.Ytddhdfbhjgaffaa
open Go.RowKit
set_option linter.unusedVariables false

theorem heldAt_congr {L M : Slots} (h : ∀ i, ow L i = ow M i) (o : Int) (k : Nat) : heldAt L o k = heldAt M o k := by
  unfold heldAt
  simp only [h]
theorem left_zero {L : Slots} : left L = 0 ↔ free1 L = L.length := by
  constructor
  · intro h
    refine free1_none (fun j hj e => ?_)
    have : (j : Int) ∈ held L 0 := by
      simp only [held, heldAt, List.mem_map, List.mem_filter, List.mem_range, decide_eq_true_eq]
      exact ⟨j, ⟨hj, e⟩, rfl⟩
    have h2 : held L 0 = [] := List.eq_nil_of_length_eq_zero h
    rw [h2] at this
    cases this
  · intro h
    have h2 : held L 0 = [] := by
      refine List.eq_nil_iff_forall_not_mem.2 (fun x hx => ?_)
      obtain ⟨i, _, hi, e⟩ := heldAt_mem hx
      exact free1_ahead L i (by omega) e
    unfold left
    rw [h2]
    rfl
/-- Why nothing was taken. -/
theorem back_no {L : Slots} {o : Int} {n lf : Nat} (hG : Good L) (hlf : left L = lf) (h : ¬ tkE L o n = 0) :
    (tkE L o n = 18 ∧ lf = 0 ∧ 1 ≤ o ∧ o ≤ 255 ∧ (n : Int) ≤ 1514) ∨
    (tkE L o n = 11 ∧ (¬ (lf : Int) = 0 ∨ ((lf : Int) = 0 ∧ ¬ 1 ≤ o) ∨ ((lf : Int) = 0 ∧ 1 ≤ o ∧ ¬ o ≤ 255) ∨ ((lf : Int) = 0 ∧ 1 ≤ o ∧ o ≤ 255 ∧ decide ((n : Int) ≤ 1514) = false))) := by
  subst hlf
  by_cases ho : isOwn o
  · by_cases hn : n ≤ 1514
    · by_cases hf : free1 L < L.length
      · exact absurd (tk_ok ho hn hf) h
      · have := free1_le L
        exact .inl ⟨tk_full ho hn hf, left_zero.2 (by omega), ho.1, ho.2, by omega⟩
    · refine .inr ⟨tk_long (by omega), ?_⟩
      have h1 := ho.1
      have h2 := ho.2
      by_cases e : (left L : Int) = 0
      · exact .inr (.inr (.inr ⟨e, h1, h2, decide_eq_false (by omega)⟩))
      · exact .inl e
  · refine .inr ⟨tk_owner ho, ?_⟩
    by_cases e : (left L : Int) = 0
    · by_cases h1 : 1 ≤ o
      · exact .inr (.inr (.inl ⟨e, h1, fun h2 => ho ⟨h1, h2⟩⟩))
      · exact .inr (.inl ⟨e, h1⟩)
    · exact .inl e

theorem back_hand {L : Slots} {k : Nat} {a b : Int} {ys : List Int} (hk : k < L.length) (ha : isOwn a) :
    hdE (L.set k (a, ys)) (k : Int) a b = (if isOwn b then 0 else 11) ∧ hdL (L.set k (a, ys)) (k : Int) a b = L.set k (if isOwn b then b else a, ys) := by
  have hc : chE (L.set k (a, ys)) (k : Int) a = 0 := chE_ok ha (by simpa using hk) (by rw [ow_set hk, if_pos rfl])
  by_cases hb : isOwn b
  · have e : hdE (L.set k (a, ys)) (k : Int) a b = 0 := by rw [hdE_to hb, hc]
    rw [if_pos hb, if_pos hb, hdL_yes e, byt_set hk, if_pos rfl, List.set_set]
    exact ⟨e, rfl⟩
  · have e : hdE (L.set k (a, ys)) (k : Int) a b = 11 := hdE_own hb
    rw [if_neg hb, if_neg hb, hdL_no (by rw [e]; decide)]
    exact ⟨e, rfl⟩
theorem back_left {L : Slots} {k : Nat} (hk : k < L.length) (h0 : ow L k = 0) : left (L.set k (0, [])) = left L := by
  unfold left held
  rw [List.length_set, heldAt_congr (M := L) (fun i => ?_)]
  rw [ow_set hk]
  split
  · next e => rw [e, h0]
  · rfl

set_option maxRecDepth 100000 in
set_option maxHeartbeats 4000000 in
theorem back_big (m : Int) (A : Option Addr) (n c : Nat) (qs : Nat → Cal) (a b : Int) (A2 : Option Addr) (n2 c2 : Nat) (ys : List Int) (w : World) (H : CallsAt w w.heap.size A n c qs) (rd : Rd .u8 w w.heap.size A2 n2 c2 ys) (h : (100 < m ∧ m ≤ 1024) ∨ 100 < n) : Calls Try.prog 5 #[.int .i64 m, .slice A n c, .int .i64 a, .int .i64 b, .slice A2 n2 c2] w fun e w' => e = .returned (.bool true) ∧ Below w.heap.size w w' := by
  have hc := Lib.hid (fun W => great_big m A n c W h H.1)
  clear H h
  go_enter Try.func5, Try.ntmps5
  go_wp2_with fail
  refine (alive_any _).mono ?_
  rintro ev w1 ⟨rfl, hb⟩
  go_wp2_with fail
  refine (hc.out _).mono ?_
  rintro ev w2 ⟨rfl, rfl⟩
  go_wp2
  go_ret
  exact ⟨rfl, hb⟩
set_option maxRecDepth 100000 in
set_option maxHeartbeats 4000000 in
theorem back_long (m : Int) (A : Option Addr) (n c : Nat) (qs : Nat → Cal) (a b : Int) (A2 : Option Addr) (n2 c2 : Nat) (ys : List Int) (w : World) (H : CallsAt w w.heap.size A n c qs) (rd : Rd .u8 w w.heap.size A2 n2 c2 ys) (h1 : ¬ (100 < m ∧ m ≤ 1024)) (h2 : n ≤ 100) (h3 : longB n qs = true) : Calls Try.prog 5 #[.int .i64 m, .slice A n c, .int .i64 a, .int .i64 b, .slice A2 n2 c2] w fun e w' => e = .returned (.bool true) ∧ Below w.heap.size w w' := by
  have hc := Lib.hid (fun W q => great_in true m A n c w.heap.size qs W h3 h1 h2 q)
  have HH := Lib.hid H
  clear H h1 h2 h3
  go_enter Try.func5, Try.ntmps5
  go_wp2_with fail
  refine (alive_any _).mono ?_
  rintro ev w1 ⟨rfl, hb⟩
  go_wp2_with fail
  refine (hc.out _ (HH.out.below hb)).mono ?_
  rintro ev w2 ⟨rfl, rfl⟩
  go_wp2
  go_ret
  exact ⟨rfl, hb⟩
set_option maxRecDepth 100000 in
set_option maxHeartbeats 4000000 in
theorem back_far (m : Int) (A : Option Addr) (n c : Nat) (qs : Nat → Cal) (a b : Int) (A2 : Option Addr) (n2 c2 : Nat) (ys : List Int) (w : World) (H : CallsAt w w.heap.size A n c qs) (rd : Rd .u8 w w.heap.size A2 n2 c2 ys) (h1 : ¬ (100 < m ∧ m ≤ 1024)) (h2 : n ≤ 100) (h3 : longB n qs = false) (h4 : 1600 < n2) : Calls Try.prog 5 #[.int .i64 m, .slice A n c, .int .i64 a, .int .i64 b, .slice A2 n2 c2] w fun e w' => e = .returned (.bool true) ∧ Below w.heap.size w w' := by
  have hc := Lib.hid (fun W q => great_in false m A n c w.heap.size qs W h3 h1 h2 q)
  have HH := Lib.hid H
  have h5 : (1600 : Int) < (n2 : Int) := by omega
  have h6 := rd.max
  clear H h1 h2 h3 rd
  go_enter Try.func5, Try.ntmps5
  go_wp2_with fail
  refine (alive_any _).mono ?_
  rintro ev w1 ⟨rfl, hb⟩
  go_wp2_with fail
  refine (hc.out _ (HH.out.below hb)).mono ?_
  rintro ev w2 ⟨rfl, rfl⟩
  go_wp2
  go_ret
  exact ⟨rfl, hb⟩
set_option maxRecDepth 100000 in
set_option maxHeartbeats 4000000 in
theorem back_bad (m : Int) (A : Option Addr) (n c : Nat) (qs : Nat → Cal) (a b : Int) (A2 : Option Addr) (n2 c2 : Nat) (ys : List Int) (w : World) (H : CallsAt w w.heap.size A n c qs) (rd : Rd .u8 w w.heap.size A2 n2 c2 ys) (h2 : n ≤ 100) (h3 : longB n qs = false) (h4 : n2 ≤ 1600) (h7 : m < 1 ∨ 1024 < m) : Calls Try.prog 5 #[.int .i64 m, .slice A n c, .int .i64 a, .int .i64 b, .slice A2 n2 c2] w fun e w' => e = .returned (.bool true) ∧ Below w.heap.size w w' := by
  have hc := Lib.hid (fun W q => great_in false m A n c w.heap.size qs W h3 (by omega) h2 q)
  have HN := Lib.hid (fun W => new_no m W h7)
  have HH := Lib.hid H
  have h5 : ¬ (1600 : Int) < (n2 : Int) := by omega
  have h6 := rd.max
  clear H h2 h3 h7 rd h4
  go_enter Try.func5, Try.ntmps5
  go_wp2_with fail
  refine (alive_any _).mono ?_
  rintro ev w1 ⟨rfl, hb⟩
  go_wp2_with fail
  refine (hc.out _ (HH.out.below hb)).mono ?_
  rintro ev w2 ⟨rfl, rfl⟩
  go_wp2_with fail
  refine (HN.out _).mono ?_
  rintro ev w3 ⟨rfl, rfl⟩
  go_wp2
  go_ret
  exact ⟨rfl, hb⟩
set_option maxRecDepth 100000 in
set_option maxHeartbeats 4000000 in
theorem back_in (m : Nat) (A : Option Addr) (n c : Nat) (qs : Nat → Cal) (a b : Int) (A2 : Option Addr) (n2 c2 : Nat) (ys : List Int) (w : World) (H : CallsAt w w.heap.size A n c qs) (rd : Rd .u8 w w.heap.size A2 n2 c2 ys) (h1 : 1 ≤ m) (h8 : m ≤ 100) (h2 : n ≤ 100) (h3 : longB n qs = false) (h4 : n2 ≤ 1600) : Calls Try.prog 5 #[.int .i64 (m : Int), .slice A n c, .int .i64 a, .int .i64 b, .slice A2 n2 c2] w fun e w' => e = .returned (.bool true) ∧ Below w.heap.size w w' := by
  have hc := Lib.hid (fun W q => great_in false (m : Int) A n c w.heap.size qs W h3 (by omega) h2 q)
  have HN := Lib.hid (fun W => new_yes m W h1 (by omega))
  have HH := Lib.hid H
  have HX : Hid (∀ j, j < n → (qs j).n ≤ 1600) := Lib.hid (fun j hj => longB_of h3 hj)
  have h5 : ¬ (1600 : Int) < (n2 : Int) := by omega
  have h6 := rd.max
  have hcc := H.1.2
  clear H h3
  go_enter Try.func5, Try.ntmps5
  go_wp2_with fail
  refine (alive_any _).mono ?_
  rintro ev w1 ⟨rfl, hb⟩
  go_wp2_with fail
  refine (hc.out _ (HH.out.below hb)).mono ?_
  rintro ev w2 ⟨rfl, rfl⟩
  go_wp2_with fail
  refine (HN.out _).mono ?_
  rintro ev w3 ⟨p, g, rfl, hp, hlo, hb3⟩
  have q0 : KL w p g m (List.replicate m (0, [])) w3 := ⟨hp, hb.trans (hb3.mono hb.size), by have := hb.size; omega, by simp, by omega⟩
  clear hp hlo hb3 hb hc HN
  go_wp2
  go_loopw [13] (fun i wr => ∃ (k : Nat) (L : Slots), k ≤ n ∧ i = .int .i64 k ∧ KL w p g m L wr) (fun i _ => n - (intOf i).toNat)
  case atStart => exact ⟨0, _, Nat.zero_le _, rfl, q0⟩
  case round =>
    clear q0
    obtain ⟨k, L, hk, rfl, q⟩ := hrel
    by_cases hkn : k < n
    · obtain ⟨b0, o0, rfl, hbB, ⟨c0, c1, c2, c3, c4⟩, hrd⟩ := HH.out.2 k hkn
      have hb9 := q.b.trans ((alloc_below wr (.cells #[.slice none 0 0] 50)).mono q.b.size)
      have hd := Lib.hid (do_alone (qs k).wh (qs k).bu (qs k).o (qs k).t (qs k).A (qs k).n (qs k).c (qs k).xs q hrd (HX.out k hkn))
      replace c0 := (hb9.cell hbB).trans c0
      replace c1 := (hb9.cell hbB).trans c1
      replace c2 := (hb9.cell hbB).trans c2
      replace c3 := (hb9.cell hbB).trans c3
      replace c4 := (hb9.cell hbB).trans c4
      clear hrd hb9 q
      go_wp2_with fail
      refine hd.out.mono ?_
      rintro ev w5 ⟨⟨x, rfl⟩, q5⟩
      clear hd c0 c1 c2 c3 c4
      go_wp2
      go_roundw
      case rel => exact ⟨k + 1, _, by omega, by go_num, q5⟩
      case measure => simp [intOf]; omega
    · have hL : 0 < L.length := by rw [q.len]; exact q.pos
      have hG := q.pp.good
      obtain ⟨lf, hlf⟩ : ∃ lf, left L = lf := ⟨_, rfl⟩
      have cL := Lib.hid (left_any p g m L _ wr q.pp)
      rw [hlf] at cL
      have HF := Lib.hid hlf
      go_wp2_with fail
      refine cL.out.mono ?_
      rintro ev w6 ⟨rfl, hb6⟩
      replace q := q.step hb6
      clear hb6 cL
      have rd6 := rd.below q.b (Nat.le_refl _)
      go_wp2_with fail
      refine (own_any A2 n2 c2 w.heap.size ys w6 rd6 q.b.size (by omega)).mono ?_
      rintro ev w7 ⟨A3, n3, c3, rfl, o3, hb7⟩
      obtain rfl : n2 = n3 := by rw [← o3.len, ← rd.len]
      replace q := q.step hb7
      clear hb7 rd6
      have cT := Lib.hid (take_any p g m L _ a A3 n2 c3 _ ys w7 q.pp o3.rd hL (Nat.le_refl _) (fun _ _ => trivial))
      clear o3
      by_cases h0 : tkE L a n2 = 0
      · obtain ⟨hoa, hn15, hfk⟩ := tkE_of h0
        obtain ⟨k, hk⟩ : ∃ k, free1 L = k := ⟨_, rfl⟩
        have hkL : k < L.length := by omega
        have hk0 : ow L k = 0 := by rw [← hk]; exact free1_ow L hfk
        have hyl := rd.len
        obtain ⟨z, hz⟩ : ∃ z, (if isOwn b then b else a) = z := ⟨_, rfl⟩
        have hoz : isOwn z := by rw [← hz]; split <;> assumption
        have cN : Hid (Calls Try.prog 19 #[ptr p, .int .i64 a, .slice A3 n2 c3] w7 fun e w' => e = .returned (.tuple #[.int .i64 (k : Int), .int .i64 0]) ∧ KL w p g m (L.set k (a, ys)) w') := Lib.hid (cT.out.mono (by
          rintro e w' ⟨rfl, h1, h2⟩
          rw [tkL_yes (by rw [hyl]; exact h0), hk] at h1
          exact ⟨by rw [tkN_yes h0, h0, hk], q.turn h1 h2 (by simp)⟩))
        have cH : Hid (∀ W, KL w p g m (L.set k (a, ys)) W → Calls Try.prog 22 #[ptr p, .int .i64 (k : Int), .int .i64 a, .int .i64 b] W fun e w' => e = .returned (.int .i64 (if isOwn b then 0 else 11)) ∧ KL w p g m (L.set k (z, ys)) w') := Lib.hid (fun W q => (hand_any p g m _ _ (k : Int) a b W q.pp).mono (by
          rintro e w' ⟨rfl, h1, h2⟩
          obtain ⟨e1, e2⟩ := back_hand (b := b) (ys := ys) hkL hoa
          rw [e2, hz] at h1
          exact ⟨by rw [e1], q.turn h1 h2 (by simp)⟩))
        have cB : Hid (∀ W, KL w p g m (L.set k (z, ys)) W → Calls Try.prog 23 #[ptr p, .int .i64 (k : Int)] W fun e w' => ∃ A m' c, e = .returned (.tuple #[.slice A m' c, .bool true]) ∧ Rd .u8 w' w'.heap.size A m' c ys ∧ KL w p g m (L.set k (z, ys)) w') := Lib.hid (fun W q => (bytes_any p g m _ _ (k : Int) W q.pp).mono (by
          rintro e w' ⟨A, m', c, xs, rfl, o, hb, hx⟩
          obtain rfl := hx k rfl (by simpa using hkL)
          rw [byt_set hkL, if_pos rfl] at o
          exact ⟨A, m', c, by rw [takenB_yes (by simpa using hkL) (by rw [ow_set hkL, if_pos rfl]; have := hoz.1; show ¬ z = 0; omega)], o.rd, q.step hb⟩))
        have cO : Hid (∀ W, KL w p g m (L.set k (z, ys)) W → Calls Try.prog 21 #[ptr p, .int .i64 (k : Int)] W fun e w' => e = .returned (.int .i64 z) ∧ W = w') := Lib.hid (fun W q => by
          have := owner_any p g m _ _ (k : Int) W q.pp
          rwa [owV_yes (by simpa using hkL), ow_set hkL, if_pos rfl] at this)
        have cF : Hid (∀ W, KL w p g m (L.set k (z, ys)) W → Calls Try.prog 25 #[ptr p, .int .i64 (k : Int), .int .i64 z] W fun e w' => e = .returned (.int .i64 0) ∧ KL w p g m (L.set k (0, [])) w') := Lib.hid (fun W q => (free_any p g m _ _ (k : Int) z W q.pp).mono (by
          rintro e w' ⟨rfl, h1, h2⟩
          have e1 : chE (L.set k (z, ys)) (k : Int) z = 0 := chE_ok hoz (by simpa using hkL) (by rw [ow_set hkL, if_pos rfl])
          rw [frL_yes e1, List.set_set] at h1
          exact ⟨by rw [e1], q.turn h1 h2 (by simp)⟩))
        have cZ : Hid (∀ W, KL w p g m (L.set k (0, [])) W → Calls Try.prog 18 #[ptr p] W fun e w' => e = .returned (.int .i64 (lf : Int)) ∧ Below W.heap.size W w') := Lib.hid (fun W q => by
          have := left_any p g m _ _ W q.pp
          rwa [back_left hkL hk0, HF.out] at this)
        have cP : Hid (∀ W, KL w p g m (L.set k (0, [])) W → Calls Try.prog 21 #[ptr p, .int .i64 (k : Int)] W fun e w' => e = .returned (.int .i64 0) ∧ W = w') := Lib.hid (fun W q => by
          have := owner_any p g m _ _ (k : Int) W q.pp
          rwa [owV_yes (by simpa using hkL), ow_set hkL, if_pos rfl] at this)
        have rdH := Lib.hid rd
        generalize L.set k (a, ys) = L1 at *
        generalize L.set k (z, ys) = L2 at *
        generalize L.set k (0, []) = L3 at *
        clear hk hkL hk0 hfk h0 hoa hn15 hyl hoz cT q hL hG rd
        by_cases hob : isOwn b
        · rw [if_pos hob] at hz cH
          subst hz
          clear hob
          go_wp2_with fail
          refine cN.out.mono ?_
          rintro ev w8 ⟨rfl, q8⟩
          go_wp2_with fail
          refine (cH.out _ q8).mono ?_
          rintro ev w9 ⟨rfl, q9⟩
          go_wp2_with fail
          refine (cB.out _ q9).mono ?_
          rintro ev w10 ⟨A5, m5, c5, rfl, r5, q10⟩
          have rd10 := rdH.out.below q10.b (Nat.le_refl _)
          go_wp2_with fail
          refine (same_any _ _ _ _ _ _ _ _ _ _ r5 rd10).mono ?_
          rintro ev w11 ⟨rfl, hb11⟩
          have q11 := q10.step hb11
          clear rd10 r5 hb11
          go_wp2_with fail
          refine (cO.out _ q11).mono ?_
          rintro ev w12 ⟨rfl, rfl⟩
          go_wp2_with fail
          refine (cF.out _ q11).mono ?_
          rintro ev w13 ⟨rfl, q13⟩
          go_wp2_with fail
          refine (cZ.out _ q13).mono ?_
          rintro ev w14 ⟨rfl, hb14⟩
          have q14 := q13.step hb14
          go_wp2_with fail
          refine (cP.out _ q14).mono ?_
          rintro ev w15 ⟨rfl, rfl⟩
          clear hb14 q13 q8 q9 q10 q11
          go_wp2
          go_ret
          exact ⟨rfl, q14.b⟩
        · rw [if_neg hob] at hz cH
          subst hz
          clear hob
          go_wp2_with fail
          refine cN.out.mono ?_
          rintro ev w8 ⟨rfl, q8⟩
          go_wp2_with fail
          refine (cH.out _ q8).mono ?_
          rintro ev w9 ⟨rfl, q9⟩
          go_wp2_with fail
          refine (cB.out _ q9).mono ?_
          rintro ev w10 ⟨A5, m5, c5, rfl, r5, q10⟩
          have rd10 := rdH.out.below q10.b (Nat.le_refl _)
          go_wp2_with fail
          refine (same_any _ _ _ _ _ _ _ _ _ _ r5 rd10).mono ?_
          rintro ev w11 ⟨rfl, hb11⟩
          have q11 := q10.step hb11
          clear rd10 r5 hb11
          go_wp2_with fail
          refine (cO.out _ q11).mono ?_
          rintro ev w12 ⟨rfl, rfl⟩
          go_wp2_with fail
          refine (cF.out _ q11).mono ?_
          rintro ev w13 ⟨rfl, q13⟩
          go_wp2_with fail
          refine (cZ.out _ q13).mono ?_
          rintro ev w14 ⟨rfl, hb14⟩
          have q14 := q13.step hb14
          go_wp2_with fail
          refine (cP.out _ q14).mono ?_
          rintro ev w15 ⟨rfl, rfl⟩
          clear hb14 q13 q8 q9 q10 q11
          go_wp2
          go_ret
          exact ⟨rfl, q14.b⟩
      · have cN : Hid (Calls Try.prog 19 #[ptr p, .int .i64 a, .slice A3 n2 c3] w7 fun e w' => e = .returned (.tuple #[.int .i64 (-1), .int .i64 (tkE L a n2)]) ∧ KL w p g m L w') := Lib.hid (cT.out.mono (by
          rintro e w' ⟨rfl, h1, h2⟩
          rw [tkL_no (by rw [rd.len]; exact h0)] at h1
          exact ⟨by rw [tkN_no h0], q.turn h1 h2 rfl⟩))
        have cF : Hid (∀ W, KL w p g m L W → Calls Try.prog 18 #[ptr p] W fun e w' => e = .returned (.int .i64 (lf : Int)) ∧ Below W.heap.size W w') := Lib.hid (fun W q => by
          have := left_any p g m L _ W q.pp
          rwa [HF.out] at this)
        clear cT q rd
        rcases back_no (o := a) (n := n2) hG HF.out h0 with ⟨hE, f1, f2, f3, f4⟩ | ⟨hE, hf⟩
        · rw [hE] at cN
          subst f1
          clear h0 hE hG hL
          go_wp2_with fail
          refine cN.out.mono ?_
          rintro ev w8 ⟨rfl, q8⟩
          go_wp2_with fail
          refine (cF.out _ q8).mono ?_
          rintro ev w9 ⟨rfl, hb9⟩
          have b9 := q8.b.trans (hb9.mono q8.b.size)
          clear hb9 q8
          go_wp2
          go_ret
          exact ⟨rfl, b9⟩
        · rw [hE] at cN
          rcases hf with hf | ⟨hf, hf2⟩ | ⟨hf, hf2, hf3⟩ | ⟨hf, hf2, hf3, hf4⟩
          all_goals
            clear h0 hE hG hL
            go_wp2_with fail
            refine cN.out.mono ?_
            rintro ev w8 ⟨rfl, q8⟩
            go_wp2_with fail
            refine (cF.out _ q8).mono ?_
            rintro ev w9 ⟨rfl, hb9⟩
            have b9 := q8.b.trans (hb9.mono q8.b.size)
            clear hb9 q8
            go_wp2
            go_ret
            exact ⟨rfl, b9⟩
theorem back_law (m : Int) (A : Option Addr) (n c : Nat) (qs : Nat → Cal) (a b : Int) (A2 : Option Addr) (n2 c2 : Nat) (ys : List Int) (w : World) (H : CallsAt w w.heap.size A n c qs) (rd : Rd .u8 w w.heap.size A2 n2 c2 ys) : Calls Try.prog 5 #[.int .i64 m, .slice A n c, .int .i64 a, .int .i64 b, .slice A2 n2 c2] w fun e w' => e = .returned (.bool true) ∧ Below w.heap.size w w' := by
  by_cases h1 : (100 < m ∧ m ≤ 1024) ∨ 100 < n
  · exact back_big m A n c qs a b A2 n2 c2 ys w H rd h1
  have h1' : ¬ (100 < m ∧ m ≤ 1024) := fun q => h1 (.inl q)
  have h2 : n ≤ 100 := by omega
  by_cases h3 : longB n qs = true
  · exact back_long m A n c qs a b A2 n2 c2 ys w H rd h1' h2 h3
  have h3' : longB n qs = false := by simpa using h3
  by_cases h4 : 1600 < n2
  · exact back_far m A n c qs a b A2 n2 c2 ys w H rd h1' h2 h3' h4
  have h4' : n2 ≤ 1600 := by omega
  by_cases h7 : m < 1 ∨ 1024 < m
  · exact back_bad m A n c qs a b A2 n2 c2 ys w H rd h2 h3' h4' h7
  obtain ⟨k, rfl⟩ : ∃ k : Nat, m = (k : Int) := ⟨m.toNat, by omega⟩
  exact back_in k A n c qs a b A2 n2 c2 ys w H rd (by omega) (by omega) h2 h3' h4'
end Go.Proofs.Ytddhdfbhjgaffaa
