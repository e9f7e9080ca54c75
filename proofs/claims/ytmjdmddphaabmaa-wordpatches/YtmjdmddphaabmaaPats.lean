/-
  WordPatches, walked.
-/
import Derived.Test.YtmjdmddphaabmaaPatM
namespace Go.Proofs.Ytmjdmddphaabmaa
open Go.RowKit

/-- Patch, where all of the part has room, in the words of the walk. -/
theorem patch_fits (A A' : Option Addr) (n c m c' : Nat) (xs ys : List Int) (B B' i : Nat) (w : World) (hr : Rd .u8 w B A n c xs) (hB : B ≤ w.heap.size) (hr' : Rd .u8 w B' A' m c' ys) (hB' : B' ≤ w.heap.size) (hn : n ≤ 3000) (h : i + m ≤ n) (L : List Int) (hL : splice xs i ys = L) :
    Calls Try.prog 19 #[.slice A n c, .int .i64 i, .slice A' m c'] w (Gives2 w L 0) := by
  subst hL
  exact patch_ok A A' n c m c' xs ys B B' i w hr hB hr' hB' hn h

theorem Rd.rest {k : IntKind} {w : World} {B : Nat} {A : Option Addr} {n c : Nat} {xs : List Int} (h : Rd k w B A n c xs) {f : Nat} (hf : f ≤ n) :
    (c = f → Rd k w B A (n - f) 0 (xs.drop f)) ∧ (¬ c = f → Rd k w B (A.map (fun x => x.add f)) (n - f) (c - f) (xs.drop f)) := by
  have hl := h.len
  have h1 := h.cut hf (Nat.le_refl n)
  rw [List.take_of_length_le (by simp; omega)] at h1
  constructor
  · intro e; rw [if_pos e, show c - f = 0 by omega] at h1; exact h1
  · intro e; rw [if_neg e] at h1; exact h1
theorem Rd.piece {k : IntKind} {w : World} {B : Nat} {A : Option Addr} {n c : Nat} {xs : List Int} (h : Rd k w B A n c xs) {f m : Nat} (hf : f + m ≤ n) :
    (c = f → Rd k w B A m 0 ((xs.drop f).take m)) ∧ (¬ c = f → Rd k w B (A.map (fun x => x.add f)) m (c - f) ((xs.drop f).take m)) := by
  have h1 := h.cut (f := f) (t := f + m) (by omega) hf
  rw [show f + m - f = m by omega] at h1
  constructor
  · intro e; rw [if_pos e, show c - f = 0 by omega] at h1; exact h1
  · intro e; rw [if_neg e] at h1; exact h1

set_option maxRecDepth 100000 in
set_option maxHeartbeats 4000000 in
theorem pats_ok (A : Option Addr) (n c : Nat) (xs : List Int) (i : Nat) (A' : Option Addr) (m c' : Nat) (ys : List Int) (A'' : Option Addr) (c'' : Nat) (zs : List Int) (w : World)
    (hr : Rd .u8 w w.heap.size A n c xs) (hr' : Rd .u8 w w.heap.size A' m c' ys) (hr'' : Rd .u8 w w.heap.size A'' m c'' zs) (hn : n ≤ 3000) (hm : m ≤ 300) (hf : i + m ≤ n) :
    Calls Try.prog 7 #[.slice A n c, .int .i64 i, .slice A' m c', .slice A'' m c''] w fun e w' => e = .returned (.bool true) ∧ Below w.heap.size w w' := by
  have hmax := hr.max
  have hcap := hr.cap
  have hmax' := hr'.max
  have hcap' := hr'.cap
  have HL := Lib.hid hr.len
  have HL' := Lib.hid hr'.len
  have HL'' := Lib.hid hr''.len
  have E1 := Lib.hid (splice_over xs ys zs i (by rw [HL'.out, HL''.out]) (by rw [HL'.out, HL.out]; exact hf))
  have E2 := Lib.hid (splice_own xs i m (by rw [HL.out]; exact hf))
  have E3 := Lib.hid (splice_two xs ys i (m / 2) (by rw [HL'.out]; omega) (by rw [HL'.out, HL.out]; exact hf))
  have E0 := Lib.hid (splice_len xs ys i (by rw [HL'.out, HL.out]; exact hf))
  have E4 := Lib.hid (splice_len xs (ys.take (m / 2)) i (by have := HL'.out; have := HL.out; simp; omega))
  have P1 := Lib.hid (hr.piece hf)
  have P2 := Lib.hid (hr'.front (t := m / 2) (by omega))
  have P3 := Lib.hid (hr'.rest (f := m / 2) (by omega))
  go_enter Try.func7, Try.ntmps7
  go_wp2_with fail
  with_reducible refine (alive_any _).mono ?_
  rintro e w1 ⟨rfl, B1⟩
  have s1 := B1.size
  go_wp2_with fail
  with_reducible refine (patch_fits _ _ _ _ _ _ _ _ _ _ i _ (hr.below B1 (Nat.le_refl _)) s1 (hr'.below B1 (Nat.le_refl _)) s1 hn hf _ rfl).mono ?_
  rintro e w2 ⟨A2, n2, c2, rfl, o2, hb⟩
  have B2 := B1.trans (hb.mono s1)
  have s2 := B2.size
  have hn2 : n2 = n := by have := o2.len; rw [E0.out, HL.out] at this; exact this.symm
  subst hn2
  clear hb B1 s1
  go_wp2_with fail
  with_reducible refine (patch_fits _ _ _ _ _ _ _ _ _ _ i _ o2.rd (Nat.le_refl _) (hr''.below B2 (Nat.le_refl _)) s2 hn hf _ E1.out).mono ?_
  rintro e w3 ⟨A3, n3, c3, rfl, o3, hb⟩
  have B3 := B2.trans (hb.mono s2)
  have s3 := B3.size
  replace o2 := o2.below hb (Nat.le_refl _)
  clear hb B2 s2
  go_wp2_with fail
  with_reducible refine (patch_fits _ _ _ _ _ _ _ _ _ _ i _ (hr.below B3 (Nat.le_refl _)) s3 (hr''.below B3 (Nat.le_refl _)) s3 hn hf _ rfl).mono ?_
  rintro e w4 ⟨A4, n4, c4, rfl, o4, hb⟩
  have B4 := B3.trans (hb.mono s3)
  have s4 := B4.size
  replace o2 := o2.below hb (Nat.le_refl _)
  replace o3 := o3.below hb (Nat.le_refl _)
  clear hb B3 s3
  go_wp2_with fail
  case' inl h =>
    have r := P1.out.1 h
    subst h
    (with_reducible refine (patch_fits _ _ _ _ _ _ _ _ _ _ c _ (hr.below B4 (Nat.le_refl _)) s4 (r.below B4 (Nat.le_refl _)) s4 hn hf _ E2.out).mono ?_)
    clear r
    obtain ⟨i, rfl⟩ : ∃ i, i = c := ⟨_, rfl⟩
  case' inr h =>
    have r := P1.out.2 h
    (with_reducible refine (patch_fits _ _ _ _ _ _ _ _ _ _ i _ (hr.below B4 (Nat.le_refl _)) s4 (r.below B4 (Nat.le_refl _)) s4 hn hf _ E2.out).mono ?_)
    clear r
  all_goals
    rintro e w5 ⟨A5, n5, c5, rfl, o5, hb⟩
    have B5 := B4.trans (hb.mono s4)
    have s5 := B5.size
    replace o2 := o2.below hb (Nat.le_refl _)
    replace o3 := o3.below hb (Nat.le_refl _)
    replace o4 := o4.below hb (Nat.le_refl _)
    clear hb B4 s4 P1
    go_wp2_with fail
    with_reducible refine (same_any _ _ _ _ _ _ _ _ _ _ o3.rd o4.rd).mono ?_
    rintro e w6 ⟨rfl, hb⟩
    have B6 := B5.trans (hb.mono s5)
    have s6 := B6.size
    replace o2 := o2.below hb (Nat.le_refl _)
    replace o5 := o5.below hb (Nat.le_refl _)
    clear hb B5 s5 o3 o4
    go_wp2_with fail
    with_reducible refine (same_any _ _ _ _ _ _ _ _ _ _ o5.rd (hr.below B6 (Nat.le_refl _))).mono ?_
    rintro e w7 ⟨rfl, hb⟩
    have B7 := B6.trans (hb.mono s6)
    have s7 := B7.size
    replace o2 := o2.below hb (Nat.le_refl _)
    clear hb B6 s6 o5
    go_wp2_with fail
    with_reducible refine (patch_fits _ _ _ _ _ _ _ _ _ _ i _ (hr.below B7 (Nat.le_refl _)) s7 (P2.out.below B7 (Nat.le_refl _)) s7 hn (by omega) _ rfl).mono ?_
    rintro e w8 ⟨A8, n8, c8, rfl, o8, hb⟩
    have B8 := B7.trans (hb.mono s7)
    have s8 := B8.size
    have hn8 : n8 = n2 := by have := o8.len; rw [E4.out, HL.out] at this; exact this.symm
    subst hn8
    replace o2 := o2.below hb (Nat.le_refl _)
    have HI : Hid (((i + m / 2 : Nat) : Int) = (i : Int) + (m : Int) / 2) := by show _ = _; omega
    clear hb B7 s7 P2
    go_wp2_with fail
    case' inl h =>
      have r := P3.out.1 h
      have ca := patch_fits _ _ _ _ _ _ _ _ _ _ (i + m / 2) _ o8.rd (Nat.le_refl _) (r.below B8 (Nat.le_refl _)) s8 hn (by omega) _ E3.out
      rw [HI.out] at ca
      (with_reducible refine ca.mono ?_)
      clear r ca
    case' inr h =>
      have r := P3.out.2 h
      have ca := patch_fits _ _ _ _ _ _ _ _ _ _ (i + m / 2) _ o8.rd (Nat.le_refl _) (r.below B8 (Nat.le_refl _)) s8 hn (by omega) _ E3.out
      rw [HI.out] at ca
      (with_reducible refine ca.mono ?_)
      clear r ca
    all_goals
      rintro e w9 ⟨A9, n9, c9, rfl, o9, hb⟩
      have B9 := B8.trans (hb.mono s8)
      have s9 := B9.size
      replace o2 := o2.below hb (Nat.le_refl _)
      clear hb B8 s8 o8
      go_wp2_with fail
      with_reducible refine (same_any _ _ _ _ _ _ _ _ _ _ o9.rd o2.rd).mono ?_
      rintro e w10 ⟨rfl, hb⟩
      have B10 := B9.trans (hb.mono s9)
      clear hb B9 s9
      go_wp2_with fail
      go_ret
      exact ⟨rfl, B10⟩

set_option maxRecDepth 100000 in
set_option maxHeartbeats 4000000 in
theorem pats_law (A : Option Addr) (n c : Nat) (xs : List Int) (a : Int) (A' : Option Addr) (m c' : Nat) (ys : List Int) (A'' : Option Addr) (m' c'' : Nat) (zs : List Int) (w : World)
    (hr : Rd .u8 w w.heap.size A n c xs) (hr' : Rd .u8 w w.heap.size A' m c' ys) (hr'' : Rd .u8 w w.heap.size A'' m' c'' zs) :
    Calls Try.prog 7 #[.slice A n c, .int .i64 a, .slice A' m c', .slice A'' m' c''] w fun e w' => e = .returned (.bool true) ∧ Below w.heap.size w w' := by
  have hmax := hr.max
  have hcap := hr.cap
  have hmax' := hr'.max
  have hcap' := hr'.cap
  have hmax'' := hr''.max
  have hcap'' := hr''.cap
  by_cases hn : n ≤ 3000
  · by_cases hm : m ≤ 300
    · by_cases hmm : m' = m
      · subst hmm
        by_cases ha : a < 0
        · go_enter Try.func7, Try.ntmps7
          go_wp2_with fail
          with_reducible refine (alive_any _).mono ?_
          rintro e w1 ⟨rfl, B1⟩
          go_wp2_with fail
          with_reducible refine (patch_range _ _ _ _ _ _ _ _ ha).mono ?_
          rintro e w2 ⟨A2, n2, c2, rfl, o2, hb⟩
          have B2 := B1.trans (hb.mono B1.size)
          obtain rfl : n2 = 0 := by have := o2.len; simpa using this.symm
          clear hb B1 o2
          go_wp2_with fail
          go_ret
          exact ⟨rfl, B2⟩
        · by_cases he : (n : Int) - m' < a
          · by_cases hg : (n : Int) < a
            · go_enter Try.func7, Try.ntmps7
              go_wp2_with fail
              with_reducible refine (alive_any _).mono ?_
              rintro e w1 ⟨rfl, B1⟩
              go_wp2_with fail
              with_reducible refine (patch_end _ _ _ _ _ _ _ _ (by omega) (by omega) (by omega) he).mono ?_
              rintro e w2 ⟨A2, n2, c2, rfl, o2, hb⟩
              have B2 := B1.trans (hb.mono B1.size)
              obtain rfl : n2 = 0 := by have := o2.len; simpa using this.symm
              clear hb B1 o2
              go_wp2_with fail
              go_ret
              exact ⟨rfl, B2⟩
            · have hg2 : (n : Int) - a < m' := by omega
              go_enter Try.func7, Try.ntmps7
              go_wp2_with fail
              with_reducible refine (alive_any _).mono ?_
              rintro e w1 ⟨rfl, B1⟩
              go_wp2_with fail
              with_reducible refine (patch_end _ _ _ _ _ _ _ _ (by omega) (by omega) (by omega) he).mono ?_
              rintro e w2 ⟨A2, n2, c2, rfl, o2, hb⟩
              have B2 := B1.trans (hb.mono B1.size)
              obtain rfl : n2 = 0 := by have := o2.len; simpa using this.symm
              clear hb B1 o2
              go_wp2_with fail
              go_ret
              exact ⟨rfl, B2⟩
          · obtain ⟨i, rfl⟩ := Int.eq_ofNat_of_zero_le (show 0 ≤ a by omega)
            exact pats_ok A n c xs i A' m' c' ys A'' c'' zs w hr hr' hr'' hn hm (by omega)
      · have hne : ((m' : Int) != (m : Int)) = true := by simp; omega
        have hne' : (m' != m) = true := by simp; omega
        go_enter Try.func7, Try.ntmps7
        go_wp2_with fail
        with_reducible refine (alive_any _).mono ?_
        rintro e w1 ⟨rfl, hb⟩
        go_wp2_with fail
        go_ret
        exact ⟨rfl, hb⟩
    · go_enter Try.func7, Try.ntmps7
      go_wp2_with fail
      with_reducible refine (alive_any _).mono ?_
      rintro e w1 ⟨rfl, hb⟩
      go_wp2_with fail
      go_ret
      exact ⟨rfl, hb⟩
  · go_enter Try.func7, Try.ntmps7
    go_wp2_with fail
    with_reducible refine (alive_any _).mono ?_
    rintro e w1 ⟨rfl, hb⟩
    go_wp2_with fail
    go_ret
    exact ⟨rfl, hb⟩
end Go.Proofs.Ytmjdmddphaabmaa
