/-
  WordBack, walked.
-/
import Derived.Test.YtmjdmddphaabmaaBackM
namespace Go.Proofs.Ytmjdmddphaabmaa
open Go.RowKit

/-- What the calls behind Lay answer, where it laid. -/
theorem back_facts (xs : List Int) (i z : Nat) (v : Int) (hv : 0 ≤ v) (hz : 1 ≤ z ∧ z ≤ 8) (hf : v < 256 ^ z) (hi : i + z ≤ xs.length) :
    (splice xs i (lowB v z)).length = xs.length ∧ atV (splice xs i (lowB v z)) i z = v ∧ atE (splice xs i (lowB v z)).length i z = 0 ∧
    cutL (splice xs i (lowB v z)) 0 i = xs.take i ∧ cutE (splice xs i (lowB v z)).length 0 i = 0 ∧
    cutL (splice xs i (lowB v z)) ((i : Int) + z) xs.length = (xs.drop (i + z)).take (xs.length - (i + z)) ∧ cutE (splice xs i (lowB v z)).length ((i : Int) + z) xs.length = 0 := by
  have hl := lowB_len v z
  have hle : i + (lowB v z).length ≤ xs.length := by omega
  have e0 := splice_len xs (lowB v z) i hle
  have e1 := splice_take xs (lowB v z) i hle
  have e2 := splice_part xs (lowB v z) i hle
  have e3 := splice_drop xs (lowB v z) i hle
  have e4 := num_back v hv z hf
  rw [hl] at e2 e3
  generalize splice xs i (lowB v z) = L at *
  have a0 : atE L.length i z = 0 := by
    simp only [atE]; rw [if_neg (by omega), if_neg (by omega)]
  have c0 : cutE L.length 0 i = 0 := by
    simp only [cutE]; rw [if_neg (by omega), if_neg (by omega)]
  have c1 : cutE L.length ((i : Int) + z) xs.length = 0 := by
    simp only [cutE]; rw [if_neg (by omega), if_neg (by omega)]
  refine ⟨e0, ?_, a0, ?_, c0, ?_, c1⟩
  · simp only [atV, a0, if_pos, Int.toNat_natCast]; rw [e2, e4]
  · simp only [cutL, c0, if_pos, Int.toNat_natCast, Int.toNat_zero]; simpa using e1
  · have e5 : ((i : Int) + z).toNat = i + z := by omega
    simp only [cutL, c1, if_pos, Int.toNat_natCast, e5]; rw [e3]

set_option maxRecDepth 100000 in
set_option maxHeartbeats 2000000 in
theorem back_law (A : Option Addr) (n c : Nat) (xs : List Int) (a s v : Int) (w : World) (hr : Rd .u8 w w.heap.size A n c xs) (hv : (Lit.int .u64 v).wf = true) :
    Calls Try.prog 5 #[.slice A n c, .int .i64 a, .int .i64 s, .int .u64 v] w fun e w' => e = .returned (.bool true) ∧ Below w.heap.size w w' := by
  have hmax := hr.max
  have hcap := hr.cap
  by_cases hn : n ≤ 3000
  · by_cases hE : layE xs a s v = 0
    · have hvb := u64_bd hv
      obtain ⟨i, z, rfl, rfl, h1, h8, hf, hi, hL⟩ := lay_zero hE
      obtain ⟨f0, f1, f2, f3, f4, f5, f6⟩ := back_facts xs i z v hvb.1 ⟨h1, h8⟩ hf hi
      have hlay := fun W r sz => lay_any A n c xs w.heap.size i z v W r sz hn hv
      rw [hE, hL] at hlay
      generalize splice xs i (lowB v z) = L at *
      have F0 := Lib.hid f0
      have HN := Lib.hid hr.len
      rw [HN.out] at hi f5 f6
      have F1 := Lib.hid f1
      have F2 := Lib.hid f2
      have F3 := Lib.hid f3
      have F4 := Lib.hid f4
      have F5 := Lib.hid f5
      have F6 := Lib.hid f6
      have HLAY := Lib.hid hlay
      have hfr := hr.front (t := i) (by omega)
      have hbe := hr.cut (f := i + z) (t := n) (by omega) (Nat.le_refl _)
      clear f0 f1 f2 f3 f4 f5 f6 hE hL hlay hf
      obtain ⟨b, o, rfl, _, _⟩ := hr.at_ (i := 0) (by omega)
      have hb1 : c = i + z → Rd .u8 w w.heap.size (some ⟨b, o, none⟩) (n - (i + z)) 0 ((xs.drop (i + z)).take (n - (i + z))) := by
        intro h; rw [if_pos h, show c - (i + z) = 0 by omega] at hbe; exact hbe
      have hb2 : ¬ c = i + z → Rd .u8 w w.heap.size (some ⟨b, o + (i + z), none⟩) (n - (i + z)) (c - (i + z)) ((xs.drop (i + z)).take (n - (i + z))) := by
        intro h
        have e : (⟨b, o, none⟩ : Addr).add (i + z) = ⟨b, o + (i + z), none⟩ := by unfold Addr.add; rw [if_neg (by omega)]
        rw [if_neg h, Option.map_some, e] at hbe
        exact hbe
      have HB1 := Lib.hid hb1
      have HB2 := Lib.hid hb2
      clear hb1 hb2 hbe
      go_enter Try.func5, Try.ntmps5
      go_wp2_with fail
      with_reducible refine (alive_any _).mono ?_
      rintro e w1 ⟨rfl, B1⟩
      have s1 := B1.size
      go_wp2_with fail
      with_reducible refine (HLAY.out _ (hr.below B1 (Nat.le_refl _)) s1).mono ?_
      rintro e w2 ⟨A2, n2, c2, rfl, o2, hb⟩
      have B2 := B1.trans (hb.mono s1)
      have s2 := B2.size
      have hg2 : ∃ g, A2 = some ⟨g, 0, none⟩ ∧ w.heap.size ≤ g ∧ g < w2.heap.size := by
        have hl2 := o2.len
        rw [F0.out, HN.out] at hl2
        obtain ⟨g, e, hbg, hcc, _⟩ := o2.at_ (i := 0) (by omega)
        exact ⟨g, e, by omega, World.block_lt_of_cell? w2 _ hcc⟩
      have hn2 : n2 = n := by have := o2.len; rw [F0.out, HN.out] at this; omega
      obtain ⟨g, rfl, hg0, hg1⟩ := hg2
      subst hn2
      clear hb B1 s1
      go_wp2_with fail
      have ca := at_any _ _ _ _ _ i z _ o2.rd
      rw [F1.out, F2.out] at ca
      with_reducible refine ca.mono ?_
      rintro e w3 ⟨rfl, rfl⟩
      clear ca
      go_wp2_with fail
      have ca := cut_any _ _ _ _ _ 0 i _ o2.rd (Nat.le_refl _) hn
      rw [F3.out, F4.out] at ca
      with_reducible refine ca.mono ?_
      rintro e w3 ⟨A3, n3, c3, rfl, o3, hb⟩
      have B3 := B2.trans (hb.mono s2)
      have s3 := B3.size
      replace o2 := o2.below hb (Nat.le_refl _)
      replace hg1 : g < w3.heap.size := by have := hb.size; omega
      clear hb B2 s2 ca
      go_wp2_with fail
      have ca := cut_any _ _ _ _ _ ((i : Int) + z) n2 _ o2.rd (Nat.le_refl _) hn
      rw [F5.out, F6.out] at ca
      with_reducible refine ca.mono ?_
      rintro e w4 ⟨A4, n4, c4, rfl, o4, hb⟩
      have B4 := B3.trans (hb.mono s3)
      have s4 := B4.size
      replace o2 := o2.below hb (Nat.le_refl _)
      replace o3 := o3.below hb (Nat.le_refl _)
      replace hg1 : g < w4.heap.size := by have := hb.size; omega
      clear hb B3 s3 ca
      go_wp2_with fail
      with_reducible refine (same_any _ _ _ _ _ _ _ _ _ _ o3.rd (hfr.below B4 (Nat.le_refl _))).mono ?_
      rintro e w5 ⟨rfl, hb⟩
      have B5 := B4.trans (hb.mono s4)
      have s5 := B5.size
      replace o2 := o2.below hb (Nat.le_refl _)
      replace o4 := o4.below hb (Nat.le_refl _)
      replace hg1 : g < w5.heap.size := by have := hb.size; omega
      clear hb B4 s4 o3 hfr
      go_wp2_with fail
      case' inl h =>
        (with_reducible refine (same_any _ _ _ _ _ _ _ _ _ _ o4.rd ((HB1.out h).below B5 (Nat.le_refl _))).mono ?_)
        subst h
      case' inr h => with_reducible refine (same_any _ _ _ _ _ _ _ _ _ _ o4.rd ((HB2.out h).below B5 (Nat.le_refl _))).mono ?_
      all_goals
        rintro e w6 ⟨rfl, hb⟩
        have B6 := B5.trans (hb.mono s5)
        have s6 := B6.size
        replace o2 := o2.below hb (Nat.le_refl _)
        replace hg1 : g < w6.heap.size := by have := hb.size; omega
        clear hb B5 s5 o4 HB1 HB2
        go_wp2_with fail
        with_reducible refine (own_any _ _ _ _ _ _ (hr.below B6 (Nat.le_refl _)) s6 hn).mono ?_
        rintro e w7 ⟨A7, n7, c7, rfl, o7, hb⟩
        have B7 := B6.trans (hb.mono s6)
        replace o2 := o2.below hb (Nat.le_refl _)
        clear hb B6 s6
        go_wp2_with fail
        go_loopw [18] (fun j wr => ∃ (k : Nat) (L' : List Int), k ≤ n2 ∧ j = .int .i64 k ∧ Out wr w1.heap.size (some ⟨g, 0, none⟩) n2 c2 L' ∧ Out wr w6.heap.size A7 n7 c7 xs ∧ Below w.heap.size w wr) (fun j _ => n2 - (intOf j).toNat)
        case atStart => exact ⟨0, L, Nat.zero_le _, rfl, o2, o7, B7⟩
        case round =>
          obtain ⟨k, L', hk, rfl, q2, q7, hb⟩ := hrel
          clear o2 o7 B7
          by_cases hlt : k < n2
          · obtain ⟨g', eg, hbg, hc, hf, hset⟩ := q2.at_ (i := k) hlt
            obtain rfl : g = g' := by simpa using eg
            have hx := u8_bd (q2.rd.wf hlt)
            have HS := Lib.hid hset
            clear hset eg
            generalize L'.getD k 0 = x at *
            go_wp2_with fail
            go_roundw
            case rel => exact ⟨k + 1, _, by omega, by go_num, HS.out _ (u8_mk (by omega)), q7.far hg1 _, hb.setCell hg0 _⟩
            case measure => simp [intOf]; omega
          · go_wp2_with fail
            with_reducible refine (same_any _ _ _ _ _ _ _ _ _ _ (hr.below hb (Nat.le_refl _)) q7.rd).mono ?_
            rintro e w8 ⟨rfl, hb8⟩
            have B8 := hb.trans (hb8.mono hb.size)
            go_wp2_with fail
            go_ret
            exact ⟨rfl, B8⟩
    · have hL := lay_nz hE
      have hlay := fun W r sz => lay_any A n c xs w.heap.size a s v W r sz hn hv
      rw [hL] at hlay
      have HLAY := Lib.hid hlay
      have hE' : (layE xs a s v != 0) = true := by simpa using hE
      clear hE hL hlay
      generalize layE xs a s v = er at *
      go_enter Try.func5, Try.ntmps5
      go_wp2_with fail
      with_reducible refine (alive_any _).mono ?_
      rintro e w1 ⟨rfl, B1⟩
      have s1 := B1.size
      go_wp2_with fail
      with_reducible refine (HLAY.out _ (hr.below B1 (Nat.le_refl _)) s1).mono ?_
      rintro e w2 ⟨A2, n2, c2, rfl, o2, hb⟩
      have B2 := B1.trans (hb.mono s1)
      obtain rfl : n2 = 0 := by have := o2.len; simpa using this.symm
      clear hb B1 s1 o2
      go_wp2_with fail
      go_ret
      exact ⟨rfl, B2⟩
  · go_enter Try.func5, Try.ntmps5
    go_wp2_with fail
    with_reducible refine (alive_any _).mono ?_
    rintro e w1 ⟨rfl, hb⟩
    go_wp2_with fail
    go_ret
    exact ⟨rfl, hb⟩
end Go.Proofs.Ytmjdmddphaabmaa
