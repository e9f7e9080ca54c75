/-
  WordLays, walked.
-/
import Derived.Test.YtmjdmddphaabmaaAlive
namespace Go.Proofs.Ytmjdmddphaabmaa
open Go.RowKit

set_option maxRecDepth 100000 in
set_option maxHeartbeats 2000000 in
theorem lays_law (A : Option Addr) (n c : Nat) (xs : List Int) (a s v : Int) (A' : Option Addr) (n' c' : Nat) (vs : List Int) (A'' : Option Addr) (n'' c'' : Nat) (ys : List Int) (w : World)
    (hr : Rd .u8 w w.heap.size A n c xs) (hv : (Lit.int .u64 v).wf = true) (hr' : Rd .u64 w w.heap.size A' n' c' vs) (hr'' : Rd .u8 w w.heap.size A'' n'' c'' ys) :
    Calls Try.prog 4 #[.slice A n c, .int .i64 a, .int .i64 s, .int .u64 v, .slice A' n' c', .slice A'' n'' c''] w fun e w' => e = .returned (.bool true) ∧ Below w.heap.size w w' := by
  have hmax := hr.max
  have hcap := hr.cap
  have hmax' := hr'.max
  have hcap' := hr'.cap
  have hmax'' := hr''.max
  have hcap'' := hr''.cap
  by_cases hn : n ≤ 3000
  · by_cases hn' : n' ≤ 300
    · by_cases hn'' : n'' ≤ 3000
      · go_enter Try.func4, Try.ntmps4
        go_wp2_with fail
        with_reducible refine (alive_any _).mono ?_
        rintro e w1 ⟨rfl, B1⟩
        have s1 := B1.size
        go_wp2_with fail
        with_reducible refine (own_any _ _ _ _ _ _ (hr.below B1 (Nat.le_refl _)) s1 hn).mono ?_
        rintro e w2 ⟨A2, n2, c2, rfl, o2, hb⟩
        have B2 := B1.trans (hb.mono s1)
        have s2 := B2.size
        have hn2 : n2 ≤ 3000 := by have := o2.len; have := hr.len; omega
        clear hb B1 s1
        go_wp2_with fail
        with_reducible refine (lay_any _ _ _ _ _ _ _ _ _ o2.rd (Nat.le_refl _) hn2 hv).mono ?_
        rintro e w3 ⟨A3, n3, c3, rfl, o3, hb⟩
        have B3 := B2.trans (hb.mono s2)
        have s3 := B3.size
        replace o2 := o2.below hb (Nat.le_refl _)
        clear hb B2 s2
        go_wp2_with fail
        with_reducible refine (rlay_any _ _ _ _ _ _ _ _ _ (hr.below B3 (Nat.le_refl _)) s3 hn hv).mono ?_
        rintro e w4 ⟨A4, n4, c4, rfl, o4, hb⟩
        have B4 := B3.trans (hb.mono s3)
        have s4 := B4.size
        replace o2 := o2.below hb (Nat.le_refl _)
        replace o3 := o3.below hb (Nat.le_refl _)
        clear hb B3 s3
        go_wp2_with fail
        with_reducible refine (row_any _ _ _ _ _ _ _ (hr'.below B4 (Nat.le_refl _)) s4 hn').mono ?_
        rintro e w5 ⟨A5, n5, c5, rfl, o5, hb⟩
        have B5 := B4.trans (hb.mono s4)
        have s5 := B5.size
        replace o2 := o2.below hb (Nat.le_refl _)
        replace o3 := o3.below hb (Nat.le_refl _)
        replace o4 := o4.below hb (Nat.le_refl _)
        clear hb B4 s4
        go_wp2_with fail
        with_reducible refine (rrow_any _ _ _ _ _ _ _ (hr'.below B5 (Nat.le_refl _)) s5 hn').mono ?_
        rintro e w6 ⟨A6, n6, c6, rfl, o6, hb⟩
        have B6 := B5.trans (hb.mono s5)
        have s6 := B6.size
        replace o2 := o2.below hb (Nat.le_refl _)
        replace o3 := o3.below hb (Nat.le_refl _)
        replace o4 := o4.below hb (Nat.le_refl _)
        replace o5 := o5.below hb (Nat.le_refl _)
        clear hb B5 s5
        go_wp2_with fail
        with_reducible refine (patch_any _ _ _ _ _ _ _ _ _ _ _ _ o2.rd (Nat.le_refl _) (hr''.below B6 (Nat.le_refl _)) s6 hn2).mono ?_
        rintro e w7 ⟨A7, n7, c7, rfl, o7, hb⟩
        have B7 := B6.trans (hb.mono s6)
        have s7 := B7.size
        replace o2 := o2.below hb (Nat.le_refl _)
        replace o3 := o3.below hb (Nat.le_refl _)
        replace o4 := o4.below hb (Nat.le_refl _)
        replace o5 := o5.below hb (Nat.le_refl _)
        replace o6 := o6.below hb (Nat.le_refl _)
        clear hb B6 s6
        go_wp2_with fail
        with_reducible refine (rpatch_any _ _ _ _ _ _ _ _ _ _ _ _ (hr.below B7 (Nat.le_refl _)) s7 (hr''.below B7 (Nat.le_refl _)) s7 hn).mono ?_
        rintro e w8 ⟨A8, n8, c8, rfl, o8, hb⟩
        have B8 := B7.trans (hb.mono s7)
        have s8 := B8.size
        replace o2 := o2.below hb (Nat.le_refl _)
        replace o3 := o3.below hb (Nat.le_refl _)
        replace o4 := o4.below hb (Nat.le_refl _)
        replace o5 := o5.below hb (Nat.le_refl _)
        replace o6 := o6.below hb (Nat.le_refl _)
        replace o7 := o7.below hb (Nat.le_refl _)
        clear hb B7 s7
        go_wp2_with fail
        with_reducible refine (same_any _ _ _ _ _ _ _ _ _ _ o3.rd o4.rd).mono ?_
        rintro e w9 ⟨rfl, hb⟩
        have B9 := B8.trans (hb.mono s8)
        have s9 := B9.size
        replace o2 := o2.below hb (Nat.le_refl _)
        replace o5 := o5.below hb (Nat.le_refl _)
        replace o6 := o6.below hb (Nat.le_refl _)
        replace o7 := o7.below hb (Nat.le_refl _)
        replace o8 := o8.below hb (Nat.le_refl _)
        clear hb B8 s8 o3 o4
        go_wp2_with fail
        with_reducible refine (same_any _ _ _ _ _ _ _ _ _ _ o5.rd o6.rd).mono ?_
        rintro e w10 ⟨rfl, hb⟩
        have B10 := B9.trans (hb.mono s9)
        have s10 := B10.size
        replace o2 := o2.below hb (Nat.le_refl _)
        replace o7 := o7.below hb (Nat.le_refl _)
        replace o8 := o8.below hb (Nat.le_refl _)
        clear hb B9 s9 o5 o6
        go_wp2_with fail
        with_reducible refine (same_any _ _ _ _ _ _ _ _ _ _ o7.rd o8.rd).mono ?_
        rintro e w11 ⟨rfl, hb⟩
        have B11 := B10.trans (hb.mono s10)
        have s11 := B11.size
        replace o2 := o2.below hb (Nat.le_refl _)
        clear hb B10 s10 o7 o8
        go_wp2_with fail
        with_reducible refine (same_any _ _ _ _ _ _ _ _ _ _ o2.rd (hr.below B11 (Nat.le_refl _))).mono ?_
        rintro e w12 ⟨rfl, hb⟩
        have B12 := B11.trans (hb.mono s11)
        clear hb B11 s11 o2
        go_wp2_with fail
        go_ret
        exact ⟨rfl, B12⟩
      · go_enter Try.func4, Try.ntmps4
        go_wp2_with fail
        with_reducible refine (alive_any _).mono ?_
        rintro e w1 ⟨rfl, hb⟩
        go_wp2_with fail
        go_ret
        exact ⟨rfl, hb⟩
    · go_enter Try.func4, Try.ntmps4
      go_wp2_with fail
      with_reducible refine (alive_any _).mono ?_
      rintro e w1 ⟨rfl, hb⟩
      go_wp2_with fail
      go_ret
      exact ⟨rfl, hb⟩
  · go_enter Try.func4, Try.ntmps4
    go_wp2_with fail
    with_reducible refine (alive_any _).mono ?_
    rintro e w1 ⟨rfl, hb⟩
    go_wp2_with fail
    go_ret
    exact ⟨rfl, hb⟩
end Go.Proofs.Ytmjdmddphaabmaa
