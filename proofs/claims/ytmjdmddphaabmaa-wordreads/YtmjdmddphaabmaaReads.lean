/-
  WordReads, walked.
-/
import Derived.Test.YtmjdmddphaabmaaAlive
namespace Go.Proofs.Ytmjdmddphaabmaa
open Go.RowKit

set_option maxHeartbeats 1000000 in
theorem reads_law (A : Option Addr) (n c : Nat) (xs : List Int) (a s t : Int) (w : World) (hr : Rd .u8 w w.heap.size A n c xs) :
    Calls Try.prog 3 #[.slice A n c, .int .i64 a, .int .i64 s, .int .i64 t] w fun e w' => e = .returned (.bool true) ∧ Below w.heap.size w w' := by
  have hmax := hr.max
  have hcap := hr.cap
  by_cases hn : n ≤ 3000
  · go_enter Try.func3, Try.ntmps3
    go_wp2_with fail
    with_reducible refine (alive_any _).mono ?_
    rintro e w1 ⟨rfl, hb⟩
    have s1 := hb.size
    have r1 := hr.below hb (Nat.le_refl _)
    go_wp2_with fail
    with_reducible refine (own_any _ _ _ _ _ _ r1 s1 hn).mono ?_
    rintro e w2 ⟨A2, n2, c2, rfl, o2, hb2⟩
    have B2 := hb.trans (hb2.mono s1)
    have s2 := B2.size
    have r2 := hr.below B2 (Nat.le_refl _)
    have q2 := o2.rd
    clear r1 s1 hb hb2
    go_wp2_with fail
    with_reducible refine (at_any _ _ _ _ _ _ _ _ q2).mono ?_
    rintro e w3 ⟨rfl, rfl⟩
    go_wp2_with fail
    with_reducible refine (rat_any _ _ _ _ _ _ _ _ r2).mono ?_
    rintro e w3 ⟨rfl, rfl⟩
    have hn2 : n2 ≤ 3000 := by have := o2.len; have := hr.len; omega
    go_wp2_with fail
    with_reducible refine (cut_any _ _ _ _ _ _ _ _ q2 (Nat.le_refl _) hn2).mono ?_
    rintro e w3 ⟨A3, n3, c3, rfl, o3, hb3⟩
    have B3 := B2.trans (hb3.mono s2)
    have s3 := B3.size
    have r3 := hr.below B3 (Nat.le_refl _)
    replace o2 := o2.below hb3 (Nat.le_refl _)
    clear r2 s2 hb3 B2 q2
    go_wp2_with fail
    with_reducible refine (rcut_any _ _ _ _ _ _ _ _ r3 s3 hn).mono ?_
    rintro e w4 ⟨A4, n4, c4, rfl, o4, hb4⟩
    have B4 := B3.trans (hb4.mono s3)
    have s4 := B4.size
    have r4 := hr.below B4 (Nat.le_refl _)
    replace o2 := o2.below hb4 (Nat.le_refl _)
    replace o3 := o3.below hb4 (Nat.le_refl _)
    clear r3 s3 hb4 B3
    go_wp2_with fail
    with_reducible refine (same_any _ _ _ _ _ _ _ _ _ _ o3.rd o4.rd).mono ?_
    rintro e w5 ⟨rfl, hb5⟩
    have B5 := B4.trans (hb5.mono s4)
    have s5 := B5.size
    have r5 := hr.below B5 (Nat.le_refl _)
    replace o2 := o2.below hb5 (Nat.le_refl _)
    clear r4 s4 hb5 B4 o3 o4
    go_wp2_with fail
    with_reducible refine (same_any _ _ _ _ _ _ _ _ _ _ o2.rd r5).mono ?_
    rintro e w6 ⟨rfl, hb6⟩
    have B6 := B5.trans (hb6.mono s5)
    clear r5 s5 hb6 B5 o2
    go_wp2_with fail
    go_ret
    exact ⟨rfl, B6⟩
  · go_enter Try.func3, Try.ntmps3
    go_wp2_with fail
    with_reducible refine (alive_any _).mono ?_
    rintro e w1 ⟨rfl, hb⟩
    go_wp2_with fail
    go_ret
    exact ⟨rfl, hb⟩
end Go.Proofs.Ytmjdmddphaabmaa
