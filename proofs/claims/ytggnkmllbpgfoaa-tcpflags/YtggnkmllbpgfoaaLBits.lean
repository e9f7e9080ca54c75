/-
  Flags as bits; what the walk of TcpFlags knows.
-/
import Derived.Test.YtggnkmllbpgfoaaPW
import Derived.Laws.BitsAllLaws
namespace Go.Proofs.Ytggnkmllbpgfoaa
open Go.RowKit
set_option linter.unusedVariables false

theorem bit_or (f a b : Nat) : (f &&& (a ||| b) = a ||| b) ↔ (f &&& a = a ∧ f &&& b = b) := by
  constructor
  · intro h
    have key : ∀ i, (f.testBit i && (a.testBit i || b.testBit i)) = (a.testBit i || b.testBit i) := fun i => by
      have := congrArg (fun n => Nat.testBit n i) h
      simpa [Nat.testBit_and, Nat.testBit_or] using this
    constructor
    · refine Nat.eq_of_testBit_eq fun i => ?_
      have := key i
      rw [Nat.testBit_and]
      revert this
      cases f.testBit i <;> cases a.testBit i <;> cases b.testBit i <;> simp
    · refine Nat.eq_of_testBit_eq fun i => ?_
      have := key i
      rw [Nat.testBit_and]
      revert this
      cases f.testBit i <;> cases a.testBit i <;> cases b.testBit i <;> simp
  · intro ⟨h1, h2⟩
    rw [Nat.and_or_distrib_left, h1, h2]
theorem bit_not (f a : Nat) (hf : f < 256) (ha : a < 256) : (f &&& a = a) ↔ a &&& (255 - f) = 0 := by
  have e : ∀ i, (255 - f).testBit i = (decide (i < 8) && !f.testBit i) := fun i => by
    have := Nat.testBit_two_pow_sub_succ (n := 8) (x := f) hf i
    rwa [show 2 ^ 8 - (f + 1) = 255 - f by omega] at this
  have hi : ∀ i, ¬ i < 8 → a.testBit i = false := fun i h => by
    have h8 : 2 ^ 8 ≤ 2 ^ i := Nat.pow_le_pow_right (by decide) (by omega)
    exact Nat.testBit_lt_two_pow (Nat.lt_of_lt_of_le ha h8)
  constructor
  · intro h
    refine Nat.eq_of_testBit_eq fun i => ?_
    have := congrArg (fun n => Nat.testBit n i) h
    simp only [Nat.testBit_and] at this
    rw [Nat.testBit_and, e, Nat.zero_testBit]
    revert this
    cases f.testBit i <;> cases a.testBit i <;> simp
  · intro h
    refine Nat.eq_of_testBit_eq fun i => ?_
    have := congrArg (fun n => Nat.testBit n i) h
    simp only [Nat.testBit_and, e, Nat.zero_testBit] at this
    rw [Nat.testBit_and]
    by_cases q : i < 8
    · revert this
      simp only [q, decide_true, Bool.true_and]
      cases f.testBit i <;> cases a.testBit i <;> simp
    · rw [hi i q]
      simp
section
variable {f a b : Int} (hf : 0 ≤ f ∧ f ≤ 255) (ha : 0 ≤ a ∧ a ≤ 255) (hb : 0 ≤ b ∧ b ≤ 255)
include hf ha
theorem has_iff : hasB f a = decide (f.toNat &&& a.toNat = a.toNat) := by
  unfold hasB
  rw [u8_and f a hf.1 (by omega) ha.1 (by omega)]
  have : a = (a.toNat : Int) := by omega
  rw [Bool.eq_iff_iff]
  simp only [beq_iff_eq, decide_eq_true_eq]
  omega
theorem has_andNot : (bits .andNot .u8 a f == 0) = hasB f a := by
  rw [has_iff hf ha, u8_andNot a f ha.1 (by omega) hf.1 (by omega), Bool.eq_iff_iff]
  simp only [beq_iff_eq, decide_eq_true_eq]
  rw [bit_not f.toNat a.toNat (by omega) (by omega)]
  omega
include hb
theorem has_or : hasB f (bits .or .u8 a b) = (hasB f a && hasB f b) := by
  have e := u8_or a b ha.1 (by omega) hb.1 (by omega)
  have hlt : a.toNat ||| b.toNat < 256 := Nat.or_lt_two_pow (n := 8) (by omega) (by omega)
  rw [has_iff hf ha, has_iff hf hb, has_iff hf (a := bits .or .u8 a b) (by rw [e]; omega), e, Bool.eq_iff_iff]
  simp only [Bool.and_eq_true, decide_eq_true_eq, Int.toNat_natCast]
  exact bit_or _ _ _
end
theorem has_zero {f : Int} (hf : 0 ≤ f ∧ f ≤ 255) : hasB f 0 = true := by
  rw [has_iff hf (by omega)]
  simp
theorem has_self {f : Int} (hf : 0 ≤ f ∧ f ≤ 255) : hasB f f = true := by
  rw [has_iff hf hf]
  simp
theorem mkR_drop (h : Hd) (f t : Int) (xs : List Int) : (mkR h f t xs).drop 20 = xs := by simp [mkR, hdM, two2]
theorem flags_far (fl a b : Int) (A : Option Addr) (n c : Nat) (f t : Int) (w : World) (hn : 1460 < n) (hmax : n ≤ 9223372036854775807) :
    Calls Try.prog 4 #[.int .u8 fl, .int .u8 a, .int .u8 b, .slice A n c, .int .u32 f, .int .u32 t] w fun e w' => e = .returned (.bool true) ∧ Below w.heap.size w w' := by
  go_enter Try.func4, Try.ntmps4
  go_wp2_with (go_at_call 5; refine (alive_any _).mono ?_; rintro ev w1 ⟨rfl, hb⟩)
  go_ret
  exact ⟨rfl, hb⟩
/-- What the walk knows: the segment. -/
structure KF (w : World) (gs : Nat) (h : Hd) (gr m : Nat) (W : World) : Prop where
  below : Below w.heap.size w W
  s : PkAt W gs 27 h (some ⟨gr, 0, none⟩) m m
theorem KF.step {w W V : World} {gs gr m : Nat} {h : Hd} (q : KF w gs h gr m W) (hb : Below W.heap.size W V) : KF w gs h gr m V := ⟨q.below.trans (hb.mono q.below.size), q.s.step hb⟩
end Go.Proofs.Ytggnkmllbpgfoaa
