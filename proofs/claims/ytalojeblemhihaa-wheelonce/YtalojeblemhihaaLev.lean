/-
  Levels by bits: at which bit two times differ, in plain numbers. Nothing of the program is said here.
-/
import Derived.Lib.ItoaNum
import Derived.Test.YtalojeblemhihaaBase
namespace Go.Proofs.Ytalojeblemhihaa
set_option linter.unusedVariables false

/-- The level of a timer that is due at d, the time being n. -/
def lv (n d : Nat) : Nat := if d ≤ n then 0 else Lib.bitLen (d ^^^ n)

theorem bitLen_le_iff {x k : Nat} (hx : x < 2 ^ 64) (hk : k ≤ 64) : Lib.bitLen x ≤ k ↔ x < 2 ^ k := by
  constructor
  · intro h
    by_cases h0 : x = 0
    · subst h0; exact Nat.two_pow_pos k
    · obtain ⟨_, _, c⟩ := Lib.bitLenAux_bounds 64 x hx h0
      exact Nat.lt_of_lt_of_le c (Nat.pow_le_pow_right (by omega) h)
  · exact Lib.bitLen_le x k hk
theorem xor_eq {a b : Nat} (h : a ^^^ b = 0) : a = b := by
  have : (a ^^^ b) ^^^ b = a := by rw [Nat.xor_assoc, Nat.xor_self, Nat.xor_zero]
  rw [h, Nat.zero_xor] at this
  exact this.symm
theorem xor_lt_iff {a b k : Nat} : a ^^^ b < 2 ^ k ↔ a / 2 ^ k = b / 2 ^ k := by
  have h : (a ^^^ b) / 2 ^ k = a / 2 ^ k ^^^ b / 2 ^ k := Nat.xor_div_two_pow
  constructor
  · intro hl
    have h0 : (a ^^^ b) / 2 ^ k = 0 := Nat.div_eq_of_lt hl
    rw [h0] at h
    exact xor_eq h.symm
  · intro e
    rw [e, Nat.xor_self] at h
    exact (Nat.div_eq_zero_iff_lt (Nat.two_pow_pos k)).1 h
theorem xor_64 {a b : Nat} (ha : a < 2 ^ 63) (hb : b < 2 ^ 63) : a ^^^ b < 2 ^ 63 := Nat.xor_lt_two_pow ha hb
theorem lv_over {n d : Nat} (h : d ≤ n) : lv n d = 0 := by unfold lv; rw [if_pos h]
theorem lv_le {n d k : Nat} (hn : n < 2 ^ 63) (hd : d < 2 ^ 63) (hk : k ≤ 64) (h : n < d) : lv n d ≤ k ↔ d / 2 ^ k = n / 2 ^ k := by
  unfold lv
  rw [if_neg (by omega), bitLen_le_iff (by have := xor_64 hd hn; omega) hk, xor_lt_iff]
theorem lv_63 {n d : Nat} (hn : n < 2 ^ 63) (hd : d < 2 ^ 63) : lv n d ≤ 63 := by
  unfold lv
  split
  · omega
  · exact (bitLen_le_iff (by have := xor_64 hd hn; omega) (by omega)).2 (xor_64 hd hn)
theorem lv_zero {n d : Nat} (hn : n < 2 ^ 63) (hd : d < 2 ^ 63) : lv n d = 0 ↔ d ≤ n := by
  constructor
  · intro h
    by_cases h1 : d ≤ n
    · exact h1
    · have h2 := (lv_le (k := 0) hn hd (by omega) (by omega)).1 (by omega)
      simp at h2
      omega
  · exact lv_over
/-- What is due earlier is at no higher level. -/
theorem lv_mono {n d e : Nat} (hn : n < 2 ^ 63) (hd : d < 2 ^ 63) (he : e < 2 ^ 63) (h : d ≤ e) : lv n d ≤ lv n e := by
  by_cases h1 : d ≤ n
  · rw [lv_over h1]; omega
  · have h63 := lv_63 hn he
    have h2 := (lv_le (k := lv n e) hn he (by omega) (by omega)).1 (Nat.le_refl _)
    refine (lv_le hn hd (by omega) (by omega)).2 ?_
    have m1 : n / 2 ^ lv n e ≤ d / 2 ^ lv n e := Nat.div_le_div_right (by omega)
    have m2 : d / 2 ^ lv n e ≤ e / 2 ^ lv n e := Nat.div_le_div_right h
    omega
/-- The time goes on: what is at a higher level than the bits that change stays at it. -/
theorem lv_stays {n m d : Nat} (hn : n < 2 ^ 63) (hm : m < 2 ^ 63) (hd : d < 2 ^ 63) (hnm : n ≤ m) (h : lv n m < lv n d) : lv m d = lv n d := by
  have hdn : n < d := by
    by_cases h1 : d ≤ n
    · rw [lv_over h1] at h; omega
    · omega
  have hk63 := lv_63 hn hd
  generalize hk : lv n m = k at h
  have e1 : m / 2 ^ k = n / 2 ^ k := by
    by_cases h2 : n < m
    · exact (lv_le (k := k) hn hm (by omega) h2).1 (by omega)
    · have : n = m := by omega
      rw [this]
  have f1 : ¬ d / 2 ^ k = n / 2 ^ k := fun e => by
    have := (lv_le (k := k) hn hd (by omega) hdn).2 e
    omega
  have g1 : n / 2 ^ k ≤ d / 2 ^ k := Nat.div_le_div_right (by omega)
  have hdm : m < d := by
    by_cases h3 : m < d
    · exact h3
    · have : d / 2 ^ k ≤ m / 2 ^ k := Nat.div_le_div_right (by omega)
      omega
  have up : ∀ j, k ≤ j → m / 2 ^ j = n / 2 ^ j := fun j hj => by
    obtain ⟨i, rfl⟩ : ∃ i, j = k + i := ⟨j - k, by omega⟩
    rw [Nat.pow_add, ← Nat.div_div_eq_div_mul, ← Nat.div_div_eq_div_mul, e1]
  have key : ∀ j, k ≤ j → j ≤ 64 → (lv m d ≤ j ↔ lv n d ≤ j) := fun j h1 h2 => by
    rw [lv_le hm hd h2 hdm, lv_le hn hd h2 hdn, up j h1]
  have a1 := (key (lv n d) (by omega) (by omega)).2 (Nat.le_refl _)
  have hm63 := lv_63 hm hd
  by_cases h4 : lv m d ≤ k
  · have := (key k (Nat.le_refl _) (by omega)).1 h4
    omega
  · have := (key (lv m d) (by omega) (by omega)).1 (Nat.le_refl _)
    omega
end Go.Proofs.Ytalojeblemhihaa
