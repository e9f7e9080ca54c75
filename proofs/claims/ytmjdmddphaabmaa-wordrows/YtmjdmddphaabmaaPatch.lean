/-
  Contracts of Patch: the program's, and the document's.
-/
import Derived.Test.YtmjdmddphaabmaaPut
namespace Go.Proofs.Ytmjdmddphaabmaa
open Go.RowKit

def patE (n : Nat) (a : Int) (m : Nat) : Int := if a < 0 then 11 else if (n : Int) - m < a then 12 else 0
def patL (xs : List Int) (a : Int) (ys : List Int) : List Int := if patE xs.length a ys.length = 0 then splice xs a.toNat ys else []
theorem pat_cases (xs : List Int) (a : Int) (ys : List Int) :
    (a < 0 ∧ patE xs.length a ys.length = 11 ∧ patL xs a ys = []) ∨
    (0 ≤ a ∧ (xs.length : Int) - ys.length < a ∧ patE xs.length a ys.length = 12 ∧ patL xs a ys = []) ∨
    (∃ i : Nat, a = i ∧ i + ys.length ≤ xs.length ∧ patE xs.length a ys.length = 0 ∧ patL xs a ys = splice xs i ys) := by
  by_cases h1 : a < 0
  · have e : patE xs.length a ys.length = 11 := by simp only [patE, if_pos h1]
    exact .inl ⟨h1, e, by simp only [patL, e]; rfl⟩
  · by_cases h2 : (xs.length : Int) - ys.length < a
    · have e : patE xs.length a ys.length = 12 := by simp only [patE, if_neg h1, if_pos h2]
      exact .inr (.inl ⟨by omega, h2, e, by simp only [patL, e]; rfl⟩)
    · have e : patE xs.length a ys.length = 0 := by simp only [patE, if_neg h1, if_neg h2]
      obtain ⟨i, rfl⟩ := Int.eq_ofNat_of_zero_le (show 0 ≤ a by omega)
      exact .inr (.inr ⟨i, rfl, by omega, e, by simp only [patL, e, if_pos, Int.toNat_natCast]⟩)

set_option maxHeartbeats 1000000 in
theorem patch_ok (A A' : Option Addr) (n c m c' : Nat) (xs ys : List Int) (B B' a : Nat) (w : World) (hr : Rd .u8 w B A n c xs) (hB : B ≤ w.heap.size) (hr' : Rd .u8 w B' A' m c' ys) (hB' : B' ≤ w.heap.size) (hn : n ≤ 3000) (hfit : a + m ≤ n) :
    Calls Try.prog 19 #[.slice A n c, .int .i64 a, .slice A' m c'] w (Gives2 w (splice xs a ys) 0) := by
  have hmax := hr.max
  have hcap := hr.cap
  have HL := Lib.hid hr.len
  have HL' := Lib.hid hr'.len
  have hwf := Lib.hid (splice_wf (p := a) hr.2.2.2.1 hr'.2.2.2.1)
  have hre : decide ((a : Int) ≤ (n : Int) - (m : Int)) = true := by simp; omega
  by_cases hna : n = a
  · subst hna
    obtain rfl : m = 0 := by omega
    go_enter Try.func19, Try.ntmps19
    go_wp2_with (first
      | (go_at_call 22; refine (reaches_any _ _ _ _ (by omega) (by omega)).mono ?_; rintro e w' ⟨rfl, rfl⟩)
      | (go_at_call 23; refine (fresh_any _ _ _ xs B _ hr hB (by omega)).mono ?_; rintro e w1 ⟨rfl, hrow, hb⟩)
      | (with_reducible refine wpList_cp rfl (.tmp 22) (.tmp 23) 22 22 rfl Try.underlying22 info5 w.heap.size n xs hrow _ _ _ rfl A' 0 c' B' ys rfl (hr'.below hb hB') (by rw [HL.out]; omega) (by omega) (fun h => by omega) ?_; intro w2 hrow2 hb2))
    go_ret2
    exact ⟨_, _, _, rfl, hrow2.out (Nat.le_refl _) (by rw [splice_len _ _ _ (by rw [HL.out, HL'.out]; omega), HL.out]) (by unfold maxLen; omega) hwf.out, hb.trans hb2⟩
  · go_enter Try.func19, Try.ntmps19
    go_wp2_with (first
      | (go_at_call 22; refine (reaches_any _ _ _ _ (by omega) (by omega)).mono ?_; rintro e w' ⟨rfl, rfl⟩)
      | (go_at_call 23; refine (fresh_any _ _ _ xs B _ hr hB (by omega)).mono ?_; rintro e w1 ⟨rfl, hrow, hb⟩)
      | (with_reducible refine wpList_cp rfl (.tmp 22) (.tmp 23) 22 22 rfl Try.underlying22 info5 w.heap.size a xs hrow _ _ _ rfl A' m c' B' ys rfl (hr'.below hb hB') (by rw [HL.out]; omega) (by omega) (fun h => rfl) ?_; intro w2 hrow2 hb2))
    go_ret2
    exact ⟨_, _, _, rfl, hrow2.out (Nat.le_refl _) (by rw [splice_len _ _ _ (by rw [HL.out, HL'.out]; omega), HL.out]) (by unfold maxLen; omega) hwf.out, hb.trans hb2⟩

set_option maxHeartbeats 400000 in
theorem patch_range (A A' : Option Addr) (n c m c' : Nat) (a : Int) (w : World) (h : a < 0) :
    Calls Try.prog 19 #[.slice A n c, .int .i64 a, .slice A' m c'] w (Gives2 w [] 11) := by
  go_enter Try.func19, Try.ntmps19
  go_wp2
  go_ret2
  exact ⟨_, _, _, rfl, Out.nil, Below.refl _ _⟩

set_option maxHeartbeats 400000 in
theorem patch_end (A A' : Option Addr) (n c m c' : Nat) (a : Int) (w : World) (hn : (n : Int) ≤ 9223372036854775807) (hm : (m : Int) ≤ 9223372036854775807) (h0 : 0 ≤ a) (h : (n : Int) - m < a) :
    Calls Try.prog 19 #[.slice A n c, .int .i64 a, .slice A' m c'] w (Gives2 w [] 12) := by
  have hre : decide (a ≤ (n : Int) - (m : Int)) = false := by simp; omega
  go_enter Try.func19, Try.ntmps19
  go_wp2_with (first
    | (go_at_call 22; refine (reaches_any _ _ _ _ (by omega) (by omega)).mono ?_; rintro e w' ⟨rfl, rfl⟩))
  go_ret2
  exact ⟨_, _, _, rfl, Out.nil, Below.refl _ _⟩

theorem patch_any (A A' : Option Addr) (n c m c' : Nat) (xs ys : List Int) (B B' : Nat) (a : Int) (w : World) (hr : Rd .u8 w B A n c xs) (hB : B ≤ w.heap.size) (hr' : Rd .u8 w B' A' m c' ys) (hB' : B' ≤ w.heap.size) (hn : n ≤ 3000) :
    Calls Try.prog 19 #[.slice A n c, .int .i64 a, .slice A' m c'] w (Gives2 w (patL xs a ys) (patE xs.length a ys.length)) := by
  have hlen := hr.len
  have hlen' := hr'.len
  have hmax := hr'.max
  have hcap := hr'.cap
  rcases pat_cases xs a ys with ⟨h, e1, e2⟩ | ⟨h0, h, e1, e2⟩ | ⟨i, rfl, h, e1, e2⟩
  · rw [e1, e2]; exact patch_range A A' n c m c' a w h
  · rw [e1, e2]; exact patch_end A A' n c m c' a w (by omega) (by omega) h0 (by omega)
  · rw [e1, e2]; exact patch_ok A A' n c m c' xs ys B B' i w hr hB hr' hB' hn (by omega)
end Go.Proofs.Ytmjdmddphaabmaa
