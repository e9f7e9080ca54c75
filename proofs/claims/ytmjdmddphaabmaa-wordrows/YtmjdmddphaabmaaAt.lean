/-
  Contracts of At: the program's, and the document's.
-/
import Derived.Test.YtmjdmddphaabmaaLeaf
import Derived.Test.YtmjdmddphaabmaaNum
import Derived.Outline
namespace Go.Proofs.Ytmjdmddphaabmaa
open Go.RowKit

set_option maxHeartbeats 400000 in
theorem at_ok (A : Option Addr) (n c : Nat) (xs : List Int) (B a s : Nat) (w : World) (hr : Rd .u8 w B A n c xs) (h1 : 1 ≤ s) (h8 : s ≤ 8) (hfit : a + s ≤ n) :
    Calls Try.prog 10 #[.slice A n c, .int .i64 a, .int .i64 s] w fun e w' => e = .returned (.tuple #[.int .u64 (num ((xs.drop a).take s)), .int .i64 0]) ∧ w = w' := by
  have hmax := hr.max
  have hcap := hr.cap
  have hlen := hr.len
  have HL := Lib.hid hlen; clear hlen
  obtain ⟨b, o, rfl, hb, _⟩ := hr.at_ (i := 0) (by omega)
  have hok : okSize (s : Int) = true := by simp [okSize]; omega
  have hre : decide ((a : Int) ≤ (n : Int) - (s : Int)) = true := by simp; omega
  have hna : decide ((a : Int) < 0) = false := by simp
  go_enter Try.func10, Try.ntmps10
  go_wp2_with (first
    | (go_at_call 21; refine (isSize_any _ _).mono ?_; rintro e w' ⟨rfl, rfl⟩)
    | (go_at_call 22; refine (reaches_any _ _ _ _ (by omega) (by omega)).mono ?_; rintro e w' ⟨rfl, rfl⟩))
  go_loop [8, 31] (fun v i => ∃ k : Nat, k ≤ s ∧ i = .int .i64 k ∧ v = .int .u64 (num ((xs.drop a).take k))) (fun _ i => s - (intOf i).toNat)
  case atStart => exact ⟨0, Nat.zero_le _, rfl, rfl⟩
  case round =>
    obtain ⟨k, hk, rfl, rfl⟩ := hrel
    by_cases hlt : k < s
    · obtain ⟨b', o', e, _, hc⟩ := hr.at_ (i := a + k) (by omega)
      obtain ⟨rfl, rfl⟩ : b = b' ∧ o = o' := by simpa using e
      obtain ⟨hs, hlo, hhi⟩ := num_step hr.2.2.2.1 a k (by rw [HL.out]; omega) (by omega)
      have HS := Lib.hid hs
      have hx := u8_bd (hr.wf (i := a + k) (by omega))
      generalize num ((xs.drop a).take k) = v at *
      generalize xs.getD (a + k) 0 = x at *
      have hc' : w.cell? ⟨b, o + a + k, none⟩ = some (.int .u8 x) := by rw [Nat.add_assoc]; exact hc
      clear hc hs
      go_wp2
      go_round
      case rel => exact ⟨k + 1, by omega, by go_num, by rw [HS.out, or_byte v x hlo hhi hx.1 hx.2]⟩
      case measure => simp [intOf]; omega
    · obtain rfl : k = s := by omega
      go_wp2
      go_ret2
      exact ⟨rfl, rfl⟩

set_option maxHeartbeats 400000 in
theorem at_range (A : Option Addr) (n c : Nat) (a s : Int) (w : World) (h : ¬ (1 ≤ s ∧ s ≤ 8) ∨ a < 0) :
    Calls Try.prog 10 #[.slice A n c, .int .i64 a, .int .i64 s] w fun e w' => e = .returned (.tuple #[.int .u64 0, .int .i64 11]) ∧ w = w' := by
  by_cases hok : okSize s = true
  · have hs := okSize_t hok
    have ha : decide (a < 0) = true := by simp; omega
    go_enter Try.func10, Try.ntmps10
    go_wp2_with (first
      | (go_at_call 21; refine (isSize_any _ _).mono ?_; rintro e w' ⟨rfl, rfl⟩))
    go_ret2
    exact ⟨rfl, rfl⟩
  · have hok : okSize s = false := by simpa using hok
    go_enter Try.func10, Try.ntmps10
    go_wp2_with (first
      | (go_at_call 21; refine (isSize_any _ _).mono ?_; rintro e w' ⟨rfl, rfl⟩))
    go_ret2
    exact ⟨rfl, rfl⟩

set_option maxHeartbeats 400000 in
theorem at_end (A : Option Addr) (n c : Nat) (a s : Int) (w : World) (hn : (n : Int) ≤ 9223372036854775807) (h : 1 ≤ s ∧ s ≤ 8) (ha : 0 ≤ a) (he : (n : Int) - s < a) :
    Calls Try.prog 10 #[.slice A n c, .int .i64 a, .int .i64 s] w fun e w' => e = .returned (.tuple #[.int .u64 0, .int .i64 12]) ∧ w = w' := by
  have hok : okSize s = true := by simpa [okSize] using h
  have hna : decide (a < 0) = false := by simp; omega
  have hre : decide (a ≤ (n : Int) - s) = false := by simp; omega
  go_enter Try.func10, Try.ntmps10
  go_wp2_with (first
    | (go_at_call 21; refine (isSize_any _ _).mono ?_; rintro e w' ⟨rfl, rfl⟩)
    | (go_at_call 22; refine (reaches_any _ _ _ _ (by omega) (by omega)).mono ?_; rintro e w' ⟨rfl, rfl⟩))
  go_ret2
  exact ⟨rfl, rfl⟩

/-- At, whatever it is given. -/
theorem at_any (A : Option Addr) (n c : Nat) (xs : List Int) (B : Nat) (a s : Int) (w : World) (hr : Rd .u8 w B A n c xs) :
    Calls Try.prog 10 #[.slice A n c, .int .i64 a, .int .i64 s] w fun e w' => e = .returned (.tuple #[.int .u64 (atV xs a s), .int .i64 (atE xs.length a s)]) ∧ w = w' := by
  have hlen := hr.len
  have hmax := hr.max
  have hcap := hr.cap
  rcases at_cases xs a s with ⟨h, e1, e2⟩ | ⟨h, ha, he, e1, e2⟩ | ⟨i, z, rfl, rfl, h1, h8, hf, e1, e2⟩
  · rw [e1, e2]; exact at_range A n c a s w h
  · rw [e1, e2]; exact at_end A n c a s w (by omega) h ha (by omega)
  · rw [e1, e2]; exact at_ok A n c xs B i z w hr h1 h8 (by omega)

/-! The document's At. -/
set_option maxHeartbeats 400000 in
theorem rat_ok (A : Option Addr) (n c : Nat) (xs : List Int) (B a s : Nat) (w : World) (hr : Rd .u8 w B A n c xs) (h1 : 1 ≤ s) (h8 : s ≤ 8) (hfit : a + s ≤ n) :
    Calls Try.prog 11 #[.slice A n c, .int .i64 a, .int .i64 s] w fun e w' => e = .returned (.tuple #[.int .u64 (num ((xs.drop a).take s)), .int .i64 0]) ∧ w = w' := by
  have hmax := hr.max
  have hcap := hr.cap
  have hlen := hr.len
  have HL := Lib.hid hlen; clear hlen
  obtain ⟨b, o, rfl, hb, _⟩ := hr.at_ (i := 0) (by omega)
  have g1 : decide ((s : Int) < 1) = false := by simp; omega
  have g2 : decide ((8 : Int) < (s : Int)) = false := by simp; omega
  have g3 : decide ((a : Int) < 0) = false := by simp
  have g4 : decide ((n : Int) < (a : Int)) = false := by simp; omega
  have g4' : decide (n < a) = false := by simp; omega
  have g5 : decide ((n : Int) - (a : Int) < (s : Int)) = false := by simp; omega
  go_enter Try.func11, Try.ntmps11
  go_wp2
  go_loop [8, 9] (fun v i => ∃ k : Nat, k ≤ s ∧ i = .int .i64 k ∧ v = .int .u64 (num ((xs.drop a).take k))) (fun _ i => s - (intOf i).toNat)
  case atStart => exact ⟨0, Nat.zero_le _, rfl, rfl⟩
  case round =>
    obtain ⟨k, hk, rfl, rfl⟩ := hrel
    by_cases hlt : k < s
    · obtain ⟨b', o', e, _, hc⟩ := hr.at_ (i := a + k) (by omega)
      obtain ⟨rfl, rfl⟩ : b = b' ∧ o = o' := by simpa using e
      obtain ⟨hs, hlo, hhi⟩ := num_step hr.2.2.2.1 a k (by rw [HL.out]; omega) (by omega)
      have HS := Lib.hid hs
      have hx := u8_bd (hr.wf (i := a + k) (by omega))
      generalize num ((xs.drop a).take k) = v at *
      generalize xs.getD (a + k) 0 = x at *
      clear hs
      go_wp2
      go_round
      case rel => exact ⟨k + 1, by omega, by go_num, by rw [HS.out]⟩
      case measure => simp [intOf]; omega
    · obtain rfl : k = s := by omega
      go_wp2
      go_ret2
      exact ⟨rfl, rfl⟩

set_option maxHeartbeats 400000 in
theorem rat_range (A : Option Addr) (n c : Nat) (a s : Int) (w : World) (h : ¬ (1 ≤ s ∧ s ≤ 8) ∨ a < 0) :
    Calls Try.prog 11 #[.slice A n c, .int .i64 a, .int .i64 s] w fun e w' => e = .returned (.tuple #[.int .u64 0, .int .i64 11]) ∧ w = w' := by
  by_cases g1 : s < 1
  · go_enter Try.func11, Try.ntmps11
    go_wp2
    go_ret2
    exact ⟨rfl, rfl⟩
  · by_cases g2 : 8 < s
    · go_enter Try.func11, Try.ntmps11
      go_wp2
      go_ret2
      exact ⟨rfl, rfl⟩
    · have g3 : a < 0 := by omega
      go_enter Try.func11, Try.ntmps11
      go_wp2
      go_ret2
      exact ⟨rfl, rfl⟩

set_option maxHeartbeats 400000 in
theorem rat_end (A : Option Addr) (n c : Nat) (a s : Int) (w : World) (_hn : (n : Int) ≤ 9223372036854775807) (h : 1 ≤ s ∧ s ≤ 8) (ha : 0 ≤ a) (he : (n : Int) - s < a) :
    Calls Try.prog 11 #[.slice A n c, .int .i64 a, .int .i64 s] w fun e w' => e = .returned (.tuple #[.int .u64 0, .int .i64 12]) ∧ w = w' := by
  obtain ⟨h1, h8⟩ := h
  by_cases g1 : (n : Int) < a
  · go_enter Try.func11, Try.ntmps11
    go_wp2
    go_ret2
    exact ⟨rfl, rfl⟩
  · have g2 : (n : Int) - a < s := by omega
    go_enter Try.func11, Try.ntmps11
    go_wp2
    go_ret2
    exact ⟨rfl, rfl⟩

/-- The document's At, whatever it is given. -/
theorem rat_any (A : Option Addr) (n c : Nat) (xs : List Int) (B : Nat) (a s : Int) (w : World) (hr : Rd .u8 w B A n c xs) :
    Calls Try.prog 11 #[.slice A n c, .int .i64 a, .int .i64 s] w fun e w' => e = .returned (.tuple #[.int .u64 (atV xs a s), .int .i64 (atE xs.length a s)]) ∧ w = w' := by
  have hlen := hr.len
  have hmax := hr.max
  have hcap := hr.cap
  rcases at_cases xs a s with ⟨h, e1, e2⟩ | ⟨h, ha, he, e1, e2⟩ | ⟨i, z, rfl, rfl, h1, h8, hf, e1, e2⟩
  · rw [e1, e2]; exact rat_range A n c a s w h
  · rw [e1, e2]; exact rat_end A n c a s w (by omega) h ha (by omega)
  · rw [e1, e2]; exact rat_ok A n c xs B i z w hr h1 h8 (by omega)
end Go.Proofs.Ytmjdmddphaabmaa
