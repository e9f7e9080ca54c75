/-
  Contracts of Index over the words, Number, and the document's Number.
-/
import Derived.Test.YtmapfpjinfjojaaDoorLeaf
import Derived.WideShapes
namespace Go.Proofs.YtmapfpjinfjojaaDoor
open Go.RowKit

theorem eq_of_toList {a b : ByteArray} (h : (a.toList == b.toList) = true) : a = b := by
  have h : a.toList = b.toList := by simpa using h
  rw [ByteArray.toList_eq, ByteArray.toList_eq] at h
  exact WideShapes.bytes_inj h

/-- The reason of a word. -/
def numK (s : ByteArray) : Option Nat := (List.range 20).find? (fun k => decide (1 ≤ k) && ((wordAt k).data.toList == s.data.toList))
def numV (s : ByteArray) : Int := match numK s with | some k => (k : Int) | none => 0
def numOk (s : ByteArray) : Bool := (numK s).isSome
theorem numK_word : ∀ k, k < 20 → 1 ≤ k → numK (wordAt k) = some k := by decide +kernel
theorem numK_zero : numK (wordAt 0) = none := by decide +kernel
theorem numK_none {s : ByteArray} (h : ∀ j, j < 20 → 1 ≤ j → (s.toList == (wordAt j).toList) = false) : numK s = none := by
  unfold numK
  rw [List.find?_eq_none]
  intro k hk
  rw [List.mem_range] at hk
  by_cases h1 : 1 ≤ k
  · have := h k hk h1
    rw [ByteArray.toList_eq, ByteArray.toList_eq] at this
    have h2 : ¬ s.data.toList = (wordAt k).data.toList := by simpa using this
    have h3 : ((wordAt k).data.toList == s.data.toList) = false := by
      rw [beq_eq_false_iff_ne]
      exact fun e => h2 e.symm
    rw [h3]; simp
  · simp [h1]
theorem num_word {k : Nat} (hk : k < 20) (h1 : 1 ≤ k) : numV (wordAt k) = k ∧ numOk (wordAt k) = true := by
  unfold numV numOk
  rw [numK_word k hk h1]
  exact ⟨rfl, rfl⟩
theorem num_none {s : ByteArray} (h : numK s = none) : numV s = 0 ∧ numOk s = false := by
  unfold numV numOk
  rw [h]
  exact ⟨rfl, rfl⟩

/-- n is a place of s among the words, or -1. -/
def IsIdx (s : ByteArray) (n : Int) : Prop := (∃ k : Nat, k < 20 ∧ n = (k : Int) ∧ s = wordAt k) ∨ (n = -1 ∧ numK s = none)
set_option maxHeartbeats 400000 in
theorem index_any (g : Nat) (s : ByteArray) (w : World) (hc : ∀ k, k < 20 → w.cell? ⟨g, k, none⟩ = some (.string (wordAt k))) :
    Calls Tryd.prog 28 #[.slice (some ⟨g, 0, none⟩) 20 20, .string s] w fun e w' => ∃ n, e = .returned (.int .i64 n) ∧ IsIdx s n ∧ w = w' := by
  have HC := Lib.hid hc; clear hc
  go_enter Tryd.func28, Tryd.ntmps28
  go_wp2
  go_loop [8] (fun i => ∃ k : Nat, k ≤ 20 ∧ i = .int .i64 k ∧ Hid (∀ j, j < k → (s.toList == (wordAt j).toList) = false)) (fun i => 20 - (intOf i).toNat)
  case atStart => exact ⟨0, Nat.zero_le _, rfl, Lib.hid (fun j hj => absurd hj (by omega))⟩
  case round =>
    obtain ⟨k, hk, rfl, Hno⟩ := hrel
    by_cases hlt : k < 20
    · have hck := HC.out k hlt
      by_cases he : (s.toList == (wordAt k).toList) = true
      · have HX := Lib.hid (eq_of_toList he)
        generalize hx : wordAt k = x at hck he
        have HY := Lib.hid hx
        clear hx
        go_wp2
        go_ret
        exact ⟨_, rfl, .inl ⟨k, hlt, rfl, HX.out⟩, rfl⟩
      · have he : (s.toList == (wordAt k).toList) = false := by simpa using he
        have HE := Lib.hid he
        generalize hx : wordAt k = x at hck he
        have HY := Lib.hid hx
        clear hx
        go_wp2
        go_round
        case rel =>
          refine ⟨k + 1, by omega, by go_num, Lib.hid fun j hj => ?_⟩
          by_cases e : j = k
          · rw [e]; exact HE.out
          · exact Hno.out j (by omega)
        case measure => simp [intOf]; omega
    · obtain rfl : k = 20 := by omega
      go_wp2
      go_ret
      exact ⟨_, rfl, .inr ⟨rfl, numK_none fun j hj _ => Hno.out j hj⟩, rfl⟩

set_option maxHeartbeats 400000 in
theorem number_any (s : ByteArray) (w : World) : Calls Tryd.prog 15 #[.string s] w fun e w' => e = .returned (.tuple #[.int .i64 (numV s), .bool (numOk s)]) ∧ Below w.heap.size w w' := by
  go_enter Tryd.func15, Tryd.ntmps15
  go_wp2_with fail
  refine (words_any _).mono ?_
  rintro e w1 ⟨v, rfl, g, rfl, hc, hb⟩
  go_wp2_with fail
  refine (index_any g s w1 hc).mono ?_
  rintro e w2 ⟨n, rfl, hi, rfl⟩
  have HI := Lib.hid hi
  clear hi hc
  by_cases hr : isR n = true
  · go_wp2_with (go_at_call 30; refine (isReason_any _ _).mono ?_; rintro e w' ⟨rfl, rfl⟩)
    go_ret2
    obtain ⟨h1, h2⟩ := isR_yes hr
    rcases HI.out with ⟨k, hk, rfl, rfl⟩ | ⟨rfl, _⟩
    · obtain ⟨e1, e2⟩ := num_word hk (by omega)
      rw [e1, e2]
      exact ⟨rfl, hb⟩
    · omega
  · have hr : isR n = false := by simpa using hr
    go_wp2_with (go_at_call 30; refine (isReason_any _ _).mono ?_; rintro e w' ⟨rfl, rfl⟩)
    go_ret2
    have hn : numK s = none := by
      rcases HI.out with ⟨k, hk, rfl, rfl⟩ | ⟨rfl, h⟩
      · rcases isR_no hr with h | h
        · obtain rfl : k = 0 := by omega
          exact numK_zero
        · omega
      · exact h
    obtain ⟨e1, e2⟩ := num_none hn
    rw [e1, e2]
    exact ⟨rfl, hb⟩

theorem beq_swap (a b : List UInt8) : (a == b) = (b == a) := by
  by_cases h : a = b
  · rw [h]
  · rw [beq_eq_false_iff_ne.2 h, beq_eq_false_iff_ne.2 (Ne.symm h)]
set_option maxHeartbeats 400000 in
theorem refNumber_any (s : ByteArray) (w : World) : Calls Tryd.prog 16 #[.string s] w fun e w' => e = .returned (.tuple #[.int .i64 (numV s), .bool (numOk s)]) ∧ Below w.heap.size w w' := by
  go_enter Tryd.func16, Tryd.ntmps16
  go_wp2
  go_loopw [4] (fun i wr => ∃ k : Nat, 1 ≤ k ∧ k ≤ 20 ∧ i = .int .i64 k ∧ Below w.heap.size w wr ∧ Hid (∀ j, j < k → 1 ≤ j → (s.toList == (wordAt j).toList) = false)) (fun i _ => 20 - (intOf i).toNat)
  case atStart => exact ⟨1, by omega, by omega, rfl, Below.refl _ _, Lib.hid (fun j hj _ => absurd hj (by omega))⟩
  case round =>
    obtain ⟨k, h1, hk, rfl, hb, Hno⟩ := hrel
    by_cases hlt : k < 20
    · by_cases he : (s.toList == (wordAt k).toList) = true
      · have HX := Lib.hid (eq_of_toList he)
        rw [beq_swap] at he
        go_wp2_with fail
        refine (refWords_any _).mono ?_
        rintro e w1 ⟨v, rfl, g, rfl, hc, hb1⟩
        have hck := hc k hlt
        clear hc
        generalize hx : wordAt k = x at hck he
        have HY := Lib.hid hx
        clear hx
        go_wp2
        go_ret2
        obtain ⟨e1, e2⟩ := num_word hlt h1
        rw [HX.out, e1, e2]
        exact ⟨rfl, hb.trans (hb1.mono hb.size)⟩
      · have he : (s.toList == (wordAt k).toList) = false := by simpa using he
        have HE := Lib.hid he
        rw [beq_swap] at he
        go_wp2_with fail
        refine (refWords_any _).mono ?_
        rintro e w1 ⟨v, rfl, g, rfl, hc, hb1⟩
        have hck := hc k hlt
        clear hc
        generalize hx : wordAt k = x at hck he
        have HY := Lib.hid hx
        clear hx
        go_wp2
        go_roundw
        case rel =>
          refine ⟨k + 1, by omega, by omega, by go_num, hb.trans (hb1.mono hb.size), Lib.hid fun j hj hj1 => ?_⟩
          by_cases e : j = k
          · rw [e]; exact HE.out
          · exact Hno.out j (by omega) hj1
        case measure => simp [intOf]; omega
    · obtain rfl : k = 20 := by omega
      go_wp2
      go_ret2
      obtain ⟨e1, e2⟩ := num_none (numK_none Hno.out)
      rw [e1, e2]
      exact ⟨rfl, hb⟩
end Go.Proofs.YtmapfpjinfjojaaDoor
