/-
  What is written is parsed as it was: plain lists, and Parse of a frame's bytes.
-/
import Derived.Test.YteddpmjjahfmiaaDoorAlive
namespace Go.Proofs.YteddpmjjahfmiaaDoor
open Go.RowKit

theorem hdr_take (t f : Mac6) (k : Int) (xs : List Int) (q : Nat) (h : 14 ≤ q) : (hdr t f k xs).take q = hdr t f k (xs.take (q - 14)) := by
  obtain ⟨j, rfl⟩ : ∃ j, q = 14 + j := ⟨q - 14, by omega⟩
  unfold hdr
  rw [List.take_append, List.take_of_length_le (by simp)]
  simp
theorem six_hdr (t f : Mac6) (k : Int) (xs : List Int) : six (hdr t f k xs) = t := rfl
theorem six_hdr6 (t f : Mac6) (k : Int) (xs : List Int) : six ((hdr t f k xs).drop 6) = f := rfl
theorem kOf_hdr (t f : Mac6) (k : Int) (xs : List Int) : kOf (hdr t f k xs) = k := by
  show k / 256 * 256 + k % 256 = k
  omega
theorem drop_hdr (t f : Mac6) (k : Int) (xs : List Int) : (hdr t f k xs).drop 14 = xs := rfl
theorem parse_hdr (t f : Mac6) (k : Int) (A : Option Addr) (n c : Nat) (xs : List Int) (w : World) (hr : Rd .u8 w w.heap.size A n c (hdr t f k xs)) (h14 : 14 ≤ n) (hmx : n ≤ 1514) (hg : grpV f = false) :
    Calls Tryd.prog 9 #[.slice A n c] w fun ev w' => ∃ g, ev = .returned (.tuple #[frV t f k (some ⟨g, 0, none⟩) (n - 14) (n - 14), .nilIface]) ∧ Row w' g xs ∧ w.heap.size ≤ g ∧ Below w.heap.size w w' := by
  refine (parse_ok A n c _ w hr h14 hmx).mono ?_
  rintro ev w' ⟨hb, ⟨h1, _⟩ | ⟨_, g, rfl, hrow, hge⟩⟩
  · rw [six_hdr6, hg] at h1
    cases h1
  · rw [kOf_hdr]
    exact ⟨g, rfl, hrow, hge, hb⟩
theorem parse_group (t f : Mac6) (k : Int) (A : Option Addr) (n c : Nat) (xs : List Int) (w : World) (hr : Rd .u8 w w.heap.size A n c (hdr t f k xs)) (h14 : 14 ≤ n) (hmx : n ≤ 1514) (hg : grpV f = true) :
    Calls Tryd.prog 9 #[.slice A n c] w fun ev w' => ev = .returned (.tuple #[frV az az 0 none 0 0, errV 10]) ∧ Below w.heap.size w w' := by
  refine (parse_ok A n c _ w hr h14 hmx).mono ?_
  rintro ev w' ⟨hb, ⟨_, rfl⟩ | ⟨h1, _⟩⟩
  · exact ⟨rfl, hb⟩
  · rw [six_hdr6, hg] at h1
    cases h1
theorem parse_short' (A : Option Addr) (n c : Nat) (w : World) (hn : n < 14) : Calls Tryd.prog 9 #[.slice A n c] w fun e w' => e = .returned (.tuple #[frV az az 0 none 0 0, errV 12]) ∧ Below w.heap.size w w' := parse_short A n c w hn
theorem parse_long' (A : Option Addr) (n c : Nat) (w : World) (hn : 1514 < n) : Calls Tryd.prog 9 #[.slice A n c] w fun e w' => e = .returned (.tuple #[frV az az 0 none 0 0, errV 11]) ∧ Below w.heap.size w w' := parse_long A n c w hn
theorem same_zero (w : World) : Calls Tryd.prog 18 #[frV az az 0 none 0 0, frV az az 0 none 0 0] w fun e w' => e = .returned (.bool true) ∧ Below w.heap.size w w' := by
  have := sameF_any az az 0 none 0 0 [] az az 0 none 0 0 [] w Rd.nil Rd.nil
  rwa [sameV_self] at this
end Go.Proofs.YteddpmjjahfmiaaDoor
