/-
  Contracts of Lay (both).
-/
import Derived.Test.YtmjdmddphaabmaaRRow
namespace Go.Proofs.Ytmjdmddphaabmaa
open Go.RowKit

theorem Out.base_le {w : World} {base base' : Nat} {A : Option Addr} {n c : Nat} {xs : List Int} (h : Out w base A n c xs) (hb : base' ≤ base) : Out w base' A n c xs := by
  refine ⟨⟨h.1.1, ?_⟩, h.2⟩
  rcases h.1.2 with hv | ⟨g, cap, cur, hv, hbg, r⟩
  · exact .inl hv
  · exact .inr ⟨g, cap, cur, hv, by omega, r⟩
theorem Gives2.after {w w1 w2 : World} {L : List Int} {er : Int} {e : Ending} (hb : Below w.heap.size w w1) (h : Gives2 w1 L er e w2) : Gives2 w L er e w2 := by
  obtain ⟨A, n, c, he, ho, hb2⟩ := h
  have := hb.size
  exact ⟨A, n, c, he, ho.base_le this, hb.trans (hb2.mono this)⟩

def layE (xs : List Int) (a s v : Int) : Int := if rowE s [v] = 0 then patE xs.length a (rowL s [v]).length else 11
def layL (xs : List Int) (a s v : Int) : List Int := if rowE s [v] = 0 then patL xs a (rowL s [v]) else []
theorem rowE_two (s : Int) (vs : List Int) : rowE s vs = 0 ∨ rowE s vs = 11 := by
  unfold rowE; split
  · exact .inr rfl
  · split
    · exact .inl rfl
    · exact .inr rfl
theorem rowE_one {s v : Int} (h : rowE s [v] = 0) : 1 ≤ s ∧ s ≤ 8 ∧ v < 256 ^ s.toNat ∧ rowL s [v] = lowB v s.toNat := by
  have hL : rowL s [v] = rowB s.toNat [v] := by simp only [rowL, h, if_pos]
  unfold rowE at h
  split at h
  · cases h
  · split at h
    · rename_i h1 h2
      simp [fitB] at h2
      exact ⟨by omega, by omega, h2, by rw [hL]; simp [rowB]⟩
    · cases h
theorem rowE_one_no {s v : Int} (h : rowE s [v] = 11) (hs : 1 ≤ s ∧ s ≤ 8) : ¬ v < 256 ^ s.toNat := by
  unfold rowE at h
  split at h
  · omega
  · split at h
    · cases h
    · rename_i h1 h2
      intro hc
      exact h2 (by simp [fitB, hc])

theorem rd_one (w : World) (v : Int) (hv : (Lit.int .u64 v).wf = true) : Rd .u64 (w.alloc (.cells #[.int .u64 v] 25)) (w.heap.size + 1) (some ⟨w.heap.size, 0, none⟩) 1 1 [v] := by
  refine ⟨rfl, Nat.le_refl _, ⟨by unfold maxLen; omega, fun h => by cases h⟩, by simpa using hv, fun i hi => ⟨w.heap.size, 0, rfl, by omega, ?_⟩⟩
  obtain rfl : i = 0 := by omega
  rw [cell_of_row _ _ _ #[.int .u64 v] 25 (0, 0) (heap_alloc_new w _)]
  rfl

set_option maxHeartbeats 1000000 in
theorem lay_any (A : Option Addr) (n c : Nat) (xs : List Int) (B : Nat) (a s v : Int) (w : World) (hr : Rd .u8 w B A n c xs) (hB : B ≤ w.heap.size) (hn : n ≤ 3000) (hv : (Lit.int .u64 v).wf = true) :
    Calls Try.prog 15 #[.slice A n c, .int .i64 a, .int .i64 s, .int .u64 v] w (Gives2 w (layL xs a s v) (layE xs a s v)) := by
  have hrv := rd_one w v hv
  have hb0 : Below w.heap.size w (w.alloc (.cells #[.int .u64 v] 25)) := (Below.refl _ w).alloc (Nat.le_refl _) _
  have hz0 : (w.alloc (.cells #[.int .u64 v] 25)).heap.size = w.heap.size + 1 := by simp
  have HZ := Lib.hid hz0; clear hz0
  rcases rowE_two s [v] with hE | hE
  · have eL : layL xs a s v = patL xs a (rowL s [v]) := by simp only [layL, if_pos hE]
    have eE : layE xs a s v = patE xs.length a (rowL s [v]).length := by simp only [layE, if_pos hE]
    rw [eL, eE]
    clear eL eE
    go_enter Try.func15, Try.ntmps15
    go_wp2_with (first
      | (go_at_call 17; refine (row_any _ _ _ s [v] (w.heap.size + 1) _ hrv (by rw [HZ.out]; omega) (by omega)).mono ?_; rintro e w1 ⟨A1, n1, c1, rfl, hout1, hb1⟩; have hb2 := hb0.trans (hb1.mono (by rw [HZ.out]; omega)))
      | (go_at_call 19; refine (patch_any _ _ _ _ _ _ xs (rowL s [v]) B w1.heap.size a w1 (hr.below hb2 hB) (by have := hb2.size; omega) hout1.rd (Nat.le_refl _) hn).mono ?_; rintro e w2 ⟨A2, n2, c2, rfl, hout2, hb3⟩))
    go_ret2
    exact Gives2.after hb2 ⟨A2, n2, c2, rfl, hout2, hb3⟩
  · have hne : ¬ rowE s [v] = 0 := by omega
    have eL : layL xs a s v = [] := by simp only [layL, if_neg hne]
    have eE : layE xs a s v = 11 := by simp only [layE, if_neg hne]
    rw [eL, eE]
    clear eL eE hne
    go_enter Try.func15, Try.ntmps15
    go_wp2_with (first
      | (go_at_call 17; refine (row_any _ _ _ s [v] (w.heap.size + 1) _ hrv (by rw [HZ.out]; omega) (by omega)).mono ?_; rintro e w1 ⟨A1, n1, c1, rfl, hout1, hb1⟩; have hb2 := hb0.trans (hb1.mono (by rw [HZ.out]; omega))))
    go_ret2
    exact ⟨none, 0, 0, rfl, Out.nil, hb2⟩

set_option maxHeartbeats 1000000 in
theorem rlay_any (A : Option Addr) (n c : Nat) (xs : List Int) (B : Nat) (a s v : Int) (w : World) (hr : Rd .u8 w B A n c xs) (hB : B ≤ w.heap.size) (hn : n ≤ 3000) (hv : (Lit.int .u64 v).wf = true) :
    Calls Try.prog 16 #[.slice A n c, .int .i64 a, .int .i64 s, .int .u64 v] w (Gives2 w (layL xs a s v) (layE xs a s v)) := by
  have hvb := u64_bd hv
  rcases rowE_two s [v] with hE | hE
  · have eL : layL xs a s v = patL xs a (rowL s [v]) := by simp only [layL, if_pos hE]
    have eE : layE xs a s v = patE xs.length a (rowL s [v]).length := by simp only [layE, if_pos hE]
    obtain ⟨h1, h8, hf, hL⟩ := rowE_one hE
    rw [eL, eE, hL]
    clear eL eE hL hE
    obtain ⟨z, rfl⟩ := Int.eq_ofNat_of_zero_le (show 0 ≤ s by omega)
    rw [Int.toNat_natCast] at hf ⊢
    have hf' : decide (v < 256 ^ z) = true := by simpa using hf
    have g1 : decide ((z : Int) < 1) = false := by simp; omega
    have g2 : decide ((8 : Int) < (z : Int)) = false := by simp; omega
    clear hf
    go_enter Try.func16, Try.ntmps16
    go_wp2_with (first
      | (go_at_call 24; refine (bytes_any z v _ (by omega) (by omega) hvb.1 hvb.2).mono ?_; rintro e w1 ⟨rfl, hrow, hb1⟩; have hrd := (hrow.out (base := w.heap.size) (Nat.le_refl _) (lowB_len v z) (by unfold maxLen; omega) (lowB_wf v z)).rd)
      | (go_at_call 20; refine (rpatch_any _ _ _ _ _ _ xs (lowB v z) B w1.heap.size a w1 (hr.below hb1 hB) (by have := hb1.size; omega) hrd (Nat.le_refl _) hn).mono ?_; rintro e w2 ⟨A2, n2, c2, rfl, hout2, hb3⟩))
    go_ret2
    exact Gives2.after hb1 ⟨A2, n2, c2, rfl, hout2, hb3⟩
  · have hne : ¬ rowE s [v] = 0 := by omega
    have eL : layL xs a s v = [] := by simp only [layL, if_neg hne]
    have eE : layE xs a s v = 11 := by simp only [layE, if_neg hne]
    rw [eL, eE]
    clear eL eE hne
    by_cases g1 : s < 1
    · clear hE
      go_enter Try.func16, Try.ntmps16
      go_wp2
      go_ret2
      exact ⟨none, 0, 0, rfl, Out.nil, Below.refl _ _⟩
    · by_cases g2 : 8 < s
      · clear hE
        go_enter Try.func16, Try.ntmps16
        go_wp2
        go_ret2
        exact ⟨none, 0, 0, rfl, Out.nil, Below.refl _ _⟩
      · have hno := rowE_one_no hE (by omega)
        clear hE
        obtain ⟨z, rfl⟩ := Int.eq_ofNat_of_zero_le (show 0 ≤ s by omega)
        rw [Int.toNat_natCast] at hno
        have hf' : decide (v < 256 ^ z) = false := by simpa using hno
        clear hno
        go_enter Try.func16, Try.ntmps16
        go_wp2_with (first
          | (go_at_call 24; refine (bytes_any z v _ (by omega) (by omega) hvb.1 hvb.2).mono ?_; rintro e w1 ⟨rfl, hrow, hb1⟩))
        go_ret2
        exact ⟨none, 0, 0, rfl, Out.nil, hb1⟩
end Go.Proofs.Ytmjdmddphaabmaa
