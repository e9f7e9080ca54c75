/-
  What a datagram's bytes are as a datagram, with one byte changed or not. Nothing of the program.
-/
import Derived.Test.YtmgdfckhnjihpaaDoorUSum
namespace Go.Proofs.YtmgdfckhnjihpaaDoor
open Go.RowKit

/-- Bytes with their sum, as it is written, among them. -/
theorem own_full {xs : List Int} (hx : Byts xs) (a : Nat) (ha : a % 2 = 0) (hl : a + 1 < xs.length) (z0 : xs.getD a 0 = 0) (z1 : xs.getD (a + 1) 0 = 0) {s : Int} (hs : s = fullV (65535 - totV xs)) : totV ((xs.set a (s / 256)).set (a + 1) (s % 256)) = 65535 := by
  have bt := totV_bd hx
  unfold W16 at bt
  by_cases h0 : 65535 - totV xs = 0
  · have e : s = 65535 := by rw [hs]; unfold fullV; rw [if_pos h0]
    subst e
    have b1 := (hx.set a (v := 65535 / 256) (by omega)).set (a + 1) (v := 65535 % 256) (by omega)
    have e1 := S_set xs a (65535 / 256) (by omega)
    have e2 := S_set (xs.set a (65535 / 256)) (a + 1) (65535 % 256) (by simpa using hl)
    rw [getD_set_ne xs a (a + 1) _ (by omega), z1, if_neg (by omega)] at e2
    rw [z0, if_pos ha] at e1
    have h3 := S_nn hx
    have h4 : red (S xs) = 65535 := by rw [← totV_red hx]; omega
    have h5 : 0 < S xs := by
      by_cases q : S xs = 0
      · rw [q] at h4
        exact absurd h4 (by decide)
      · omega
    have h6 := (red_full h5).1 h4
    rw [totV_red b1, red_full (by omega)]
    omega
  · have e : s = 65535 - totV xs := by rw [hs]; unfold fullV; rw [if_neg h0]
    exact own_law hx a ha hl z0 z1 e (by omega) (by omega) (by omega)
theorem lay_set (E : List Int) (h : Hd) (k s : Int) (xs : List Int) (hE : E.length = 12) : ((E ++ (hdS h k 0 ++ xs)).set 18 (s / 256)).set 19 (s % 256) = E ++ (hdS h k s ++ xs) := by
  rw [List.set_append_right _ _ (by omega), List.set_append_right _ _ (by omega), hE]
  rfl
/-- What is written has its sum. -/
theorem byR_right {h : Hd} {f t : Int} {xs : List Int} (hk : h.ok) (hf : Ip f) (ht : Ip t) (hx : ∀ x ∈ xs, (Lit.int .u8 x).wf = true) (hl : 8 + xs.length ≤ 65535) (hb : h.bare = false) : totV (epR f t (8 + (xs.length : Int)) ++ byR h f t xs) = 65535 := by
  have e : (8 : Int) + (xs.length : Int) = ((8 + xs.length : Nat) : Int) := by omega
  rw [byR_sum hb, e]
  have by0 := byts_all hk hf ht hl (s := 0) (by omega) hx
  have key := own_full by0 18 rfl (by rw [List.length_append, List.length_append, epR_len, hdS_len]; omega) (by rfl) (by rfl) rfl
  rw [lay_set _ _ _ _ _ (epR_len _ _ _)] at key
  exact key
theorem byR_told (h : Hd) (f t : Int) (xs : List Int) (hl : 8 + xs.length ≤ 65535) : told (byR h f t xs) = 8 + xs.length := by
  show ((8 + (xs.length : Int)) / 256 * 256 + (8 + (xs.length : Int)) % 256).toNat = 8 + xs.length
  omega
theorem byR_num6 (h : Hd) (f t : Int) (xs : List Int) : num2 ((byR h f t xs).drop 6) = sumV h f t xs := by
  show sumV h f t xs / 256 * 256 + sumV h f t xs % 256 = sumV h f t xs
  omega
theorem sumV_bd {h : Hd} {f t : Int} {xs : List Int} (hk : h.ok) (hf : Ip f) (ht : Ip t) (hx : ∀ x ∈ xs, (Lit.int .u8 x).wf = true) (hl : 8 + xs.length ≤ 65535) (hb : h.bare = false) : 0 ≤ sumV h f t xs ∧ sumV h f t xs ≤ 65535 ∧ ¬ sumV h f t xs = 0 := by
  have this := totV_bd (byts_all hk hf ht hl (s := 0) (by omega) hx)
  have e : (8 : Int) + (xs.length : Int) = ((8 + xs.length : Nat) : Int) := by omega
  unfold sumV
  rw [if_neg (by simp [hb]), e]
  unfold W16 at this
  exact fullV_bd (by omega)
theorem sumV_bare {h : Hd} {f t : Int} {xs : List Int} (hb : h.bare = true) : sumV h f t xs = 0 := by unfold sumV; rw [if_pos hb]
set_option linter.unusedSectionVars false
theorem set_num2 (zs : List Int) (d k : Nat) (v : Int) (h0 : ¬ d = k) (h1 : ¬ d = k + 1) : num2 ((zs.set d v).drop k) = num2 (zs.drop k) := by
  unfold num2
  rw [getD_drop, getD_drop, getD_drop, getD_drop, getD_set_ne _ _ _ _ (by omega), getD_set_ne _ _ _ _ (by omega)]
section
variable {h : Hd} {f t : Int} {xs : List Int} {d : Nat} {v : Int} (hk : h.ok) (hf : Ip f) (ht : Ip t) (hx : ∀ x ∈ xs, (Lit.int .u8 x).wf = true) (hl : xs.length ≤ 1472) (hd : d < 8 + xs.length) (hd4 : ¬ (3 < d ∧ d < 8)) (hv : 0 ≤ v ∧ v ≤ 255)
include hl hd hd4
theorem sp_told : told ((byR h f t xs).set d v) = 8 + xs.length := by
  have := byR_told h f t xs (by omega)
  unfold told at this ⊢
  rw [set_num2 _ _ _ _ (by omega) (by omega)]
  exact this
theorem sp_bE : bE ((byR h f t xs).set d v) = (0, 0) := by
  have e := sp_told (h := h) (f := f) (t := t) (xs := xs) (d := d) (v := v) hl hd hd4
  exact bE_good (by omega) (by rw [e, List.length_set, byR_len]; exact Nat.le_refl _) (by omega)
/-- A bare one is what stands there. -/
theorem sp_bare (hb : h.bare = true) : (pE f t ((byR h f t xs).set d v)).2 = 0 ∧ hdOf ((byR h f t xs).set d v) = ⟨num2 ((byR h f t xs).set d v), num2 (((byR h f t xs).set d v).drop 2), true⟩ ∧ bodyOf ((byR h f t xs).set d v) = ((byR h f t xs).set d v).drop 8 := by
  have eT := sp_told (h := h) (f := f) (t := t) (xs := xs) (d := d) (v := v) hl hd hd4
  have e6 : num2 (((byR h f t xs).set d v).drop 6) = 0 := by rw [set_num2 _ _ _ _ (by omega) (by omega), byR_num6, sumV_bare hb]
  refine ⟨by rw [pE_yes (by rw [sp_bE hl hd hd4]) (.inl e6)], hd_eq rfl rfl (by show (num2 (((byR h f t xs).set d v).drop 6) == 0) = true; rw [e6]; rfl), ?_⟩
  unfold bodyOf
  rw [eT, List.take_of_length_le (by rw [List.length_set, byR_len]; exact Nat.le_refl _)]
include hk hf ht hx hv
/-- With a sum it isn't parsed. -/
theorem sp_sum (hb : h.bare = false) (hne : ¬ v = (byR h f t xs).getD d 0) : pE f t ((byR h f t xs).set d v) = (2, 13) := by
  have eT := sp_told (h := h) (f := f) (t := t) (xs := xs) (d := d) (v := v) hl hd hd4
  refine pE_sum (by rw [sp_bE hl hd hd4]) ?_ ?_
  · rw [set_num2 _ _ _ _ (by omega) (by omega), byR_num6]
    exact (sumV_bd hk hf ht hx (by omega) hb).2.2
  · rw [eT, List.take_of_length_le (by rw [List.length_set, byR_len]; exact Nat.le_refl _)]
    have hR := byR_right hk hf ht hx (by omega) hb
    have e : (8 : Int) + (xs.length : Int) = ((8 + xs.length : Nat) : Int) := by omega
    rw [e] at hR
    have hw : Byts (epR f t ((8 + xs.length : Nat) : Int) ++ byR h f t xs) := byts_of (fun x q => (List.mem_append.1 q).elim (epR_wf hf ht (n := ((8 + xs.length : Nat) : Int)) (by omega) x) (byR_wf hk hf ht hx (by omega) x))
    have hs : epR f t ((8 + xs.length : Nat) : Int) ++ (byR h f t xs).set d v = (epR f t ((8 + xs.length : Nat) : Int) ++ byR h f t xs).set (12 + d) v := by
      rw [List.set_append_right _ _ (by rw [epR_len]; omega), epR_len]
      congr 2
      omega
    rw [hs]
    refine own_no hw hR (12 + d) (by rw [List.length_append, epR_len, byR_len]; omega) hv ?_
    have e2 : (epR f t ((8 + xs.length : Nat) : Int) ++ byR h f t xs).getD (12 + d) 0 = (byR h f t xs).getD d 0 := by
      simp only [List.getD]
      rw [List.getElem?_append_right (by rw [epR_len]; omega), epR_len, show 12 + d - 12 = d by omega]
    rw [e2]
    exact hne
end
end Go.Proofs.YtmgdfckhnjihpaaDoor
