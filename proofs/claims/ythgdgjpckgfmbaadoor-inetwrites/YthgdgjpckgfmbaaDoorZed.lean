/-
  What a packet's bytes, cut short or not, are as a packet. Nothing of the program.
-/
import Derived.Test.YthgdgjpckgfmbaaDoorLPeeks
namespace Go.Proofs.YthgdgjpckgfmbaaDoor
open Go.RowKit

theorem z_len {h : Hd} {n : Nat} {p q : Int} {xs : List Int} (hx : xs.length = n) : (hdP h n p q ++ xs).length = 20 + n := by
  rw [List.length_append, hx]
  rfl
theorem z_first (h : Hd) (n : Nat) (p q : Int) (xs : List Int) : (hdP h n p q ++ xs).getD 0 0 = 69 := rfl
theorem z_hdL (h : Hd) (n : Nat) (p q : Int) (xs : List Int) : hdL (hdP h n p q ++ xs) = 20 := rfl
theorem z_told (h : Hd) (n : Nat) (p q : Int) (xs : List Int) : told (hdP h n p q ++ xs) = 20 + n := by
  show ((20 + (n : Int)) / 256 * 256 + (20 + (n : Int)) % 256).toNat = 20 + n
  omega
theorem z_flg (h : Hd) (n : Nat) (p q : Int) (xs : List Int) : flg (hdP h n p q ++ xs) = if h.keep then 16384 else 0 := by
  show (if h.keep then 64 else 0) * 256 + 0 = _
  cases h.keep <;> rfl
theorem z_hd (h : Hd) (n : Nat) (p q : Int) (xs : List Int) : hdOf (hdP h n p q ++ xs) = h := by
  refine hd_eq rfl ?_ ?_ rfl rfl ?_ ?_
  · show h.id / 256 * 256 + h.id % 256 = h.id
    omega
  · show (flg (hdP h n p q ++ xs) == 16384) = h.keep
    rw [z_flg]
    cases h.keep <;> decide
  · show h.src / 16777216 * 16777216 + h.src / 65536 % 256 * 65536 + h.src / 256 % 256 * 256 + h.src % 256 = h.src
    omega
  · show h.dst / 16777216 * 16777216 + h.dst / 65536 % 256 * 65536 + h.dst / 256 % 256 * 256 + h.dst % 256 = h.dst
    omega
theorem z_rE (h : Hd) (n : Nat) (p q : Int) (xs : List Int) : rE 20 (hdP h n p q ++ xs) = (0, 0) := by
  unfold rE
  rw [z_flg, if_neg (by omega), if_neg (by cases h.keep <;> decide)]
section
variable {h : Hd} {n : Nat} {p q : Int} {xs : List Int} {t : Nat}
theorem zt_len (hx : xs.length = n) (ht : t ≤ 20 + n) : ((hdP h n p q ++ xs).take t).length = t := by rw [List.length_take, z_len hx]; omega
theorem zt_first (ht : 1 ≤ t) : ((hdP h n p q ++ xs).take t).getD 0 0 = 69 := getD_take (by omega)
theorem zt_hdL (ht : 1 ≤ t) : hdL ((hdP h n p q ++ xs).take t) = 20 := by
  unfold hdL
  rw [zt_first ht]
  rfl
theorem zt_told (ht : 4 ≤ t) : told ((hdP h n p q ++ xs).take t) = 20 + n := by
  unfold told
  rw [num2_take (by omega)]
  exact z_told h n p q xs
/-- Cut short it isn't parsed. -/
theorem zt_end (hx : xs.length = n) (ht : t < 20 + n) : pE true ((hdP h n p q ++ xs).take t) = (1, 12) := by
  have e : bE true ((hdP h n p q ++ xs).take t) = (1, 12) := by
    unfold bE
    by_cases h20 : t < 20
    · rw [if_pos (by rw [zt_len hx (by omega)]; exact h20)]
    · rw [if_neg (by rw [zt_len hx (by omega)]; exact h20), if_neg (by rw [zt_first (by omega)]; decide), if_neg (by rw [zt_hdL (by omega)]; omega), if_pos (.inr ⟨rfl, by rw [zt_len hx (by omega), zt_told (by omega)]; exact ht⟩)]
  rw [pE_bad (by rw [e]; decide), e]
theorem zt_short (hx : xs.length = n) (ht : t < 20) : pE false ((hdP h n p q ++ xs).take t) = (1, 12) := by
  have e : bE false ((hdP h n p q ++ xs).take t) = (1, 12) := by
    unfold bE
    rw [if_pos (by rw [zt_len hx (by omega)]; exact ht)]
  rw [pE_bad (by rw [e]; decide), e]
theorem zt_bE (b : Bool) (hx : xs.length = n) (h20 : 20 ≤ t) (ht : t ≤ 20 + n) (hb : b = true → t = 20 + n) : bE b ((hdP h n p q ++ xs).take t) = (0, 0) := by
  unfold bE
  rw [if_neg (by rw [zt_len hx ht]; omega), if_neg (by rw [zt_first (by omega)]; decide), if_neg (by rw [zt_hdL (by omega)]; omega), if_neg (by
    rw [zt_len hx ht, zt_told (by omega), zt_hdL (by omega)]
    rintro (q | q)
    · omega
    · have := hb q.1
      omega), if_neg (by rw [zt_told (by omega), zt_hdL (by omega)]; omega)]
theorem zt_peek (hx : xs.length = n) (h20 : 20 ≤ t) (ht : t ≤ 20 + n) : pE false ((hdP h n p q ++ xs).take t) = (0, 0) := by
  have e := zt_bE (p := p) (q := q) (h := h) false hx h20 ht (fun q => absurd q (by decide))
  rw [pE_read (by rw [e]) (fun q => absurd q (by decide)), zt_hdL (by omega), rE_take h20, z_rE]
theorem zt_hd (h20 : 20 ≤ t) : hdOf ((hdP h n p q ++ xs).take t) = h := by rw [hdOf_take h20, z_hd]
theorem zt_body (h20 : 20 ≤ t) (ht : t ≤ 20 + n) : bodyOf ((hdP h n p q ++ xs).take t) = xs.take (t - 20) := by
  unfold bodyOf
  rw [zt_told (by omega), List.take_take, Nat.min_eq_right ht, List.drop_take, List.drop_append]
  rfl
end
end Go.Proofs.YthgdgjpckgfmbaaDoor
