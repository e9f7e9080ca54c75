/-
  What WordPatches needs of lists.
-/
import Derived.Test.YtmjdmddphaabmaaBackM
namespace Go.Proofs.Ytmjdmddphaabmaa
open Go.RowKit

theorem splice_get (L cs : List Int) (off : Nat) (h : off + cs.length ≤ L.length) (j : Nat) :
    (splice L off cs)[j]? = if j < off then L[j]? else if j < off + cs.length then cs[j - off]? else L[j]? := by
  have e : (L.take off).length = off := by simp; omega
  unfold splice
  rw [List.getElem?_append, e]
  split
  · rw [List.getElem?_take, if_pos (by assumption)]
  · rw [List.getElem?_append]
    by_cases h2 : j < off + cs.length
    · rw [if_pos h2, if_pos (by omega)]
    · rw [if_neg h2, if_neg (by omega), List.getElem?_drop]
      congr 1; omega

theorem splice_over (xs ys zs : List Int) (i : Nat) (hl : ys.length = zs.length) (h : i + ys.length ≤ xs.length) : splice (splice xs i ys) i zs = splice xs i zs := by
  have h1 := splice_len xs ys i h
  apply List.ext_getElem?
  intro j
  rw [splice_get _ zs i (by omega), splice_get xs ys i h, splice_get xs zs i (by omega)]
  by_cases a : j < i
  · rw [if_pos a, if_pos a, if_pos a]
  · rw [if_neg a, if_neg a, if_neg a]
    by_cases b : j < i + zs.length
    · rw [if_pos b, if_pos b]
    · rw [if_neg b, if_neg b, if_neg (by omega)]
theorem splice_own (xs : List Int) (i m : Nat) (h : i + m ≤ xs.length) : splice xs i ((xs.drop i).take m) = xs := by
  have hl : ((xs.drop i).take m).length = m := by simp; omega
  apply List.ext_getElem?
  intro j
  rw [splice_get _ _ _ (by omega), hl]
  split
  · rfl
  · split
    · rw [List.getElem?_take, if_pos (by omega), List.getElem?_drop]
      congr 1; omega
    · rfl
theorem splice_two (xs ys : List Int) (i k : Nat) (hk : k ≤ ys.length) (h : i + ys.length ≤ xs.length) : splice (splice xs i (ys.take k)) (i + k) (ys.drop k) = splice xs i ys := by
  have h1 : (ys.take k).length = k := by simp; omega
  have h2 : (ys.drop k).length = ys.length - k := by simp
  have h3 := splice_len xs (ys.take k) i (by omega)
  apply List.ext_getElem?
  intro j
  rw [splice_get _ _ _ (by omega), splice_get _ _ _ (by omega), splice_get _ _ _ h, h1, h2]
  by_cases a : j < i
  · rw [if_pos (by omega), if_pos a, if_pos a]
  · rw [if_neg a, if_neg a]
    by_cases b : j < i + k
    · rw [if_pos b, if_pos b, if_pos (by omega), List.getElem?_take, if_pos (by omega)]
    · rw [if_neg b, if_neg b]
      by_cases d : j < i + ys.length
      · rw [if_pos (by omega), if_pos d, List.getElem?_drop]
        congr 1; omega
      · rw [if_neg (by omega), if_neg d]
end Go.Proofs.Ytmjdmddphaabmaa
