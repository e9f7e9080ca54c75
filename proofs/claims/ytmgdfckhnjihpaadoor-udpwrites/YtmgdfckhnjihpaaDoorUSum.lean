/-
  Sums of datagrams by their parts. Nothing of the program.
-/
import Derived.Test.YtmgdfckhnjihpaaDoorUBytes
import Derived.Test.YtmgdfckhnjihpaaDoorSRes
namespace Go.Proofs.YtmgdfckhnjihpaaDoor
open Go.RowKit

theorem byts_four {a : Int} (h : Ip a) : Byts (four a) := byts_of (four_wf h)
theorem S_epR (f t n : Int) (zs : List Int) : S (epR f t n ++ zs) = S (four f) + S (four t) + S (two2 17) + S (two2 n) + S zs := by
  unfold epR
  rw [S_append _ zs (by simp [four, two2]), S_append _ (two2 n) (by simp [four, two2]), S_append _ (two2 17) (by simp [four]), S_append _ (four t) (by simp [four])]
theorem S_hdS (h : Hd) (n s : Int) (zs : List Int) : S (hdS h n s ++ zs) = S (two2 h.src) + S (two2 h.dst) + S (two2 n) + S (two2 s) + S zs := by
  unfold hdS
  rw [S_append _ zs (by simp [two2]), S_append _ (two2 s) (by simp [two2]), S_append _ (two2 n) (by simp [two2]), S_append _ (two2 h.dst) (by simp [two2])]
theorem byts_all {h : Hd} {f t s : Int} {m : Nat} {xs : List Int} (hk : h.ok) (hf : Ip f) (ht : Ip t) (hm : m ≤ 65535) (hs : 0 ≤ s ∧ s ≤ 65535) (hx : ∀ x ∈ xs, (Lit.int .u8 x).wf = true) : Byts (epR f t m ++ (hdS h m s ++ xs)) :=
  byts_of (fun x q => (List.mem_append.1 q).elim (epR_wf hf ht (n := m) (by omega) x) (fun q => (List.mem_append.1 q).elim (hdS_wf hk (by omega) hs x) (hx x)))
/-- Sums by their ends and heads. -/
theorem sum_eq {h k : Hd} {f t f' t' : Int} {xs : List Int} (hk : h.ok) (hk' : k.ok) (hf : Ip f) (ht : Ip t) (hf' : Ip f') (ht' : Ip t') (hx : ∀ x ∈ xs, (Lit.int .u8 x).wf = true) (hl : 8 + xs.length ≤ 65535) (hb : h.bare = k.bare)
    (he : S (four f) + S (four t) + S (two2 h.src) + S (two2 h.dst) = S (four f') + S (four t') + S (two2 k.src) + S (two2 k.dst)) : sumV h f t xs = sumV k f' t' xs := by
  unfold sumV
  rw [hb]
  have e : (8 : Int) + (xs.length : Int) = ((8 + xs.length : Nat) : Int) := by omega
  rw [e, totV_red (byts_all hk hf ht hl (by omega) hx), totV_red (byts_all hk' hf' ht' hl (by omega) hx), S_epR, S_epR, S_hdS, S_hdS]
  congr 4
  omega
theorem byR_drop6 (h : Hd) (f t : Int) (xs : List Int) : (byR h f t xs).drop 6 = two2 (sumV h f t xs) ++ xs := rfl
theorem byR_drop8 (h : Hd) (f t : Int) (xs : List Int) : (byR h f t xs).drop 8 = xs := rfl
theorem byR_take6 (h : Hd) (f t : Int) (xs : List Int) : (byR h f t xs).take 6 = (two2 h.src ++ two2 h.dst) ++ two2 (8 + (xs.length : Int)) := rfl
theorem byR_wf {h : Hd} {f t : Int} {xs : List Int} (hk : h.ok) (hf : Ip f) (ht : Ip t) (hx : ∀ x ∈ xs, (Lit.int .u8 x).wf = true) (hl : 8 + xs.length ≤ 65535) : ∀ x ∈ byR h f t xs, (Lit.int .u8 x).wf = true := by
  have hs : 0 ≤ sumV h f t xs ∧ sumV h f t xs ≤ 65535 := by
    unfold sumV
    split
    · omega
    · have := totV_bd (byts_all hk hf ht hl (s := 0) (by omega) hx)
      have e : (8 : Int) + (xs.length : Int) = ((8 + xs.length : Nat) : Int) := by omega
      rw [e]
      unfold W16 at this
      have q := fullV_bd (s := 65535 - totV (epR f t ((8 + xs.length : Nat) : Int) ++ (hdS h ((8 + xs.length : Nat) : Int) 0 ++ xs))) (by omega)
      omega
  intro x q
  unfold byR at q
  exact (List.mem_append.1 q).elim (hdS_wf hk (by omega) hs x) (hx x)
end Go.Proofs.YtmgdfckhnjihpaaDoor
