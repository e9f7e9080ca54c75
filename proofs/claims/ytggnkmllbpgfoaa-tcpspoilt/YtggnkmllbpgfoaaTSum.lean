/-
  Sums of segments by their parts: what is made has its sum. Nothing of the program.
-/
import Derived.Test.YtggnkmllbpgfoaaPl
import Derived.Test.YtggnkmllbpgfoaaSRes
namespace Go.Proofs.Ytggnkmllbpgfoaa
open Go.RowKit

theorem S_two2 (n : Int) : S (two2 n) = n := by
  simp [S, pairsV, plain, two2, numP]
  omega
theorem S_epR (f t n : Int) (zs : List Int) : S (epR f t n ++ zs) = S (four f) + S (four t) + 6 + S (two2 n) + S zs := by
  unfold epR
  rw [S_append _ zs (by simp [four, two2]), S_append _ (two2 n) (by simp [four, two2]), S_append _ (two2 6) (by simp [four]), S_append _ (four t) (by simp [four]), S_two2 6]
theorem S_hdM (h : Hd) (s : Int) (zs : List Int) : S (hdM h s ++ zs) = S ((two2 h.src ++ two2 h.dst) ++ [0, 0, 0, 0, 0, 0, 0, 0, 80, h.flags, 0, 0]) + S (two2 s) + S ([0, 0] ++ zs) := by
  have e : hdM h s ++ zs = ((two2 h.src ++ two2 h.dst) ++ [0, 0, 0, 0, 0, 0, 0, 0, 80, h.flags, 0, 0]) ++ (two2 s ++ ([0, 0] ++ zs)) := by simp [hdM]
  rw [e, S_append _ (two2 s ++ ([0, 0] ++ zs)) (by simp [two2]), S_append (two2 s) _ (by simp [two2])]
  omega
theorem byts_all {h : Hd} {f t s : Int} {m : Nat} {xs : List Int} (hk : h.ok) (hf : Ip f) (ht : Ip t) (hm : m ≤ 65535) (hs : 0 ≤ s ∧ s ≤ 65535) (hx : ∀ x ∈ xs, (Lit.int .u8 x).wf = true) : Byts (epR f t m ++ (hdM h s ++ xs)) :=
  byts_of (fun x q => (List.mem_append.1 q).elim (epR_wf hf ht (n := m) (by omega) x) (fun q => (List.mem_append.1 q).elim (hdM_wf hk hs x) (hx x)))
section
variable {h : Hd} {f t : Int} {xs : List Int} (hk : h.ok) (hf : Ip f) (ht : Ip t) (hx : ∀ x ∈ xs, (Lit.int .u8 x).wf = true) (hl : xs.length ≤ 1460)
include hk hf ht hx hl
theorem sumM_bd : 0 ≤ sumM h f t xs ∧ sumM h f t xs ≤ 65535 := by
  have e : (20 : Int) + (xs.length : Int) = ((20 + xs.length : Nat) : Int) := by omega
  have := totV_bd (byts_all hk hf ht (m := 20 + xs.length) (s := 0) (by omega) (by omega) hx)
  unfold W16 at this
  unfold sumM
  rw [e]
  omega
theorem mkR_wf : ∀ x ∈ mkR h f t xs, (Lit.int .u8 x).wf = true := fun x q => (List.mem_append.1 q).elim (hdM_wf hk (sumM_bd hk hf ht hx hl) x) (hx x)
omit hk hf ht hx hl in
theorem mkR_size (h : Hd) (f t : Int) (xs : List Int) : (mkR h f t xs).length = 20 + xs.length := by unfold mkR; rw [List.length_append, hdM_len]
/-- What is made has its sum, also the other way round. -/
theorem mk_sum : sumB f t (mkR h f t xs) = true ∧ sumB t f (mkR h f t xs) = true := by
  have hb := sumM_bd hk hf ht hx hl
  have e : (20 : Int) + (xs.length : Int) = ((20 + xs.length : Nat) : Int) := by omega
  have B0 := byts_all hk hf ht (m := 20 + xs.length) (s := 0) (by omega) (by omega) hx
  have B1 := byts_all hk hf ht (m := 20 + xs.length) (by omega) hb hx
  have B2 := byts_all hk ht hf (m := 20 + xs.length) (by omega) hb hx
  have hs : sumM h f t xs = 65535 - totV (epR f t ((20 + xs.length : Nat) : Int) ++ (hdM h 0 ++ xs)) := by unfold sumM; rw [e]
  unfold sumB
  rw [mkR_size]
  unfold mkR
  generalize sumM h f t xs = s at *
  rw [totV_red B0, S_epR, S_hdM, S_two2 0, S_two2 ((20 + xs.length : Nat) : Int)] at hs
  rw [totV_red B1, totV_red B2, S_epR, S_epR, S_hdM, S_two2 s, S_two2 ((20 + xs.length : Nat) : Int)]
  have p0 := S_nn B0
  rw [S_epR, S_hdM, S_two2 0, S_two2 ((20 + xs.length : Nat) : Int)] at p0
  have p1 : 0 ≤ S (four f) := S_nn (byts_of (four_wf hf))
  have p2 : 0 ≤ S (four t) := S_nn (byts_of (four_wf ht))
  have p3 : 0 ≤ S (([0, 0] : List Int) ++ xs) := S_nn (byts_of (fun x q => (List.mem_append.1 q).elim (fun q => by simp at q; subst q; exact u8_mk (by omega)) (hx x)))
  have p4 : 0 ≤ S ((two2 h.src ++ two2 h.dst) ++ [0, 0, 0, 0, 0, 0, 0, 0, 80, h.flags, 0, 0]) := S_nn (byts_of (fun x q => hdM_wf hk (s := 0) (by omega) x (by unfold hdM; exact List.mem_append.2 (.inl q))))
  generalize S (four f) = a1 at *
  generalize S (four t) = a2 at *
  generalize S (([0, 0] : List Int) ++ xs) = a3 at *
  generalize S ((two2 h.src ++ two2 h.dst) ++ [0, 0, 0, 0, 0, 0, 0, 0, 80, h.flags, 0, 0]) = a4 at *
  clear B0 B1 B2 e
  generalize ((20 + xs.length : Nat) : Int) = m at *
  unfold red at *
  constructor
  all_goals
    simp only [beq_iff_eq]
    split at hs <;> split <;> omega
omit hk hf ht hx in
theorem mk_form : bE (mkR h f t xs) = (0, 0) := by
  have e : headN (mkR h f t xs) = 20 := by simp [headN, mkR, hdM, two2]
  exact bE_good (by rw [mkR_size]; omega) (by rw [e]; omega) (by rw [e, mkR_size]; omega) (by rw [mkR_size]; omega)
theorem mk_good : pE f t (mkR h f t xs) = (0, 0) ∧ pE t f (mkR h f t xs) = (0, 0) := by
  have h0 : (bE (mkR h f t xs)).2 = 0 := by rw [mk_form hl]
  obtain ⟨h1, h2⟩ := mk_sum hk hf ht hx hl
  exact ⟨pE_yes h0 h1, pE_yes h0 h2⟩
omit hf ht hx hl in
theorem mk_hd : hdOf (mkR h f t xs) = h := by
  have h1 := hk.src
  have h2 := hk.dst
  refine hd_eq ?_ ?_ ?_
  · simp [hdOf, mkR, hdM, two2, num2]
    omega
  · simp [hdOf, mkR, hdM, two2, num2]
    omega
  · simp [hdOf, mkR, hdM, two2]
end
end Go.Proofs.Ytggnkmllbpgfoaa
