/-
  The contracts of Parse, as the laws use them; segments with one byte changed.
-/
import Derived.Test.YtggnkmllbpgfoaaTAlive
import Derived.Test.YtggnkmllbpgfoaaTSum
namespace Go.Proofs.Ytggnkmllbpgfoaa
open Go.RowKit

section
variable {A : Option Addr} {n c : Nat} {xs : List Int} {f t : Int} {W : World} {r e : Int} {h : Hd}
theorem parse_no (hr : Rd .u8 W W.heap.size A n c xs) (hf : Ip f) (ht : Ip t) (hE : pE f t xs = (r, e)) (he : ¬ e = 0) : Calls Try.prog 6 #[.slice A n c, .int .u32 f, .int .u32 t] W fun ev w' => ev = .returned (.tuple #[zeroP, errV r e]) ∧ Below W.heap.size W w' := by
  refine (parse_any A n c xs f t W hr hf ht).mono ?_
  rintro ev w' ⟨hb, ⟨_, rfl⟩ | ⟨h1, _⟩⟩
  · rw [hE]
    exact ⟨rfl, hb⟩
  · rw [hE] at h1
    exact absurd h1 he
theorem parse_yes (hr : Rd .u8 W W.heap.size A n c xs) (hf : Ip f) (ht : Ip t) (hE : (pE f t xs).2 = 0) (hh : hdOf xs = h) :
    Calls Try.prog 6 #[.slice A n c, .int .u32 f, .int .u32 t] W fun ev w' => ∃ g, ev = .returned (.tuple #[pkV h (some ⟨g, 0, none⟩) n n, .nilIface]) ∧ Row w' g xs ∧ W.heap.size ≤ g ∧ Below W.heap.size W w' := by
  refine (parse_any A n c xs f t W hr hf ht).mono ?_
  rintro ev w' ⟨hb, ⟨h1, _⟩ | ⟨_, g, rfl, row, hg⟩⟩
  · exact absurd hE h1
  · rw [hh]
    exact ⟨g, rfl, row, hg, hb⟩
end
theorem pE_pair (f t : Int) (xs : List Int) (h : ¬ (pE f t xs).2 = 0) : ∃ r e, pE f t xs = (r, e) ∧ ¬ e = 0 := ⟨(pE f t xs).1, (pE f t xs).2, rfl, h⟩
/-- With one byte changed the sum isn't right. -/
theorem sp_no {f t : Int} {xs : List Int} (hf : Ip f) (ht : Ip t) (hx : ∀ x ∈ xs, (Lit.int .u8 x).wf = true) (hl : xs.length ≤ 65535) (hs : sumB f t xs = true) (i : Nat) (hi : i < xs.length) {v : Int} (hv : 0 ≤ v ∧ v ≤ 255) (hne : v ≠ xs.getD i 0) : sumB f t (xs.set i v) = false := by
  unfold sumB at *
  have h0 : totV (epR f t (xs.length : Int) ++ xs) = 65535 := by simpa using hs
  have hB : Byts (epR f t (xs.length : Int) ++ xs) := byts_of (fun x q => (List.mem_append.1 q).elim (epR_wf hf ht (by omega) x) (hx x))
  have hg : (epR f t (xs.length : Int) ++ xs).getD (12 + i) 0 = xs.getD i 0 := by
    simp only [List.getD]
    rw [List.getElem?_append_right (by rw [epR_len]; omega), epR_len]
    simp
  have hset : (epR f t (xs.length : Int) ++ xs).set (12 + i) v = epR f t (xs.length : Int) ++ xs.set i v := by
    rw [List.set_append_right _ _ (by rw [epR_len]; omega), epR_len]
    simp
  have key := own_no hB h0 (12 + i) (by rw [List.length_append, epR_len]; omega) hv (by rw [hg]; exact hne)
  rw [hset] at key
  rw [List.length_set]
  simpa using key
theorem sp_bad {f t : Int} {xs : List Int} (hf : Ip f) (ht : Ip t) (hx : ∀ x ∈ xs, (Lit.int .u8 x).wf = true) (hl : xs.length ≤ 65535) (hs : sumB f t xs = true) (i : Nat) (hi : i < xs.length) {v : Int} (hv : 0 ≤ v ∧ v ≤ 255) (hne : v ≠ xs.getD i 0) : ¬ (pE f t (xs.set i v)).2 = 0 := fun q => by
  have h1 := (pE_ok q).2
  rw [sp_no hf ht hx hl hs i hi hv hne] at h1
  cases h1
end Go.Proofs.Ytggnkmllbpgfoaa
