/-
  The contracts of the program's Parse, as the laws use them.
-/
import Derived.Test.YtmgdfckhnjihpaaDoorUAlive
namespace Go.Proofs.YtmgdfckhnjihpaaDoor
open Go.RowKit

section
variable {A : Option Addr} {n c : Nat} {xs : List Int} {f t : Int} {W : World} {r e : Int} {h : Hd} {ys : List Int} {m : Nat}
theorem parse_no (hr : Rd .u8 W W.heap.size A n c xs) (hf : Ip f) (ht : Ip t) (hE : pE f t xs = (r, e)) (he : ¬ e = 0) : Calls Tryd.prog 9 #[.slice A n c, .int .u32 f, .int .u32 t] W fun ev w' => ev = .returned (.tuple #[zeroP, errV r e]) ∧ Below W.heap.size W w' := by
  refine (parse_any A n c xs f t W hr hf ht).mono ?_
  rintro ev w' ⟨hb, ⟨_, rfl⟩ | ⟨h1, _⟩⟩
  · rw [hE]
    exact ⟨rfl, hb⟩
  · rw [hE] at h1
    exact absurd h1 he
theorem parse_yes (hr : Rd .u8 W W.heap.size A n c xs) (hf : Ip f) (ht : Ip t) (hE : (pE f t xs).2 = 0) (hh : hdOf xs = h) (hy : bodyOf xs = ys) (hm : ys.length = m) :
    Calls Tryd.prog 9 #[.slice A n c, .int .u32 f, .int .u32 t] W fun ev w' => ∃ g, ev = .returned (.tuple #[pkV h (some ⟨g, 0, none⟩) m m, .nilIface]) ∧ Row w' g ys ∧ W.heap.size ≤ g ∧ Below W.heap.size W w' := by
  refine (parse_any A n c xs f t W hr hf ht).mono ?_
  rintro ev w' ⟨hb, ⟨h1, _⟩ | ⟨_, g, m', rfl, row, hg, hl⟩⟩
  · exact absurd hE h1
  · rw [hy] at row hl
    obtain rfl : m = m' := hm.symm.trans hl
    rw [hh]
    exact ⟨g, rfl, row, hg, hb⟩
theorem pE_pair (f t : Int) (xs : List Int) (h : ¬ (pE f t xs).2 = 0) : ∃ r e, pE f t xs = (r, e) ∧ ¬ e = 0 := ⟨(pE f t xs).1, (pE f t xs).2, rfl, h⟩
theorem body_wf (h : ∀ x ∈ xs, (Lit.int .u8 x).wf = true) : ∀ x ∈ bodyOf xs, (Lit.int .u8 x).wf = true := fun x hx => h x (List.mem_of_mem_take (List.mem_of_mem_drop hx))
theorem body_len (h : (pE f t xs).2 = 0) : (bodyOf xs).length + 8 = told xs := by
  obtain ⟨h1, _⟩ := pE_ok h
  obtain ⟨h2, h3, h4, h5⟩ := bE_ok h1
  unfold bodyOf
  rw [List.length_drop, List.length_take]
  omega
end
end Go.Proofs.YtmgdfckhnjihpaaDoor
