/-
  WhyOnce, walked.
-/
import Derived.Test.YtmapfpjinfjojaaDoorAt
namespace Go.Proofs.YtmapfpjinfjojaaDoor
open Go.RowKit

set_option maxRecDepth 100000 in
set_option maxHeartbeats 2000000 in
theorem once_law (e o : Int) (w : World) (hg : Laid w) : Calls Tryd.prog 6 #[.int .i64 e, .int .i64 o] w fun ev w' => ev = .returned (.bool true) ∧ Below w.heap.size w w' := by
  have k := Kn.start hg
  clear hg
  by_cases he : e = 0
  · subst he
    go_enter Tryd.func6, Tryd.ntmps6
    go_wp2_with fail
    with_reducible refine (alive_any _ k.laid).mono ?_
    rintro ev w1 ⟨rfl, hb1⟩
    replace k := k.step hb1
    clear hb1
    go_wp2_with fail
    with_reducible refine (of_any _ _).mono ?_
    rintro ev w2 ⟨rfl, rfl⟩
    rw [show ofV 0 = 0 from rfl]
    go_wp2
    go_ret
    exact ⟨rfl, k.below⟩
  · have hR : isR (ofV e) = true := ofV_reason he
    have he' : (e == 0) = false := by simpa using he
    have HE := Lib.hid he; clear he
    obtain ⟨tt, v, hf⟩ := isC_any e [ofV e]
    have hA : AllR [ofV e] := ⟨by simpa using hR, by simp⟩
    have hA0 : AllR [] := ⟨by simp, by simp⟩
    have HR := Lib.hid hR; clear hR
    go_enter Tryd.func6, Tryd.ntmps6
    go_wp2_with fail
    with_reducible refine (alive_any _ k.laid).mono ?_
    rintro ev w1 ⟨rfl, hb1⟩
    replace k := k.step hb1
    clear hb1
    go_wp2_with fail
    with_reducible refine (of_any _ _).mono ?_
    rintro ev w2 ⟨rfl, rfl⟩
    go_wp2_with fail
    with_reducible refine (fault_at hf HR.out HE.out _).mono ?_
    rintro ev w2 ⟨rfl, rfl⟩
    go_wp2_with fail
    with_reducible refine (reason_at hf _ k.laid).mono ?_
    rintro ev w3 ⟨rfl, hb1⟩
    replace k := k.step hb1
    clear hb1
    rw [show reasonV e [ofV e] = ofV e from rfl]
    go_wp2_with fail
    with_reducible refine (reason_at (isC_bare e) _ k.laid).mono ?_
    rintro ev w4 ⟨rfl, hb1⟩
    replace k := k.step hb1
    clear hb1
    rw [show reasonV e [] = ofV e from rfl]
    go_wp2_with fail
    with_reducible refine (reason_at (isC_bare e) _ k.laid).mono ?_
    rintro ev w5 ⟨rfl, hb1⟩
    replace k := k.step hb1
    clear hb1
    rw [show reasonV e [] = ofV e from rfl]
    go_wp2_with fail
    with_reducible refine (of_any _ _).mono ?_
    rintro ev w6 ⟨rfl, rfl⟩
    go_wp2_with fail
    with_reducible refine (all_at (isC_bare e) hA0 _).mono ?_
    rintro ev w6 ⟨A, n, c, rfl, o1, hb1⟩
    obtain rfl : 0 = n := o1.len
    replace k := k.step hb1
    clear hb1 o1
    go_wp2_with fail
    with_reducible refine (all_at hf hA _).mono ?_
    rintro ev w7 ⟨A, n, c, rfl, o1, hb1⟩
    replace k := k.step hb1
    clear hb1
    go_wp2_with fail
    with_reducible refine (of_any _ _).mono ?_
    rintro ev w8 ⟨rfl, rfl⟩
    go_wp2_with fail
    refine (cS [ofV e] 1 rfl (by omega) o1).mono ?_
    rintro ev w8 ⟨rfl, hb1⟩
    replace k := (k.alloc _).step hb1
    clear hb1 o1
    go_wp2_with fail
    with_reducible refine (whyIs_at _ hf _).mono ?_
    rintro ev w9 ⟨rfl, hb1⟩
    replace k := k.step hb1
    clear hb1
    go_wp2_with fail
    with_reducible refine (whyIs_at _ (isC_bare e) _).mono ?_
    rintro ev w10 ⟨rfl, hb1⟩
    replace k := k.step hb1
    clear hb1
    go_wp2_with fail
    with_reducible refine (errno_at hf _ k.laid).mono ?_
    rintro ev w11 ⟨rfl, hb1⟩
    replace k := k.step hb1
    clear hb1
    go_wp2_with fail
    with_reducible refine (of_any _ _).mono ?_
    rintro ev w12 ⟨rfl, rfl⟩
    go_wp2_with fail
    with_reducible refine (word_any _ _).mono ?_
    rintro ev w12 ⟨rfl, hb1⟩
    replace k := k.step hb1
    clear hb1
    have hE : (wordV (ofV e)).toList.isEmpty = false := by rw [word_isEmpty, HR.out]; rfl
    go_wp2_with fail
    go_ret
    exact ⟨rfl, k.below⟩
end Go.Proofs.YtmapfpjinfjojaaDoor
