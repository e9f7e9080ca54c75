/-
  Contracts of the document's Parse and Peek.
-/
import Derived.Test.YtbefoapnlehdmaaDoorRPF0
import Derived.Test.YtbefoapnlehdmaaDoorRPF1
namespace Go.Proofs.YtbefoapnlehdmaaDoor
open Go.RowKit
set_option linter.unusedVariables false

theorem refP_all {A : Option Addr} {n c : Nat} {xs : List Int} {w : World} (hr : Rd .u8 w w.heap.size A n c xs) :
    (¬ (pE false xs).2 = 0 ∧ Calls Tryd.prog 65 #[.slice A n c, .bool false] w (GivesN w (pE false xs).1 (pE false xs).2)) ∨ ((pE false xs).2 = 0 ∧ Calls Tryd.prog 65 #[.slice A n c, .bool false] w (GivesY w (hdOf xs) (bodyOf xs))) := by
  have hlen := hr.len
  by_cases hn : n < 20
  · have e : bE false xs = (1, 12) := by unfold bE; rw [if_pos (by omega)]
    left
    rw [pE_bad (by rw [e]; decide), e]
    exact ⟨by decide, refP_short false A n c xs w hr hn⟩
  · obtain ⟨b, o, rfl, -, -⟩ := hr.at_ (i := 0) (by omega)
    obtain ⟨v0, v2, v3, v6, v7, H, T, f, fx⟩ := fx_any hr (by omega)
    have hn' : 20 ≤ n := by omega
    rcases bE_cases false xs with ⟨h1, e⟩ | ⟨h1, h2, e⟩ | ⟨h1, h2, h3, e⟩ | ⟨h1, h2, h3, h4, e⟩ | ⟨h1, h2, h3, h4, h5, e⟩ | ⟨h1, h2, h3, h4, h5, e⟩
    · omega
    · left
      rw [pE_bad (by rw [e]; decide), e]
      exact ⟨by decide, refP_version false b o n c xs w v0 v2 v3 v6 v7 H T f hr hn' fx h2⟩
    · left
      rw [pE_bad (by rw [e]; decide), e]
      exact ⟨by decide, refP_form false b o n c xs w v0 v2 v3 v6 v7 H T f hr hn' fx h2 h3⟩
    · left
      rw [pE_bad (by rw [e]; decide), e]
      refine ⟨by decide, ?_⟩
      by_cases q : n < hdL xs
      · exact refP_endh false b o n c xs w v0 v2 v3 v6 v7 H T f hr hn' fx h2 h3 q
      · rcases h4 with h4 | ⟨h4', h4⟩
        · omega
        · cases h4'
    · left
      rw [pE_bad (by rw [e]; decide), e]
      refine ⟨by decide, ?_⟩
      exact refP_lessF b o n c xs w v0 v2 v3 v6 v7 H T f hr hn' fx h2 h3 (by omega) h5
    · have hb0 : (bE false xs).2 = 0 := by rw [e]
      have hq : hdL xs ≤ n := by omega
      have hp := pE_read hb0 (fun q => absurd q (by decide))
      rw [hp]
      rcases rE_cases (hdL xs) xs h3 with ⟨q, e2⟩ | ⟨q, q2, e2⟩ | ⟨q, q2, e2⟩
      · left
        rw [e2]
        exact ⟨by decide, refP_optF b o n c xs w v0 v2 v3 v6 v7 H T f hr hn' fx h2 h3 hq h5 q⟩
      · left
        rw [e2]
        exact ⟨by decide, refP_fragF b o n c xs w v0 v2 v3 v6 v7 H T f hr hn' fx h2 h3 hq h5 q q2⟩
      · right
        rw [e2]
        refine ⟨rfl, ?_⟩
        rcases q2 with q2 | q2
        · exact refP_goodF0 b o n c xs w v0 v2 v3 v6 v7 H T f hr hn' fx h2 h3 hq h5 q q2
        · exact refP_goodF1 b o n c xs w v0 v2 v3 v6 v7 H T f hr hn' fx h2 h3 hq h5 q q2
theorem refP_no {A : Option Addr} {n c : Nat} {xs : List Int} {w : World} {r e : Int} (hr : Rd .u8 w w.heap.size A n c xs) (hE : pE false xs = (r, e)) (he : ¬ e = 0) : Calls Tryd.prog 65 #[.slice A n c, .bool false] w (GivesN w r e) := by
  rcases refP_all hr with ⟨_, q⟩ | ⟨q, _⟩
  · rw [hE] at q
    exact q
  · rw [hE] at q
    exact absurd q he
theorem refP_yes {A : Option Addr} {n c : Nat} {xs : List Int} {w : World} (hr : Rd .u8 w w.heap.size A n c xs) (hE : (pE false xs).2 = 0) : Calls Tryd.prog 65 #[.slice A n c, .bool false] w (GivesY w (hdOf xs) (bodyOf xs)) := by
  rcases refP_all hr with ⟨q, _⟩ | ⟨_, q⟩
  · exact absurd hE q
  · exact q

set_option maxRecDepth 100000 in
set_option maxHeartbeats 4000000 in
theorem refPeek_no {A : Option Addr} {n c : Nat} {xs : List Int} {w : World} {r e : Int} (hr : Rd .u8 w w.heap.size A n c xs) (hE : pE false xs = (r, e)) (he : ¬ e = 0) : Calls Tryd.prog 51 #[.slice A n c] w (GivesN w r e) := by
  have st0 := R0.start hr
  have cc := Lib.hid (refP_no (st0.rd.more st0.z.below.size) hE he)
  clear hr hE
  go_enter Tryd.func51, Tryd.ntmps51
  go_wp2_with fail
  refine cc.out.mono ?_
  rintro ev w1 ⟨hb1, A1, n1, c1, rfl, rd1, far⟩
  replace far := far.less st0.sz
  have st := st0.z.step hb1
  clear hb1 cc st0
  have z1 := st.z
  go_wp2_with (first
    | (refine wpList_stF rfl rfl 63 _ _ rfl w.heap.size (pkC zeroH none 0 0) rfl rfl 63 _ z1 (by kernel_rfl) rfl (pkC_one ..) ?_; intro w2 f2 hb2 ho2 hs2; replace rd1 : Rd .i64 w2 w2.heap.size A1 n1 c1 [r] := (by rw [hs2]; exact rd1.other ho2 (far.imp id fun ⟨ad, h, h'⟩ => ⟨ad, h, by omega⟩)); have y2 := (ho2 (w.heap.size + 1) (by omega)).trans st.y; have b2 := st.below.trans hb2)
    | (refine wpList_stF rfl rfl 36 _ _ rfl (w.heap.size + 1) (flC A1 n1 c1 e) rfl rfl 36 _ y2 (by kernel_rfl) rfl (flC_one _ _ _ _) ?_; intro w3 f3 hb3 ho3 hs3; replace rd1 : Rd .i64 w3 w3.heap.size A1 n1 c1 [r] := (by rw [hs3]; exact rd1.other ho3 (far.imp id fun ⟨ad, h, h'⟩ => ⟨ad, h, by omega⟩)); have z3 : PkAt w3 w.heap.size 63 zeroH none 0 0 := (ho3 w.heap.size (by omega)).trans f2; have b3 := b2.trans (hb3.mono (by omega))))
  obtain ⟨a0, a1, a2, a3, a4, a5, a6, a7⟩ := z3.cells
  have b0 := blk_cell f3 (i := 0) rfl
  have b1 := blk_cell f3 (i := 1) rfl
  exact bodyPost_ret (v := .tuple #[zeroP, .agg #[.slice A1 n1 c1, .int .i64 e]]) (by simp [results, Tryd.results51, go_sem, b0, b1, a0, a1, a2, a3, a4, a5, a6, a7]) rfl ⟨b3, A1, n1, c1, rfl, rd1, far.less (by omega)⟩

set_option maxRecDepth 100000 in
set_option maxHeartbeats 4000000 in
theorem refPeek_yes {A : Option Addr} {n c : Nat} {xs : List Int} {w : World} {h : Hd} {ys : List Int} (hr : Rd .u8 w w.heap.size A n c xs) (hE : (pE false xs).2 = 0) (hh : hdOf xs = h) (hy : bodyOf xs = ys) : Calls Tryd.prog 51 #[.slice A n c] w (GivesY w h ys) := by
  have st0 := R0.start hr
  have c0 := refP_yes (st0.rd.more st0.z.below.size) hE
  rw [hh, hy] at c0
  have cc := Lib.hid c0
  clear hr hE hh hy c0
  go_enter Tryd.func51, Tryd.ntmps51
  go_wp2_with fail
  refine cc.out.mono ?_
  rintro ev w1 ⟨hb1, A1, n1, c1, rfl, o1⟩
  replace o1 := o1.rebase st0.sz
  have st := st0.z.step hb1
  clear hb1 cc st0
  have z1 := st.z
  go_wp2_with (first
    | (refine wpList_stF rfl rfl 63 _ _ rfl w.heap.size (pkC h A1 n1 c1) rfl rfl 63 _ z1 (by kernel_rfl) rfl (pkC_one ..) ?_; intro w2 f2 hb2 ho2 hs2; replace o1 := o1.other (fun j hj => ho2 j (by omega)); have y2 := (ho2 (w.heap.size + 1) (by omega)).trans st.y; have b2 := st.below.trans hb2)
    | (refine wpList_stF rfl rfl 36 _ _ rfl (w.heap.size + 1) (flC none 0 0 0) rfl rfl 36 _ y2 (by kernel_rfl) rfl (flC_one _ _ _ _) ?_; intro w3 f3 hb3 ho3 hs3; replace o1 := o1.other (fun j hj => ho3 j (by omega)); have z3 : PkAt w3 w.heap.size 63 h A1 n1 c1 := (ho3 w.heap.size (by omega)).trans f2; have b3 := b2.trans (hb3.mono (by omega))))
  obtain ⟨a0, a1, a2, a3, a4, a5, a6, a7⟩ := z3.cells
  have b0 := blk_cell f3 (i := 0) rfl
  have b1 := blk_cell f3 (i := 1) rfl
  exact bodyPost_ret (v := .tuple #[pkV h A1 n1 c1, .agg #[.slice none 0 0, .int .i64 0]]) (by simp [results, Tryd.results51, go_sem, b0, b1, a0, a1, a2, a3, a4, a5, a6, a7]) rfl ⟨b3, A1, n1, c1, rfl, o1.rebase (by omega)⟩
end Go.Proofs.YtbefoapnlehdmaaDoor
