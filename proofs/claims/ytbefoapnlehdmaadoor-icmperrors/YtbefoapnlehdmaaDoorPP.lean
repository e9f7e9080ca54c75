/-
  Contracts of Parse and Peek.
-/
import Derived.Test.YtbefoapnlehdmaaDoorRead
import Derived.Test.YtbefoapnlehdmaaDoorBounds
import Derived.Test.YtbefoapnlehdmaaDoorSTotal
namespace Go.Proofs.YtbefoapnlehdmaaDoor
open Go.RowKit

/-- What Parse (whole) and Peek answer. -/
def GivesP (whole : Bool) (w : World) (xs : List Int) (ev : Ending) (w' : World) : Prop :=
  Below w.heap.size w w' ∧ ((¬ (pE whole xs).2 = 0 ∧ ev = .returned (.tuple #[zeroP, errV (pE whole xs).1 (pE whole xs).2])) ∨
    ((pE whole xs).2 = 0 ∧ ∃ g m, ev = .returned (.tuple #[pkV (hdOf xs) (some ⟨g, 0, none⟩) m m, .nilIface]) ∧ Row w' g (bodyOf xs) ∧ w.heap.size ≤ g ∧ (bodyOf xs).length = m))
theorem pE_bad {whole : Bool} {xs : List Int} (h : ¬ (bE whole xs).2 = 0) : pE whole xs = bE whole xs := by unfold pE; rw [if_pos h]
theorem pE_sum {xs : List Int} (h : (bE true xs).2 = 0) (hs : ¬ totV (xs.take (hdL xs)) = 65535) : pE true xs = (2, 13) := by unfold pE; rw [if_neg (fun q => q h), if_pos ⟨rfl, hs⟩]
theorem pE_read {whole : Bool} {xs : List Int} (h : (bE whole xs).2 = 0) (hs : whole = true → totV (xs.take (hdL xs)) = 65535) : pE whole xs = rE (hdL xs) xs := by
  unfold pE
  rw [if_neg (fun q => q h), if_neg (fun q => q.2 (hs q.1))]
theorem bE_ok {whole : Bool} {xs : List Int} (h : (bE whole xs).2 = 0) : 20 ≤ xs.length ∧ xs.getD 0 0 / 16 = 4 ∧ 20 ≤ hdL xs ∧ hdL xs ≤ xs.length ∧ hdL xs ≤ told xs ∧ (whole = true → told xs ≤ xs.length) := by
  rcases bE_cases whole xs with ⟨_, e⟩ | ⟨_, _, e⟩ | ⟨_, _, _, e⟩ | ⟨_, _, _, _, e⟩ | ⟨_, _, _, _, _, e⟩ | ⟨h1, h2, h3, h4, h5, e⟩
  · rw [e] at h; simp at h
  · rw [e] at h; simp at h
  · rw [e] at h; simp at h
  · rw [e] at h; simp at h
  · rw [e] at h; simp at h
  · exact ⟨h1, h2, h3, h4.1, h5, h4.2⟩
theorem told_bd {w : World} {B : Nat} {A : Option Addr} {n c : Nat} {xs : List Int} (hr : Rd .u8 w B A n c xs) (h : 20 ≤ n) : told xs ≤ 65535 := by
  have := num2_bd rfl (hr.cutFrom 2 (by omega)) (by omega)
  unfold told
  omega
theorem hdL_bd (xs : List Int) : hdL xs ≤ 60 := by
  unfold hdL
  omega
theorem KR.rows {w W : World} {A A' : Option Addr} {n c n' c' : Nat} {xs ys : List Int} (h : KR w A n c xs W) (hr : Rd .u8 W w.heap.size A' n' c' ys) :
    Rows2 (W.alloc (.cells #[.slice A' n' c'] 22)) (fun _ => False) (W.alloc (.cells #[.slice A' n' c'] 22)).heap.size (W.alloc (.cells #[.slice A' n' c'] 22)).heap.size (some ⟨W.heap.size, 0, none⟩) 1 1 [ys] := by
  refine ⟨rfl, by omega, Nat.le_refl _, fun i hi => ⟨W.heap.size, 0, A', n', c', rfl, ⟨by simp, fun q => q⟩, ?_, ?_⟩⟩
  · obtain rfl : i = 0 := by omega
    simp [go_sem]
  · obtain rfl : i = 0 := by omega
    exact (hr.below (alloc_below W _) h.below.size).more (Nat.le_trans h.below.size (alloc_below W _).size)

set_option maxRecDepth 100000 in
set_option maxHeartbeats 4000000 in
theorem peek_bad (A : Option Addr) (n c : Nat) (xs : List Int) (w : World) (hr : Rd .u8 w w.heap.size A n c xs) (hbe : ¬ (bE false xs).2 = 0) :
    Calls Tryd.prog 50 #[.slice A n c] w fun ev w' => Below w.heap.size w w' ∧ ev = .returned (.tuple #[zeroP, errV (bE false xs).1 (bE false xs).2]) := by
  have k0 : KR w A n c xs (w.alloc (.cells (pkC zeroH none 0 0) 60)) := ⟨PkAt.new w 60 zeroH none 0 0, hr.below (alloc_below _ _) (Nat.le_refl _), alloc_below _ _⟩
  have hb1 : ∀ W, KR w A n c xs W → Calls Tryd.prog 62 #[.slice A n c, .func (.func 63) #[] #[]] W fun ev w' => (∃ m, w' = W.drewN m) ∧ ev = .returned (.tuple #[.int .i64 0, .int .i64 0, errV (bE false xs).1 (bE false xs).2]) := fun W k =>
    (bounds_head A n c w.heap.size xs W k.rd).mono fun ev w' ⟨h1, h2⟩ => ⟨h1, h2.elim (fun q => q.2) (fun q => absurd q.1 hbe)⟩
  clear hbe
  generalize bE false xs = ee at *
  obtain ⟨r, e0⟩ := ee
  dsimp only at hb1 ⊢
  go_enter Tryd.func50, Tryd.ntmps50
  go_wp2_with fail
  with_reducible refine (hb1 _ k0).mono ?_
  rintro e w1 ⟨⟨m, hw⟩, rfl⟩
  have k : KR w A n c xs w1 := by rw [hw]; exact k0.step (Still.drewN _ _).below
  clear hw k0 hb1 hr
  go_wp2_with (refine wpList_stF rfl rfl 60 _ _ rfl w.heap.size (pkC zeroH none 0 0) rfl rfl 60 _ k.z (by kernel_rfl) rfl (pkC_one ..) ?_; intro w7 h7 hb7 ho7 hs7)
  have h7' : PkAt w7 w.heap.size 60 zeroH none 0 0 := h7
  have b7 : Below w.heap.size w w7 := k.below.trans hb7
  obtain ⟨c0, c1, c2, c3, c4, c5, c6, c7⟩ := h7'.cells
  refine bodyPost_ret (v := .tuple #[zeroP, errV r e0]) (by simp [results, Tryd.results50, go_sem, c0, c1, c2, c3, c4, c5, c6, c7]) rfl ⟨b7, rfl⟩

set_option maxRecDepth 100000 in
set_option maxHeartbeats 4000000 in
theorem peek_ok (A : Option Addr) (n c : Nat) (xs : List Int) (w : World) (hr : Rd .u8 w w.heap.size A n c xs) (hbe : (bE false xs).2 = 0) :
    Calls Tryd.prog 50 #[.slice A n c] w (GivesP false w xs) := by
  have hlen := hr.len
  have hmax := hr.max
  have hcap := hr.cap
  have hh60 := hdL_bd xs
  obtain ⟨hx20, -, hh20, hhn, hht, htn⟩ := bE_ok hbe
  rw [hlen] at hx20 hhn htn
  have ht16 := told_bd hr hx20
  have k0 : KR w A n c xs (w.alloc (.cells (pkC zeroH none 0 0) 60)) := ⟨PkAt.new w 60 zeroH none 0 0, hr.below (alloc_below _ _) (Nat.le_refl _), alloc_below _ _⟩
  have hb1 : ∀ W, KR w A n c xs W → Calls Tryd.prog 62 #[.slice A n c, .func (.func 63) #[] #[]] W fun ev w' => (∃ m, w' = W.drewN m) ∧ ev = .returned (.tuple #[.int .i64 (hdL xs : Nat), .int .i64 (told xs : Nat), .nilIface]) := fun W k =>
    (bounds_head A n c w.heap.size xs W k.rd).mono fun ev w' ⟨h1, h2⟩ => ⟨h1, h2.elim (fun q => absurd hbe q.1) (fun q => q.2)⟩
  have HB := Lib.hid hbe
  clear hbe hr
  clear htn
  have hread : ∀ W, KR w A n c xs W → Calls Tryd.prog 64 #[.int .i64 (hdL xs : Nat), .slice A (min (told xs) n) c] W (GivesR W (hdL xs) (min (told xs) n) (xs.take (min (told xs) n))) := fun W k =>
    read_any _ _ _ _ _ W ((k.rd.cutTo (min (told xs) n) (by omega)).more k.below.size) hh20 (by omega) (by omega) (by omega)
  obtain ⟨M, hM⟩ : ∃ M, min (told xs) n = M := ⟨_, rfl⟩
  have hMh : hdL xs ≤ M := by omega
  have hMn : M ≤ n := by omega
  rw [hM] at hread
  have HT : Hid (xs.take M = xs.take (told xs)) := Lib.hid (by rw [← hM]; rw [← hlen, ← List.take_eq_take_min])
  have Hr : Hid (rE (hdL xs) (xs.take M) = rE (hdL xs) xs) := Lib.hid (rE_take (by omega))
  have Hh : Hid (hdOf (xs.take M) = hdOf xs) := Lib.hid (hdOf_take (by omega))
  have Hl : Hid ((bodyOf xs).length = M - 20) := Lib.hid (by unfold bodyOf; rw [← HT.out, List.length_drop, List.length_take, hlen]; omega)
  have Hb : Hid ((xs.take M).drop 20 = bodyOf xs) := Lib.hid (by rw [HT.out]; rfl)
  have HR := fun q => pE_read (whole := false) HB.out q
  replace HR := Lib.hid HR
  generalize hdL xs = h at *
  obtain ⟨t, ht⟩ : ∃ t, told xs = t := ⟨_, rfl⟩
  rw [ht] at hb1 hM ht16
  clear ht
  have hpe := Lib.hid (HR.out (fun q => absurd q (by decide)))
  by_cases hc : t < n
  · obtain rfl : t = M := by omega
    have g1 : (t : Int) < (n : Int) := by omega
    clear hM HR
    go_enter Tryd.func50, Tryd.ntmps50
    go_wp2_with fail
    with_reducible refine (hb1 _ k0).mono ?_
    rintro e w1 ⟨⟨m, hw⟩, rfl⟩
    have k : KR w A n c xs w1 := by rw [hw]; exact k0.step (Still.drewN _ _).below
    clear hw k0 hb1
    go_wp2_with fail
    with_reducible refine (hread _ k).mono ?_
    rintro e w3 ⟨hb3, ⟨hx, rfl⟩ | ⟨hx, g, rfl, row, hg⟩⟩
    · replace k := k.step hb3
      rw [Hr.out] at hx ⊢
      replace hx := Lib.hid hx
      go_wp2_with (refine wpList_stF rfl rfl 60 _ _ rfl w.heap.size (pkC zeroH none 0 0) rfl rfl 60 _ k.z (by kernel_rfl) rfl (pkC_one ..) ?_; intro w7 h7 hb7 ho7 hs7)
      have h7' : PkAt w7 w.heap.size 60 zeroH none 0 0 := h7
      have b7 : Below w.heap.size w w7 := k.below.trans hb7
      obtain ⟨c0, c1, c2, c3, c4, c5, c6, c7⟩ := h7'.cells
      clear h7
      go_wp2
      refine bodyPost_ret (v := .tuple #[zeroP, errV (rE h xs).1 (rE h xs).2]) (by simp [results, Tryd.results50, go_sem, c0, c1, c2, c3, c4, c5, c6, c7]) rfl ?_
      unfold GivesP
      rw [hpe.out]
      exact ⟨b7, .inl ⟨hx.out, rfl⟩⟩
    · have hgw : w.heap.size < g := Nat.lt_of_lt_of_le k.z.lt hg
      replace k := k.step hb3
      rw [Hr.out] at hx
      rw [Hh.out]
      rw [Hb.out] at row
      replace hx := Lib.hid hx
      go_wp2_with (refine wpList_stF rfl rfl 60 _ _ rfl w.heap.size (pkC (hdOf xs) (some ⟨g, 0, none⟩) (t - 20) (t - 20)) rfl rfl 60 _ k.z (by kernel_rfl) rfl (pkC_one ..) ?_; intro w7 h7 hb7 ho7 hs7)
      have h7' : PkAt w7 w.heap.size 60 (hdOf xs) (some ⟨g, 0, none⟩) (t - 20) (t - 20) := h7
      have b7 : Below w.heap.size w w7 := k.below.trans hb7
      have r7 : Row w7 g (bodyOf xs) := (ho7 _ (Nat.ne_of_gt hgw)).trans row
      obtain ⟨c0, c1, c2, c3, c4, c5, c6, c7⟩ := h7'.cells
      clear h7
      go_wp2
      refine bodyPost_ret (v := .tuple #[pkV (hdOf xs) (some ⟨g, 0, none⟩) (t - 20) (t - 20), .nilIface]) (by simp [results, Tryd.results50, go_sem, c0, c1, c2, c3, c4, c5, c6, c7]) rfl ?_
      unfold GivesP
      rw [hpe.out]
      exact ⟨b7, .inr ⟨hx.out, g, t - 20, rfl, r7, Nat.le_of_lt hgw, Hl.out⟩⟩
  · obtain rfl : n = M := by omega
    clear hM HR
    by_cases hd : n < t
    · have g1 : (n : Int) < (t : Int) := by omega
      have g2 : ¬ (t : Int) < (n : Int) := by omega
      go_enter Tryd.func50, Tryd.ntmps50
      go_wp2_with fail
      with_reducible refine (hb1 _ k0).mono ?_
      rintro e w1 ⟨⟨m, hw⟩, rfl⟩
      have k : KR w A n c xs w1 := by rw [hw]; exact k0.step (Still.drewN _ _).below
      clear hw k0 hb1
      go_wp2_with fail
      with_reducible refine (hread _ k).mono ?_
      rintro e w3 ⟨hb3, ⟨hx, rfl⟩ | ⟨hx, g, rfl, row, hg⟩⟩
      · replace k := k.step hb3
        rw [Hr.out] at hx ⊢
        replace hx := Lib.hid hx
        go_wp2_with (refine wpList_stF rfl rfl 60 _ _ rfl w.heap.size (pkC zeroH none 0 0) rfl rfl 60 _ k.z (by kernel_rfl) rfl (pkC_one ..) ?_; intro w7 h7 hb7 ho7 hs7)
        have h7' : PkAt w7 w.heap.size 60 zeroH none 0 0 := h7
        have b7 : Below w.heap.size w w7 := k.below.trans hb7
        obtain ⟨c0, c1, c2, c3, c4, c5, c6, c7⟩ := h7'.cells
        clear h7
        go_wp2
        refine bodyPost_ret (v := .tuple #[zeroP, errV (rE h xs).1 (rE h xs).2]) (by simp [results, Tryd.results50, go_sem, c0, c1, c2, c3, c4, c5, c6, c7]) rfl ?_
        unfold GivesP
        rw [hpe.out]
        exact ⟨b7, .inl ⟨hx.out, rfl⟩⟩
      · have hgw : w.heap.size < g := Nat.lt_of_lt_of_le k.z.lt hg
        replace k := k.step hb3
        rw [Hr.out] at hx
        rw [Hh.out]
        rw [Hb.out] at row
        replace hx := Lib.hid hx
        go_wp2_with (refine wpList_stF rfl rfl 60 _ _ rfl w.heap.size (pkC (hdOf xs) (some ⟨g, 0, none⟩) (n - 20) (n - 20)) rfl rfl 60 _ k.z (by kernel_rfl) rfl (pkC_one ..) ?_; intro w7 h7 hb7 ho7 hs7)
        have h7' : PkAt w7 w.heap.size 60 (hdOf xs) (some ⟨g, 0, none⟩) (n - 20) (n - 20) := h7
        have b7 : Below w.heap.size w w7 := k.below.trans hb7
        have r7 : Row w7 g (bodyOf xs) := (ho7 _ (Nat.ne_of_gt hgw)).trans row
        obtain ⟨c0, c1, c2, c3, c4, c5, c6, c7⟩ := h7'.cells
        clear h7
        go_wp2
        refine bodyPost_ret (v := .tuple #[pkV (hdOf xs) (some ⟨g, 0, none⟩) (n - 20) (n - 20), .nilIface]) (by simp [results, Tryd.results50, go_sem, c0, c1, c2, c3, c4, c5, c6, c7]) rfl ?_
        unfold GivesP
        rw [hpe.out]
        exact ⟨b7, .inr ⟨hx.out, g, n - 20, rfl, r7, Nat.le_of_lt hgw, Hl.out⟩⟩
    · obtain rfl : n = t := by omega
      go_enter Tryd.func50, Tryd.ntmps50
      go_wp2_with fail
      with_reducible refine (hb1 _ k0).mono ?_
      rintro e w1 ⟨⟨m, hw⟩, rfl⟩
      have k : KR w A n c xs w1 := by rw [hw]; exact k0.step (Still.drewN _ _).below
      clear hw k0 hb1
      go_wp2_with fail
      with_reducible refine (hread _ k).mono ?_
      rintro e w3 ⟨hb3, ⟨hx, rfl⟩ | ⟨hx, g, rfl, row, hg⟩⟩
      · replace k := k.step hb3
        rw [Hr.out] at hx ⊢
        replace hx := Lib.hid hx
        go_wp2_with (refine wpList_stF rfl rfl 60 _ _ rfl w.heap.size (pkC zeroH none 0 0) rfl rfl 60 _ k.z (by kernel_rfl) rfl (pkC_one ..) ?_; intro w7 h7 hb7 ho7 hs7)
        have h7' : PkAt w7 w.heap.size 60 zeroH none 0 0 := h7
        have b7 : Below w.heap.size w w7 := k.below.trans hb7
        obtain ⟨c0, c1, c2, c3, c4, c5, c6, c7⟩ := h7'.cells
        clear h7
        go_wp2
        refine bodyPost_ret (v := .tuple #[zeroP, errV (rE h xs).1 (rE h xs).2]) (by simp [results, Tryd.results50, go_sem, c0, c1, c2, c3, c4, c5, c6, c7]) rfl ?_
        unfold GivesP
        rw [hpe.out]
        exact ⟨b7, .inl ⟨hx.out, rfl⟩⟩
      · have hgw : w.heap.size < g := Nat.lt_of_lt_of_le k.z.lt hg
        replace k := k.step hb3
        rw [Hr.out] at hx
        rw [Hh.out]
        rw [Hb.out] at row
        replace hx := Lib.hid hx
        go_wp2_with (refine wpList_stF rfl rfl 60 _ _ rfl w.heap.size (pkC (hdOf xs) (some ⟨g, 0, none⟩) (n - 20) (n - 20)) rfl rfl 60 _ k.z (by kernel_rfl) rfl (pkC_one ..) ?_; intro w7 h7 hb7 ho7 hs7)
        have h7' : PkAt w7 w.heap.size 60 (hdOf xs) (some ⟨g, 0, none⟩) (n - 20) (n - 20) := h7
        have b7 : Below w.heap.size w w7 := k.below.trans hb7
        have r7 : Row w7 g (bodyOf xs) := (ho7 _ (Nat.ne_of_gt hgw)).trans row
        obtain ⟨c0, c1, c2, c3, c4, c5, c6, c7⟩ := h7'.cells
        clear h7
        go_wp2
        refine bodyPost_ret (v := .tuple #[pkV (hdOf xs) (some ⟨g, 0, none⟩) (n - 20) (n - 20), .nilIface]) (by simp [results, Tryd.results50, go_sem, c0, c1, c2, c3, c4, c5, c6, c7]) rfl ?_
        unfold GivesP
        rw [hpe.out]
        exact ⟨b7, .inr ⟨hx.out, g, n - 20, rfl, r7, Nat.le_of_lt hgw, Hl.out⟩⟩
theorem peek_any (A : Option Addr) (n c : Nat) (xs : List Int) (w : World) (hr : Rd .u8 w w.heap.size A n c xs) : Calls Tryd.prog 50 #[.slice A n c] w (GivesP false w xs) := by
  by_cases h : (bE false xs).2 = 0
  · exact peek_ok A n c xs w hr h
  · unfold GivesP
    rw [pE_bad h]
    exact (peek_bad A n c xs w hr h).mono fun ev w' ⟨h1, h2⟩ => ⟨h1, .inl ⟨h, h2⟩⟩
end Go.Proofs.YtbefoapnlehdmaaDoor
