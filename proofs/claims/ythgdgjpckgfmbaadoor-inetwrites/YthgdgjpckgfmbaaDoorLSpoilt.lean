/-
  The law InetSpoilt: with one byte of its head changed a packet isn't parsed as it was.
-/
import Derived.Test.YthgdgjpckgfmbaaDoorZed
namespace Go.Proofs.YthgdgjpckgfmbaaDoor
open Go.RowKit

/-- A head that is written has its own sum. -/
theorem hdR_right {h : Hd} {n : Nat} (hk : h.ok) (hn : n ≤ 65515) : totV (hdR h n) = 65535 := by
  have hs := hdS_bd (n := n) hk hn
  exact own_law (byts_of (hdP_wf (p := 0) (q := 0) hk hn (by omega) (by omega))) 10 rfl (show 10 + 1 < 20 by decide) rfl rfl (n := hdS h n) (p := hdS h n / 256) (q := hdS h n % 256) rfl (by omega) (by omega) (by omega)
/-- One byte of the head changed. -/
theorem spoilt {h : Hd} {n : Nat} {xs : List Int} {d : Nat} {v : Int} (hk : h.ok) (hn : n ≤ 65515) (hd : d < 20) (hv : 0 ≤ v ∧ v ≤ 255) (hne : ¬ v = (hdR h n ++ xs).getD d 0) : ¬ (pE true ((hdR h n ++ xs).set d v)).2 = 0 := by
  intro hE
  obtain ⟨h1, h2, h3⟩ := pE_ok hE
  obtain ⟨_, _, h4, _⟩ := bE_ok h1
  have h5 : hdL ((hdR h n ++ xs).set d v) = 20 := by
    rw [h3] at hE
    unfold rE at hE
    by_cases q : 20 < hdL ((hdR h n ++ xs).set d v)
    · rw [if_pos q] at hE
      exact absurd hE (by decide)
    · omega
  have h6 := h2 rfl
  rw [h5, List.set_append_left _ _ (by rw [hdR_len]; exact hd), List.take_left' (by rw [List.length_set, hdR_len])] at h6
  refine own_no (byts_of (hdR_wf hk hn)) (hdR_right hk hn) d (by rw [hdR_len]; exact hd) hv ?_ h6
  intro q
  apply hne
  rw [q]
  simp [List.getD, List.getElem?_append_left (show d < (hdR h n).length by rw [hdR_len]; exact hd)]

set_option maxRecDepth 100000 in
set_option maxHeartbeats 4000000 in
theorem spoilt_far (h : Hd) (A : Option Addr) (n c : Nat) (at_ : Int) (by_ : Int) (w : World) (hg : Laid w) (hn : 1480 < n) (hmax : n ≤ 9223372036854775807) : Calls Tryd.prog 5 #[pkV h A n c, .int .i64 at_, .int .u8 by_] w fun e w' => e = .returned (.bool true) ∧ Below w.heap.size w w' := by
  have k := (Kn.start hg).alloc (.cells (pkC h A n c) 28)
  have pp := PkAt.new w 28 h A n c
  clear hg
  go_enter Tryd.func5, Tryd.ntmps5
  go_wp2_with fail
  refine (alive_any _ k.laid).mono ?_
  rintro ev w1 ⟨rfl, hb⟩
  replace k := k.step hb
  replace pp := pp.step hb
  clear hb
  obtain ⟨x0, x1, x2, x3, x4, x5, x6, x7⟩ := pp.cells
  go_wp2_with fail
  refine (bytes_far h A n c _ hn hmax).mono ?_
  rintro ev w2 ⟨rfl, hb⟩
  replace k := k.step hb
  clear x0 x1 x2 x3 x4 x5 x6 x7
  clear hb pp
  go_wp2
  go_ret
  exact ⟨rfl, k.below⟩

set_option maxRecDepth 100000 in
set_option maxHeartbeats 4000000 in
theorem spoilt_near (h : Hd) (A : Option Addr) (n c : Nat) (xs : List Int) (at_ : Int) (by_ : Int) (w : World) (hg : Laid w) (hk : h.ok) (hr : Rd .u8 w w.heap.size A n c xs) (hbb : (Lit.int .u8 by_).wf = true) (hn : n ≤ 1480) (m : Nat) (hm : m = 20 + n) : Calls Tryd.prog 5 #[pkV h A n c, .int .i64 at_, .int .u8 by_] w fun e w' => e = .returned (.bool true) ∧ Below w.heap.size w w' := by
  have k := (Kn.start hg).alloc (.cells (pkC h A n c) 28)
  have r0 := hr.below (alloc_below w (.cells (pkC h A n c) 28)) (Nat.le_refl _)
  have pp := PkAt.new w 28 h A n c
  have HX := Lib.hid hr.len
  have HW := Lib.hid hr.2.2.2.1
  have hb0 := u8_bd hbb
  have bys := Lib.hid (fun W (q : Rd .u8 W W.heap.size A n c xs) => bytes_ok h A n c xs W hk q hn)
  rw [← hm] at bys
  have hwf : Hid (∀ x ∈ hdR h n ++ xs, (Lit.int .u8 x).wf = true) := Lib.hid (fun x hx => (List.mem_append.1 hx).elim (hdR_wf hk (by omega) x) (HW.out x))
  have hl : Hid ((hdR h n ++ xs).length = m) := Lib.hid (by unfold hdR; rw [z_len HX.out, hm])
  have sp : Hid (∀ d v, d < 20 → (0 ≤ v ∧ v ≤ 255) → ¬ v = (hdR h n ++ xs).getD d 0 → ¬ (pE true ((hdR h n ++ xs).set d v)).2 = 0) := Lib.hid (fun d v h1 h2 h3 => spoilt hk (by omega) h1 h2 h3)
  generalize hdR h n ++ xs = zs at *
  have hm1 : 20 + n ≤ m := by omega
  have hm2 : m ≤ 20 + n := by omega
  have hm3 : ¬ (m : Int) < 20 := by omega
  clear hr hk hm hbb
  go_enter Tryd.func5, Tryd.ntmps5
  go_wp2_with fail
  refine (alive_any _ k.laid).mono ?_
  rintro ev w1 ⟨rfl, hb⟩
  replace r0 := r0.below hb k.below.size
  replace k := k.step hb
  replace pp := pp.step hb
  clear hb
  obtain ⟨x0, x1, x2, x3, x4, x5, x6, x7⟩ := pp.cells
  go_wp2_with fail
  refine (bys.out _ (r0.more k.below.size)).mono ?_
  rintro ev w2 ⟨g, rfl, row, hgw, hb⟩
  have hgw' := Nat.le_trans k.below.size hgw
  replace k := k.step hb
  clear x0 x1 x2 x3 x4 x5 x6 x7
  clear hb hgw bys pp r0
  by_cases c0 : at_ < 0
  · go_wp2
    go_ret
    exact ⟨rfl, k.below⟩
  by_cases c1 : 19 < at_
  · go_wp2
    go_ret
    exact ⟨rfl, k.below⟩
  by_cases c2 : by_ = 0
  · subst c2
    go_wp2
    go_ret
    exact ⟨rfl, k.below⟩
  obtain ⟨d, rfl⟩ := Int.eq_ofNat_of_zero_le (show 0 ≤ at_ by omega)
  have c3 : (by_ == 0) = false := by simpa using c2
  have d1 : d < 20 := by omega
  have d3 : ¬ (19 : Int) < (d : Int) := by omega
  have d4 : ¬ (d : Int) < 0 := by omega
  have d5 : (d : Int) < (m : Int) := by omega
  have cd := row.cell (i := d) (by rw [hl.out]; omega)
  have zd := row.frozen d
  have hx0 : 0 ≤ zs.getD d 0 ∧ zs.getD d 0 ≤ 255 := by
    have : zs.getD d 0 = zs[d]'(by rw [hl.out]; omega) := by simp [List.getD, List.getElem?_eq_getElem (show d < zs.length by rw [hl.out]; omega)]
    rw [this]
    exact u8_bd (hwf.out _ (List.getElem_mem _))
  obtain ⟨x, hx⟩ : ∃ x, zs.getD d 0 = x := ⟨_, rfl⟩
  rw [hx] at hx0 cd
  obtain ⟨v, hv⟩ : ∃ v, (x + by_) % 256 = v := ⟨_, rfl⟩
  have hv0 : IntKind.u8.wrap (x + by_) = v := by rw [IntKind.wrap_u8]; exact hv
  have hv1 : 0 ≤ v ∧ v ≤ 255 := by omega
  have hv2 : ¬ v = zs.getD d 0 := by omega
  obtain ⟨r, e, hE, he⟩ := pE_pair true _ (sp.out d v d1 hv1 hv2)
  have HE := Lib.hid hE
  have row' := row.set d v
  have b3 : Below w.heap.size w2 (w2.setCell ⟨g, d, none⟩ (.int .u8 v)) := (Below.refl _ w2).setCell (p := ⟨g, d, none⟩) hgw' _
  have k' : Kn w (w2.setCell ⟨g, d, none⟩ (.int .u8 v)) := ⟨hg.below (k.below.trans b3), k.below.trans b3⟩
  have Hl' : Hid ((zs.set d v).length = m) := Lib.hid (by rw [List.length_set]; exact hl.out)
  have Hw' : Hid (∀ x ∈ zs.set d v, (Lit.int .u8 x).wf = true) := Lib.hid (fun x hx => by
    rcases List.mem_or_eq_of_mem_set hx with q | q
    · exact hwf.out x q
    · rw [q]; exact u8_mk hv1)
  clear hE hv2 k c0 c1 sp b3 row hx
  go_wp2_with fail
  clear cd zd
  generalize w2.setCell ⟨g, d, none⟩ (.int .u8 v) = W3 at *
  refine (parse_no (row'.rdW Hl'.out (by omega) Hw'.out) HE.out he).mono ?_
  rintro ev w4 ⟨rfl, hb⟩
  replace hb := hb.trans ((alloc_below w4 (.cells (pkC zeroH none 0 0) 28)).mono hb.size)
  replace k' := k'.step hb
  have pz := PkAt.new w4 28 zeroH none 0 0
  clear hb row'
  obtain ⟨x0, x1, x2, x3, x4, x5, x6, x7⟩ := pz.cells
  go_wp2_with fail
  have sm := same_pk zeroH zeroH none none 0 0 0 0 [] [] (w4.alloc (.cells (pkC zeroH none 0 0) 28)) Rd.nil Rd.nil
  rw [smB_self] at sm
  refine sm.mono ?_
  rintro ev w5 ⟨rfl, hb⟩
  replace k' := k'.step hb
  clear x0 x1 x2 x3 x4 x5 x6 x7
  clear hb sm pz
  go_wp2
  go_ret
  exact ⟨rfl, k'.below⟩
theorem spoilt_law (h : Hd) (A : Option Addr) (n c : Nat) (xs : List Int) (at_ : Int) (by_ : Int) (w : World) (hg : Laid w) (hk : h.ok) (hr : Rd .u8 w w.heap.size A n c xs) (hbb : (Lit.int .u8 by_).wf = true) : Calls Tryd.prog 5 #[pkV h A n c, .int .i64 at_, .int .u8 by_] w fun e w' => e = .returned (.bool true) ∧ Below w.heap.size w w' := by
  by_cases hn : 1480 < n
  · exact spoilt_far h A n c at_ by_ w hg hn (Nat.le_trans hr.cap hr.max)
  · exact spoilt_near h A n c xs at_ by_ w hg hk hr hbb (by omega) (20 + n) rfl
end Go.Proofs.YthgdgjpckgfmbaaDoor
