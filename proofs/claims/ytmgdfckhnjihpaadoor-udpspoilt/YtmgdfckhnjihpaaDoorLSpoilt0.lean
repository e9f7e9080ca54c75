/-
  The law UdpSpoilt: with one byte changed a datagram with a sum isn't parsed as it was (what has a sum); a bare one's ports and body are those that stand there.
-/
import Derived.Test.YtmgdfckhnjihpaaDoorUSpo
import Derived.Test.YtmgdfckhnjihpaaDoorUWp
namespace Go.Proofs.YtmgdfckhnjihpaaDoor
open Go.RowKit
set_option linter.unusedVariables false

set_option maxRecDepth 100000 in
set_option maxHeartbeats 4000000 in
theorem spoilt_far (h : Hd) (A : Option Addr) (n c : Nat) (xs : List Int) (f t : Int) (at_ : Int) (by_ : Int) (w : World) (hg : Laid w) (hk : h.ok) (hr : Rd .u8 w w.heap.size A n c xs) (hf : Ip f) (ht : Ip t) (hn : 1472 < n) (hmax : n ≤ 9223372036854775807) : Calls Tryd.prog 5 #[pkV h A n c, .int .u32 f, .int .u32 t, .int .i64 at_, .int .u8 by_] w fun e w' => e = .returned (.bool true) ∧ Below w.heap.size w w' := by
  have k := (Kn.start hg).alloc (.cells (pkC h A n c) 28)
  have pp := PkAt.new w 28 h A n c
  clear hg
  go_enter Tryd.func5, Tryd.ntmps5
  go_wp2_with fail
  refine (alive_any _ k.laid).mono ?_
  rintro ev w1 ⟨rfl, hb⟩
  replace k := k.step hb
  replace pp := pp.step hb
  clear hb
  obtain ⟨x0, x1, x2, x3⟩ := pp.cells
  go_wp2_with fail
  refine (bytes_far h A n c f t _ hn hmax).mono ?_
  rintro ev w2 ⟨rfl, hb⟩
  replace k := k.step hb
  clear x0 x1 x2 x3
  clear hb pp
  go_wp2
  go_ret
  exact ⟨rfl, k.below⟩
set_option maxRecDepth 100000 in
set_option maxHeartbeats 4000000 in
theorem spoilt_mid (h : Hd) (A : Option Addr) (n c : Nat) (xs : List Int) (f t : Int) (at_ : Int) (by_ : Int) (w : World) (hg : Laid w) (hk : h.ok) (hr : Rd .u8 w w.heap.size A n c xs) (hf : Ip f) (ht : Ip t) (hn : n ≤ 1472) (m : Nat) (hm : m = 8 + n) (h4 : ¬ at_ < 4) (h8 : ¬ 8 ≤ at_) : Calls Tryd.prog 5 #[pkV h A n c, .int .u32 f, .int .u32 t, .int .i64 at_, .int .u8 by_] w fun e w' => e = .returned (.bool true) ∧ Below w.heap.size w w' := by
  have k := (Kn.start hg).alloc (.cells (pkC h A n c) 28)
  have r0 := hr.below (alloc_below w (.cells (pkC h A n c) 28)) (Nat.le_refl _)
  have pp := PkAt.new w 28 h A n c
  have bys := Lib.hid (fun W (q : Rd .u8 W W.heap.size A n c xs) => bytes_ok h A n c xs f t W hk q hf ht hn)
  rw [← hm] at bys
  have c0 : ¬ at_ < 0 := by omega
  have c1 : ¬ (m : Int) ≤ at_ := by omega
  have c4 : 3 < at_ := by omega
  have c5 : at_ < 8 := by omega
  clear hr hk h4 h8 hm
  go_enter Tryd.func5, Tryd.ntmps5
  go_wp2_with fail
  refine (alive_any _ k.laid).mono ?_
  rintro ev w1 ⟨rfl, hb⟩
  replace r0 := r0.below hb k.below.size
  replace k := k.step hb
  replace pp := pp.step hb
  clear hb
  obtain ⟨x0, x1, x2, x3⟩ := pp.cells
  go_wp2_with fail
  refine (bys.out _ (r0.more k.below.size)).mono ?_
  rintro ev w2 ⟨g, rfl, row, hgw, hb⟩
  replace k := k.step hb
  clear x0 x1 x2 x3
  clear hb hgw bys r0 row pp
  by_cases c2 : by_ = 0
  · subst c2
    go_wp2
    go_ret
    exact ⟨rfl, k.below⟩
  have c2b : (by_ == 0) = false := by simpa using c2
  go_wp2
  go_ret
  exact ⟨rfl, k.below⟩

set_option maxRecDepth 100000 in
set_option maxHeartbeats 4000000 in
theorem spoilt_sum (h : Hd) (A : Option Addr) (n c : Nat) (xs : List Int) (f t : Int) (at_ : Int) (by_ : Int) (w : World) (hg : Laid w) (hk : h.ok) (hr : Rd .u8 w w.heap.size A n c xs) (hf : Ip f) (ht : Ip t) (hbb : (Lit.int .u8 by_).wf = true) (hn : n ≤ 1472) (m : Nat) (hm : m = 8 + n) (hbare : h.bare = false) : Calls Tryd.prog 5 #[pkV h A n c, .int .u32 f, .int .u32 t, .int .i64 at_, .int .u8 by_] w fun e w' => e = .returned (.bool true) ∧ Below w.heap.size w w' := by
  have k := (Kn.start hg).alloc (.cells (pkC h A n c) 28)
  have r0 := hr.below (alloc_below w (.cells (pkC h A n c) 28)) (Nat.le_refl _)
  have pp := PkAt.new w 28 h A n c
  have hxl := hr.len
  have hwf0 := hr.2.2.2.1
  have HX := Lib.hid hxl
  have hb0 := u8_bd hbb
  have bys := Lib.hid (fun W (q : Rd .u8 W W.heap.size A n c xs) => bytes_ok h A n c xs f t W hk q hf ht hn)
  rw [← hm] at bys
  have hwf : Hid (∀ x ∈ byR h f t xs, (Lit.int .u8 x).wf = true) := Lib.hid (byR_wf hk hf ht hwf0 (by omega))
  have hl : Hid ((byR h f t xs).length = m) := Lib.hid (by rw [byR_len, hxl, hm])
  have sp : Hid (∀ d v, d < m → ¬ (3 < d ∧ d < 8) → (0 ≤ v ∧ v ≤ 255) → ¬ v = (byR h f t xs).getD d 0 → pE f t ((byR h f t xs).set d v) = (2, 13)) := Lib.hid (fun d v h1 h2 h3 h4 => sp_sum hk hf ht hwf0 (by omega) (by omega) h2 h3 hbare h4)
  generalize byR h f t xs = zs at *
  have hm1 : 8 ≤ m := by omega
  have hm2 : m ≤ 1480 := by omega
  replace hbare := Lib.hid hbare
  have Hm := Lib.hid hm
  clear hr hk hbb hxl hwf0 hm
  go_enter Tryd.func5, Tryd.ntmps5
  go_wp2_with fail
  refine (alive_any _ k.laid).mono ?_
  rintro ev w1 ⟨rfl, hb⟩
  replace r0 := r0.below hb k.below.size
  replace k := k.step hb
  replace pp := pp.step hb
  clear hb
  obtain ⟨x0, x1, x2, x3⟩ := pp.cells
  go_wp2_with fail
  refine (bys.out _ (r0.more k.below.size)).mono ?_
  rintro ev w2 ⟨g, rfl, row, hgw, hb⟩
  have hgw' := Nat.le_trans k.below.size hgw
  have gne : ¬ w.heap.size = g := by
    have := pp.lt
    omega
  replace k := k.step hb
  replace pp := pp.step hb
  clear x0 x1 x2 x3
  clear hb hgw bys r0
  by_cases c0 : at_ < 0
  · go_wp2
    go_ret
    exact ⟨rfl, k.below⟩
  by_cases c1 : (m : Int) ≤ at_
  · go_wp2
    go_ret
    exact ⟨rfl, k.below⟩
  by_cases c2 : by_ = 0
  · subst c2
    go_wp2
    go_ret
    exact ⟨rfl, k.below⟩
  have c2b : (by_ == 0) = false := by simpa using c2
  by_cases c3 : 3 < at_ ∧ at_ < 8
  · obtain ⟨c4, c5⟩ := c3
    go_wp2
    go_ret
    exact ⟨rfl, k.below⟩
  obtain ⟨d, rfl⟩ := Int.eq_ofNat_of_zero_le (show 0 ≤ at_ by omega)
  have d1 : d < m := by omega
  have d2 : ¬ (3 < d ∧ d < 8) := by omega
  have d4 : ¬ (d : Int) < 0 := by omega
  have d5 : (d : Int) < (m : Int) := by omega
  have cd := row.cell (i := d) (by rw [hl.out]; omega)
  have zd := row.frozen d
  have hx0 : 0 ≤ zs.getD d 0 ∧ zs.getD d 0 ≤ 255 := by
    have : zs.getD d 0 = zs[d]'(by rw [hl.out]; omega) := by simp [List.getD, List.getElem?_eq_getElem (show d < zs.length by rw [hl.out]; omega)]
    rw [this]
    exact u8_bd (hwf.out _ (List.getElem_mem _))
  obtain ⟨x, hx⟩ : ∃ x, zs.getD d 0 = x := ⟨_, rfl⟩
  rw [hx] at hx0 cd
  obtain ⟨v, hv⟩ : ∃ v, (x + by_) % 256 = v := ⟨_, rfl⟩
  have hv0 : IntKind.u8.wrap (x + by_) = v := by rw [IntKind.wrap_u8]; exact hv
  have hv1 : 0 ≤ v ∧ v ≤ 255 := by omega
  have hv2 : ¬ v = zs.getD d 0 := by omega
  have HE := Lib.hid (sp.out d v d1 d2 hv1 hv2)
  have row' := row.set d v
  have b3 : Below w.heap.size w2 (w2.setCell ⟨g, d, none⟩ (.int .u8 v)) := (Below.refl _ w2).setCell (p := ⟨g, d, none⟩) hgw' _
  have k' : Kn w (w2.setCell ⟨g, d, none⟩ (.int .u8 v)) := ⟨hg.below (k.below.trans b3), k.below.trans b3⟩
  have pp' : PkAt (w2.setCell ⟨g, d, none⟩ (.int .u8 v)) w.heap.size 28 h A n c := ((Only.setCell g d w2 (.int .u8 v)).other _ gne).trans pp
  have Hl' : Hid ((zs.set d v).length = m) := Lib.hid (by rw [List.length_set]; exact hl.out)
  have Hw' : Hid (∀ x ∈ zs.set d v, (Lit.int .u8 x).wf = true) := Lib.hid (fun x hx => by
    rcases List.mem_or_eq_of_mem_set hx with q | q
    · exact hwf.out x q
    · rw [q]; exact u8_mk hv1)
  have dcase : (d : Int) < 4 ∨ 8 ≤ (d : Int) := by omega
  clear hv2 k c0 c1 sp b3 row hx pp hwf hl
  rcases dcase with dc | dc
  · have dd : ¬ (3 : Int) < (d : Int) := by omega
    go_wp2_with fail
    clear cd zd
    generalize w2.setCell ⟨g, d, none⟩ (.int .u8 v) = W3 at *
    refine (parse_no (row'.rdW Hl'.out (by omega) Hw'.out) hf ht HE.out (by decide)).mono ?_
    rintro ev w4 ⟨rfl, hb⟩
    replace hb := hb.trans ((alloc_below w4 (.cells (pkC zeroH none 0 0) 28)).mono hb.size)
    replace k' := k'.step hb
    replace pp' := pp'.step hb
    have pz := PkAt.new w4 28 zeroH none 0 0
    clear hb row'
    obtain ⟨y0, y1, y2, y3⟩ := pp'.cells
    rw [hbare.out] at y2
    go_wp2_with fail
    refine (whyIs_err 2 13 13 _).mono ?_
    rintro ev w6 ⟨rfl, hb⟩
    replace k' := k'.step hb
    replace pz := pz.step hb
    clear y0 y1 y2 y3
    clear hb
    obtain ⟨x0, x1, x2, x3⟩ := pz.cells
    go_wp2_with fail
    have sm := same_pk zeroH zeroH none none 0 0 0 0 [] [] w6 Rd.nil Rd.nil
    rw [smB_self] at sm
    refine sm.mono ?_
    rintro ev w5 ⟨rfl, hb⟩
    replace k' := k'.step hb
    clear x0 x1 x2 x3
    clear hb sm pz
    go_wp2
    go_ret
    exact ⟨rfl, k'.below⟩
  · have dd : (3 : Int) < (d : Int) := by omega
    have dd2 : ¬ (d : Int) < 8 := by omega
    go_wp2_with fail
    clear cd zd
    generalize w2.setCell ⟨g, d, none⟩ (.int .u8 v) = W3 at *
    refine (parse_no (row'.rdW Hl'.out (by omega) Hw'.out) hf ht HE.out (by decide)).mono ?_
    rintro ev w4 ⟨rfl, hb⟩
    replace hb := hb.trans ((alloc_below w4 (.cells (pkC zeroH none 0 0) 28)).mono hb.size)
    replace k' := k'.step hb
    replace pp' := pp'.step hb
    have pz := PkAt.new w4 28 zeroH none 0 0
    clear hb row'
    obtain ⟨y0, y1, y2, y3⟩ := pp'.cells
    rw [hbare.out] at y2
    go_wp2_with fail
    refine (whyIs_err 2 13 13 _).mono ?_
    rintro ev w6 ⟨rfl, hb⟩
    replace k' := k'.step hb
    replace pz := pz.step hb
    clear y0 y1 y2 y3
    clear hb
    obtain ⟨x0, x1, x2, x3⟩ := pz.cells
    go_wp2_with fail
    have sm := same_pk zeroH zeroH none none 0 0 0 0 [] [] w6 Rd.nil Rd.nil
    rw [smB_self] at sm
    refine sm.mono ?_
    rintro ev w5 ⟨rfl, hb⟩
    replace k' := k'.step hb
    clear x0 x1 x2 x3
    clear hb sm pz
    go_wp2
    go_ret
    exact ⟨rfl, k'.below⟩
end Go.Proofs.YtmgdfckhnjihpaaDoor
