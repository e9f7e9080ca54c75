/-
  The law UdpSpoilt: with one byte changed a datagram with a sum isn't parsed as it was; a bare one's ports and body are those that stand there.
-/
import Derived.Test.YtmgdfckhnjihpaaDoorLSpoiltK
import Derived.Test.YtmgdfckhnjihpaaDoorUWp
namespace Go.Proofs.YtmgdfckhnjihpaaDoor
open Go.RowKit
set_option linter.unusedVariables false


set_option maxRecDepth 100000 in
set_option maxHeartbeats 8000000 in
theorem spoilt_hi (h : Hd) (A : Option Addr) (n c : Nat) (xs : List Int) (f t : Int) (at_ : Int) (by_ : Int) (w : World) (hg : Laid w) (hk : h.ok) (hr : Rd .u8 w w.heap.size A n c xs) (hf : Ip f) (ht : Ip t) (hbb : (Lit.int .u8 by_).wf = true) (hn : n ≤ 1472) (m : Nat) (hm : m = 8 + n) (hbare : h.bare = true) (hhi : 8 ≤ at_) : Calls Tryd.prog 5 #[pkV h A n c, .int .u32 f, .int .u32 t, .int .i64 at_, .int .u8 by_] w fun e w' => e = .returned (.bool true) ∧ Below w.heap.size w w' := by
  have k := (Kn.start hg).alloc (.cells (pkC h A n c) 28)
  have r0 := hr.below (alloc_below w (.cells (pkC h A n c) 28)) (Nat.le_refl _)
  have pp := PkAt.new w 28 h A n c
  have hxl := hr.len
  have hwf0 := hr.2.2.2.1
  have HX := Lib.hid hxl
  have hb0 := u8_bd hbb
  have bys := Lib.hid (fun W (q : Rd .u8 W W.heap.size A n c xs) => bytes_ok h A n c xs f t W hk q hf ht hn)
  rw [← hm] at bys
  have hwf : Hid (∀ x ∈ byR h f t xs, (Lit.int .u8 x).wf = true) := Lib.hid (byR_wf hk hf ht hwf0 (by omega))
  have hl : Hid ((byR h f t xs).length = m) := Lib.hid (by rw [byR_len, hxl, hm])
  have sp : Hid (∀ d v, d < m → ¬ (3 < d ∧ d < 8) → (pE f t ((byR h f t xs).set d v)).2 = 0 ∧ hdOf ((byR h f t xs).set d v) = ⟨num2 ((byR h f t xs).set d v), num2 (((byR h f t xs).set d v).drop 2), true⟩ ∧ bodyOf ((byR h f t xs).set d v) = ((byR h f t xs).set d v).drop 8) := Lib.hid (fun d v h1 h2 => sp_bare (by omega) (by omega) h2 hbare)
  generalize byR h f t xs = zs at *
  have hm1 : 8 ≤ m := by omega
  have hm2 : m ≤ 1480 := by omega
  replace hbare := Lib.hid hbare
  have Hm := Lib.hid hm
  clear hr hk hbb hxl hwf0 hm
  go_enter Tryd.func5, Tryd.ntmps5
  go_wp2_with fail
  refine (alive_any _ k.laid).mono ?_
  rintro ev w1 ⟨rfl, hb⟩
  replace r0 := r0.below hb k.below.size
  replace k := k.step hb
  replace pp := pp.step hb
  clear hb
  obtain ⟨x0, x1, x2, x3⟩ := pp.cells
  go_wp2_with fail
  refine (bys.out _ (r0.more k.below.size)).mono ?_
  rintro ev w2 ⟨g, rfl, row, hgw, hb⟩
  have hgw' := Nat.le_trans k.below.size hgw
  have gne : ¬ w.heap.size = g := by
    have := pp.lt
    omega
  replace k := k.step hb
  replace pp := pp.step hb
  clear x0 x1 x2 x3
  clear hb hgw bys r0
  by_cases c0 : at_ < 0
  · go_wp2
    go_ret
    exact ⟨rfl, k.below⟩
  by_cases c1 : (m : Int) ≤ at_
  · go_wp2
    go_ret
    exact ⟨rfl, k.below⟩
  by_cases c2 : by_ = 0
  · subst c2
    go_wp2
    go_ret
    exact ⟨rfl, k.below⟩
  have c2b : (by_ == 0) = false := by simpa using c2
  obtain ⟨d, rfl⟩ := Int.eq_ofNat_of_zero_le (show 0 ≤ at_ by omega)
  have d1 : d < m := by omega
  have d2 : ¬ (3 < d ∧ d < 8) := by omega
  have d4 : ¬ (d : Int) < 0 := by omega
  have d5 : (d : Int) < (m : Int) := by omega
  have cd := row.cell (i := d) (by rw [hl.out]; omega)
  have zd := row.frozen d
  have hx0 : 0 ≤ zs.getD d 0 ∧ zs.getD d 0 ≤ 255 := by
    have : zs.getD d 0 = zs[d]'(by rw [hl.out]; omega) := by simp [List.getD, List.getElem?_eq_getElem (show d < zs.length by rw [hl.out]; omega)]
    rw [this]
    exact u8_bd (hwf.out _ (List.getElem_mem _))
  obtain ⟨x, hx⟩ : ∃ x, zs.getD d 0 = x := ⟨_, rfl⟩
  rw [hx] at hx0 cd
  obtain ⟨v, hv⟩ : ∃ v, (x + by_) % 256 = v := ⟨_, rfl⟩
  have hv0 : IntKind.u8.wrap (x + by_) = v := by rw [IntKind.wrap_u8]; exact hv
  have hv1 : 0 ≤ v ∧ v ≤ 255 := by omega
  obtain ⟨HE, HH, HBy⟩ := sp.out d v d1 d2
  replace HE := Lib.hid HE
  replace HH := Lib.hid HH
  replace HBy := Lib.hid HBy
  have row' := row.set d v
  have b3 : Below w.heap.size w2 (w2.setCell ⟨g, d, none⟩ (.int .u8 v)) := (Below.refl _ w2).setCell (p := ⟨g, d, none⟩) hgw' _
  have k' : Kn w (w2.setCell ⟨g, d, none⟩ (.int .u8 v)) := ⟨hg.below (k.below.trans b3), k.below.trans b3⟩
  have pp' : PkAt (w2.setCell ⟨g, d, none⟩ (.int .u8 v)) w.heap.size 28 h A n c := ((Only.setCell g d w2 (.int .u8 v)).other _ gne).trans pp
  have Hl' : Hid ((zs.set d v).length = m) := Lib.hid (by rw [List.length_set]; exact hl.out)
  have Hw' : Hid (∀ x ∈ zs.set d v, (Lit.int .u8 x).wf = true) := Lib.hid (fun x hx => by
    rcases List.mem_or_eq_of_mem_set hx with q | q
    · exact hwf.out x q
    · rw [q]; exact u8_mk hv1)
  have dcase : (d : Int) < 4 ∨ 8 ≤ (d : Int) := by omega
  clear k c0 c1 sp b3 row hx pp hwf hl
  obtain ⟨Z, hZ⟩ : ∃ Z, zs.set d v = Z := ⟨_, rfl⟩
  rw [hZ] at row' Hl' Hw' HE HH HBy
  obtain ⟨z0, hz0⟩ : ∃ a, Z.getD 0 0 = a := ⟨_, rfl⟩
  obtain ⟨z1, hz1⟩ : ∃ a, Z.getD 1 0 = a := ⟨_, rfl⟩
  obtain ⟨z2, hz2⟩ : ∃ a, Z.getD 2 0 = a := ⟨_, rfl⟩
  obtain ⟨z3, hz3⟩ : ∃ a, Z.getD 3 0 = a := ⟨_, rfl⟩
  have gb : ∀ i, i < m → 0 ≤ Z.getD i 0 ∧ Z.getD i 0 ≤ 255 := fun i hi => by
    have : Z.getD i 0 = Z[i]'(by rw [Hl'.out]; omega) := by simp [List.getD, List.getElem?_eq_getElem (show i < Z.length by rw [Hl'.out]; omega)]
    rw [this]
    exact u8_bd (Hw'.out _ (List.getElem_mem _))
  have w0 := gb 0 (by omega)
  have w1_ := gb 1 (by omega)
  have w2_ := gb 2 (by omega)
  have w3_ := gb 3 (by omega)
  rw [hz0] at w0
  rw [hz1] at w1_
  rw [hz2] at w2_
  rw [hz3] at w3_
  obtain ⟨p0, hp0⟩ : ∃ p, z0 * 256 + z1 = p := ⟨_, rfl⟩
  obtain ⟨p1, hp1⟩ : ∃ p, z2 * 256 + z3 = p := ⟨_, rfl⟩
  have H0 : Hid (hdOf Z = ⟨p0, p1, true⟩) := Lib.hid (by rw [HH.out]; exact hd_eq (by show num2 Z = p0; unfold num2; rw [hz0, hz1, hp0]) (by show num2 (Z.drop 2) = p1; unfold num2; rw [getD_drop, getD_drop, hz2, hz3, hp1]) rfl)
  have Hn : Hid ((Z.drop 8).length = n) := Lib.hid (by rw [List.length_drop, Hl'.out, Hm.out]; omega)
  have Hwd : Hid (∀ x ∈ Z.drop 8, (Lit.int .u8 x).wf = true) := Lib.hid (fun x q => Hw'.out x (List.mem_of_mem_drop q))
  have cells : Hid (∀ W, Row W g Z → W.cell? ⟨g, 0, none⟩ = some (.int .u8 z0) ∧ W.cell? ⟨g, 1, none⟩ = some (.int .u8 z1) ∧ W.cell? ⟨g, 2, none⟩ = some (.int .u8 z2) ∧ W.cell? ⟨g, 3, none⟩ = some (.int .u8 z3)) := Lib.hid (fun W q => by
    have l := Hl'.out
    have q0 := q.cell (i := 0) (by omega)
    have q1 := q.cell (i := 1) (by omega)
    have q2 := q.cell (i := 2) (by omega)
    have q3 := q.cell (i := 3) (by omega)
    rw [hz0] at q0
    rw [hz1] at q1
    rw [hz2] at q2
    rw [hz3] at q3
    exact ⟨q0, q1, q2, q3⟩)
  have py := Lib.hid (fun W (q : Rd .u8 W W.heap.size (some ⟨g, 0, none⟩) m m Z) => parse_yes q hf ht HE.out H0.out HBy.out Hn.out)
  have Hpc : Hid (∃ W4, W4 = w2.setCell ⟨g, d, none⟩ (.int .u8 v)) := Lib.hid ⟨_, rfl⟩
  clear hz0 hz1 hz2 hz3 gb HH H0 HE HBy hf ht Hpc
  have e0 : IntKind.i64.wrap z0 = z0 := by rw [IntKind.wrap_i64]; omega
  have e1 : IntKind.i64.wrap z1 = z1 := by rw [IntKind.wrap_i64]; omega
  have e2 : IntKind.i64.wrap z2 = z2 := by rw [IntKind.wrap_i64]; omega
  have e3 : IntKind.i64.wrap z3 = z3 := by rw [IntKind.wrap_i64]; omega
  have e4 : IntKind.i64.wrap (z0 * 256) = z0 * 256 := by rw [IntKind.wrap_i64]; omega
  have e5 : IntKind.i64.wrap (z2 * 256) = z2 * 256 := by rw [IntKind.wrap_i64]; omega
  have e6 : IntKind.i64.wrap p0 = p0 := by rw [IntKind.wrap_i64]; omega
  have e7 : IntKind.i64.wrap p1 = p1 := by rw [IntKind.wrap_i64]; omega
  have i0 : 0 < m := by omega
  have i1 : (1 : Int) < (m : Int) := by omega
  have i2 : (2 : Int) < (m : Int) := by omega
  have i3 : (3 : Int) < (m : Int) := by omega
  have j8 : (8 : Int) ≤ (m : Int) := by omega
  have dd : (3 : Int) < (d : Int) := by omega
  have dd2 : ¬ (d : Int) < 8 := by omega
  go_wp2_with fail
  clear cd zd
  rw [hZ] at *
  generalize w2.setCell ⟨g, d, none⟩ (.int .u8 v) = W3 at *
  refine (py.out _ (row'.rdW Hl'.out (by omega) Hw'.out)).mono ?_
  rintro ev w4 ⟨g1, rfl, r1, -, hb⟩
  have ba := alloc_below w4 (.cells (pkC ⟨p0, p1, true⟩ (some ⟨g1, 0, none⟩) n n) 28)
  have px := PkAt.new w4 28 ⟨p0, p1, true⟩ (some ⟨g1, 0, none⟩) n n
  replace hb := hb.trans (ba.mono hb.size)
  have q : KB w h A n c p0 p1 w4.heap.size g1 g Z (w4.alloc (.cells (pkC ⟨p0, p1, true⟩ (some ⟨g1, 0, none⟩) n n) 28)) := ⟨k'.step hb, pp'.step hb, px, r1.below ba r1.lt, row'.below hb row'.lt⟩
  clear hb ba px r1 row' k' pp' py
  obtain ⟨y0, y1, y2, y3⟩ := q.d.cells
  rw [hbare.out] at y2
  go_wp2_with fail
  clear y0 y1 y2 y3
  replace q := q.step (below_drew _)
  generalize w4.heap.size = gx at *
  refine wp_region_held_drew (S := fun w' => KB w h A n c p0 p1 gx g1 g Z w') (by kernel_rfl) q (fun hHeld => ?_)
  change wpAnyH _ _ _ _ _ _ _ _ (World.drew _)
  generalize World.drew _ = W7 at *
  refine wpAnyH_at (i := 0) (some 76) (v := ?v0z55) rfl rfl (by kernel_rfl) (by kernel_rfl) (by kernel_rfl) (fun _ _ _ h => h) (Or.inl ⟨by rfl, ?y0z55⟩) (by assumption) ?r0z55
  case y0z55 =>
    intro w9 hSw
    clear hSw
    go_simp
    all_goals with_reducible rfl
  simp only [Act.put, List.setIfInBounds_toArray, List.set_cons_zero, List.set_cons_succ]
  refine wpAnyH_at (i := 1) (some 77) (v := ?v1z56) rfl rfl (by kernel_rfl) (by kernel_rfl) (by kernel_rfl) (fun _ _ _ h => h) (Or.inl ⟨by rfl, ?y1z56⟩) (by assumption) ?r1z56
  case y1z56 =>
    intro w9 hSw
    clear hSw
    go_simp
    all_goals with_reducible rfl
  simp only [Act.put, List.setIfInBounds_toArray, List.set_cons_zero, List.set_cons_succ]
  refine wpAnyH_at (i := 2) (some 78) (v := ?v2z57) rfl rfl (by kernel_rfl) (by kernel_rfl) (by kernel_rfl) (fun _ _ _ h => h) (Or.inl ⟨by rfl, ?y2z57⟩) (by assumption) ?r2z57
  case y2z57 =>
    intro w9 hSw
    clear hSw
    go_simp
    all_goals with_reducible rfl
  simp only [Act.put, List.setIfInBounds_toArray, List.set_cons_zero, List.set_cons_succ]
  refine wpAnyH_at (i := 3) (some 79) (v := ?v3z58) rfl rfl (by kernel_rfl) (by kernel_rfl) (by kernel_rfl) (fun _ _ _ h => h) (Or.inl ⟨by rfl, ?y3z58⟩) (by assumption) ?r3z58
  case y3z58 =>
    intro w9 hSw
    clear hSw
    go_simp
    all_goals with_reducible rfl
  simp only [Act.put, List.setIfInBounds_toArray, List.set_cons_zero, List.set_cons_succ]
  refine wpAnyH_at (i := 4) (some 80) (v := ?v4z59) rfl rfl (by kernel_rfl) (by kernel_rfl) (by kernel_rfl) (fun _ _ _ h => h) (Or.inl ⟨by rfl, ?y4z59⟩) (by assumption) ?r4z59
  case y4z59 =>
    intro w9 hSw
    (obtain ⟨a0, a1, a2, a3⟩ := (show KB w h A n c p0 p1 gx g1 g Z w9 from hSw).x.cells); clear hSw
    go_simp
    all_goals with_reducible rfl
  simp only [Act.put, List.setIfInBounds_toArray, List.set_cons_zero, List.set_cons_succ]
  refine wpAnyH_at (i := 5) (some 81) (v := ?v5z60) rfl rfl (by kernel_rfl) (by kernel_rfl) (by kernel_rfl) (fun _ _ _ h => h) (Or.inl ⟨by rfl, ?y5z60⟩) (by assumption) ?r5z60
  case y5z60 =>
    intro w9 hSw
    clear hSw
    go_simp
    all_goals with_reducible rfl
  simp only [Act.put, List.setIfInBounds_toArray, List.set_cons_zero, List.set_cons_succ]
  refine wpAnyH_at (i := 6) (some 82) (v := ?v6z61) rfl rfl (by kernel_rfl) (by kernel_rfl) (by kernel_rfl) (fun _ _ _ h => h) (Or.inl ⟨by rfl, ?y6z61⟩) (by assumption) ?r6z61
  case y6z61 =>
    intro w9 hSw
    clear hSw
    go_simp
    all_goals with_reducible rfl
  simp only [Act.put, List.setIfInBounds_toArray, List.set_cons_zero, List.set_cons_succ]
  refine wpAnyH_at (i := 7) (some 83) (v := ?v7z62) rfl rfl (by kernel_rfl) (by kernel_rfl) (by kernel_rfl) (fun _ _ _ h => h) (Or.inl ⟨by rfl, ?y7z62⟩) (by assumption) ?r7z62
  case y7z62 =>
    intro w9 hSw
    clear hSw
    go_simp
    all_goals with_reducible rfl
  simp only [Act.put, List.setIfInBounds_toArray, List.set_cons_zero, List.set_cons_succ]
  refine wpAnyH_at (i := 8) (some 84) (v := ?v8z63) rfl rfl (by kernel_rfl) (by kernel_rfl) (by kernel_rfl) (fun _ _ _ h => h) (Or.inl ⟨by rfl, ?y8z63⟩) (by assumption) ?r8z63
  case y8z63 =>
    intro w9 hSw
    (obtain ⟨a0, a1, a2, a3⟩ := (show KB w h A n c p0 p1 gx g1 g Z w9 from hSw).x.cells); clear hSw
    go_simp
    all_goals with_reducible rfl
  simp only [Act.put, List.setIfInBounds_toArray, List.set_cons_zero, List.set_cons_succ]
  refine wpAnyH_at (i := 9) (some 85) (v := ?v9z64) rfl rfl (by kernel_rfl) (by kernel_rfl) (by kernel_rfl) (fun _ _ _ h => h) (Or.inl ⟨by rfl, ?y9z64⟩) (by assumption) ?r9z64
  case y9z64 =>
    intro w9 hSw
    clear hSw
    go_simp
    all_goals with_reducible rfl
  simp only [Act.put, List.setIfInBounds_toArray, List.set_cons_zero, List.set_cons_succ]
  refine wpAnyH_at (i := 10) (some 86) (v := ?v10z65) rfl rfl (by kernel_rfl) (by kernel_rfl) (by kernel_rfl) (fun _ _ _ h => h) (Or.inl ⟨by rfl, ?y10z65⟩) (by assumption) ?r10z65
  case y10z65 =>
    intro w9 hSw
    clear hSw
    go_simp
    all_goals with_reducible rfl
  simp only [Act.put, List.setIfInBounds_toArray, List.set_cons_zero, List.set_cons_succ]
  refine wpAnyH_at (i := 11) (some 87) (v := ?v11z66) rfl rfl (by kernel_rfl) (by kernel_rfl) (by kernel_rfl) (fun _ _ _ h => h) (Or.inl ⟨by rfl, ?y11z66⟩) (by assumption) ?r11z66
  case y11z66 =>
    intro w9 hSw
    (obtain ⟨a0, a1, a2, a3⟩ := (show KB w h A n c p0 p1 gx g1 g Z w9 from hSw).d.cells); clear hSw
    go_simp
    all_goals with_reducible rfl
  simp only [Act.put, List.setIfInBounds_toArray, List.set_cons_zero, List.set_cons_succ]
  refine wpAnyH_at (i := 12) (some 88) (v := ?v12z67) rfl rfl (by kernel_rfl) (by kernel_rfl) (by kernel_rfl) (fun _ _ _ h => h) (Or.inl ⟨by rfl, ?y12z67⟩) (by assumption) ?r12z67
  case y12z67 =>
    intro w9 hSw
    clear hSw
    go_simp
    all_goals with_reducible rfl
  simp only [Act.put, List.setIfInBounds_toArray, List.set_cons_zero, List.set_cons_succ]
  refine wpAnyH_at (i := 13) (some 89) (v := ?v13z68) rfl rfl (by kernel_rfl) (by kernel_rfl) (by kernel_rfl) (fun _ _ _ h => h) (Or.inl ⟨by rfl, ?y13z68⟩) (by assumption) ?r13z68
  case y13z68 =>
    intro w9 hSw
    clear hSw
    go_simp
    all_goals with_reducible rfl
  simp only [Act.put, List.setIfInBounds_toArray, List.set_cons_zero, List.set_cons_succ]
  refine wpAnyH_at (i := 14) (some 90) (v := ?v14z69) rfl rfl (by kernel_rfl) (by kernel_rfl) (by kernel_rfl) (fun _ _ _ h => h) (Or.inl ⟨by rfl, ?y14z69⟩) (by assumption) ?r14z69
  case y14z69 =>
    intro w9 hSw
    clear hSw
    go_simp
    all_goals with_reducible rfl
  simp only [Act.put, List.setIfInBounds_toArray, List.set_cons_zero, List.set_cons_succ]
  refine wpAnyH_at (i := 15) (some 91) (v := ?v15z70) rfl rfl (by kernel_rfl) (by kernel_rfl) (by kernel_rfl) (fun _ _ _ h => h) (Or.inl ⟨by rfl, ?y15z70⟩) (by assumption) ?r15z70
  case y15z70 =>
    intro w9 hSw
    clear hSw
    go_simp
    all_goals with_reducible rfl
  simp only [Act.put, List.setIfInBounds_toArray, List.set_cons_zero, List.set_cons_succ]
  refine wpAnyH_at (i := 16) (some 92) (v := ?v16z71) rfl rfl (by kernel_rfl) (by kernel_rfl) (by kernel_rfl) (fun _ _ _ h => h) (Or.inl ⟨by rfl, ?y16z71⟩) (by assumption) ?r16z71
  case y16z71 =>
    intro w9 hSw
    clear hSw
    go_simp
    all_goals with_reducible rfl
  simp only [Act.put, List.setIfInBounds_toArray, List.set_cons_zero, List.set_cons_succ]
  refine wpAnyH_at (i := 17) (some 93) (v := ?v17z72) rfl rfl (by kernel_rfl) (by kernel_rfl) (by kernel_rfl) (fun _ _ _ h => h) (Or.inl ⟨by rfl, ?y17z72⟩) (by assumption) ?r17z72
  case y17z72 =>
    intro w9 hSw
    (obtain ⟨a0, a1, a2, a3⟩ := (show KB w h A n c p0 p1 gx g1 g Z w9 from hSw).x.cells); clear hSw
    go_simp
    all_goals with_reducible rfl
  simp only [Act.put, List.setIfInBounds_toArray, List.set_cons_zero, List.set_cons_succ]
  refine wpAnyH_at (i := 18) (some 94) (v := ?v18z73) rfl rfl (by kernel_rfl) (by kernel_rfl) (by kernel_rfl) (fun _ _ _ h => h) (Or.inl ⟨by rfl, ?y18z73⟩) (by assumption) ?r18z73
  case y18z73 =>
    intro w9 hSw
    clear hSw
    go_simp
    all_goals with_reducible rfl
  simp only [Act.put, List.setIfInBounds_toArray, List.set_cons_zero, List.set_cons_succ]
  refine wpAnyH_at (i := 19) (some 95) (v := .slice (cutA (some ⟨g, 0, none⟩) m 8) (m - 8) (m - 8)) rfl rfl (by kernel_rfl) (by kernel_rfl) (by kernel_rfl) (fun _ _ _ h => h) (Or.inl ⟨by rfl, ?y19z74⟩) (by assumption) ?r19z74
  case y19z74 =>
    intro w9 hSw
    clear hSw
    by_cases hq : m = 8
    · rw [cutA_eq (A := (some ⟨g, 0, none⟩)) hq]
      subst hq
      go_simp
    · rw [cutA_ne (A := (some ⟨g, 0, none⟩)) hq]
      go_simp
  simp only [Act.put, List.setIfInBounds_toArray, List.set_cons_zero, List.set_cons_succ]
  refine wpAnyH_one (i := 20) (by kernel_rfl) rfl ?_
  go_wp2_with (go_at_call 14; refine (same_any _ _ _ _ _ _ (Z.drop 8) _ _ _ (q.r1.rdW (n := n) Hn.out (by omega) Hwd.out) ((q.b.rdW (n := m) Hl'.out (by omega) Hw'.out).cutFrom 8 (by omega))).mono ?_; rintro ev V1 ⟨rfl, hb⟩)
  replace q := q.step hb
  clear hb hHeld
  have hHeld := q
  refine ⟨hHeld, ?_⟩
  try simp only [Act.put, List.setIfInBounds_toArray, List.set_cons_zero, List.set_cons_succ]
  refine wpAnyH_at (i := 21) (some 97) (v := ?v21z75) rfl rfl (by kernel_rfl) (by kernel_rfl) (by kernel_rfl) (fun _ _ _ h => h) (Or.inl ⟨by rfl, ?y21z75⟩) (by assumption) ?r21z75
  case y21z75 =>
    intro w9 hSw
    clear hSw
    go_simp
    all_goals with_reducible rfl
  simp only [Act.put, List.setIfInBounds_toArray, List.set_cons_zero, List.set_cons_succ]
  refine wpAnyH_at (i := 22) (some 98) (v := ?v22z76) rfl rfl (by kernel_rfl) (by kernel_rfl) (by kernel_rfl) (fun _ _ _ h => h) (Or.inl ⟨by rfl, ?y22z76⟩) (by assumption) ?r22z76
  case y22z76 =>
    intro w9 hSw
    clear hSw
    go_simp
    all_goals with_reducible rfl
  simp only [Act.put, List.setIfInBounds_toArray, List.set_cons_zero, List.set_cons_succ]
  refine wpAnyH_at (i := 23) (some 99) (v := ?v23z77) rfl rfl (by kernel_rfl) (by kernel_rfl) (by kernel_rfl) (fun _ _ _ h => h) (Or.inl ⟨by rfl, ?y23z77⟩) (by assumption) ?r23z77
  case y23z77 =>
    intro w9 hSw
    clear hSw
    go_simp
    all_goals with_reducible rfl
  simp only [Act.put, List.setIfInBounds_toArray, List.set_cons_zero, List.set_cons_succ]
  refine wpAnyH_at (i := 24) (some 100) (v := ?v24z78) rfl rfl (by kernel_rfl) (by kernel_rfl) (by kernel_rfl) (fun _ _ _ h => h) (Or.inl ⟨by rfl, ?y24z78⟩) (by assumption) ?r24z78
  case y24z78 =>
    intro w9 hSw
    (obtain ⟨a0, a1, a2, a3⟩ := (show KB w h A n c p0 p1 gx g1 g Z w9 from hSw).x.cells); clear hSw
    go_simp
    all_goals with_reducible rfl
  simp only [Act.put, List.setIfInBounds_toArray, List.set_cons_zero, List.set_cons_succ]
  refine wpAnyH_at (i := 25) (some 101) (v := ?v25z79) rfl rfl (by kernel_rfl) (by kernel_rfl) (by kernel_rfl) (fun _ _ _ h => h) (Or.inl ⟨by rfl, ?y25z79⟩) (by assumption) ?r25z79
  case y25z79 =>
    intro w9 hSw
    clear hSw
    go_simp
    all_goals with_reducible rfl
  simp only [Act.put, List.setIfInBounds_toArray, List.set_cons_zero, List.set_cons_succ]
  refine wpAnyH_at (i := 26) (some 102) (v := ?v26z80) rfl rfl (by kernel_rfl) (by kernel_rfl) (by kernel_rfl) (fun _ _ _ h => h) (Or.inl ⟨by rfl, ?y26z80⟩) (by assumption) ?r26z80
  case y26z80 =>
    intro w9 hSw
    clear hSw
    go_simp
    all_goals with_reducible rfl
  simp only [Act.put, List.setIfInBounds_toArray, List.set_cons_zero, List.set_cons_succ]
  refine wpAnyH_at (i := 27) (some 103) (v := ?v27z81) rfl rfl (by kernel_rfl) (by kernel_rfl) (by kernel_rfl) (fun _ _ _ h => h) (Or.inl ⟨by rfl, ?y27z81⟩) (by assumption) ?r27z81
  case y27z81 =>
    intro w9 hSw
    clear hSw
    go_simp
    all_goals with_reducible rfl
  simp only [Act.put, List.setIfInBounds_toArray, List.set_cons_zero, List.set_cons_succ]
  refine wpAnyH_at (i := 28) (some 104) (v := ?v28z82) rfl rfl (by kernel_rfl) (by kernel_rfl) (by kernel_rfl) (fun _ _ _ h => h) (Or.inl ⟨by rfl, ?y28z82⟩) (by assumption) ?r28z82
  case y28z82 =>
    intro w9 hSw
    (obtain ⟨a0, a1, a2, a3⟩ := cells.out _ (show KB w h A n c p0 p1 gx g1 g Z w9 from hSw).b); clear hSw
    go_simp
    all_goals with_reducible rfl
  simp only [Act.put, List.setIfInBounds_toArray, List.set_cons_zero, List.set_cons_succ]
  refine wpAnyH_at (i := 29) (some 105) (v := ?v29z83) rfl rfl (by kernel_rfl) (by kernel_rfl) (by kernel_rfl) (fun _ _ _ h => h) (Or.inl ⟨by rfl, ?y29z83⟩) (by assumption) ?r29z83
  case y29z83 =>
    intro w9 hSw
    clear hSw
    go_simp
    all_goals with_reducible rfl
  simp only [Act.put, List.setIfInBounds_toArray, List.set_cons_zero, List.set_cons_succ]
  refine wpAnyH_at (i := 30) (some 106) (v := ?v30z84) rfl rfl (by kernel_rfl) (by kernel_rfl) (by kernel_rfl) (fun _ _ _ h => h) (Or.inl ⟨by rfl, ?y30z84⟩) (by assumption) ?r30z84
  case y30z84 =>
    intro w9 hSw
    clear hSw
    go_simp
    all_goals with_reducible rfl
  simp only [Act.put, List.setIfInBounds_toArray, List.set_cons_zero, List.set_cons_succ]
  refine wpAnyH_at (i := 31) (some 107) (v := ?v31z85) rfl rfl (by kernel_rfl) (by kernel_rfl) (by kernel_rfl) (fun _ _ _ h => h) (Or.inl ⟨by rfl, ?y31z85⟩) (by assumption) ?r31z85
  case y31z85 =>
    intro w9 hSw
    clear hSw
    go_simp
    all_goals with_reducible rfl
  simp only [Act.put, List.setIfInBounds_toArray, List.set_cons_zero, List.set_cons_succ]
  refine wpAnyH_at (i := 32) (some 108) (v := ?v32z86) rfl rfl (by kernel_rfl) (by kernel_rfl) (by kernel_rfl) (fun _ _ _ h => h) (Or.inl ⟨by rfl, ?y32z86⟩) (by assumption) ?r32z86
  case y32z86 =>
    intro w9 hSw
    clear hSw
    go_simp
    all_goals with_reducible rfl
  simp only [Act.put, List.setIfInBounds_toArray, List.set_cons_zero, List.set_cons_succ]
  refine wpAnyH_at (i := 33) (some 109) (v := ?v33z87) rfl rfl (by kernel_rfl) (by kernel_rfl) (by kernel_rfl) (fun _ _ _ h => h) (Or.inl ⟨by rfl, ?y33z87⟩) (by assumption) ?r33z87
  case y33z87 =>
    intro w9 hSw
    (obtain ⟨a0, a1, a2, a3⟩ := cells.out _ (show KB w h A n c p0 p1 gx g1 g Z w9 from hSw).b); clear hSw
    go_simp
    all_goals with_reducible rfl
  simp only [Act.put, List.setIfInBounds_toArray, List.set_cons_zero, List.set_cons_succ]
  refine wpAnyH_at (i := 34) (some 110) (v := ?v34z88) rfl rfl (by kernel_rfl) (by kernel_rfl) (by kernel_rfl) (fun _ _ _ h => h) (Or.inl ⟨by rfl, ?y34z88⟩) (by assumption) ?r34z88
  case y34z88 =>
    intro w9 hSw
    clear hSw
    go_simp
    all_goals with_reducible rfl
  simp only [Act.put, List.setIfInBounds_toArray, List.set_cons_zero, List.set_cons_succ]
  refine wpAnyH_at (i := 35) (some 111) (v := ?v35z89) rfl rfl (by kernel_rfl) (by kernel_rfl) (by kernel_rfl) (fun _ _ _ h => h) (Or.inl ⟨by rfl, ?y35z89⟩) (by assumption) ?r35z89
  case y35z89 =>
    intro w9 hSw
    clear hSw
    go_simp
    all_goals with_reducible rfl
  simp only [Act.put, List.setIfInBounds_toArray, List.set_cons_zero, List.set_cons_succ]
  refine wpAnyH_at (i := 36) (some 112) (v := ?v36z90) rfl rfl (by kernel_rfl) (by kernel_rfl) (by kernel_rfl) (fun _ _ _ h => h) (Or.inl ⟨by rfl, ?y36z90⟩) (by assumption) ?r36z90
  case y36z90 =>
    intro w9 hSw
    clear hSw
    go_simp
    all_goals with_reducible rfl
  simp only [Act.put, List.setIfInBounds_toArray, List.set_cons_zero, List.set_cons_succ]
  refine wpAnyH_at (i := 37) (some 113) (v := ?v37z91) rfl rfl (by kernel_rfl) (by kernel_rfl) (by kernel_rfl) (fun _ _ _ h => h) (Or.inl ⟨by rfl, ?y37z91⟩) (by assumption) ?r37z91
  case y37z91 =>
    intro w9 hSw
    clear hSw
    go_simp
    all_goals with_reducible rfl
  simp only [Act.put, List.setIfInBounds_toArray, List.set_cons_zero, List.set_cons_succ]
  refine wpAnyH_at (i := 38) (some 114) (v := ?v38z92) rfl rfl (by kernel_rfl) (by kernel_rfl) (by kernel_rfl) (fun _ _ _ h => h) (Or.inl ⟨by rfl, ?y38z92⟩) (by assumption) ?r38z92
  case y38z92 =>
    intro w9 hSw
    clear hSw
    go_simp
    all_goals with_reducible rfl
  simp only [Act.put, List.setIfInBounds_toArray, List.set_cons_zero, List.set_cons_succ]
  refine wpAnyH_at (i := 39) (some 115) (v := ?v39z93) rfl rfl (by kernel_rfl) (by kernel_rfl) (by kernel_rfl) (fun _ _ _ h => h) (Or.inl ⟨by rfl, ?y39z93⟩) (by assumption) ?r39z93
  case y39z93 =>
    intro w9 hSw
    clear hSw
    go_simp
    all_goals with_reducible rfl
  simp only [Act.put, List.setIfInBounds_toArray, List.set_cons_zero, List.set_cons_succ]
  refine wpAnyH_at (i := 40) (some 116) (v := ?v40z94) rfl rfl (by kernel_rfl) (by kernel_rfl) (by kernel_rfl) (fun _ _ _ h => h) (Or.inl ⟨by rfl, ?y40z94⟩) (by assumption) ?r40z94
  case y40z94 =>
    intro w9 hSw
    (obtain ⟨a0, a1, a2, a3⟩ := (show KB w h A n c p0 p1 gx g1 g Z w9 from hSw).x.cells); clear hSw
    go_simp
    all_goals with_reducible rfl
  simp only [Act.put, List.setIfInBounds_toArray, List.set_cons_zero, List.set_cons_succ]
  refine wpAnyH_at (i := 41) (some 117) (v := ?v41z95) rfl rfl (by kernel_rfl) (by kernel_rfl) (by kernel_rfl) (fun _ _ _ h => h) (Or.inl ⟨by rfl, ?y41z95⟩) (by assumption) ?r41z95
  case y41z95 =>
    intro w9 hSw
    clear hSw
    go_simp
    all_goals with_reducible rfl
  simp only [Act.put, List.setIfInBounds_toArray, List.set_cons_zero, List.set_cons_succ]
  refine wpAnyH_at (i := 42) (some 118) (v := ?v42z96) rfl rfl (by kernel_rfl) (by kernel_rfl) (by kernel_rfl) (fun _ _ _ h => h) (Or.inl ⟨by rfl, ?y42z96⟩) (by assumption) ?r42z96
  case y42z96 =>
    intro w9 hSw
    clear hSw
    go_simp
    all_goals with_reducible rfl
  simp only [Act.put, List.setIfInBounds_toArray, List.set_cons_zero, List.set_cons_succ]
  refine wpAnyH_at (i := 43) (some 119) (v := ?v43z97) rfl rfl (by kernel_rfl) (by kernel_rfl) (by kernel_rfl) (fun _ _ _ h => h) (Or.inl ⟨by rfl, ?y43z97⟩) (by assumption) ?r43z97
  case y43z97 =>
    intro w9 hSw
    clear hSw
    go_simp
    all_goals with_reducible rfl
  simp only [Act.put, List.setIfInBounds_toArray, List.set_cons_zero, List.set_cons_succ]
  refine wpAnyH_at (i := 44) (some 120) (v := ?v44z98) rfl rfl (by kernel_rfl) (by kernel_rfl) (by kernel_rfl) (fun _ _ _ h => h) (Or.inl ⟨by rfl, ?y44z98⟩) (by assumption) ?r44z98
  case y44z98 =>
    intro w9 hSw
    (obtain ⟨a0, a1, a2, a3⟩ := cells.out _ (show KB w h A n c p0 p1 gx g1 g Z w9 from hSw).b); clear hSw
    go_simp
    all_goals with_reducible rfl
  simp only [Act.put, List.setIfInBounds_toArray, List.set_cons_zero, List.set_cons_succ]
  refine wpAnyH_at (i := 45) (some 121) (v := ?v45z99) rfl rfl (by kernel_rfl) (by kernel_rfl) (by kernel_rfl) (fun _ _ _ h => h) (Or.inl ⟨by rfl, ?y45z99⟩) (by assumption) ?r45z99
  case y45z99 =>
    intro w9 hSw
    clear hSw
    go_simp
    all_goals with_reducible rfl
  simp only [Act.put, List.setIfInBounds_toArray, List.set_cons_zero, List.set_cons_succ]
  refine wpAnyH_at (i := 46) (some 122) (v := ?v46z100) rfl rfl (by kernel_rfl) (by kernel_rfl) (by kernel_rfl) (fun _ _ _ h => h) (Or.inl ⟨by rfl, ?y46z100⟩) (by assumption) ?r46z100
  case y46z100 =>
    intro w9 hSw
    clear hSw
    go_simp
    all_goals with_reducible rfl
  simp only [Act.put, List.setIfInBounds_toArray, List.set_cons_zero, List.set_cons_succ]
  refine wpAnyH_at (i := 47) (some 123) (v := ?v47z101) rfl rfl (by kernel_rfl) (by kernel_rfl) (by kernel_rfl) (fun _ _ _ h => h) (Or.inl ⟨by rfl, ?y47z101⟩) (by assumption) ?r47z101
  case y47z101 =>
    intro w9 hSw
    clear hSw
    go_simp
    all_goals with_reducible rfl
  simp only [Act.put, List.setIfInBounds_toArray, List.set_cons_zero, List.set_cons_succ]
  refine wpAnyH_at (i := 48) (some 124) (v := ?v48z102) rfl rfl (by kernel_rfl) (by kernel_rfl) (by kernel_rfl) (fun _ _ _ h => h) (Or.inl ⟨by rfl, ?y48z102⟩) (by assumption) ?r48z102
  case y48z102 =>
    intro w9 hSw
    clear hSw
    go_simp
    all_goals with_reducible rfl
  simp only [Act.put, List.setIfInBounds_toArray, List.set_cons_zero, List.set_cons_succ]
  refine wpAnyH_at (i := 49) (some 125) (v := ?v49z103) rfl rfl (by kernel_rfl) (by kernel_rfl) (by kernel_rfl) (fun _ _ _ h => h) (Or.inl ⟨by rfl, ?y49z103⟩) (by assumption) ?r49z103
  case y49z103 =>
    intro w9 hSw
    (obtain ⟨a0, a1, a2, a3⟩ := cells.out _ (show KB w h A n c p0 p1 gx g1 g Z w9 from hSw).b); clear hSw
    go_simp
    all_goals with_reducible rfl
  simp only [Act.put, List.setIfInBounds_toArray, List.set_cons_zero, List.set_cons_succ]
  refine wpAnyH_at (i := 50) (some 126) (v := ?v50z104) rfl rfl (by kernel_rfl) (by kernel_rfl) (by kernel_rfl) (fun _ _ _ h => h) (Or.inl ⟨by rfl, ?y50z104⟩) (by assumption) ?r50z104
  case y50z104 =>
    intro w9 hSw
    clear hSw
    go_simp
    all_goals with_reducible rfl
  simp only [Act.put, List.setIfInBounds_toArray, List.set_cons_zero, List.set_cons_succ]
  refine wpAnyH_at (i := 51) (some 127) (v := ?v51z105) rfl rfl (by kernel_rfl) (by kernel_rfl) (by kernel_rfl) (fun _ _ _ h => h) (Or.inl ⟨by rfl, ?y51z105⟩) (by assumption) ?r51z105
  case y51z105 =>
    intro w9 hSw
    clear hSw
    go_simp
    all_goals with_reducible rfl
  simp only [Act.put, List.setIfInBounds_toArray, List.set_cons_zero, List.set_cons_succ]
  refine wpAnyH_at (i := 52) (some 128) (v := ?v52z106) rfl rfl (by kernel_rfl) (by kernel_rfl) (by kernel_rfl) (fun _ _ _ h => h) (Or.inl ⟨by rfl, ?y52z106⟩) (by assumption) ?r52z106
  case y52z106 =>
    intro w9 hSw
    clear hSw
    go_simp
    all_goals with_reducible rfl
  simp only [Act.put, List.setIfInBounds_toArray, List.set_cons_zero, List.set_cons_succ]
  refine wpAnyH_at (i := 53) (some 129) (v := ?v53z107) rfl rfl (by kernel_rfl) (by kernel_rfl) (by kernel_rfl) (fun _ _ _ h => h) (Or.inl ⟨by rfl, ?y53z107⟩) (by assumption) ?r53z107
  case y53z107 =>
    intro w9 hSw
    clear hSw
    go_simp
    all_goals with_reducible rfl
  simp only [Act.put, List.setIfInBounds_toArray, List.set_cons_zero, List.set_cons_succ]
  refine wpAnyH_at (i := 54) (some 10) (v := ?v54z108) rfl rfl (by kernel_rfl) (by kernel_rfl) (by kernel_rfl) (fun _ _ _ h => h) (Or.inl ⟨by rfl, ?y54z108⟩) (by assumption) ?r54z108
  case y54z108 =>
    intro w9 hSw
    clear hSw
    go_simp
    all_goals with_reducible rfl
  simp only [Act.put, List.setIfInBounds_toArray, List.set_cons_zero, List.set_cons_succ]
  refine wpAnyH_done (by kernel_rfl) ?_ _
  clear hHeld
  go_wp2
  go_ret
  exact ⟨rfl, q.kn.below⟩
end Go.Proofs.YtmgdfckhnjihpaaDoor
