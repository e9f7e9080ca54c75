/-
  The law IcmpParses, all of it.
-/
import Derived.Test.YtbefoapnlehdmaaDoorLParses0
namespace Go.Proofs.YtbefoapnlehdmaaDoor
open Go.RowKit
set_option linter.unusedVariables false

set_option maxRecDepth 100000 in
set_option maxHeartbeats 4000000 in
theorem parses_zero (b o n c : Nat) (xs : List Int) (w : World) (hg : Laid w) (hr : Rd .u8 w w.heap.size (some ⟨b, o, none⟩) n c xs) (hn : n ≤ 3000) (hE : (mE xs).2 = 0) (hz : ¬ mR (mOf xs) (xs.drop 8) = xs) (hT : totV ((mR (mOf xs) (xs.drop 8)).take 2 ++ (mR (mOf xs) (xs.drop 8)).drop 4) = 0) : Calls Tryd.prog 3 #[.slice (some ⟨b, o, none⟩) n c] w fun e w' => e = .returned (.bool true) ∧ Below w.heap.size w w' := by
  have n1 : ¬ (3000 : Int) < (n : Int) := by omega
  have k0 := Kn.start hg
  have hcap := hr.cap
  have hmax := hr.max
  obtain ⟨h8, h1480, -, -⟩ := mE_ok hE
  have hl := hr.len
  rw [hl] at h8 h1480
  have hk := mOf_ok hr h8
  obtain ⟨m, hm⟩ : ∃ m, n - 8 = m := ⟨_, rfl⟩
  have hwx := hr.2.2.2.1
  have hwy : ∀ x ∈ xs.drop 8, (Lit.int .u8 x).wf = true := fun x q => hwx x (List.mem_of_mem_drop q)
  have ep := list_parts (xs := xs) (by omega)
  have Z0 : Hid (∀ W A n c (q : Rd .u8 W W.heap.size A n c xs) (h8 : 8 ≤ n), True) := Lib.hid (fun _ _ _ _ _ _ => trivial)
  have hm8 : (8 : Int) + (m : Int) = (n : Int) := by omega
  have Hzl : Hid ((mR (mOf xs) (xs.drop 8)).length = n) := Lib.hid (by rw [mR_len, List.length_drop]; omega)
  have Hzw : Hid (∀ x ∈ mR (mOf xs) (xs.drop 8), (Lit.int .u8 x).wf = true) := Lib.hid (mR_wf hk hwy)
  have Hz0 : Hid ((mR (mOf xs) (xs.drop 8)).getD 0 0 = xs.getD 0 0 ∧ (mR (mOf xs) (xs.drop 8)).getD 1 0 = xs.getD 1 0) := Lib.hid ⟨rfl, rfl⟩
  have Hz4 : Hid ((mR (mOf xs) (xs.drop 8)).drop 4 = xs.drop 4) := Lib.hid (by
    have := congrArg (List.drop 4) ep
    rw [this]
    rfl)
  have c11 := Lib.hid (fun W A c (q : Rd .u8 W W.heap.size A n c xs) => mparse_yes q hE rfl rfl hm)
  have c12 := Lib.hid (fun W A c (q : Rd .u8 W W.heap.size A n c xs) => refMParse_yes q hE rfl rfl)
  have cB := Lib.hid (fun A c W (q : Rd .u8 W W.heap.size A m c (xs.drop 8)) => mbytes_near (mOf xs) A m c n (xs.drop 8) W hk q (by omega) hm8)
  have Hyl : Hid ((xs.drop 8).length = m) := Lib.hid (by rw [List.length_drop]; omega)
  have Hyw := Lib.hid hwy
  have Hxw := Lib.hid hwx
  have hm1 : m ≤ 1472 := by omega
  have Hs : Hid (bEq (mR (mOf xs) (xs.drop 8)) xs = false) := Lib.hid (by simp [bEq, hz])
  have HT := Lib.hid hT
  clear hz hT
  have i0 : 0 < n := by omega
  have i1 : (1 : Int) < (n : Int) := by omega
  have j2 : (2 : Int) ≤ (n : Int) := by omega
  have j4 : (4 : Int) ≤ (n : Int) := by omega
  have j4c : (4 : Int) ≤ (c : Int) := by omega
  have k4 : ¬ n = 4 := by omega
  have k4c : ¬ c = 4 := by omega
  clear hE hm hm8 hwx hwy ep Z0 hl hk
  generalize mOf xs = h at *
  generalize hys : xs.drop 8 = ys at *
  clear hys
  generalize mR h ys = zs at *
  go_enter Tryd.func3, Tryd.ntmps3
  go_wp2_with fail
  refine (alive_any _ hg).mono ?_
  rintro ev w1 ⟨rfl, hb⟩
  have r0 := hr.below hb (Nat.le_refl _)
  replace k0 := k0.step hb
  clear hr hb
  go_wp2_with fail
  refine (own_any (some ⟨b, o, none⟩) n c w.heap.size xs _ r0 k0.below.size (by omega)).mono ?_
  rintro ev w2 ⟨A2, n2, c2, rfl, o2, hb⟩
  obtain rfl : n = n2 := r0.len.symm.trans o2.len
  have k : KO w (some ⟨b, o, none⟩) n c A2 n c2 xs w2.heap.size w2 := ⟨k0.step hb, r0.below hb k0.below.size, o2.rd, Nat.le_refl _⟩
  have hw2 := k.kn.below.size
  clear hb r0 k0 o2
  go_wp2_with fail
  refine (c11.out _ _ _ k.own').mono ?_
  rintro ev w3 ⟨g1, rfl, row1, gb1, hb⟩
  have ba := alloc_below w3 (.cells (msC h (some ⟨g1, 0, none⟩) m m) 27)
  replace hb := hb.trans (ba.mono hb.size)
  have sp : Sp w3.heap.size h (some ⟨g1, 0, none⟩) m ys (w3.alloc (.cells (msC h (some ⟨g1, 0, none⟩) m m) 27)) := Sp.new (row1.rdW Hyl.out (by omega) Hyw.out)
  replace k := k.step hb
  clear hb ba row1 gb1
  go_wp2_with fail
  refine (c12.out _ _ _ k.rd').mono ?_
  rintro ev w4 ⟨hb, D1, nd1, cd1, rfl, od1⟩
  have ba : Below w4.heap.size w4 ((w4.alloc (.cells (msC h D1 nd1 cd1) 32)).alloc (.cells (flC none 0 0 0) 36)) := (alloc_below w4 _).alloc (by simp) _
  replace hb := hb.trans (ba.mono hb.size)
  have sq : Sq w4.heap.size (w4.heap.size + 1) h D1 nd1 cd1 ys none 0 0 0 [] ((w4.alloc (.cells (msC h D1 nd1 cd1) 32)).alloc (.cells (flC none 0 0 0) 36)) := Sq.new od1.rd Rd.nil
  replace k := k.step hb
  replace sp := sp.step hb
  clear hb ba od1 c11 c12
  generalize hgp : w3.heap.size = gp at *
  go_wp2_with fail
  replace k := k.step (below_drew _)
  replace sp := sp.step (below_drew _)
  replace sq := sq.step (below_drew _)
  generalize hgf : w4.heap.size + 1 = gf at *
  generalize w4.heap.size = gq at *
  refine wp_region_held_drew (S := fun w' => (KO w (some ⟨b, o, none⟩) n c A2 n c2 xs w2.heap.size w' ∧ Sp gp h (some ⟨g1, 0, none⟩) m ys w' ∧ Sq gq gf h D1 nd1 cd1 ys none 0 0 0 [] w')) (by kernel_rfl) ⟨k, sp, sq⟩ (fun hHeld => ?_)
  clear hHeld
  change wpAnyH _ _ _ _ _ _ _ _ (World.drew _)
  generalize World.drew _ = W7 at *
  have hHeld := And.intro k (And.intro sp sq)
  refine wpAnyH_at (i := 0) (some 27) (v := ?v0z68) rfl rfl (by kernel_rfl) (by kernel_rfl) (by kernel_rfl) (fun _ _ _ h => h) (Or.inl ⟨by rfl, ?y0z68⟩) (by assumption) ?r0z68
  case y0z68 =>
    intro w9 hSw
    clear hSw
    go_simp
    all_goals with_reducible rfl
  simp only [Act.put, List.setIfInBounds_toArray, List.set_cons_zero, List.set_cons_succ]
  refine wpAnyH_at (i := 1) (some 28) (v := ?v1z69) rfl rfl (by kernel_rfl) (by kernel_rfl) (by kernel_rfl) (fun _ _ _ h => h) (Or.inl ⟨by rfl, ?y1z69⟩) (by assumption) ?r1z69
  case y1z69 =>
    intro w9 hSw
    (obtain ⟨a0, a1⟩ := (show (KO w (some ⟨b, o, none⟩) n c A2 n c2 xs w2.heap.size w9 ∧ Sp gp h (some ⟨g1, 0, none⟩) m ys w9 ∧ Sq gq gf h D1 nd1 cd1 ys none 0 0 0 [] w9) from hSw).2.2.fault); clear hSw
    go_simp
    all_goals with_reducible rfl
  simp only [Act.put, List.setIfInBounds_toArray, List.set_cons_zero, List.set_cons_succ]
  refine wpAnyH_one (i := 2) (by kernel_rfl) rfl ?_
  go_wp2_with (go_at_call 12; refine (is_nil none 0 0 _).mono ?_; rintro ev V1 ⟨rfl, hb⟩)
  replace k := k.step hb
  replace sp := sp.step hb
  replace sq := sq.step hb
  clear hb hHeld
  have hHeld := And.intro k (And.intro sp sq)
  refine ⟨hHeld, ?_⟩
  try simp only [Act.put, List.setIfInBounds_toArray, List.set_cons_zero, List.set_cons_succ]
  refine wpAnyH_at (i := 3) (some 30) (v := ?v3z70) rfl rfl (by kernel_rfl) (by kernel_rfl) (by kernel_rfl) (fun _ _ _ h => h) (Or.inl ⟨by rfl, ?y3z70⟩) (by assumption) ?r3z70
  case y3z70 =>
    intro w9 hSw
    clear hSw
    go_simp
    all_goals with_reducible rfl
  simp only [Act.put, List.setIfInBounds_toArray, List.set_cons_zero, List.set_cons_succ]
  refine wpAnyH_at (i := 4) (some 31) (v := ?v4z71) rfl rfl (by kernel_rfl) (by kernel_rfl) (by kernel_rfl) (fun _ _ _ h => h) (Or.inl ⟨by rfl, ?y4z71⟩) (by assumption) ?r4z71
  case y4z71 =>
    intro w9 hSw
    clear hSw
    go_simp
    all_goals with_reducible rfl
  simp only [Act.put, List.setIfInBounds_toArray, List.set_cons_zero, List.set_cons_succ]
  refine wpAnyH_at (i := 5) (some 32) (v := ?v5z72) rfl rfl (by kernel_rfl) (by kernel_rfl) (by kernel_rfl) (fun _ _ _ h => h) (Or.inl ⟨by rfl, ?y5z72⟩) (by assumption) ?r5z72
  case y5z72 =>
    intro w9 hSw
    (obtain ⟨a0, a1, a2, a3, a4, a5, a6⟩ := (show (KO w (some ⟨b, o, none⟩) n c A2 n c2 xs w2.heap.size w9 ∧ Sp gp h (some ⟨g1, 0, none⟩) m ys w9 ∧ Sq gq gf h D1 nd1 cd1 ys none 0 0 0 [] w9) from hSw).2.1.p.cells); clear hSw
    go_simp
    all_goals with_reducible rfl
  simp only [Act.put, List.setIfInBounds_toArray, List.set_cons_zero, List.set_cons_succ]
  refine wpAnyH_at (i := 7) (some 34) (v := ?v7z73) rfl rfl (by kernel_rfl) (by kernel_rfl) (by kernel_rfl) (fun _ _ _ h => h) (Or.inl ⟨by rfl, ?y7z73⟩) (by assumption) ?r7z73
  case y7z73 =>
    intro w9 hSw
    (obtain ⟨a0, a1, a2, a3, a4, a5, a6⟩ := (show (KO w (some ⟨b, o, none⟩) n c A2 n c2 xs w2.heap.size w9 ∧ Sp gp h (some ⟨g1, 0, none⟩) m ys w9 ∧ Sq gq gf h D1 nd1 cd1 ys none 0 0 0 [] w9) from hSw).2.2.q.cells); clear hSw
    go_simp
    all_goals with_reducible rfl
  simp only [Act.put, List.setIfInBounds_toArray, List.set_cons_zero, List.set_cons_succ]
  refine wpAnyH_one (i := 6) (by kernel_rfl) rfl ?_
  go_wp2_with (go_at_call 14; refine (of_ms h (some ⟨g1, 0, none⟩) m m ys _ sp.r (by omega)).mono ?_; rintro ev V2 ⟨A3, n3, c3, rfl, o3, hb⟩)
  replace k := k.step hb
  replace sp := sp.step hb
  replace sq := sq.step hb
  clear hb hHeld
  have hHeld := And.intro k (And.intro sp sq)
  refine ⟨hHeld, ?_⟩
  try simp only [Act.put, List.setIfInBounds_toArray, List.set_cons_zero, List.set_cons_succ]
  refine wpAnyH_one (i := 8) (by kernel_rfl) rfl ?_
  have s8 := refSame_ms h h _ _ _ _ _ _ ys ys _ o3.rd sq.r
  rw [mmB_self] at s8
  go_wp2_with (go_at_call 13; refine (s8).mono ?_; rintro ev V3 ⟨rfl, hb⟩)
  replace k := k.step hb
  replace sp := sp.step hb
  replace sq := sq.step hb
  clear s8 o3
  clear hb hHeld
  have hHeld := And.intro k (And.intro sp sq)
  refine ⟨hHeld, ?_⟩
  try simp only [Act.put, List.setIfInBounds_toArray, List.set_cons_zero, List.set_cons_succ]
  refine wpAnyH_at (i := 9) (some 36) (v := ?v9z74) rfl rfl (by kernel_rfl) (by kernel_rfl) (by kernel_rfl) (fun _ _ _ h => h) (Or.inl ⟨by rfl, ?y9z74⟩) (by assumption) ?r9z74
  case y9z74 =>
    intro w9 hSw
    clear hSw
    go_simp
    all_goals with_reducible rfl
  simp only [Act.put, List.setIfInBounds_toArray, List.set_cons_zero, List.set_cons_succ]
  refine wpAnyH_at (i := 10) (some 37) (v := ?v10z75) rfl rfl (by kernel_rfl) (by kernel_rfl) (by kernel_rfl) (fun _ _ _ h => h) (Or.inl ⟨by rfl, ?y10z75⟩) (by assumption) ?r10z75
  case y10z75 =>
    intro w9 hSw
    clear hSw
    go_simp
    all_goals with_reducible rfl
  simp only [Act.put, List.setIfInBounds_toArray, List.set_cons_zero, List.set_cons_succ]
  refine wpAnyH_at (i := 11) (some 38) (v := ?v11z76) rfl rfl (by kernel_rfl) (by kernel_rfl) (by kernel_rfl) (fun _ _ _ h => h) (Or.inl ⟨by rfl, ?y11z76⟩) (by assumption) ?r11z76
  case y11z76 =>
    intro w9 hSw
    clear hSw
    go_simp
    all_goals with_reducible rfl
  simp only [Act.put, List.setIfInBounds_toArray, List.set_cons_zero, List.set_cons_succ]
  refine wpAnyH_at (i := 12) (some 39) (v := ?v12z77) rfl rfl (by kernel_rfl) (by kernel_rfl) (by kernel_rfl) (fun _ _ _ h => h) (Or.inl ⟨by rfl, ?y12z77⟩) (by assumption) ?r12z77
  case y12z77 =>
    intro w9 hSw
    clear hSw
    go_simp
    all_goals with_reducible rfl
  simp only [Act.put, List.setIfInBounds_toArray, List.set_cons_zero, List.set_cons_succ]
  refine wpAnyH_at (i := 13) (some 40) (v := ?v13z78) rfl rfl (by kernel_rfl) (by kernel_rfl) (by kernel_rfl) (fun _ _ _ h => h) (Or.inl ⟨by rfl, ?y13z78⟩) (by assumption) ?r13z78
  case y13z78 =>
    intro w9 hSw
    clear hSw
    go_simp
    all_goals with_reducible rfl
  simp only [Act.put, List.setIfInBounds_toArray, List.set_cons_zero, List.set_cons_succ]
  refine wpAnyH_one (i := 14) (by kernel_rfl) rfl ?_
  go_wp2_with (go_at_call 15; refine (same_any _ _ _ _ _ _ xs _ _ _ k.own' k.rd').mono ?_; rintro ev V4 ⟨rfl, hb⟩)
  replace k := k.step hb
  replace sp := sp.step hb
  replace sq := sq.step hb
  clear hb hHeld
  have hHeld := And.intro k (And.intro sp sq)
  refine ⟨hHeld, ?_⟩
  try simp only [Act.put, List.setIfInBounds_toArray, List.set_cons_zero, List.set_cons_succ]
  refine wpAnyH_at (i := 15) (some 42) (v := ?v15z79) rfl rfl (by kernel_rfl) (by kernel_rfl) (by kernel_rfl) (fun _ _ _ h => h) (Or.inl ⟨by rfl, ?y15z79⟩) (by assumption) ?r15z79
  case y15z79 =>
    intro w9 hSw
    clear hSw
    go_simp
    all_goals with_reducible rfl
  simp only [Act.put, List.setIfInBounds_toArray, List.set_cons_zero, List.set_cons_succ]
  refine wpAnyH_at (i := 16) (some 43) (v := ?v16z80) rfl rfl (by kernel_rfl) (by kernel_rfl) (by kernel_rfl) (fun _ _ _ h => h) (Or.inl ⟨by rfl, ?y16z80⟩) (by assumption) ?r16z80
  case y16z80 =>
    intro w9 hSw
    clear hSw
    go_simp
    all_goals with_reducible rfl
  simp only [Act.put, List.setIfInBounds_toArray, List.set_cons_zero, List.set_cons_succ]
  refine wpAnyH_done (by kernel_rfl) ?_ _
  clear hHeld sq
  obtain ⟨a0, a1, a2, a3, a4, a5, a6⟩ := sp.p.cells
  go_wp2_with fail
  refine (cB.out _ _ _ sp.r).mono ?_
  rintro ev w8 ⟨gC, rfl, rowC, -, hb⟩
  replace k := k.step hb
  clear hb cB sp a0 a1 a2 a3 a4 a5 a6
  go_wp2_with fail
  replace k := k.step (below_drew _)
  replace rowC := rowC.below (below_drew _) rowC.lt
  refine wp_region_held_drew (S := fun w' => (KO w (some ⟨b, o, none⟩) n c A2 n c2 xs w2.heap.size w' ∧ Row w' gC zs)) (by kernel_rfl) ⟨k, rowC⟩ (fun hHeld => ?_)
  clear hHeld
  change wpAnyH _ _ _ _ _ _ _ _ (World.drew _)
  generalize World.drew _ = U0 at *
  have hHeld := And.intro k rowC
  have cc : ∀ W, Row W gC zs → W.cell? ⟨gC, 0, none⟩ = some (.int .u8 (xs.getD 0 0)) ∧ W.cell? ⟨gC, 1, none⟩ = some (.int .u8 (xs.getD 1 0)) := fun W r => by
    have q0 := r.cell (i := 0) (by rw [Hzl.out]; omega)
    have q1 := r.cell (i := 1) (by rw [Hzl.out]; omega)
    rw [Hz0.out.1] at q0
    rw [Hz0.out.2] at q1
    exact ⟨q0, q1⟩
  have cb : ∀ W, Rd .u8 W w.heap.size (some ⟨b, o, none⟩) n c xs → W.cell? ⟨b, o, none⟩ = some (.int .u8 (xs.getD 0 0)) ∧ W.cell? ⟨b, o + 1, none⟩ = some (.int .u8 (xs.getD 1 0)) := fun W r => ⟨r.cellAt (i := 0) (by omega), r.cellAt (i := 1) (by omega)⟩
  generalize xs.getD 0 0 = x0 at *
  generalize xs.getD 1 0 = x1 at *
  refine wpAnyH_at (i := 0) (some 51) (v := ?v0z81) rfl rfl (by kernel_rfl) (by kernel_rfl) (by kernel_rfl) (fun _ _ _ h => h) (Or.inl ⟨by rfl, ?y0z81⟩) (by assumption) ?r0z81
  case y0z81 =>
    intro w9 hSw
    clear hSw
    go_simp
    all_goals with_reducible rfl
  simp only [Act.put, List.setIfInBounds_toArray, List.set_cons_zero, List.set_cons_succ]
  refine wpAnyH_at (i := 1) (some 52) (v := ?v1z82) rfl rfl (by kernel_rfl) (by kernel_rfl) (by kernel_rfl) (fun _ _ _ h => h) (Or.inl ⟨by rfl, ?y1z82⟩) (by assumption) ?r1z82
  case y1z82 =>
    intro w9 hSw
    clear hSw
    go_simp
    all_goals with_reducible rfl
  simp only [Act.put, List.setIfInBounds_toArray, List.set_cons_zero, List.set_cons_succ]
  refine wpAnyH_at (i := 2) (some 53) (v := ?v2z83) rfl rfl (by kernel_rfl) (by kernel_rfl) (by kernel_rfl) (fun _ _ _ h => h) (Or.inl ⟨by rfl, ?y2z83⟩) (by assumption) ?r2z83
  case y2z83 =>
    intro w9 hSw
    clear hSw
    go_simp
    all_goals with_reducible rfl
  simp only [Act.put, List.setIfInBounds_toArray, List.set_cons_zero, List.set_cons_succ]
  refine wpAnyH_at (i := 3) (some 54) (v := ?v3z84) rfl rfl (by kernel_rfl) (by kernel_rfl) (by kernel_rfl) (fun _ _ _ h => h) (Or.inl ⟨by rfl, ?y3z84⟩) (by assumption) ?r3z84
  case y3z84 =>
    intro w9 hSw
    clear hSw
    go_simp
    all_goals with_reducible rfl
  simp only [Act.put, List.setIfInBounds_toArray, List.set_cons_zero, List.set_cons_succ]
  refine wpAnyH_at (i := 4) (some 55) (v := ?v4z85) rfl rfl (by kernel_rfl) (by kernel_rfl) (by kernel_rfl) (fun _ _ _ h => h) (Or.inl ⟨by rfl, ?y4z85⟩) (by assumption) ?r4z85
  case y4z85 =>
    intro w9 hSw
    clear hSw
    go_simp
    all_goals with_reducible rfl
  simp only [Act.put, List.setIfInBounds_toArray, List.set_cons_zero, List.set_cons_succ]
  refine wpAnyH_at (i := 5) (some 56) (v := ?v5z86) rfl rfl (by kernel_rfl) (by kernel_rfl) (by kernel_rfl) (fun _ _ _ h => h) (Or.inl ⟨by rfl, ?y5z86⟩) (by assumption) ?r5z86
  case y5z86 =>
    intro w9 hSw
    clear hSw
    go_simp
    all_goals with_reducible rfl
  simp only [Act.put, List.setIfInBounds_toArray, List.set_cons_zero, List.set_cons_succ]
  refine wpAnyH_at (i := 6) (some 57) (v := ?v6z87) rfl rfl (by kernel_rfl) (by kernel_rfl) (by kernel_rfl) (fun _ _ _ h => h) (Or.inl ⟨by rfl, ?y6z87⟩) (by assumption) ?r6z87
  case y6z87 =>
    intro w9 hSw
    clear hSw
    go_simp
    all_goals with_reducible rfl
  simp only [Act.put, List.setIfInBounds_toArray, List.set_cons_zero, List.set_cons_succ]
  refine wpAnyH_at (i := 7) (some 58) (v := ?v7z88) rfl rfl (by kernel_rfl) (by kernel_rfl) (by kernel_rfl) (fun _ _ _ h => h) (Or.inl ⟨by rfl, ?y7z88⟩) (by assumption) ?r7z88
  case y7z88 =>
    intro w9 hSw
    clear hSw
    go_simp
    all_goals with_reducible rfl
  simp only [Act.put, List.setIfInBounds_toArray, List.set_cons_zero, List.set_cons_succ]
  refine wpAnyH_at (i := 8) (some 59) (v := ?v8z89) rfl rfl (by kernel_rfl) (by kernel_rfl) (by kernel_rfl) (fun _ _ _ h => h) (Or.inl ⟨by rfl, ?y8z89⟩) (by assumption) ?r8z89
  case y8z89 =>
    intro w9 hSw
    clear hSw
    go_simp
    all_goals with_reducible rfl
  simp only [Act.put, List.setIfInBounds_toArray, List.set_cons_zero, List.set_cons_succ]
  refine wpAnyH_at (i := 9) (some 60) (v := ?v9z90) rfl rfl (by kernel_rfl) (by kernel_rfl) (by kernel_rfl) (fun _ _ _ h => h) (Or.inl ⟨by rfl, ?y9z90⟩) (by assumption) ?r9z90
  case y9z90 =>
    intro w9 hSw
    clear hSw
    go_simp
    all_goals with_reducible rfl
  simp only [Act.put, List.setIfInBounds_toArray, List.set_cons_zero, List.set_cons_succ]
  refine wpAnyH_at (i := 10) (some 61) (v := ?v10z91) rfl rfl (by kernel_rfl) (by kernel_rfl) (by kernel_rfl) (fun _ _ _ h => h) (Or.inl ⟨by rfl, ?y10z91⟩) (by assumption) ?r10z91
  case y10z91 =>
    intro w9 hSw
    clear hSw
    go_simp
    all_goals with_reducible rfl
  simp only [Act.put, List.setIfInBounds_toArray, List.set_cons_zero, List.set_cons_succ]
  refine wpAnyH_at (i := 11) (some 62) (v := ?v11z92) rfl rfl (by kernel_rfl) (by kernel_rfl) (by kernel_rfl) (fun _ _ _ h => h) (Or.inl ⟨by rfl, ?y11z92⟩) (by assumption) ?r11z92
  case y11z92 =>
    intro w9 hSw
    clear hSw
    go_simp
    all_goals with_reducible rfl
  simp only [Act.put, List.setIfInBounds_toArray, List.set_cons_zero, List.set_cons_succ]
  refine wpAnyH_at (i := 12) (some 63) (v := ?v12z93) rfl rfl (by kernel_rfl) (by kernel_rfl) (by kernel_rfl) (fun _ _ _ h => h) (Or.inl ⟨by rfl, ?y12z93⟩) (by assumption) ?r12z93
  case y12z93 =>
    intro w9 hSw
    clear hSw
    go_simp
    all_goals with_reducible rfl
  simp only [Act.put, List.setIfInBounds_toArray, List.set_cons_zero, List.set_cons_succ]
  refine wpAnyH_at (i := 13) (some 64) (v := ?v13z94) rfl rfl (by kernel_rfl) (by kernel_rfl) (by kernel_rfl) (fun _ _ _ h => h) (Or.inl ⟨by rfl, ?y13z94⟩) (by assumption) ?r13z94
  case y13z94 =>
    intro w9 hSw
    clear hSw
    go_simp
    all_goals with_reducible rfl
  simp only [Act.put, List.setIfInBounds_toArray, List.set_cons_zero, List.set_cons_succ]
  refine wpAnyH_one (i := 14) (by kernel_rfl) rfl ?_
  have s14 := same_any _ _ _ _ _ _ (xs.drop 4) _ _ U0 (show Rd .u8 U0 U0.heap.size (some ⟨gC, 4, none⟩) (n - 4) (n - 4) (xs.drop 4) by have q := (rowC.rdW Hzl.out (by omega) Hzw.out).cutS 4 (by omega) k4; rw [Hz4.out] at q; simpa using q) (k.rd'.cutS 4 (by omega) k4c)
  go_wp2_with (go_at_call 15; refine (s14).mono ?_; rintro ev U1 ⟨rfl, hb⟩)
  replace k := k.step hb
  replace rowC := rowC.below hb rowC.lt
  clear s14
  clear hb hHeld
  have hHeld := And.intro k rowC
  refine ⟨hHeld, ?_⟩
  try simp only [Act.put, List.setIfInBounds_toArray, List.set_cons_zero, List.set_cons_succ]
  refine wpAnyH_at (i := 15) (some 66) (v := ?v15z95) rfl rfl (by kernel_rfl) (by kernel_rfl) (by kernel_rfl) (fun _ _ _ h => h) (Or.inl ⟨by rfl, ?y15z95⟩) (by assumption) ?r15z95
  case y15z95 =>
    intro w9 hSw
    clear hSw
    go_simp
    all_goals with_reducible rfl
  simp only [Act.put, List.setIfInBounds_toArray, List.set_cons_zero, List.set_cons_succ]
  refine wpAnyH_at (i := 16) (some 67) (v := ?v16z96) rfl rfl (by kernel_rfl) (by kernel_rfl) (by kernel_rfl) (fun _ _ _ h => h) (Or.inl ⟨by rfl, ?y16z96⟩) (by assumption) ?r16z96
  case y16z96 =>
    intro w9 hSw
    clear hSw
    go_simp
    all_goals with_reducible rfl
  simp only [Act.put, List.setIfInBounds_toArray, List.set_cons_zero, List.set_cons_succ]
  refine wpAnyH_at (i := 17) (some 68) (v := ?v17z97) rfl rfl (by kernel_rfl) (by kernel_rfl) (by kernel_rfl) (fun _ _ _ h => h) (Or.inl ⟨by rfl, ?y17z97⟩) (by assumption) ?r17z97
  case y17z97 =>
    intro w9 hSw
    clear hSw
    go_simp
    all_goals with_reducible rfl
  simp only [Act.put, List.setIfInBounds_toArray, List.set_cons_zero, List.set_cons_succ]
  refine wpAnyH_at (i := 18) (some 69) (v := ?v18z98) rfl rfl (by kernel_rfl) (by kernel_rfl) (by kernel_rfl) (fun _ _ _ h => h) (Or.inl ⟨by rfl, ?y18z98⟩) (by assumption) ?r18z98
  case y18z98 =>
    intro w9 hSw
    clear hSw
    go_simp
    all_goals with_reducible rfl
  simp only [Act.put, List.setIfInBounds_toArray, List.set_cons_zero, List.set_cons_succ]
  refine wpAnyH_at (i := 19) (some 70) (v := ?v19z99) rfl rfl (by kernel_rfl) (by kernel_rfl) (by kernel_rfl) (fun _ _ _ h => h) (Or.inl ⟨by rfl, ?y19z99⟩) (by assumption) ?r19z99
  case y19z99 =>
    intro w9 hSw
    clear hSw
    go_simp
    all_goals with_reducible rfl
  simp only [Act.put, List.setIfInBounds_toArray, List.set_cons_zero, List.set_cons_succ]
  refine wpAnyH_at (i := 20) (some 71) (v := ?v20z100) rfl rfl (by kernel_rfl) (by kernel_rfl) (by kernel_rfl) (fun _ _ _ h => h) (Or.inl ⟨by rfl, ?y20z100⟩) (by assumption) ?r20z100
  case y20z100 =>
    intro w9 hSw
    (obtain ⟨q0, q1⟩ := cc _ (show (KO w (some ⟨b, o, none⟩) n c A2 n c2 xs w2.heap.size w9 ∧ Row w9 gC zs) from hSw).2); clear hSw
    go_simp
    all_goals with_reducible rfl
  simp only [Act.put, List.setIfInBounds_toArray, List.set_cons_zero, List.set_cons_succ]
  refine wpAnyH_at (i := 21) (some 72) (v := ?v21z101) rfl rfl (by kernel_rfl) (by kernel_rfl) (by kernel_rfl) (fun _ _ _ h => h) (Or.inl ⟨by rfl, ?y21z101⟩) (by assumption) ?r21z101
  case y21z101 =>
    intro w9 hSw
    clear hSw
    go_simp
    all_goals with_reducible rfl
  simp only [Act.put, List.setIfInBounds_toArray, List.set_cons_zero, List.set_cons_succ]
  refine wpAnyH_at (i := 22) (some 73) (v := ?v22z102) rfl rfl (by kernel_rfl) (by kernel_rfl) (by kernel_rfl) (fun _ _ _ h => h) (Or.inl ⟨by rfl, ?y22z102⟩) (by assumption) ?r22z102
  case y22z102 =>
    intro w9 hSw
    clear hSw
    go_simp
    all_goals with_reducible rfl
  simp only [Act.put, List.setIfInBounds_toArray, List.set_cons_zero, List.set_cons_succ]
  refine wpAnyH_at (i := 23) (some 74) (v := ?v23z103) rfl rfl (by kernel_rfl) (by kernel_rfl) (by kernel_rfl) (fun _ _ _ h => h) (Or.inl ⟨by rfl, ?y23z103⟩) (by assumption) ?r23z103
  case y23z103 =>
    intro w9 hSw
    (obtain ⟨q0, q1⟩ := cb _ (KO.rd (show (KO w (some ⟨b, o, none⟩) n c A2 n c2 xs w2.heap.size w9 ∧ Row w9 gC zs) from hSw).1)); clear hSw
    go_simp
    all_goals with_reducible rfl
  simp only [Act.put, List.setIfInBounds_toArray, List.set_cons_zero, List.set_cons_succ]
  refine wpAnyH_at (i := 24) (some 75) (v := ?v24z104) rfl rfl (by kernel_rfl) (by kernel_rfl) (by kernel_rfl) (fun _ _ _ h => h) (Or.inl ⟨by rfl, ?y24z104⟩) (by assumption) ?r24z104
  case y24z104 =>
    intro w9 hSw
    clear hSw
    go_simp
    all_goals with_reducible rfl
  simp only [Act.put, List.setIfInBounds_toArray, List.set_cons_zero, List.set_cons_succ]
  refine wpAnyH_at (i := 25) (some 76) (v := ?v25z105) rfl rfl (by kernel_rfl) (by kernel_rfl) (by kernel_rfl) (fun _ _ _ h => h) (Or.inl ⟨by rfl, ?y25z105⟩) (by assumption) ?r25z105
  case y25z105 =>
    intro w9 hSw
    clear hSw
    go_simp
    all_goals with_reducible rfl
  simp only [Act.put, List.setIfInBounds_toArray, List.set_cons_zero, List.set_cons_succ]
  refine wpAnyH_at (i := 26) (some 77) (v := ?v26z106) rfl rfl (by kernel_rfl) (by kernel_rfl) (by kernel_rfl) (fun _ _ _ h => h) (Or.inl ⟨by rfl, ?y26z106⟩) (by assumption) ?r26z106
  case y26z106 =>
    intro w9 hSw
    clear hSw
    go_simp
    all_goals with_reducible rfl
  simp only [Act.put, List.setIfInBounds_toArray, List.set_cons_zero, List.set_cons_succ]
  refine wpAnyH_at (i := 27) (some 78) (v := ?v27z107) rfl rfl (by kernel_rfl) (by kernel_rfl) (by kernel_rfl) (fun _ _ _ h => h) (Or.inl ⟨by rfl, ?y27z107⟩) (by assumption) ?r27z107
  case y27z107 =>
    intro w9 hSw
    clear hSw
    go_simp
    all_goals with_reducible rfl
  simp only [Act.put, List.setIfInBounds_toArray, List.set_cons_zero, List.set_cons_succ]
  refine wpAnyH_at (i := 28) (some 79) (v := ?v28z108) rfl rfl (by kernel_rfl) (by kernel_rfl) (by kernel_rfl) (fun _ _ _ h => h) (Or.inl ⟨by rfl, ?y28z108⟩) (by assumption) ?r28z108
  case y28z108 =>
    intro w9 hSw
    clear hSw
    go_simp
    all_goals with_reducible rfl
  simp only [Act.put, List.setIfInBounds_toArray, List.set_cons_zero, List.set_cons_succ]
  refine wpAnyH_at (i := 29) (some 80) (v := ?v29z109) rfl rfl (by kernel_rfl) (by kernel_rfl) (by kernel_rfl) (fun _ _ _ h => h) (Or.inl ⟨by rfl, ?y29z109⟩) (by assumption) ?r29z109
  case y29z109 =>
    intro w9 hSw
    (obtain ⟨q0, q1⟩ := cc _ (show (KO w (some ⟨b, o, none⟩) n c A2 n c2 xs w2.heap.size w9 ∧ Row w9 gC zs) from hSw).2); clear hSw
    go_simp
    all_goals with_reducible rfl
  simp only [Act.put, List.setIfInBounds_toArray, List.set_cons_zero, List.set_cons_succ]
  refine wpAnyH_at (i := 30) (some 81) (v := ?v30z110) rfl rfl (by kernel_rfl) (by kernel_rfl) (by kernel_rfl) (fun _ _ _ h => h) (Or.inl ⟨by rfl, ?y30z110⟩) (by assumption) ?r30z110
  case y30z110 =>
    intro w9 hSw
    clear hSw
    go_simp
    all_goals with_reducible rfl
  simp only [Act.put, List.setIfInBounds_toArray, List.set_cons_zero, List.set_cons_succ]
  refine wpAnyH_at (i := 31) (some 82) (v := ?v31z111) rfl rfl (by kernel_rfl) (by kernel_rfl) (by kernel_rfl) (fun _ _ _ h => h) (Or.inl ⟨by rfl, ?y31z111⟩) (by assumption) ?r31z111
  case y31z111 =>
    intro w9 hSw
    clear hSw
    go_simp
    all_goals with_reducible rfl
  simp only [Act.put, List.setIfInBounds_toArray, List.set_cons_zero, List.set_cons_succ]
  refine wpAnyH_at (i := 32) (some 83) (v := ?v32z112) rfl rfl (by kernel_rfl) (by kernel_rfl) (by kernel_rfl) (fun _ _ _ h => h) (Or.inl ⟨by rfl, ?y32z112⟩) (by assumption) ?r32z112
  case y32z112 =>
    intro w9 hSw
    (obtain ⟨q0, q1⟩ := cb _ (KO.rd (show (KO w (some ⟨b, o, none⟩) n c A2 n c2 xs w2.heap.size w9 ∧ Row w9 gC zs) from hSw).1)); clear hSw
    go_simp
    all_goals with_reducible rfl
  simp only [Act.put, List.setIfInBounds_toArray, List.set_cons_zero, List.set_cons_succ]
  refine wpAnyH_at (i := 33) (some 84) (v := ?v33z113) rfl rfl (by kernel_rfl) (by kernel_rfl) (by kernel_rfl) (fun _ _ _ h => h) (Or.inl ⟨by rfl, ?y33z113⟩) (by assumption) ?r33z113
  case y33z113 =>
    intro w9 hSw
    clear hSw
    go_simp
    all_goals with_reducible rfl
  simp only [Act.put, List.setIfInBounds_toArray, List.set_cons_zero, List.set_cons_succ]
  refine wpAnyH_at (i := 34) (some 85) (v := ?v34z114) rfl rfl (by kernel_rfl) (by kernel_rfl) (by kernel_rfl) (fun _ _ _ h => h) (Or.inl ⟨by rfl, ?y34z114⟩) (by assumption) ?r34z114
  case y34z114 =>
    intro w9 hSw
    clear hSw
    go_simp
    all_goals with_reducible rfl
  simp only [Act.put, List.setIfInBounds_toArray, List.set_cons_zero, List.set_cons_succ]
  refine wpAnyH_done (by kernel_rfl) ?_ _
  clear hHeld cc cb
  go_wp2_with fail
  replace k := k.step (below_drew _)
  replace rowC := rowC.below (below_drew _) rowC.lt
  refine wp_region_held_drew (S := fun w' => (KO w (some ⟨b, o, none⟩) n c A2 n c2 xs w2.heap.size w' ∧ Row w' gC zs)) (by kernel_rfl) ⟨k, rowC⟩ (fun hHeld => ?_)
  clear hHeld
  change wpAnyH _ _ _ _ _ _ _ _ (World.drew _)
  generalize World.drew _ = U2 at *
  have hHeld := And.intro k rowC
  refine wpAnyH_at (i := 0) (some 86) (v := ?v0z115) rfl rfl (by kernel_rfl) (by kernel_rfl) (by kernel_rfl) (fun _ _ _ h => h) (Or.inl ⟨by rfl, ?y0z115⟩) (by assumption) ?r0z115
  case y0z115 =>
    intro w9 hSw
    clear hSw
    go_simp
    all_goals with_reducible rfl
  simp only [Act.put, List.setIfInBounds_toArray, List.set_cons_zero, List.set_cons_succ]
  refine wpAnyH_at (i := 1) (some 87) (v := ?v1z116) rfl rfl (by kernel_rfl) (by kernel_rfl) (by kernel_rfl) (fun _ _ _ h => h) (Or.inl ⟨by rfl, ?y1z116⟩) (by assumption) ?r1z116
  case y1z116 =>
    intro w9 hSw
    clear hSw
    go_simp
    all_goals with_reducible rfl
  simp only [Act.put, List.setIfInBounds_toArray, List.set_cons_zero, List.set_cons_succ]
  refine wpAnyH_one (i := 2) (by kernel_rfl) rfl ?_
  have s2 := same_gen _ _ _ _ _ _ zs xs _ _ U2 (rowC.rdW Hzl.out (by omega) Hzw.out) k.rd'
  rw [Hs.out] at s2
  go_wp2_with (go_at_call 15; refine (s2).mono ?_; rintro ev U3 ⟨rfl, hb⟩)
  replace k := k.step hb
  replace rowC := rowC.below hb rowC.lt
  clear s2
  clear hb hHeld
  have hHeld := And.intro k rowC
  refine ⟨hHeld, ?_⟩
  try simp only [Act.put, List.setIfInBounds_toArray, List.set_cons_zero, List.set_cons_succ]
  refine wpAnyH_at (i := 3) (some 89) (v := ?v3z117) rfl rfl (by kernel_rfl) (by kernel_rfl) (by kernel_rfl) (fun _ _ _ h => h) (Or.inl ⟨by rfl, ?y3z117⟩) (by assumption) ?r3z117
  case y3z117 =>
    intro w9 hSw
    clear hSw
    go_simp
    all_goals with_reducible rfl
  simp only [Act.put, List.setIfInBounds_toArray, List.set_cons_zero, List.set_cons_succ]
  refine wpAnyH_at (i := 4) (some 90) (v := ?v4z118) rfl rfl (by kernel_rfl) (by kernel_rfl) (by kernel_rfl) (fun _ _ _ h => h) (Or.inl ⟨by rfl, ?y4z118⟩) (by assumption) ?r4z118
  case y4z118 =>
    intro w9 hSw
    clear hSw
    go_simp
    all_goals with_reducible rfl
  simp only [Act.put, List.setIfInBounds_toArray, List.set_cons_zero, List.set_cons_succ]
  refine wpAnyH_at (i := 5) (some 91) (v := ?v5z119) rfl rfl (by kernel_rfl) (by kernel_rfl) (by kernel_rfl) (fun _ _ _ h => h) (Or.inl ⟨by rfl, ?y5z119⟩) (by assumption) ?r5z119
  case y5z119 =>
    intro w9 hSw
    clear hSw
    go_simp
    all_goals with_reducible rfl
  simp only [Act.put, List.setIfInBounds_toArray, List.set_cons_zero, List.set_cons_succ]
  refine wpAnyH_at (i := 6) (some 92) (v := ?v6z120) rfl rfl (by kernel_rfl) (by kernel_rfl) (by kernel_rfl) (fun _ _ _ h => h) (Or.inl ⟨by rfl, ?y6z120⟩) (by assumption) ?r6z120
  case y6z120 =>
    intro w9 hSw
    clear hSw
    go_simp
    all_goals with_reducible rfl
  simp only [Act.put, List.setIfInBounds_toArray, List.set_cons_zero, List.set_cons_succ]
  refine wpAnyH_at (i := 7) (some 93) (v := ?v7z121) rfl rfl (by kernel_rfl) (by kernel_rfl) (by kernel_rfl) (fun _ _ _ h => h) (Or.inl ⟨by rfl, ?y7z121⟩) (by assumption) ?r7z121
  case y7z121 =>
    intro w9 hSw
    clear hSw
    go_simp
    all_goals with_reducible rfl
  simp only [Act.put, List.setIfInBounds_toArray, List.set_cons_zero, List.set_cons_succ]
  refine wpAnyH_one (i := 8) (by kernel_rfl) rfl ?_
  have t9 := total_two ((rowC.rdW Hzl.out (by omega) Hzw.out).cutTo 2 (by omega)) (show Rd .u8 U3 U3.heap.size (some ⟨gC, 4, none⟩) (n - 4) (n - 4) (zs.drop 4) by simpa using (rowC.rdW Hzl.out (by omega) Hzw.out).cutS 4 (by omega) k4)
  rw [HT.out] at t9
  have kk := k.step (alloc_below U3 (.cells #[.slice (some ⟨gC, 0, none⟩) 2 n, .slice (some ⟨gC, 4, none⟩) (n - 4) (n - 4)] 22))
  have rr := rowC.below (alloc_below U3 (.cells #[.slice (some ⟨gC, 0, none⟩) 2 n, .slice (some ⟨gC, 4, none⟩) (n - 4) (n - 4)] 22)) rowC.lt
  go_wp2
  clear hHeld
  refine ⟨⟨kk, rr⟩, ?_⟩
  have hHeld := And.intro kk rr
  refine wpAnyH_one (i := 9) (by kernel_rfl) rfl ?_
  go_wp2_with (go_at_call 17; refine (t9).mono ?_; rintro ev U4 ⟨rfl, hb⟩)
  replace k := k.step hb
  replace rowC := rowC.below hb rowC.lt
  clear hb hHeld t9 kk rr
  have hHeld := And.intro k rowC
  refine ⟨hHeld, ?_⟩
  try simp only [Act.put, List.setIfInBounds_toArray, List.set_cons_zero, List.set_cons_succ]
  refine wpAnyH_at (i := 10) (some 96) (v := ?v10z122) rfl rfl (by kernel_rfl) (by kernel_rfl) (by kernel_rfl) (fun _ _ _ h => h) (Or.inl ⟨by rfl, ?y10z122⟩) (by assumption) ?r10z122
  case y10z122 =>
    intro w9 hSw
    clear hSw
    go_simp
    all_goals with_reducible rfl
  simp only [Act.put, List.setIfInBounds_toArray, List.set_cons_zero, List.set_cons_succ]
  refine wpAnyH_at (i := 11) (some 97) (v := ?v11z123) rfl rfl (by kernel_rfl) (by kernel_rfl) (by kernel_rfl) (fun _ _ _ h => h) (Or.inl ⟨by rfl, ?y11z123⟩) (by assumption) ?r11z123
  case y11z123 =>
    intro w9 hSw
    clear hSw
    go_simp
    all_goals with_reducible rfl
  simp only [Act.put, List.setIfInBounds_toArray, List.set_cons_zero, List.set_cons_succ]
  refine wpAnyH_at (i := 12) (some 98) (v := ?v12z124) rfl rfl (by kernel_rfl) (by kernel_rfl) (by kernel_rfl) (fun _ _ _ h => h) (Or.inl ⟨by rfl, ?y12z124⟩) (by assumption) ?r12z124
  case y12z124 =>
    intro w9 hSw
    clear hSw
    go_simp
    all_goals with_reducible rfl
  simp only [Act.put, List.setIfInBounds_toArray, List.set_cons_zero, List.set_cons_succ]
  refine wpAnyH_at (i := 13) (some 99) (v := undef) rfl rfl (by kernel_rfl) (by kernel_rfl) (by kernel_rfl) (fun _ _ _ h => h) (Or.inr ⟨by rfl, rfl⟩) (by assumption) ?_
  simp only [Act.put, List.setIfInBounds_toArray, List.set_cons_zero, List.set_cons_succ]
  refine wpAnyH_at (i := 14) (some 100) (v := undef) rfl rfl (by kernel_rfl) (by kernel_rfl) (by kernel_rfl) (fun _ _ _ h => h) (Or.inr ⟨by rfl, rfl⟩) (by assumption) ?_
  simp only [Act.put, List.setIfInBounds_toArray, List.set_cons_zero, List.set_cons_succ]
  refine wpAnyH_at (i := 15) (some 101) (v := undef) rfl rfl (by kernel_rfl) (by kernel_rfl) (by kernel_rfl) (fun _ _ _ h => h) (Or.inr ⟨by rfl, rfl⟩) (by assumption) ?_
  simp only [Act.put, List.setIfInBounds_toArray, List.set_cons_zero, List.set_cons_succ]
  refine wpAnyH_at (i := 16) (some 102) (v := undef) rfl rfl (by kernel_rfl) (by kernel_rfl) (by kernel_rfl) (fun _ _ _ h => h) (Or.inr ⟨by rfl, rfl⟩) (by assumption) ?_
  simp only [Act.put, List.setIfInBounds_toArray, List.set_cons_zero, List.set_cons_succ]
  refine wpAnyH_at (i := 17) (some 103) (v := undef) rfl rfl (by kernel_rfl) (by kernel_rfl) (by kernel_rfl) (fun _ _ _ h => h) (Or.inr ⟨by rfl, rfl⟩) (by assumption) ?_
  simp only [Act.put, List.setIfInBounds_toArray, List.set_cons_zero, List.set_cons_succ]
  refine wpAnyH_at (i := 18) (some 104) (v := undef) rfl rfl (by kernel_rfl) (by kernel_rfl) (by kernel_rfl) (fun _ _ _ h => h) (Or.inr ⟨by rfl, rfl⟩) (by assumption) ?_
  simp only [Act.put, List.setIfInBounds_toArray, List.set_cons_zero, List.set_cons_succ]
  refine wpAnyH_at (i := 19) (some 105) (v := undef) rfl rfl (by kernel_rfl) (by kernel_rfl) (by kernel_rfl) (fun _ _ _ h => h) (Or.inr ⟨by rfl, rfl⟩) (by assumption) ?_
  simp only [Act.put, List.setIfInBounds_toArray, List.set_cons_zero, List.set_cons_succ]
  refine wpAnyH_at (i := 20) (some 106) (v := ?v20z125) rfl rfl (by kernel_rfl) (by kernel_rfl) (by kernel_rfl) (fun _ _ _ h => h) (Or.inl ⟨by rfl, ?y20z125⟩) (by assumption) ?r20z125
  case y20z125 =>
    intro w9 hSw
    clear hSw
    go_simp
    all_goals with_reducible rfl
  simp only [Act.put, List.setIfInBounds_toArray, List.set_cons_zero, List.set_cons_succ]
  refine wpAnyH_at (i := 21) (some 2) (v := ?v21z126) rfl rfl (by kernel_rfl) (by kernel_rfl) (by kernel_rfl) (fun _ _ _ h => h) (Or.inl ⟨by rfl, ?y21z126⟩) (by assumption) ?r21z126
  case y21z126 =>
    intro w9 hSw
    clear hSw
    go_simp
    all_goals with_reducible rfl
  simp only [Act.put, List.setIfInBounds_toArray, List.set_cons_zero, List.set_cons_succ]
  refine wpAnyH_done (by kernel_rfl) ?_ _
  go_wp2
  go_ret
  exact ⟨rfl, k.kn.below⟩

set_option maxRecDepth 100000 in
set_option maxHeartbeats 4000000 in
theorem parses_full (b o n c : Nat) (xs : List Int) (w : World) (hg : Laid w) (hr : Rd .u8 w w.heap.size (some ⟨b, o, none⟩) n c xs) (hn : n ≤ 3000) (hE : (mE xs).2 = 0) (hz : ¬ mR (mOf xs) (xs.drop 8) = xs) (hT : totV ((mR (mOf xs) (xs.drop 8)).take 2 ++ (mR (mOf xs) (xs.drop 8)).drop 4) = 65535) : Calls Tryd.prog 3 #[.slice (some ⟨b, o, none⟩) n c] w fun e w' => e = .returned (.bool true) ∧ Below w.heap.size w w' := by
  have n1 : ¬ (3000 : Int) < (n : Int) := by omega
  have k0 := Kn.start hg
  have hcap := hr.cap
  have hmax := hr.max
  obtain ⟨h8, h1480, -, -⟩ := mE_ok hE
  have hl := hr.len
  rw [hl] at h8 h1480
  have hk := mOf_ok hr h8
  obtain ⟨m, hm⟩ : ∃ m, n - 8 = m := ⟨_, rfl⟩
  have hwx := hr.2.2.2.1
  have hwy : ∀ x ∈ xs.drop 8, (Lit.int .u8 x).wf = true := fun x q => hwx x (List.mem_of_mem_drop q)
  have ep := list_parts (xs := xs) (by omega)
  have Z0 : Hid (∀ W A n c (q : Rd .u8 W W.heap.size A n c xs) (h8 : 8 ≤ n), True) := Lib.hid (fun _ _ _ _ _ _ => trivial)
  have hm8 : (8 : Int) + (m : Int) = (n : Int) := by omega
  have Hzl : Hid ((mR (mOf xs) (xs.drop 8)).length = n) := Lib.hid (by rw [mR_len, List.length_drop]; omega)
  have Hzw : Hid (∀ x ∈ mR (mOf xs) (xs.drop 8), (Lit.int .u8 x).wf = true) := Lib.hid (mR_wf hk hwy)
  have Hz0 : Hid ((mR (mOf xs) (xs.drop 8)).getD 0 0 = xs.getD 0 0 ∧ (mR (mOf xs) (xs.drop 8)).getD 1 0 = xs.getD 1 0) := Lib.hid ⟨rfl, rfl⟩
  have Hz4 : Hid ((mR (mOf xs) (xs.drop 8)).drop 4 = xs.drop 4) := Lib.hid (by
    have := congrArg (List.drop 4) ep
    rw [this]
    rfl)
  have c11 := Lib.hid (fun W A c (q : Rd .u8 W W.heap.size A n c xs) => mparse_yes q hE rfl rfl hm)
  have c12 := Lib.hid (fun W A c (q : Rd .u8 W W.heap.size A n c xs) => refMParse_yes q hE rfl rfl)
  have cB := Lib.hid (fun A c W (q : Rd .u8 W W.heap.size A m c (xs.drop 8)) => mbytes_near (mOf xs) A m c n (xs.drop 8) W hk q (by omega) hm8)
  have Hyl : Hid ((xs.drop 8).length = m) := Lib.hid (by rw [List.length_drop]; omega)
  have Hyw := Lib.hid hwy
  have Hxw := Lib.hid hwx
  have hm1 : m ≤ 1472 := by omega
  have Hs : Hid (bEq (mR (mOf xs) (xs.drop 8)) xs = false) := Lib.hid (by simp [bEq, hz])
  have HT := Lib.hid hT
  clear hz hT
  have i0 : 0 < n := by omega
  have i1 : (1 : Int) < (n : Int) := by omega
  have j2 : (2 : Int) ≤ (n : Int) := by omega
  have j4 : (4 : Int) ≤ (n : Int) := by omega
  have j4c : (4 : Int) ≤ (c : Int) := by omega
  have k4 : ¬ n = 4 := by omega
  have k4c : ¬ c = 4 := by omega
  clear hE hm hm8 hwx hwy ep Z0 hl hk
  generalize mOf xs = h at *
  generalize hys : xs.drop 8 = ys at *
  clear hys
  generalize mR h ys = zs at *
  go_enter Tryd.func3, Tryd.ntmps3
  go_wp2_with fail
  refine (alive_any _ hg).mono ?_
  rintro ev w1 ⟨rfl, hb⟩
  have r0 := hr.below hb (Nat.le_refl _)
  replace k0 := k0.step hb
  clear hr hb
  go_wp2_with fail
  refine (own_any (some ⟨b, o, none⟩) n c w.heap.size xs _ r0 k0.below.size (by omega)).mono ?_
  rintro ev w2 ⟨A2, n2, c2, rfl, o2, hb⟩
  obtain rfl : n = n2 := r0.len.symm.trans o2.len
  have k : KO w (some ⟨b, o, none⟩) n c A2 n c2 xs w2.heap.size w2 := ⟨k0.step hb, r0.below hb k0.below.size, o2.rd, Nat.le_refl _⟩
  have hw2 := k.kn.below.size
  clear hb r0 k0 o2
  go_wp2_with fail
  refine (c11.out _ _ _ k.own').mono ?_
  rintro ev w3 ⟨g1, rfl, row1, gb1, hb⟩
  have ba := alloc_below w3 (.cells (msC h (some ⟨g1, 0, none⟩) m m) 27)
  replace hb := hb.trans (ba.mono hb.size)
  have sp : Sp w3.heap.size h (some ⟨g1, 0, none⟩) m ys (w3.alloc (.cells (msC h (some ⟨g1, 0, none⟩) m m) 27)) := Sp.new (row1.rdW Hyl.out (by omega) Hyw.out)
  replace k := k.step hb
  clear hb ba row1 gb1
  go_wp2_with fail
  refine (c12.out _ _ _ k.rd').mono ?_
  rintro ev w4 ⟨hb, D1, nd1, cd1, rfl, od1⟩
  have ba : Below w4.heap.size w4 ((w4.alloc (.cells (msC h D1 nd1 cd1) 32)).alloc (.cells (flC none 0 0 0) 36)) := (alloc_below w4 _).alloc (by simp) _
  replace hb := hb.trans (ba.mono hb.size)
  have sq : Sq w4.heap.size (w4.heap.size + 1) h D1 nd1 cd1 ys none 0 0 0 [] ((w4.alloc (.cells (msC h D1 nd1 cd1) 32)).alloc (.cells (flC none 0 0 0) 36)) := Sq.new od1.rd Rd.nil
  replace k := k.step hb
  replace sp := sp.step hb
  clear hb ba od1 c11 c12
  generalize hgp : w3.heap.size = gp at *
  go_wp2_with fail
  replace k := k.step (below_drew _)
  replace sp := sp.step (below_drew _)
  replace sq := sq.step (below_drew _)
  generalize hgf : w4.heap.size + 1 = gf at *
  generalize w4.heap.size = gq at *
  refine wp_region_held_drew (S := fun w' => (KO w (some ⟨b, o, none⟩) n c A2 n c2 xs w2.heap.size w' ∧ Sp gp h (some ⟨g1, 0, none⟩) m ys w' ∧ Sq gq gf h D1 nd1 cd1 ys none 0 0 0 [] w')) (by kernel_rfl) ⟨k, sp, sq⟩ (fun hHeld => ?_)
  clear hHeld
  change wpAnyH _ _ _ _ _ _ _ _ (World.drew _)
  generalize World.drew _ = W7 at *
  have hHeld := And.intro k (And.intro sp sq)
  refine wpAnyH_at (i := 0) (some 27) (v := ?v0z127) rfl rfl (by kernel_rfl) (by kernel_rfl) (by kernel_rfl) (fun _ _ _ h => h) (Or.inl ⟨by rfl, ?y0z127⟩) (by assumption) ?r0z127
  case y0z127 =>
    intro w9 hSw
    clear hSw
    go_simp
    all_goals with_reducible rfl
  simp only [Act.put, List.setIfInBounds_toArray, List.set_cons_zero, List.set_cons_succ]
  refine wpAnyH_at (i := 1) (some 28) (v := ?v1z128) rfl rfl (by kernel_rfl) (by kernel_rfl) (by kernel_rfl) (fun _ _ _ h => h) (Or.inl ⟨by rfl, ?y1z128⟩) (by assumption) ?r1z128
  case y1z128 =>
    intro w9 hSw
    (obtain ⟨a0, a1⟩ := (show (KO w (some ⟨b, o, none⟩) n c A2 n c2 xs w2.heap.size w9 ∧ Sp gp h (some ⟨g1, 0, none⟩) m ys w9 ∧ Sq gq gf h D1 nd1 cd1 ys none 0 0 0 [] w9) from hSw).2.2.fault); clear hSw
    go_simp
    all_goals with_reducible rfl
  simp only [Act.put, List.setIfInBounds_toArray, List.set_cons_zero, List.set_cons_succ]
  refine wpAnyH_one (i := 2) (by kernel_rfl) rfl ?_
  go_wp2_with (go_at_call 12; refine (is_nil none 0 0 _).mono ?_; rintro ev V1 ⟨rfl, hb⟩)
  replace k := k.step hb
  replace sp := sp.step hb
  replace sq := sq.step hb
  clear hb hHeld
  have hHeld := And.intro k (And.intro sp sq)
  refine ⟨hHeld, ?_⟩
  try simp only [Act.put, List.setIfInBounds_toArray, List.set_cons_zero, List.set_cons_succ]
  refine wpAnyH_at (i := 3) (some 30) (v := ?v3z129) rfl rfl (by kernel_rfl) (by kernel_rfl) (by kernel_rfl) (fun _ _ _ h => h) (Or.inl ⟨by rfl, ?y3z129⟩) (by assumption) ?r3z129
  case y3z129 =>
    intro w9 hSw
    clear hSw
    go_simp
    all_goals with_reducible rfl
  simp only [Act.put, List.setIfInBounds_toArray, List.set_cons_zero, List.set_cons_succ]
  refine wpAnyH_at (i := 4) (some 31) (v := ?v4z130) rfl rfl (by kernel_rfl) (by kernel_rfl) (by kernel_rfl) (fun _ _ _ h => h) (Or.inl ⟨by rfl, ?y4z130⟩) (by assumption) ?r4z130
  case y4z130 =>
    intro w9 hSw
    clear hSw
    go_simp
    all_goals with_reducible rfl
  simp only [Act.put, List.setIfInBounds_toArray, List.set_cons_zero, List.set_cons_succ]
  refine wpAnyH_at (i := 5) (some 32) (v := ?v5z131) rfl rfl (by kernel_rfl) (by kernel_rfl) (by kernel_rfl) (fun _ _ _ h => h) (Or.inl ⟨by rfl, ?y5z131⟩) (by assumption) ?r5z131
  case y5z131 =>
    intro w9 hSw
    (obtain ⟨a0, a1, a2, a3, a4, a5, a6⟩ := (show (KO w (some ⟨b, o, none⟩) n c A2 n c2 xs w2.heap.size w9 ∧ Sp gp h (some ⟨g1, 0, none⟩) m ys w9 ∧ Sq gq gf h D1 nd1 cd1 ys none 0 0 0 [] w9) from hSw).2.1.p.cells); clear hSw
    go_simp
    all_goals with_reducible rfl
  simp only [Act.put, List.setIfInBounds_toArray, List.set_cons_zero, List.set_cons_succ]
  refine wpAnyH_at (i := 7) (some 34) (v := ?v7z132) rfl rfl (by kernel_rfl) (by kernel_rfl) (by kernel_rfl) (fun _ _ _ h => h) (Or.inl ⟨by rfl, ?y7z132⟩) (by assumption) ?r7z132
  case y7z132 =>
    intro w9 hSw
    (obtain ⟨a0, a1, a2, a3, a4, a5, a6⟩ := (show (KO w (some ⟨b, o, none⟩) n c A2 n c2 xs w2.heap.size w9 ∧ Sp gp h (some ⟨g1, 0, none⟩) m ys w9 ∧ Sq gq gf h D1 nd1 cd1 ys none 0 0 0 [] w9) from hSw).2.2.q.cells); clear hSw
    go_simp
    all_goals with_reducible rfl
  simp only [Act.put, List.setIfInBounds_toArray, List.set_cons_zero, List.set_cons_succ]
  refine wpAnyH_one (i := 6) (by kernel_rfl) rfl ?_
  go_wp2_with (go_at_call 14; refine (of_ms h (some ⟨g1, 0, none⟩) m m ys _ sp.r (by omega)).mono ?_; rintro ev V2 ⟨A3, n3, c3, rfl, o3, hb⟩)
  replace k := k.step hb
  replace sp := sp.step hb
  replace sq := sq.step hb
  clear hb hHeld
  have hHeld := And.intro k (And.intro sp sq)
  refine ⟨hHeld, ?_⟩
  try simp only [Act.put, List.setIfInBounds_toArray, List.set_cons_zero, List.set_cons_succ]
  refine wpAnyH_one (i := 8) (by kernel_rfl) rfl ?_
  have s8 := refSame_ms h h _ _ _ _ _ _ ys ys _ o3.rd sq.r
  rw [mmB_self] at s8
  go_wp2_with (go_at_call 13; refine (s8).mono ?_; rintro ev V3 ⟨rfl, hb⟩)
  replace k := k.step hb
  replace sp := sp.step hb
  replace sq := sq.step hb
  clear s8 o3
  clear hb hHeld
  have hHeld := And.intro k (And.intro sp sq)
  refine ⟨hHeld, ?_⟩
  try simp only [Act.put, List.setIfInBounds_toArray, List.set_cons_zero, List.set_cons_succ]
  refine wpAnyH_at (i := 9) (some 36) (v := ?v9z133) rfl rfl (by kernel_rfl) (by kernel_rfl) (by kernel_rfl) (fun _ _ _ h => h) (Or.inl ⟨by rfl, ?y9z133⟩) (by assumption) ?r9z133
  case y9z133 =>
    intro w9 hSw
    clear hSw
    go_simp
    all_goals with_reducible rfl
  simp only [Act.put, List.setIfInBounds_toArray, List.set_cons_zero, List.set_cons_succ]
  refine wpAnyH_at (i := 10) (some 37) (v := ?v10z134) rfl rfl (by kernel_rfl) (by kernel_rfl) (by kernel_rfl) (fun _ _ _ h => h) (Or.inl ⟨by rfl, ?y10z134⟩) (by assumption) ?r10z134
  case y10z134 =>
    intro w9 hSw
    clear hSw
    go_simp
    all_goals with_reducible rfl
  simp only [Act.put, List.setIfInBounds_toArray, List.set_cons_zero, List.set_cons_succ]
  refine wpAnyH_at (i := 11) (some 38) (v := ?v11z135) rfl rfl (by kernel_rfl) (by kernel_rfl) (by kernel_rfl) (fun _ _ _ h => h) (Or.inl ⟨by rfl, ?y11z135⟩) (by assumption) ?r11z135
  case y11z135 =>
    intro w9 hSw
    clear hSw
    go_simp
    all_goals with_reducible rfl
  simp only [Act.put, List.setIfInBounds_toArray, List.set_cons_zero, List.set_cons_succ]
  refine wpAnyH_at (i := 12) (some 39) (v := ?v12z136) rfl rfl (by kernel_rfl) (by kernel_rfl) (by kernel_rfl) (fun _ _ _ h => h) (Or.inl ⟨by rfl, ?y12z136⟩) (by assumption) ?r12z136
  case y12z136 =>
    intro w9 hSw
    clear hSw
    go_simp
    all_goals with_reducible rfl
  simp only [Act.put, List.setIfInBounds_toArray, List.set_cons_zero, List.set_cons_succ]
  refine wpAnyH_at (i := 13) (some 40) (v := ?v13z137) rfl rfl (by kernel_rfl) (by kernel_rfl) (by kernel_rfl) (fun _ _ _ h => h) (Or.inl ⟨by rfl, ?y13z137⟩) (by assumption) ?r13z137
  case y13z137 =>
    intro w9 hSw
    clear hSw
    go_simp
    all_goals with_reducible rfl
  simp only [Act.put, List.setIfInBounds_toArray, List.set_cons_zero, List.set_cons_succ]
  refine wpAnyH_one (i := 14) (by kernel_rfl) rfl ?_
  go_wp2_with (go_at_call 15; refine (same_any _ _ _ _ _ _ xs _ _ _ k.own' k.rd').mono ?_; rintro ev V4 ⟨rfl, hb⟩)
  replace k := k.step hb
  replace sp := sp.step hb
  replace sq := sq.step hb
  clear hb hHeld
  have hHeld := And.intro k (And.intro sp sq)
  refine ⟨hHeld, ?_⟩
  try simp only [Act.put, List.setIfInBounds_toArray, List.set_cons_zero, List.set_cons_succ]
  refine wpAnyH_at (i := 15) (some 42) (v := ?v15z138) rfl rfl (by kernel_rfl) (by kernel_rfl) (by kernel_rfl) (fun _ _ _ h => h) (Or.inl ⟨by rfl, ?y15z138⟩) (by assumption) ?r15z138
  case y15z138 =>
    intro w9 hSw
    clear hSw
    go_simp
    all_goals with_reducible rfl
  simp only [Act.put, List.setIfInBounds_toArray, List.set_cons_zero, List.set_cons_succ]
  refine wpAnyH_at (i := 16) (some 43) (v := ?v16z139) rfl rfl (by kernel_rfl) (by kernel_rfl) (by kernel_rfl) (fun _ _ _ h => h) (Or.inl ⟨by rfl, ?y16z139⟩) (by assumption) ?r16z139
  case y16z139 =>
    intro w9 hSw
    clear hSw
    go_simp
    all_goals with_reducible rfl
  simp only [Act.put, List.setIfInBounds_toArray, List.set_cons_zero, List.set_cons_succ]
  refine wpAnyH_done (by kernel_rfl) ?_ _
  clear hHeld sq
  obtain ⟨a0, a1, a2, a3, a4, a5, a6⟩ := sp.p.cells
  go_wp2_with fail
  refine (cB.out _ _ _ sp.r).mono ?_
  rintro ev w8 ⟨gC, rfl, rowC, -, hb⟩
  replace k := k.step hb
  clear hb cB sp a0 a1 a2 a3 a4 a5 a6
  go_wp2_with fail
  replace k := k.step (below_drew _)
  replace rowC := rowC.below (below_drew _) rowC.lt
  refine wp_region_held_drew (S := fun w' => (KO w (some ⟨b, o, none⟩) n c A2 n c2 xs w2.heap.size w' ∧ Row w' gC zs)) (by kernel_rfl) ⟨k, rowC⟩ (fun hHeld => ?_)
  clear hHeld
  change wpAnyH _ _ _ _ _ _ _ _ (World.drew _)
  generalize World.drew _ = U0 at *
  have hHeld := And.intro k rowC
  have cc : ∀ W, Row W gC zs → W.cell? ⟨gC, 0, none⟩ = some (.int .u8 (xs.getD 0 0)) ∧ W.cell? ⟨gC, 1, none⟩ = some (.int .u8 (xs.getD 1 0)) := fun W r => by
    have q0 := r.cell (i := 0) (by rw [Hzl.out]; omega)
    have q1 := r.cell (i := 1) (by rw [Hzl.out]; omega)
    rw [Hz0.out.1] at q0
    rw [Hz0.out.2] at q1
    exact ⟨q0, q1⟩
  have cb : ∀ W, Rd .u8 W w.heap.size (some ⟨b, o, none⟩) n c xs → W.cell? ⟨b, o, none⟩ = some (.int .u8 (xs.getD 0 0)) ∧ W.cell? ⟨b, o + 1, none⟩ = some (.int .u8 (xs.getD 1 0)) := fun W r => ⟨r.cellAt (i := 0) (by omega), r.cellAt (i := 1) (by omega)⟩
  generalize xs.getD 0 0 = x0 at *
  generalize xs.getD 1 0 = x1 at *
  refine wpAnyH_at (i := 0) (some 51) (v := ?v0z140) rfl rfl (by kernel_rfl) (by kernel_rfl) (by kernel_rfl) (fun _ _ _ h => h) (Or.inl ⟨by rfl, ?y0z140⟩) (by assumption) ?r0z140
  case y0z140 =>
    intro w9 hSw
    clear hSw
    go_simp
    all_goals with_reducible rfl
  simp only [Act.put, List.setIfInBounds_toArray, List.set_cons_zero, List.set_cons_succ]
  refine wpAnyH_at (i := 1) (some 52) (v := ?v1z141) rfl rfl (by kernel_rfl) (by kernel_rfl) (by kernel_rfl) (fun _ _ _ h => h) (Or.inl ⟨by rfl, ?y1z141⟩) (by assumption) ?r1z141
  case y1z141 =>
    intro w9 hSw
    clear hSw
    go_simp
    all_goals with_reducible rfl
  simp only [Act.put, List.setIfInBounds_toArray, List.set_cons_zero, List.set_cons_succ]
  refine wpAnyH_at (i := 2) (some 53) (v := ?v2z142) rfl rfl (by kernel_rfl) (by kernel_rfl) (by kernel_rfl) (fun _ _ _ h => h) (Or.inl ⟨by rfl, ?y2z142⟩) (by assumption) ?r2z142
  case y2z142 =>
    intro w9 hSw
    clear hSw
    go_simp
    all_goals with_reducible rfl
  simp only [Act.put, List.setIfInBounds_toArray, List.set_cons_zero, List.set_cons_succ]
  refine wpAnyH_at (i := 3) (some 54) (v := ?v3z143) rfl rfl (by kernel_rfl) (by kernel_rfl) (by kernel_rfl) (fun _ _ _ h => h) (Or.inl ⟨by rfl, ?y3z143⟩) (by assumption) ?r3z143
  case y3z143 =>
    intro w9 hSw
    clear hSw
    go_simp
    all_goals with_reducible rfl
  simp only [Act.put, List.setIfInBounds_toArray, List.set_cons_zero, List.set_cons_succ]
  refine wpAnyH_at (i := 4) (some 55) (v := ?v4z144) rfl rfl (by kernel_rfl) (by kernel_rfl) (by kernel_rfl) (fun _ _ _ h => h) (Or.inl ⟨by rfl, ?y4z144⟩) (by assumption) ?r4z144
  case y4z144 =>
    intro w9 hSw
    clear hSw
    go_simp
    all_goals with_reducible rfl
  simp only [Act.put, List.setIfInBounds_toArray, List.set_cons_zero, List.set_cons_succ]
  refine wpAnyH_at (i := 5) (some 56) (v := ?v5z145) rfl rfl (by kernel_rfl) (by kernel_rfl) (by kernel_rfl) (fun _ _ _ h => h) (Or.inl ⟨by rfl, ?y5z145⟩) (by assumption) ?r5z145
  case y5z145 =>
    intro w9 hSw
    clear hSw
    go_simp
    all_goals with_reducible rfl
  simp only [Act.put, List.setIfInBounds_toArray, List.set_cons_zero, List.set_cons_succ]
  refine wpAnyH_at (i := 6) (some 57) (v := ?v6z146) rfl rfl (by kernel_rfl) (by kernel_rfl) (by kernel_rfl) (fun _ _ _ h => h) (Or.inl ⟨by rfl, ?y6z146⟩) (by assumption) ?r6z146
  case y6z146 =>
    intro w9 hSw
    clear hSw
    go_simp
    all_goals with_reducible rfl
  simp only [Act.put, List.setIfInBounds_toArray, List.set_cons_zero, List.set_cons_succ]
  refine wpAnyH_at (i := 7) (some 58) (v := ?v7z147) rfl rfl (by kernel_rfl) (by kernel_rfl) (by kernel_rfl) (fun _ _ _ h => h) (Or.inl ⟨by rfl, ?y7z147⟩) (by assumption) ?r7z147
  case y7z147 =>
    intro w9 hSw
    clear hSw
    go_simp
    all_goals with_reducible rfl
  simp only [Act.put, List.setIfInBounds_toArray, List.set_cons_zero, List.set_cons_succ]
  refine wpAnyH_at (i := 8) (some 59) (v := ?v8z148) rfl rfl (by kernel_rfl) (by kernel_rfl) (by kernel_rfl) (fun _ _ _ h => h) (Or.inl ⟨by rfl, ?y8z148⟩) (by assumption) ?r8z148
  case y8z148 =>
    intro w9 hSw
    clear hSw
    go_simp
    all_goals with_reducible rfl
  simp only [Act.put, List.setIfInBounds_toArray, List.set_cons_zero, List.set_cons_succ]
  refine wpAnyH_at (i := 9) (some 60) (v := ?v9z149) rfl rfl (by kernel_rfl) (by kernel_rfl) (by kernel_rfl) (fun _ _ _ h => h) (Or.inl ⟨by rfl, ?y9z149⟩) (by assumption) ?r9z149
  case y9z149 =>
    intro w9 hSw
    clear hSw
    go_simp
    all_goals with_reducible rfl
  simp only [Act.put, List.setIfInBounds_toArray, List.set_cons_zero, List.set_cons_succ]
  refine wpAnyH_at (i := 10) (some 61) (v := ?v10z150) rfl rfl (by kernel_rfl) (by kernel_rfl) (by kernel_rfl) (fun _ _ _ h => h) (Or.inl ⟨by rfl, ?y10z150⟩) (by assumption) ?r10z150
  case y10z150 =>
    intro w9 hSw
    clear hSw
    go_simp
    all_goals with_reducible rfl
  simp only [Act.put, List.setIfInBounds_toArray, List.set_cons_zero, List.set_cons_succ]
  refine wpAnyH_at (i := 11) (some 62) (v := ?v11z151) rfl rfl (by kernel_rfl) (by kernel_rfl) (by kernel_rfl) (fun _ _ _ h => h) (Or.inl ⟨by rfl, ?y11z151⟩) (by assumption) ?r11z151
  case y11z151 =>
    intro w9 hSw
    clear hSw
    go_simp
    all_goals with_reducible rfl
  simp only [Act.put, List.setIfInBounds_toArray, List.set_cons_zero, List.set_cons_succ]
  refine wpAnyH_at (i := 12) (some 63) (v := ?v12z152) rfl rfl (by kernel_rfl) (by kernel_rfl) (by kernel_rfl) (fun _ _ _ h => h) (Or.inl ⟨by rfl, ?y12z152⟩) (by assumption) ?r12z152
  case y12z152 =>
    intro w9 hSw
    clear hSw
    go_simp
    all_goals with_reducible rfl
  simp only [Act.put, List.setIfInBounds_toArray, List.set_cons_zero, List.set_cons_succ]
  refine wpAnyH_at (i := 13) (some 64) (v := ?v13z153) rfl rfl (by kernel_rfl) (by kernel_rfl) (by kernel_rfl) (fun _ _ _ h => h) (Or.inl ⟨by rfl, ?y13z153⟩) (by assumption) ?r13z153
  case y13z153 =>
    intro w9 hSw
    clear hSw
    go_simp
    all_goals with_reducible rfl
  simp only [Act.put, List.setIfInBounds_toArray, List.set_cons_zero, List.set_cons_succ]
  refine wpAnyH_one (i := 14) (by kernel_rfl) rfl ?_
  have s14 := same_any _ _ _ _ _ _ (xs.drop 4) _ _ U0 (show Rd .u8 U0 U0.heap.size (some ⟨gC, 4, none⟩) (n - 4) (n - 4) (xs.drop 4) by have q := (rowC.rdW Hzl.out (by omega) Hzw.out).cutS 4 (by omega) k4; rw [Hz4.out] at q; simpa using q) (k.rd'.cutS 4 (by omega) k4c)
  go_wp2_with (go_at_call 15; refine (s14).mono ?_; rintro ev U1 ⟨rfl, hb⟩)
  replace k := k.step hb
  replace rowC := rowC.below hb rowC.lt
  clear s14
  clear hb hHeld
  have hHeld := And.intro k rowC
  refine ⟨hHeld, ?_⟩
  try simp only [Act.put, List.setIfInBounds_toArray, List.set_cons_zero, List.set_cons_succ]
  refine wpAnyH_at (i := 15) (some 66) (v := ?v15z154) rfl rfl (by kernel_rfl) (by kernel_rfl) (by kernel_rfl) (fun _ _ _ h => h) (Or.inl ⟨by rfl, ?y15z154⟩) (by assumption) ?r15z154
  case y15z154 =>
    intro w9 hSw
    clear hSw
    go_simp
    all_goals with_reducible rfl
  simp only [Act.put, List.setIfInBounds_toArray, List.set_cons_zero, List.set_cons_succ]
  refine wpAnyH_at (i := 16) (some 67) (v := ?v16z155) rfl rfl (by kernel_rfl) (by kernel_rfl) (by kernel_rfl) (fun _ _ _ h => h) (Or.inl ⟨by rfl, ?y16z155⟩) (by assumption) ?r16z155
  case y16z155 =>
    intro w9 hSw
    clear hSw
    go_simp
    all_goals with_reducible rfl
  simp only [Act.put, List.setIfInBounds_toArray, List.set_cons_zero, List.set_cons_succ]
  refine wpAnyH_at (i := 17) (some 68) (v := ?v17z156) rfl rfl (by kernel_rfl) (by kernel_rfl) (by kernel_rfl) (fun _ _ _ h => h) (Or.inl ⟨by rfl, ?y17z156⟩) (by assumption) ?r17z156
  case y17z156 =>
    intro w9 hSw
    clear hSw
    go_simp
    all_goals with_reducible rfl
  simp only [Act.put, List.setIfInBounds_toArray, List.set_cons_zero, List.set_cons_succ]
  refine wpAnyH_at (i := 18) (some 69) (v := ?v18z157) rfl rfl (by kernel_rfl) (by kernel_rfl) (by kernel_rfl) (fun _ _ _ h => h) (Or.inl ⟨by rfl, ?y18z157⟩) (by assumption) ?r18z157
  case y18z157 =>
    intro w9 hSw
    clear hSw
    go_simp
    all_goals with_reducible rfl
  simp only [Act.put, List.setIfInBounds_toArray, List.set_cons_zero, List.set_cons_succ]
  refine wpAnyH_at (i := 19) (some 70) (v := ?v19z158) rfl rfl (by kernel_rfl) (by kernel_rfl) (by kernel_rfl) (fun _ _ _ h => h) (Or.inl ⟨by rfl, ?y19z158⟩) (by assumption) ?r19z158
  case y19z158 =>
    intro w9 hSw
    clear hSw
    go_simp
    all_goals with_reducible rfl
  simp only [Act.put, List.setIfInBounds_toArray, List.set_cons_zero, List.set_cons_succ]
  refine wpAnyH_at (i := 20) (some 71) (v := ?v20z159) rfl rfl (by kernel_rfl) (by kernel_rfl) (by kernel_rfl) (fun _ _ _ h => h) (Or.inl ⟨by rfl, ?y20z159⟩) (by assumption) ?r20z159
  case y20z159 =>
    intro w9 hSw
    (obtain ⟨q0, q1⟩ := cc _ (show (KO w (some ⟨b, o, none⟩) n c A2 n c2 xs w2.heap.size w9 ∧ Row w9 gC zs) from hSw).2); clear hSw
    go_simp
    all_goals with_reducible rfl
  simp only [Act.put, List.setIfInBounds_toArray, List.set_cons_zero, List.set_cons_succ]
  refine wpAnyH_at (i := 21) (some 72) (v := ?v21z160) rfl rfl (by kernel_rfl) (by kernel_rfl) (by kernel_rfl) (fun _ _ _ h => h) (Or.inl ⟨by rfl, ?y21z160⟩) (by assumption) ?r21z160
  case y21z160 =>
    intro w9 hSw
    clear hSw
    go_simp
    all_goals with_reducible rfl
  simp only [Act.put, List.setIfInBounds_toArray, List.set_cons_zero, List.set_cons_succ]
  refine wpAnyH_at (i := 22) (some 73) (v := ?v22z161) rfl rfl (by kernel_rfl) (by kernel_rfl) (by kernel_rfl) (fun _ _ _ h => h) (Or.inl ⟨by rfl, ?y22z161⟩) (by assumption) ?r22z161
  case y22z161 =>
    intro w9 hSw
    clear hSw
    go_simp
    all_goals with_reducible rfl
  simp only [Act.put, List.setIfInBounds_toArray, List.set_cons_zero, List.set_cons_succ]
  refine wpAnyH_at (i := 23) (some 74) (v := ?v23z162) rfl rfl (by kernel_rfl) (by kernel_rfl) (by kernel_rfl) (fun _ _ _ h => h) (Or.inl ⟨by rfl, ?y23z162⟩) (by assumption) ?r23z162
  case y23z162 =>
    intro w9 hSw
    (obtain ⟨q0, q1⟩ := cb _ (KO.rd (show (KO w (some ⟨b, o, none⟩) n c A2 n c2 xs w2.heap.size w9 ∧ Row w9 gC zs) from hSw).1)); clear hSw
    go_simp
    all_goals with_reducible rfl
  simp only [Act.put, List.setIfInBounds_toArray, List.set_cons_zero, List.set_cons_succ]
  refine wpAnyH_at (i := 24) (some 75) (v := ?v24z163) rfl rfl (by kernel_rfl) (by kernel_rfl) (by kernel_rfl) (fun _ _ _ h => h) (Or.inl ⟨by rfl, ?y24z163⟩) (by assumption) ?r24z163
  case y24z163 =>
    intro w9 hSw
    clear hSw
    go_simp
    all_goals with_reducible rfl
  simp only [Act.put, List.setIfInBounds_toArray, List.set_cons_zero, List.set_cons_succ]
  refine wpAnyH_at (i := 25) (some 76) (v := ?v25z164) rfl rfl (by kernel_rfl) (by kernel_rfl) (by kernel_rfl) (fun _ _ _ h => h) (Or.inl ⟨by rfl, ?y25z164⟩) (by assumption) ?r25z164
  case y25z164 =>
    intro w9 hSw
    clear hSw
    go_simp
    all_goals with_reducible rfl
  simp only [Act.put, List.setIfInBounds_toArray, List.set_cons_zero, List.set_cons_succ]
  refine wpAnyH_at (i := 26) (some 77) (v := ?v26z165) rfl rfl (by kernel_rfl) (by kernel_rfl) (by kernel_rfl) (fun _ _ _ h => h) (Or.inl ⟨by rfl, ?y26z165⟩) (by assumption) ?r26z165
  case y26z165 =>
    intro w9 hSw
    clear hSw
    go_simp
    all_goals with_reducible rfl
  simp only [Act.put, List.setIfInBounds_toArray, List.set_cons_zero, List.set_cons_succ]
  refine wpAnyH_at (i := 27) (some 78) (v := ?v27z166) rfl rfl (by kernel_rfl) (by kernel_rfl) (by kernel_rfl) (fun _ _ _ h => h) (Or.inl ⟨by rfl, ?y27z166⟩) (by assumption) ?r27z166
  case y27z166 =>
    intro w9 hSw
    clear hSw
    go_simp
    all_goals with_reducible rfl
  simp only [Act.put, List.setIfInBounds_toArray, List.set_cons_zero, List.set_cons_succ]
  refine wpAnyH_at (i := 28) (some 79) (v := ?v28z167) rfl rfl (by kernel_rfl) (by kernel_rfl) (by kernel_rfl) (fun _ _ _ h => h) (Or.inl ⟨by rfl, ?y28z167⟩) (by assumption) ?r28z167
  case y28z167 =>
    intro w9 hSw
    clear hSw
    go_simp
    all_goals with_reducible rfl
  simp only [Act.put, List.setIfInBounds_toArray, List.set_cons_zero, List.set_cons_succ]
  refine wpAnyH_at (i := 29) (some 80) (v := ?v29z168) rfl rfl (by kernel_rfl) (by kernel_rfl) (by kernel_rfl) (fun _ _ _ h => h) (Or.inl ⟨by rfl, ?y29z168⟩) (by assumption) ?r29z168
  case y29z168 =>
    intro w9 hSw
    (obtain ⟨q0, q1⟩ := cc _ (show (KO w (some ⟨b, o, none⟩) n c A2 n c2 xs w2.heap.size w9 ∧ Row w9 gC zs) from hSw).2); clear hSw
    go_simp
    all_goals with_reducible rfl
  simp only [Act.put, List.setIfInBounds_toArray, List.set_cons_zero, List.set_cons_succ]
  refine wpAnyH_at (i := 30) (some 81) (v := ?v30z169) rfl rfl (by kernel_rfl) (by kernel_rfl) (by kernel_rfl) (fun _ _ _ h => h) (Or.inl ⟨by rfl, ?y30z169⟩) (by assumption) ?r30z169
  case y30z169 =>
    intro w9 hSw
    clear hSw
    go_simp
    all_goals with_reducible rfl
  simp only [Act.put, List.setIfInBounds_toArray, List.set_cons_zero, List.set_cons_succ]
  refine wpAnyH_at (i := 31) (some 82) (v := ?v31z170) rfl rfl (by kernel_rfl) (by kernel_rfl) (by kernel_rfl) (fun _ _ _ h => h) (Or.inl ⟨by rfl, ?y31z170⟩) (by assumption) ?r31z170
  case y31z170 =>
    intro w9 hSw
    clear hSw
    go_simp
    all_goals with_reducible rfl
  simp only [Act.put, List.setIfInBounds_toArray, List.set_cons_zero, List.set_cons_succ]
  refine wpAnyH_at (i := 32) (some 83) (v := ?v32z171) rfl rfl (by kernel_rfl) (by kernel_rfl) (by kernel_rfl) (fun _ _ _ h => h) (Or.inl ⟨by rfl, ?y32z171⟩) (by assumption) ?r32z171
  case y32z171 =>
    intro w9 hSw
    (obtain ⟨q0, q1⟩ := cb _ (KO.rd (show (KO w (some ⟨b, o, none⟩) n c A2 n c2 xs w2.heap.size w9 ∧ Row w9 gC zs) from hSw).1)); clear hSw
    go_simp
    all_goals with_reducible rfl
  simp only [Act.put, List.setIfInBounds_toArray, List.set_cons_zero, List.set_cons_succ]
  refine wpAnyH_at (i := 33) (some 84) (v := ?v33z172) rfl rfl (by kernel_rfl) (by kernel_rfl) (by kernel_rfl) (fun _ _ _ h => h) (Or.inl ⟨by rfl, ?y33z172⟩) (by assumption) ?r33z172
  case y33z172 =>
    intro w9 hSw
    clear hSw
    go_simp
    all_goals with_reducible rfl
  simp only [Act.put, List.setIfInBounds_toArray, List.set_cons_zero, List.set_cons_succ]
  refine wpAnyH_at (i := 34) (some 85) (v := ?v34z173) rfl rfl (by kernel_rfl) (by kernel_rfl) (by kernel_rfl) (fun _ _ _ h => h) (Or.inl ⟨by rfl, ?y34z173⟩) (by assumption) ?r34z173
  case y34z173 =>
    intro w9 hSw
    clear hSw
    go_simp
    all_goals with_reducible rfl
  simp only [Act.put, List.setIfInBounds_toArray, List.set_cons_zero, List.set_cons_succ]
  refine wpAnyH_done (by kernel_rfl) ?_ _
  clear hHeld cc cb
  go_wp2_with fail
  replace k := k.step (below_drew _)
  replace rowC := rowC.below (below_drew _) rowC.lt
  refine wp_region_held_drew (S := fun w' => (KO w (some ⟨b, o, none⟩) n c A2 n c2 xs w2.heap.size w' ∧ Row w' gC zs)) (by kernel_rfl) ⟨k, rowC⟩ (fun hHeld => ?_)
  clear hHeld
  change wpAnyH _ _ _ _ _ _ _ _ (World.drew _)
  generalize World.drew _ = U2 at *
  have hHeld := And.intro k rowC
  refine wpAnyH_at (i := 0) (some 86) (v := ?v0z174) rfl rfl (by kernel_rfl) (by kernel_rfl) (by kernel_rfl) (fun _ _ _ h => h) (Or.inl ⟨by rfl, ?y0z174⟩) (by assumption) ?r0z174
  case y0z174 =>
    intro w9 hSw
    clear hSw
    go_simp
    all_goals with_reducible rfl
  simp only [Act.put, List.setIfInBounds_toArray, List.set_cons_zero, List.set_cons_succ]
  refine wpAnyH_at (i := 1) (some 87) (v := ?v1z175) rfl rfl (by kernel_rfl) (by kernel_rfl) (by kernel_rfl) (fun _ _ _ h => h) (Or.inl ⟨by rfl, ?y1z175⟩) (by assumption) ?r1z175
  case y1z175 =>
    intro w9 hSw
    clear hSw
    go_simp
    all_goals with_reducible rfl
  simp only [Act.put, List.setIfInBounds_toArray, List.set_cons_zero, List.set_cons_succ]
  refine wpAnyH_one (i := 2) (by kernel_rfl) rfl ?_
  have s2 := same_gen _ _ _ _ _ _ zs xs _ _ U2 (rowC.rdW Hzl.out (by omega) Hzw.out) k.rd'
  rw [Hs.out] at s2
  go_wp2_with (go_at_call 15; refine (s2).mono ?_; rintro ev U3 ⟨rfl, hb⟩)
  replace k := k.step hb
  replace rowC := rowC.below hb rowC.lt
  clear s2
  clear hb hHeld
  have hHeld := And.intro k rowC
  refine ⟨hHeld, ?_⟩
  try simp only [Act.put, List.setIfInBounds_toArray, List.set_cons_zero, List.set_cons_succ]
  refine wpAnyH_at (i := 3) (some 89) (v := ?v3z176) rfl rfl (by kernel_rfl) (by kernel_rfl) (by kernel_rfl) (fun _ _ _ h => h) (Or.inl ⟨by rfl, ?y3z176⟩) (by assumption) ?r3z176
  case y3z176 =>
    intro w9 hSw
    clear hSw
    go_simp
    all_goals with_reducible rfl
  simp only [Act.put, List.setIfInBounds_toArray, List.set_cons_zero, List.set_cons_succ]
  refine wpAnyH_at (i := 4) (some 90) (v := ?v4z177) rfl rfl (by kernel_rfl) (by kernel_rfl) (by kernel_rfl) (fun _ _ _ h => h) (Or.inl ⟨by rfl, ?y4z177⟩) (by assumption) ?r4z177
  case y4z177 =>
    intro w9 hSw
    clear hSw
    go_simp
    all_goals with_reducible rfl
  simp only [Act.put, List.setIfInBounds_toArray, List.set_cons_zero, List.set_cons_succ]
  refine wpAnyH_at (i := 5) (some 91) (v := ?v5z178) rfl rfl (by kernel_rfl) (by kernel_rfl) (by kernel_rfl) (fun _ _ _ h => h) (Or.inl ⟨by rfl, ?y5z178⟩) (by assumption) ?r5z178
  case y5z178 =>
    intro w9 hSw
    clear hSw
    go_simp
    all_goals with_reducible rfl
  simp only [Act.put, List.setIfInBounds_toArray, List.set_cons_zero, List.set_cons_succ]
  refine wpAnyH_at (i := 6) (some 92) (v := ?v6z179) rfl rfl (by kernel_rfl) (by kernel_rfl) (by kernel_rfl) (fun _ _ _ h => h) (Or.inl ⟨by rfl, ?y6z179⟩) (by assumption) ?r6z179
  case y6z179 =>
    intro w9 hSw
    clear hSw
    go_simp
    all_goals with_reducible rfl
  simp only [Act.put, List.setIfInBounds_toArray, List.set_cons_zero, List.set_cons_succ]
  refine wpAnyH_at (i := 7) (some 93) (v := ?v7z180) rfl rfl (by kernel_rfl) (by kernel_rfl) (by kernel_rfl) (fun _ _ _ h => h) (Or.inl ⟨by rfl, ?y7z180⟩) (by assumption) ?r7z180
  case y7z180 =>
    intro w9 hSw
    clear hSw
    go_simp
    all_goals with_reducible rfl
  simp only [Act.put, List.setIfInBounds_toArray, List.set_cons_zero, List.set_cons_succ]
  refine wpAnyH_one (i := 8) (by kernel_rfl) rfl ?_
  have t9 := total_two ((rowC.rdW Hzl.out (by omega) Hzw.out).cutTo 2 (by omega)) (show Rd .u8 U3 U3.heap.size (some ⟨gC, 4, none⟩) (n - 4) (n - 4) (zs.drop 4) by simpa using (rowC.rdW Hzl.out (by omega) Hzw.out).cutS 4 (by omega) k4)
  rw [HT.out] at t9
  have kk := k.step (alloc_below U3 (.cells #[.slice (some ⟨gC, 0, none⟩) 2 n, .slice (some ⟨gC, 4, none⟩) (n - 4) (n - 4)] 22))
  have rr := rowC.below (alloc_below U3 (.cells #[.slice (some ⟨gC, 0, none⟩) 2 n, .slice (some ⟨gC, 4, none⟩) (n - 4) (n - 4)] 22)) rowC.lt
  go_wp2
  clear hHeld
  refine ⟨⟨kk, rr⟩, ?_⟩
  have hHeld := And.intro kk rr
  refine wpAnyH_one (i := 9) (by kernel_rfl) rfl ?_
  go_wp2_with (go_at_call 17; refine (t9).mono ?_; rintro ev U4 ⟨rfl, hb⟩)
  replace k := k.step hb
  replace rowC := rowC.below hb rowC.lt
  clear hb hHeld t9 kk rr
  have hHeld := And.intro k rowC
  refine ⟨hHeld, ?_⟩
  try simp only [Act.put, List.setIfInBounds_toArray, List.set_cons_zero, List.set_cons_succ]
  refine wpAnyH_at (i := 10) (some 96) (v := ?v10z181) rfl rfl (by kernel_rfl) (by kernel_rfl) (by kernel_rfl) (fun _ _ _ h => h) (Or.inl ⟨by rfl, ?y10z181⟩) (by assumption) ?r10z181
  case y10z181 =>
    intro w9 hSw
    clear hSw
    go_simp
    all_goals with_reducible rfl
  simp only [Act.put, List.setIfInBounds_toArray, List.set_cons_zero, List.set_cons_succ]
  refine wpAnyH_at (i := 11) (some 97) (v := ?v11z182) rfl rfl (by kernel_rfl) (by kernel_rfl) (by kernel_rfl) (fun _ _ _ h => h) (Or.inl ⟨by rfl, ?y11z182⟩) (by assumption) ?r11z182
  case y11z182 =>
    intro w9 hSw
    clear hSw
    go_simp
    all_goals with_reducible rfl
  simp only [Act.put, List.setIfInBounds_toArray, List.set_cons_zero, List.set_cons_succ]
  refine wpAnyH_at (i := 12) (some 98) (v := ?v12z183) rfl rfl (by kernel_rfl) (by kernel_rfl) (by kernel_rfl) (fun _ _ _ h => h) (Or.inl ⟨by rfl, ?y12z183⟩) (by assumption) ?r12z183
  case y12z183 =>
    intro w9 hSw
    clear hSw
    go_simp
    all_goals with_reducible rfl
  simp only [Act.put, List.setIfInBounds_toArray, List.set_cons_zero, List.set_cons_succ]
  refine wpAnyH_at (i := 13) (some 99) (v := ?v13z184) rfl rfl (by kernel_rfl) (by kernel_rfl) (by kernel_rfl) (fun _ _ _ h => h) (Or.inl ⟨by rfl, ?y13z184⟩) (by assumption) ?r13z184
  case y13z184 =>
    intro w9 hSw
    clear hSw
    go_simp
    all_goals with_reducible rfl
  simp only [Act.put, List.setIfInBounds_toArray, List.set_cons_zero, List.set_cons_succ]
  refine wpAnyH_at (i := 14) (some 100) (v := ?v14z185) rfl rfl (by kernel_rfl) (by kernel_rfl) (by kernel_rfl) (fun _ _ _ h => h) (Or.inl ⟨by rfl, ?y14z185⟩) (by assumption) ?r14z185
  case y14z185 =>
    intro w9 hSw
    clear hSw
    go_simp
    all_goals with_reducible rfl
  simp only [Act.put, List.setIfInBounds_toArray, List.set_cons_zero, List.set_cons_succ]
  refine wpAnyH_at (i := 15) (some 101) (v := ?v15z186) rfl rfl (by kernel_rfl) (by kernel_rfl) (by kernel_rfl) (fun _ _ _ h => h) (Or.inl ⟨by rfl, ?y15z186⟩) (by assumption) ?r15z186
  case y15z186 =>
    intro w9 hSw
    clear hSw
    go_simp
    all_goals with_reducible rfl
  simp only [Act.put, List.setIfInBounds_toArray, List.set_cons_zero, List.set_cons_succ]
  refine wpAnyH_at (i := 16) (some 102) (v := ?v16z187) rfl rfl (by kernel_rfl) (by kernel_rfl) (by kernel_rfl) (fun _ _ _ h => h) (Or.inl ⟨by rfl, ?y16z187⟩) (by assumption) ?r16z187
  case y16z187 =>
    intro w9 hSw
    clear hSw
    go_simp
    all_goals with_reducible rfl
  simp only [Act.put, List.setIfInBounds_toArray, List.set_cons_zero, List.set_cons_succ]
  refine wpAnyH_one (i := 17) (by kernel_rfl) rfl ?_
  have t18 := total_two ((rowC.rdW Hzl.out (by omega) Hzw.out).cutTo 2 (by omega)) (show Rd .u8 U4 U4.heap.size (some ⟨gC, 4, none⟩) (n - 4) (n - 4) (zs.drop 4) by simpa using (rowC.rdW Hzl.out (by omega) Hzw.out).cutS 4 (by omega) k4)
  rw [HT.out] at t18
  have kk := k.step (alloc_below U4 (.cells #[.slice (some ⟨gC, 0, none⟩) 2 n, .slice (some ⟨gC, 4, none⟩) (n - 4) (n - 4)] 22))
  have rr := rowC.below (alloc_below U4 (.cells #[.slice (some ⟨gC, 0, none⟩) 2 n, .slice (some ⟨gC, 4, none⟩) (n - 4) (n - 4)] 22)) rowC.lt
  go_wp2
  clear hHeld
  refine ⟨⟨kk, rr⟩, ?_⟩
  have hHeld := And.intro kk rr
  refine wpAnyH_one (i := 18) (by kernel_rfl) rfl ?_
  go_wp2_with (go_at_call 17; refine (t18).mono ?_; rintro ev U5 ⟨rfl, hb⟩)
  replace k := k.step hb
  replace rowC := rowC.below hb rowC.lt
  clear hb hHeld t18 kk rr
  have hHeld := And.intro k rowC
  refine ⟨hHeld, ?_⟩
  try simp only [Act.put, List.setIfInBounds_toArray, List.set_cons_zero, List.set_cons_succ]
  refine wpAnyH_at (i := 19) (some 105) (v := ?v19z188) rfl rfl (by kernel_rfl) (by kernel_rfl) (by kernel_rfl) (fun _ _ _ h => h) (Or.inl ⟨by rfl, ?y19z188⟩) (by assumption) ?r19z188
  case y19z188 =>
    intro w9 hSw
    clear hSw
    go_simp
    all_goals with_reducible rfl
  simp only [Act.put, List.setIfInBounds_toArray, List.set_cons_zero, List.set_cons_succ]
  refine wpAnyH_at (i := 20) (some 106) (v := ?v20z189) rfl rfl (by kernel_rfl) (by kernel_rfl) (by kernel_rfl) (fun _ _ _ h => h) (Or.inl ⟨by rfl, ?y20z189⟩) (by assumption) ?r20z189
  case y20z189 =>
    intro w9 hSw
    clear hSw
    go_simp
    all_goals with_reducible rfl
  simp only [Act.put, List.setIfInBounds_toArray, List.set_cons_zero, List.set_cons_succ]
  refine wpAnyH_at (i := 21) (some 2) (v := ?v21z190) rfl rfl (by kernel_rfl) (by kernel_rfl) (by kernel_rfl) (fun _ _ _ h => h) (Or.inl ⟨by rfl, ?y21z190⟩) (by assumption) ?r21z190
  case y21z190 =>
    intro w9 hSw
    clear hSw
    go_simp
    all_goals with_reducible rfl
  simp only [Act.put, List.setIfInBounds_toArray, List.set_cons_zero, List.set_cons_succ]
  refine wpAnyH_done (by kernel_rfl) ?_ _
  go_wp2
  go_ret
  exact ⟨rfl, k.kn.below⟩
theorem parses_law (A : Option Addr) (n c : Nat) (xs : List Int) (w : World) (hg : Laid w) (hr : Rd .u8 w w.heap.size A n c xs) : Calls Tryd.prog 3 #[.slice A n c] w fun e w' => e = .returned (.bool true) ∧ Below w.heap.size w w' := by
  by_cases hn : 3000 < n
  · exact parses_far A n c w hg hn (Nat.le_trans hr.cap hr.max)
  · have hn' : n ≤ 3000 := by omega
    by_cases h : (mE xs).2 = 0
    · obtain ⟨h8, -, ht, -⟩ := mE_ok h
      have hl := hr.len
      obtain ⟨b, o, rfl, -, -⟩ := hr.at_ (i := 0) (by omega)
      rcases back_parts hr.2.2.2.1 h8 ht with hz | hT
      · exact parses_same b o n c xs w hg hr hn' h hz
      · by_cases hz : mR (mOf xs) (xs.drop 8) = xs
        · exact parses_same b o n c xs w hg hr hn' h hz
        · rcases hT with hT | hT
          · exact parses_zero b o n c xs w hg hr hn' h hz hT
          · exact parses_full b o n c xs w hg hr hn' h hz hT
    · obtain ⟨r, e, hE, he⟩ := mE_pair xs h
      exact parses_no A n c xs w hg hr hn' r e hE he
end Go.Proofs.YtbefoapnlehdmaaDoor
