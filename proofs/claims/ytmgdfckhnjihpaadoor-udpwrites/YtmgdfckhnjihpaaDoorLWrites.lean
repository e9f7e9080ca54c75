/-
  The law UdpWrites: every Bytes and Same answers what the document says; what is written is parsed as it was, between these Ips, or the same the other way round.
-/
import Derived.Test.YtmgdfckhnjihpaaDoorLWrites0
namespace Go.Proofs.YtmgdfckhnjihpaaDoor
open Go.RowKit
set_option linter.unusedVariables false

set_option maxRecDepth 100000 in
set_option maxHeartbeats 8000000 in
theorem writes_near (h : Hd) (A : Option Addr) (n c : Nat) (xs : List Int) (h2 : Hd) (A2 : Option Addr) (n2 c2 : Nat) (ys : List Int) (Ab : Option Addr) (nb cb : Nat) (zs : List Int) (f t : Int) (w : World) (hg : Laid w) (hr : Rd .u8 w w.heap.size A n c xs) (hr2 : Rd .u8 w w.heap.size A2 n2 c2 ys) (hrb : Rd .u8 w w.heap.size Ab nb cb zs) (hk : h.ok) (hf : Ip f) (ht : Ip t) (hn : n ≤ 3000) (hn2 : n2 ≤ 3000) (hnb : nb ≤ 300) (hsm : n ≤ 1472) (m : Nat) (hm : m = 8 + n) : Calls Tryd.prog 4 #[pkV h A n c, pkV h2 A2 n2 c2, .int .u32 f, .int .u32 t, .slice Ab nb cb] w fun e w' => e = .returned (.bool true) ∧ Below w.heap.size w w' := by
  have k0 := KW.start h A n c xs h2 A2 n2 c2 ys Ab nb cb zs w hg hr hr2 hrb
  have HX := Lib.hid hr.len
  have HW := Lib.hid hr.2.2.2.1
  have hl : xs.length ≤ 1472 := by have := hr.len; omega
  have c19 := Lib.hid (fun W (q : Rd .u8 W W.heap.size A n c xs) => bytes_ok h A n c xs f t W hk q hf ht hsm)
  rw [← hm] at c19
  have c20 := Lib.hid (fun A c W (q : Rd .u8 W W.heap.size A n c xs) => refBytes_ok h A n c xs f t W hk q hf ht hsm)
  have zP := zz zs hk hf ht HW.out hl
  have zQ := zz (h := h) [] hk ht hf HW.out hl
  rw [List.append_nil, byR_swap hk hf ht HW.out hl] at zQ
  have H67 := Lib.hid (sum_two hk hf ht HW.out hl)
  have Hbl : Hid ((byR h f t xs).length = m) := Lib.hid (by rw [byR_len, hr.len, hm])
  have Hbw : Hid (∀ x ∈ byR h f t xs, (Lit.int .u8 x).wf = true) := Lib.hid (byR_wf hk hf ht HW.out (by omega))
  have hm1 : m ≤ 1480 := by omega
  have hm2 : 8 ≤ m := by omega
  have cP := Lib.hid (fun W A n c (q : Rd .u8 W W.heap.size A n c (byR h f t xs ++ zs)) => parse_yes q hf ht zP.1 zP.2.1 zP.2.2 HX.out)
  have cQ := Lib.hid (fun W A n c (q : Rd .u8 W W.heap.size A n c (byR h f t xs)) => parse_yes q ht hf zQ.1 zQ.2.1 zQ.2.2 HX.out)
  clear zP zQ hl
  have hmm := Lib.hid hm
  have hmi : (8 : Int) + (n : Int) = (m : Int) := by omega
  clear hm
  generalize byR h f t xs = bs at *
  have q1 : ¬ (3000 : Int) < (n : Int) := by omega
  have q2 : ¬ (3000 : Int) < (n2 : Int) := by omega
  have q3 : ¬ (300 : Int) < (nb : Int) := by omega
  have q4 := Nat.le_trans hr.cap hr.max
  clear hr hr2 hrb hk hf ht
  go_enter Tryd.func4, Tryd.ntmps4
  go_wp2_with fail
  refine (alive_any _ k0.kn.laid).mono ?_
  rintro ev w1 ⟨rfl, hb⟩
  replace k0 := k0.step hb
  clear hb
  obtain ⟨x0, x1, x2, x3⟩ := k0.p.cells
  obtain ⟨y0, y1, y2, y3⟩ := k0.o.cells
  go_wp2_with fail
  refine (c19.out _ k0.rp').mono ?_
  rintro ev w2 ⟨g, rfl, row, -, hb⟩
  replace k0 := k0.step hb
  clear x0 x1 x2 x3
  clear y0 y1 y2 y3
  clear hb
  obtain ⟨x0, x1, x2, x3⟩ := k0.p.cells
  go_wp2_with fail
  refine (of_pk h A n c xs _ k0.rp' (by omega)).mono ?_
  rintro ev w3 ⟨A3, n3, c3, rfl, o3, hb⟩
  obtain rfl : n = n3 := HX.out.symm.trans o3.len
  replace k0 := k0.step hb
  replace row := row.below hb row.lt
  clear x0 x1 x2 x3
  clear hb
  go_wp2_with fail
  refine (c20.out A3 c3 _ o3.rd).mono ?_
  rintro ev w4 ⟨D, nd, cd, rfl, od, hb⟩
  have ba := alloc_below w4 (.cells (flC none 0 0 0) 37)
  have bb := hb.trans (ba.mono hb.size)
  replace row := row.below bb row.lt
  have k : KF w h A n c xs h2 A2 n2 c2 ys Ab nb cb zs w4.heap.size none 0 0 0 [] (some ⟨g, 0, none⟩) m m D nd cd bs (w4.alloc (.cells (flC none 0 0 0) 37)) :=
    ⟨k0.step bb, heap_alloc_new w4 _, Rd.nil, row.rdW Hbl.out (by omega) Hbw.out, (od.rd.below ba (Nat.le_refl _)).more ba.size⟩
  clear hb ba k0 o3 od bb c19 c20
  go_wp2_with fail
  generalize w4.heap.size = gf at *
  replace k := k.step (below_drew _)
  replace row := row.below (below_drew _) row.lt
  refine wp_region_held_drew (S := fun w' => KF w h A n c xs h2 A2 n2 c2 ys Ab nb cb zs gf none 0 0 0 [] (some ⟨g, 0, none⟩) m m D nd cd bs w') (by kernel_rfl) k (fun hHeld => ?_)
  clear hHeld
  change wpAnyH _ _ _ _ _ _ _ _ (World.drew _)
  generalize World.drew _ = W4 at *
  have hHeld := k
  refine wpAnyH_at (i := 0) (some 51) (v := ?v0z16) rfl rfl (by kernel_rfl) (by kernel_rfl) (by kernel_rfl) (fun _ _ _ h => h) (Or.inl ⟨by rfl, ?y0z16⟩) (by assumption) ?r0z16
  case y0z16 =>
    intro w9 hSw
    clear hSw
    go_simp
    all_goals with_reducible rfl
  simp only [Act.put, List.setIfInBounds_toArray, List.set_cons_zero, List.set_cons_succ]
  refine wpAnyH_at (i := 1) (some 52) (v := ?v1z17) rfl rfl (by kernel_rfl) (by kernel_rfl) (by kernel_rfl) (fun _ _ _ h => h) (Or.inl ⟨by rfl, ?y1z17⟩) (by assumption) ?r1z17
  case y1z17 =>
    intro w9 hSw
    (obtain ⟨a0, a1⟩ := (show KF w h A n c xs h2 A2 n2 c2 ys Ab nb cb zs gf none 0 0 0 [] (some ⟨g, 0, none⟩) m m D nd cd bs w9 from hSw).fault); clear hSw
    go_simp
    all_goals with_reducible rfl
  simp only [Act.put, List.setIfInBounds_toArray, List.set_cons_zero, List.set_cons_succ]
  refine wpAnyH_one (i := 2) (by kernel_rfl) rfl ?_
  go_wp2_with (go_at_call 11; refine (is_nil none 0 0 _).mono ?_; rintro ev V1 ⟨rfl, hb⟩)
  replace k := k.step hb
  replace row := row.below hb row.lt
  clear hb hHeld
  have hHeld := k
  refine ⟨hHeld, ?_⟩
  try simp only [Act.put, List.setIfInBounds_toArray, List.set_cons_zero, List.set_cons_succ]
  refine wpAnyH_at (i := 3) (some 54) (v := ?v3z18) rfl rfl (by kernel_rfl) (by kernel_rfl) (by kernel_rfl) (fun _ _ _ h => h) (Or.inl ⟨by rfl, ?y3z18⟩) (by assumption) ?r3z18
  case y3z18 =>
    intro w9 hSw
    clear hSw
    go_simp
    all_goals with_reducible rfl
  simp only [Act.put, List.setIfInBounds_toArray, List.set_cons_zero, List.set_cons_succ]
  refine wpAnyH_at (i := 4) (some 55) (v := ?v4z19) rfl rfl (by kernel_rfl) (by kernel_rfl) (by kernel_rfl) (fun _ _ _ h => h) (Or.inl ⟨by rfl, ?y4z19⟩) (by assumption) ?r4z19
  case y4z19 =>
    intro w9 hSw
    clear hSw
    go_simp
    all_goals with_reducible rfl
  simp only [Act.put, List.setIfInBounds_toArray, List.set_cons_zero, List.set_cons_succ]
  refine wpAnyH_at (i := 5) (some 56) (v := ?v5z20) rfl rfl (by kernel_rfl) (by kernel_rfl) (by kernel_rfl) (fun _ _ _ h => h) (Or.inl ⟨by rfl, ?y5z20⟩) (by assumption) ?r5z20
  case y5z20 =>
    intro w9 hSw
    clear hSw
    go_simp
    all_goals with_reducible rfl
  simp only [Act.put, List.setIfInBounds_toArray, List.set_cons_zero, List.set_cons_succ]
  refine wpAnyH_at (i := 6) (some 57) (v := ?v6z21) rfl rfl (by kernel_rfl) (by kernel_rfl) (by kernel_rfl) (fun _ _ _ h => h) (Or.inl ⟨by rfl, ?y6z21⟩) (by assumption) ?r6z21
  case y6z21 =>
    intro w9 hSw
    clear hSw
    go_simp
    all_goals with_reducible rfl
  simp only [Act.put, List.setIfInBounds_toArray, List.set_cons_zero, List.set_cons_succ]
  refine wpAnyH_one (i := 7) (by kernel_rfl) rfl ?_
  go_wp2_with (go_at_call 14; refine (same_any _ _ _ _ _ _ _ _ _ _ k.b k.d).mono ?_; rintro ev V2 ⟨rfl, hb⟩)
  replace k := k.step hb
  replace row := row.below hb row.lt
  clear hb hHeld
  have hHeld := k
  refine ⟨hHeld, ?_⟩
  try simp only [Act.put, List.setIfInBounds_toArray, List.set_cons_zero, List.set_cons_succ]
  refine wpAnyH_at (i := 8) (some 59) (v := ?v8z22) rfl rfl (by kernel_rfl) (by kernel_rfl) (by kernel_rfl) (fun _ _ _ h => h) (Or.inl ⟨by rfl, ?y8z22⟩) (by assumption) ?r8z22
  case y8z22 =>
    intro w9 hSw
    clear hSw
    go_simp
    all_goals with_reducible rfl
  simp only [Act.put, List.setIfInBounds_toArray, List.set_cons_zero, List.set_cons_succ]
  refine wpAnyH_at (i := 9) (some 60) (v := ?v9z23) rfl rfl (by kernel_rfl) (by kernel_rfl) (by kernel_rfl) (fun _ _ _ h => h) (Or.inl ⟨by rfl, ?y9z23⟩) (by assumption) ?r9z23
  case y9z23 =>
    intro w9 hSw
    clear hSw
    go_simp
    all_goals with_reducible rfl
  simp only [Act.put, List.setIfInBounds_toArray, List.set_cons_zero, List.set_cons_succ]
  refine wpAnyH_at (i := 10) (some 61) (v := ?v10z24) rfl rfl (by kernel_rfl) (by kernel_rfl) (by kernel_rfl) (fun _ _ _ h => h) (Or.inl ⟨by rfl, ?y10z24⟩) (by assumption) ?r10z24
  case y10z24 =>
    intro w9 hSw
    clear hSw
    go_simp
    all_goals with_reducible rfl
  simp only [Act.put, List.setIfInBounds_toArray, List.set_cons_zero, List.set_cons_succ]
  refine wpAnyH_at (i := 11) (some 62) (v := ?v11z25) rfl rfl (by kernel_rfl) (by kernel_rfl) (by kernel_rfl) (fun _ _ _ h => h) (Or.inl ⟨by rfl, ?y11z25⟩) (by assumption) ?r11z25
  case y11z25 =>
    intro w9 hSw
    (obtain ⟨a0, a1, a2, a3⟩ := (show KF w h A n c xs h2 A2 n2 c2 ys Ab nb cb zs gf none 0 0 0 [] (some ⟨g, 0, none⟩) m m D nd cd bs w9 from hSw).k.p.cells); clear hSw
    go_simp
    all_goals with_reducible rfl
  simp only [Act.put, List.setIfInBounds_toArray, List.set_cons_zero, List.set_cons_succ]
  refine wpAnyH_at (i := 12) (some 63) (v := ?v12z26) rfl rfl (by kernel_rfl) (by kernel_rfl) (by kernel_rfl) (fun _ _ _ h => h) (Or.inl ⟨by rfl, ?y12z26⟩) (by assumption) ?r12z26
  case y12z26 =>
    intro w9 hSw
    (obtain ⟨a0, a1, a2, a3⟩ := (show KF w h A n c xs h2 A2 n2 c2 ys Ab nb cb zs gf none 0 0 0 [] (some ⟨g, 0, none⟩) m m D nd cd bs w9 from hSw).k.o.cells); clear hSw
    go_simp
    all_goals with_reducible rfl
  simp only [Act.put, List.setIfInBounds_toArray, List.set_cons_zero, List.set_cons_succ]
  refine wpAnyH_at (i := 14) (some 65) (v := ?v14z27) rfl rfl (by kernel_rfl) (by kernel_rfl) (by kernel_rfl) (fun _ _ _ h => h) (Or.inl ⟨by rfl, ?y14z27⟩) (by assumption) ?r14z27
  case y14z27 =>
    intro w9 hSw
    (obtain ⟨a0, a1, a2, a3⟩ := (show KF w h A n c xs h2 A2 n2 c2 ys Ab nb cb zs gf none 0 0 0 [] (some ⟨g, 0, none⟩) m m D nd cd bs w9 from hSw).k.p.cells); clear hSw
    go_simp
    all_goals with_reducible rfl
  simp only [Act.put, List.setIfInBounds_toArray, List.set_cons_zero, List.set_cons_succ]
  refine wpAnyH_at (i := 16) (some 67) (v := ?v16z28) rfl rfl (by kernel_rfl) (by kernel_rfl) (by kernel_rfl) (fun _ _ _ h => h) (Or.inl ⟨by rfl, ?y16z28⟩) (by assumption) ?r16z28
  case y16z28 =>
    intro w9 hSw
    (obtain ⟨a0, a1, a2, a3⟩ := (show KF w h A n c xs h2 A2 n2 c2 ys Ab nb cb zs gf none 0 0 0 [] (some ⟨g, 0, none⟩) m m D nd cd bs w9 from hSw).k.o.cells); clear hSw
    go_simp
    all_goals with_reducible rfl
  simp only [Act.put, List.setIfInBounds_toArray, List.set_cons_zero, List.set_cons_succ]
  refine wpAnyH_one (i := 13) (by kernel_rfl) rfl ?_
  go_wp2_with (go_at_call 17; refine (same_pk h h2 _ _ _ _ _ _ xs ys _ k.k.rp' k.k.ro').mono ?_; rintro ev V7 ⟨rfl, hb⟩)
  replace k := k.step hb
  replace row := row.below hb row.lt
  clear hb hHeld
  have hHeld := k
  refine ⟨hHeld, ?_⟩
  try simp only [Act.put, List.setIfInBounds_toArray, List.set_cons_zero, List.set_cons_succ]
  refine wpAnyH_one (i := 15) (by kernel_rfl) rfl ?_
  go_wp2_with (go_at_call 13; refine (of_pk h A n c xs _ k.k.rp' (by omega)).mono ?_; rintro ev V8 ⟨A8, n8, c8, rfl, o8, hb⟩)
  replace k := k.step hb
  replace row := row.below hb row.lt
  clear hb hHeld
  have hHeld := k
  refine ⟨hHeld, ?_⟩
  try simp only [Act.put, List.setIfInBounds_toArray, List.set_cons_zero, List.set_cons_succ]
  refine wpAnyH_one (i := 17) (by kernel_rfl) rfl ?_
  go_wp2_with (go_at_call 13; refine (of_pk h2 A2 n2 c2 ys _ k.k.ro' (by omega)).mono ?_; rintro ev V9 ⟨A9, n9, c9, rfl, o9, hb⟩)
  replace k := k.step hb
  replace row := row.below hb row.lt
  replace o8 := o8.below hb (Nat.le_refl _)
  clear hb hHeld
  have hHeld := k
  refine ⟨hHeld, ?_⟩
  try simp only [Act.put, List.setIfInBounds_toArray, List.set_cons_zero, List.set_cons_succ]
  refine wpAnyH_one (i := 18) (by kernel_rfl) rfl ?_
  go_wp2_with (go_at_call 12; refine (refSame_pk h h2 _ _ _ _ _ _ xs ys _ o8.rd o9.rd).mono ?_; rintro ev V10 ⟨rfl, hb⟩)
  replace k := k.step hb
  replace row := row.below hb row.lt
  clear o8 o9
  clear hb hHeld
  have hHeld := k
  refine ⟨hHeld, ?_⟩
  try simp only [Act.put, List.setIfInBounds_toArray, List.set_cons_zero, List.set_cons_succ]
  refine wpAnyH_at (i := 19) (some 70) (v := ?v19z29) rfl rfl (by kernel_rfl) (by kernel_rfl) (by kernel_rfl) (fun _ _ _ h => h) (Or.inl ⟨by rfl, ?y19z29⟩) (by assumption) ?r19z29
  case y19z29 =>
    intro w9 hSw
    clear hSw
    go_simp
    all_goals with_reducible rfl
  simp only [Act.put, List.setIfInBounds_toArray, List.set_cons_zero, List.set_cons_succ]
  refine wpAnyH_at (i := 20) (some 71) (v := ?v20z30) rfl rfl (by kernel_rfl) (by kernel_rfl) (by kernel_rfl) (fun _ _ _ h => h) (Or.inl ⟨by rfl, ?y20z30⟩) (by assumption) ?r20z30
  case y20z30 =>
    intro w9 hSw
    clear hSw
    go_simp
    all_goals with_reducible rfl
  simp only [Act.put, List.setIfInBounds_toArray, List.set_cons_zero, List.set_cons_succ]
  refine wpAnyH_done (by kernel_rfl) ?_ _
  clear hHeld
  go_wp2_with fail
  have hs := Nat.le_refl V10.heap.size
  refine (own_any (some ⟨g, 0, none⟩) m m V10.heap.size bs _ k.b (Nat.le_refl _) (by omega)).mono ?_
  rintro ev w5 ⟨A5, n5, c5, rfl, o5, hb⟩
  obtain rfl : m = n5 := Hbl.out.symm.trans o5.len
  have b5 := hb.size
  have rb5 := k.k.rb.below hb k.k.kn.below.size
  go_wp2_with (at_builtin; refine wpList_app rfl (.tmp 79) (.tmp 80) 22 rfl V10.heap.size Tryd.underlying22 info5 (by omega) A5 m c5 bs rfl o5 Ab nb cb w.heap.size zs rfl rb5 (by omega) b5 ?_; intro A6 n6 c6 w6 o6 hgr)
  have bb := hb.trans (grown_low o5 hgr b5)
  replace k := k.step bb
  replace row := row.below bb row.lt
  clear hb hgr o5 rb5 b5 hs bb
  refine (cP.out _ _ _ _ o6.rd).mono ?_
  rintro ev w7 ⟨g7, rfl, row7, -, hb⟩
  replace hb := hb.trans ((alloc_below w7 (.cells (pkC h (some ⟨g7, 0, none⟩) n n) 28)).mono hb.size)
  replace k := k.step hb
  replace row := row.below hb row.lt
  replace row7 := row7.below (alloc_below w7 (.cells (pkC h (some ⟨g7, 0, none⟩) n n) 28)) row7.lt
  have p7 := PkAt.new w7 28 h (some ⟨g7, 0, none⟩) n n
  clear hb o6
  go_wp2_with fail
  refine (cQ.out _ _ _ _ k.b).mono ?_
  rintro ev w8 ⟨g8, rfl, row8, -, hb⟩
  have ba := alloc_below w8 (.cells (pkC h (some ⟨g8, 0, none⟩) n n) 28)
  replace hb := hb.trans (ba.mono hb.size)
  have q : KX w h A n c xs g w7.heap.size g7 w8.heap.size g8 bs (w8.alloc (.cells (pkC h (some ⟨g8, 0, none⟩) n n) 28)) :=
    ⟨k.k.kn.step hb, k.k.p.step hb, k.k.rp.below hb k.k.kn.below.size, row.below hb row.lt, p7.step hb, row7.below hb row7.lt, PkAt.new w8 28 h _ n n, row8.below ba row8.lt⟩
  clear hb ba k row row7 row8 p7 cP cQ
  generalize w7.heap.size = gx at *
  obtain ⟨z6, hz6⟩ : ∃ z, bs.getD 6 0 = z := ⟨_, rfl⟩
  obtain ⟨z7, hz7⟩ : ∃ z, bs.getD 7 0 = z := ⟨_, rfl⟩
  rw [hz6, hz7] at H67
  have cells : Hid (∀ W, Row W g bs → W.cell? ⟨g, 6, none⟩ = some (.int .u8 z6) ∧ W.cell? ⟨g, 7, none⟩ = some (.int .u8 z7)) := Lib.hid (fun W q => by
    have l := Hbl.out
    have c6 := q.cell (i := 6) (by omega)
    have c7 := q.cell (i := 7) (by omega)
    rw [hz6] at c6
    rw [hz7] at c7
    exact ⟨c6, c7⟩)
  have e8 : IntKind.i64.wrap (m : Int) = (m : Int) := by rw [IntKind.wrap_i64]; omega
  have i6 : (6 : Int) < (m : Int) := by omega
  have i7 : (7 : Int) < (m : Int) := by omega
  clear hz6 hz7
  go_wp2_with fail
  replace q := q.step (below_drew _)
  generalize w8.heap.size = gy at *
  refine wp_region_held_drew (S := fun w' => KX w h A n c xs g gx g7 gy g8 bs w') (by kernel_rfl) q (fun hHeld => ?_)
  clear hHeld
  change wpAnyH _ _ _ _ _ _ _ _ (World.drew _)
  generalize World.drew _ = W9 at *
  have hHeld := q
  refine wpAnyH_at (i := 0) (some 94) (v := ?v0z31) rfl rfl (by kernel_rfl) (by kernel_rfl) (by kernel_rfl) (fun _ _ _ h => h) (Or.inl ⟨by rfl, ?y0z31⟩) (by assumption) ?r0z31
  case y0z31 =>
    intro w9 hSw
    clear hSw
    go_simp
    all_goals with_reducible rfl
  simp only [Act.put, List.setIfInBounds_toArray, List.set_cons_zero, List.set_cons_succ]
  refine wpAnyH_at (i := 1) (some 95) (v := ?v1z32) rfl rfl (by kernel_rfl) (by kernel_rfl) (by kernel_rfl) (fun _ _ _ h => h) (Or.inl ⟨by rfl, ?y1z32⟩) (by assumption) ?r1z32
  case y1z32 =>
    intro w9 hSw
    clear hSw
    go_simp
    all_goals with_reducible rfl
  simp only [Act.put, List.setIfInBounds_toArray, List.set_cons_zero, List.set_cons_succ]
  refine wpAnyH_at (i := 2) (some 96) (v := ?v2z33) rfl rfl (by kernel_rfl) (by kernel_rfl) (by kernel_rfl) (fun _ _ _ h => h) (Or.inl ⟨by rfl, ?y2z33⟩) (by assumption) ?r2z33
  case y2z33 =>
    intro w9 hSw
    clear hSw
    go_simp
    all_goals with_reducible rfl
  simp only [Act.put, List.setIfInBounds_toArray, List.set_cons_zero, List.set_cons_succ]
  refine wpAnyH_at (i := 3) (some 97) (v := ?v3z34) rfl rfl (by kernel_rfl) (by kernel_rfl) (by kernel_rfl) (fun _ _ _ h => h) (Or.inl ⟨by rfl, ?y3z34⟩) (by assumption) ?r3z34
  case y3z34 =>
    intro w9 hSw
    clear hSw
    go_simp
    all_goals with_reducible rfl
  simp only [Act.put, List.setIfInBounds_toArray, List.set_cons_zero, List.set_cons_succ]
  refine wpAnyH_at (i := 4) (some 98) (v := ?v4z35) rfl rfl (by kernel_rfl) (by kernel_rfl) (by kernel_rfl) (fun _ _ _ h => h) (Or.inl ⟨by rfl, ?y4z35⟩) (by assumption) ?r4z35
  case y4z35 =>
    intro w9 hSw
    clear hSw
    go_simp
    all_goals with_reducible rfl
  simp only [Act.put, List.setIfInBounds_toArray, List.set_cons_zero, List.set_cons_succ]
  refine wpAnyH_at (i := 5) (some 99) (v := ?v5z36) rfl rfl (by kernel_rfl) (by kernel_rfl) (by kernel_rfl) (fun _ _ _ h => h) (Or.inl ⟨by rfl, ?y5z36⟩) (by assumption) ?r5z36
  case y5z36 =>
    intro w9 hSw
    clear hSw
    go_simp
    all_goals with_reducible rfl
  simp only [Act.put, List.setIfInBounds_toArray, List.set_cons_zero, List.set_cons_succ]
  refine wpAnyH_at (i := 6) (some 100) (v := ?v6z37) rfl rfl (by kernel_rfl) (by kernel_rfl) (by kernel_rfl) (fun _ _ _ h => h) (Or.inl ⟨by rfl, ?y6z37⟩) (by assumption) ?r6z37
  case y6z37 =>
    intro w9 hSw
    clear hSw
    go_simp
    all_goals with_reducible rfl
  simp only [Act.put, List.setIfInBounds_toArray, List.set_cons_zero, List.set_cons_succ]
  refine wpAnyH_at (i := 7) (some 101) (v := ?v7z38) rfl rfl (by kernel_rfl) (by kernel_rfl) (by kernel_rfl) (fun _ _ _ h => h) (Or.inl ⟨by rfl, ?y7z38⟩) (by assumption) ?r7z38
  case y7z38 =>
    intro w9 hSw
    (obtain ⟨a0, a1, a2, a3⟩ := (show KX w h A n c xs g gx g7 gy g8 bs w9 from hSw).x.cells); clear hSw
    go_simp
    all_goals with_reducible rfl
  simp only [Act.put, List.setIfInBounds_toArray, List.set_cons_zero, List.set_cons_succ]
  refine wpAnyH_at (i := 8) (some 102) (v := ?v8z39) rfl rfl (by kernel_rfl) (by kernel_rfl) (by kernel_rfl) (fun _ _ _ h => h) (Or.inl ⟨by rfl, ?y8z39⟩) (by assumption) ?r8z39
  case y8z39 =>
    intro w9 hSw
    (obtain ⟨a0, a1, a2, a3⟩ := (show KX w h A n c xs g gx g7 gy g8 bs w9 from hSw).p.cells); clear hSw
    go_simp
    all_goals with_reducible rfl
  simp only [Act.put, List.setIfInBounds_toArray, List.set_cons_zero, List.set_cons_succ]
  refine wpAnyH_one (i := 9) (by kernel_rfl) rfl ?_
  have sm := same_pk h h _ _ _ _ _ _ xs xs _ (q.r1.rdW (n := n) HX.out (by omega) HW.out) (q.rp.more q.kn.below.size)
  rw [smB_self] at sm
  go_wp2_with (go_at_call 17; refine sm.mono ?_; rintro ev V11 ⟨rfl, hb⟩)
  replace q := q.step hb
  clear hb hHeld sm
  have hHeld := q
  refine ⟨hHeld, ?_⟩
  try simp only [Act.put, List.setIfInBounds_toArray, List.set_cons_zero, List.set_cons_succ]
  refine wpAnyH_at (i := 10) (some 104) (v := ?v10z40) rfl rfl (by kernel_rfl) (by kernel_rfl) (by kernel_rfl) (fun _ _ _ h => h) (Or.inl ⟨by rfl, ?y10z40⟩) (by assumption) ?r10z40
  case y10z40 =>
    intro w9 hSw
    clear hSw
    go_simp
    all_goals with_reducible rfl
  simp only [Act.put, List.setIfInBounds_toArray, List.set_cons_zero, List.set_cons_succ]
  refine wpAnyH_at (i := 11) (some 105) (v := ?v11z41) rfl rfl (by kernel_rfl) (by kernel_rfl) (by kernel_rfl) (fun _ _ _ h => h) (Or.inl ⟨by rfl, ?y11z41⟩) (by assumption) ?r11z41
  case y11z41 =>
    intro w9 hSw
    clear hSw
    go_simp
    all_goals with_reducible rfl
  simp only [Act.put, List.setIfInBounds_toArray, List.set_cons_zero, List.set_cons_succ]
  refine wpAnyH_at (i := 12) (some 106) (v := ?v12z42) rfl rfl (by kernel_rfl) (by kernel_rfl) (by kernel_rfl) (fun _ _ _ h => h) (Or.inl ⟨by rfl, ?y12z42⟩) (by assumption) ?r12z42
  case y12z42 =>
    intro w9 hSw
    (obtain ⟨a0, a1, a2, a3⟩ := (show KX w h A n c xs g gx g7 gy g8 bs w9 from hSw).y.cells); clear hSw
    go_simp
    all_goals with_reducible rfl
  simp only [Act.put, List.setIfInBounds_toArray, List.set_cons_zero, List.set_cons_succ]
  refine wpAnyH_at (i := 13) (some 107) (v := ?v13z43) rfl rfl (by kernel_rfl) (by kernel_rfl) (by kernel_rfl) (fun _ _ _ h => h) (Or.inl ⟨by rfl, ?y13z43⟩) (by assumption) ?r13z43
  case y13z43 =>
    intro w9 hSw
    (obtain ⟨a0, a1, a2, a3⟩ := (show KX w h A n c xs g gx g7 gy g8 bs w9 from hSw).p.cells); clear hSw
    go_simp
    all_goals with_reducible rfl
  simp only [Act.put, List.setIfInBounds_toArray, List.set_cons_zero, List.set_cons_succ]
  refine wpAnyH_one (i := 14) (by kernel_rfl) rfl ?_
  have sm := same_pk h h _ _ _ _ _ _ xs xs _ (q.r2.rdW (n := n) HX.out (by omega) HW.out) (q.rp.more q.kn.below.size)
  rw [smB_self] at sm
  go_wp2_with (go_at_call 17; refine sm.mono ?_; rintro ev V12 ⟨rfl, hb⟩)
  replace q := q.step hb
  clear hb hHeld sm
  have hHeld := q
  refine ⟨hHeld, ?_⟩
  try simp only [Act.put, List.setIfInBounds_toArray, List.set_cons_zero, List.set_cons_succ]
  refine wpAnyH_at (i := 15) (some 109) (v := ?v15z44) rfl rfl (by kernel_rfl) (by kernel_rfl) (by kernel_rfl) (fun _ _ _ h => h) (Or.inl ⟨by rfl, ?y15z44⟩) (by assumption) ?r15z44
  case y15z44 =>
    intro w9 hSw
    clear hSw
    go_simp
    all_goals with_reducible rfl
  simp only [Act.put, List.setIfInBounds_toArray, List.set_cons_zero, List.set_cons_succ]
  refine wpAnyH_at (i := 16) (some 110) (v := ?v16z45) rfl rfl (by kernel_rfl) (by kernel_rfl) (by kernel_rfl) (fun _ _ _ h => h) (Or.inl ⟨by rfl, ?y16z45⟩) (by assumption) ?r16z45
  case y16z45 =>
    intro w9 hSw
    clear hSw
    go_simp
    all_goals with_reducible rfl
  simp only [Act.put, List.setIfInBounds_toArray, List.set_cons_zero, List.set_cons_succ]
  refine wpAnyH_at (i := 17) (some 111) (v := ?v17z46) rfl rfl (by kernel_rfl) (by kernel_rfl) (by kernel_rfl) (fun _ _ _ h => h) (Or.inl ⟨by rfl, ?y17z46⟩) (by assumption) ?r17z46
  case y17z46 =>
    intro w9 hSw
    clear hSw
    go_simp
    all_goals with_reducible rfl
  simp only [Act.put, List.setIfInBounds_toArray, List.set_cons_zero, List.set_cons_succ]
  refine wpAnyH_at (i := 18) (some 112) (v := ?v18z47) rfl rfl (by kernel_rfl) (by kernel_rfl) (by kernel_rfl) (fun _ _ _ h => h) (Or.inl ⟨by rfl, ?y18z47⟩) (by assumption) ?r18z47
  case y18z47 =>
    intro w9 hSw
    clear hSw
    go_simp
    all_goals with_reducible rfl
  simp only [Act.put, List.setIfInBounds_toArray, List.set_cons_zero, List.set_cons_succ]
  refine wpAnyH_at (i := 19) (some 113) (v := ?v19z48) rfl rfl (by kernel_rfl) (by kernel_rfl) (by kernel_rfl) (fun _ _ _ h => h) (Or.inl ⟨by rfl, ?y19z48⟩) (by assumption) ?r19z48
  case y19z48 =>
    intro w9 hSw
    clear hSw
    go_simp
    all_goals with_reducible rfl
  simp only [Act.put, List.setIfInBounds_toArray, List.set_cons_zero, List.set_cons_succ]
  refine wpAnyH_at (i := 20) (some 114) (v := ?v20z49) rfl rfl (by kernel_rfl) (by kernel_rfl) (by kernel_rfl) (fun _ _ _ h => h) (Or.inl ⟨by rfl, ?y20z49⟩) (by assumption) ?r20z49
  case y20z49 =>
    intro w9 hSw
    (obtain ⟨a0, a1, a2, a3⟩ := (show KX w h A n c xs g gx g7 gy g8 bs w9 from hSw).p.cells); clear hSw
    go_simp
    all_goals with_reducible rfl
  simp only [Act.put, List.setIfInBounds_toArray, List.set_cons_zero, List.set_cons_succ]
  refine wpAnyH_at (i := 21) (some 115) (v := ?v21z50) rfl rfl (by kernel_rfl) (by kernel_rfl) (by kernel_rfl) (fun _ _ _ h => h) (Or.inl ⟨by rfl, ?y21z50⟩) (by assumption) ?r21z50
  case y21z50 =>
    intro w9 hSw
    clear hSw
    go_simp
    all_goals with_reducible rfl
  simp only [Act.put, List.setIfInBounds_toArray, List.set_cons_zero, List.set_cons_succ]
  refine wpAnyH_at (i := 22) (some 116) (v := ?v22z51) rfl rfl (by kernel_rfl) (by kernel_rfl) (by kernel_rfl) (fun _ _ _ h => h) (Or.inl ⟨by rfl, ?y22z51⟩) (by assumption) ?r22z51
  case y22z51 =>
    intro w9 hSw
    clear hSw
    go_simp
    all_goals with_reducible rfl
  simp only [Act.put, List.setIfInBounds_toArray, List.set_cons_zero, List.set_cons_succ]
  refine wpAnyH_at (i := 23) (some 117) (v := ?v23z52) rfl rfl (by kernel_rfl) (by kernel_rfl) (by kernel_rfl) (fun _ _ _ h => h) (Or.inl ⟨by rfl, ?y23z52⟩) (by assumption) ?r23z52
  case y23z52 =>
    intro w9 hSw
    clear hSw
    go_simp
    all_goals with_reducible rfl
  simp only [Act.put, List.setIfInBounds_toArray, List.set_cons_zero, List.set_cons_succ]
  refine wpAnyH_at (i := 24) (some 118) (v := ?v24z53) rfl rfl (by kernel_rfl) (by kernel_rfl) (by kernel_rfl) (fun _ _ _ h => h) (Or.inl ⟨by rfl, ?y24z53⟩) (by assumption) ?r24z53
  case y24z53 =>
    intro w9 hSw
    clear hSw
    go_simp
    all_goals with_reducible rfl
  simp only [Act.put, List.setIfInBounds_toArray, List.set_cons_zero, List.set_cons_succ]
  refine wpAnyH_at (i := 25) (some 119) (v := ?v25z54) rfl rfl (by kernel_rfl) (by kernel_rfl) (by kernel_rfl) (fun _ _ _ h => h) (Or.inl ⟨by rfl, ?y25z54⟩) (by assumption) ?r25z54
  case y25z54 =>
    intro w9 hSw
    clear hSw
    go_simp
    all_goals with_reducible rfl
  simp only [Act.put, List.setIfInBounds_toArray, List.set_cons_zero, List.set_cons_succ]
  refine wpAnyH_at (i := 26) (some 120) (v := ?v26z55) rfl rfl (by kernel_rfl) (by kernel_rfl) (by kernel_rfl) (fun _ _ _ h => h) (Or.inl ⟨by rfl, ?y26z55⟩) (by assumption) ?r26z55
  case y26z55 =>
    intro w9 hSw
    clear hSw
    go_simp
    all_goals with_reducible rfl
  simp only [Act.put, List.setIfInBounds_toArray, List.set_cons_zero, List.set_cons_succ]
  refine wpAnyH_at (i := 27) (some 121) (v := ?v27z56) rfl rfl (by kernel_rfl) (by kernel_rfl) (by kernel_rfl) (fun _ _ _ h => h) (Or.inl ⟨by rfl, ?y27z56⟩) (by assumption) ?r27z56
  case y27z56 =>
    intro w9 hSw
    (obtain ⟨a0, a1, a2, a3⟩ := (show KX w h A n c xs g gx g7 gy g8 bs w9 from hSw).p.cells); clear hSw
    go_simp
    all_goals with_reducible rfl
  simp only [Act.put, List.setIfInBounds_toArray, List.set_cons_zero, List.set_cons_succ]
  refine wpAnyH_at (i := 28) (some 122) (v := ?v28z57) rfl rfl (by kernel_rfl) (by kernel_rfl) (by kernel_rfl) (fun _ _ _ h => h) (Or.inl ⟨by rfl, ?y28z57⟩) (by assumption) ?r28z57
  case y28z57 =>
    intro w9 hSw
    clear hSw
    go_simp
    all_goals with_reducible rfl
  simp only [Act.put, List.setIfInBounds_toArray, List.set_cons_zero, List.set_cons_succ]
  refine wpAnyH_at (i := 29) (some 123) (v := ?v29z58) rfl rfl (by kernel_rfl) (by kernel_rfl) (by kernel_rfl) (fun _ _ _ h => h) (Or.inl ⟨by rfl, ?y29z58⟩) (by assumption) ?r29z58
  case y29z58 =>
    intro w9 hSw
    clear hSw
    go_simp
    all_goals with_reducible rfl
  simp only [Act.put, List.setIfInBounds_toArray, List.set_cons_zero, List.set_cons_succ]
  by_cases hz : z6 = 0
  · subst hz
    have hz7 := H67.out.1 rfl
    clear H67
    generalize h.bare = bv at *
    refine wpAnyH_at (i := 30) (some 124) (v := ?v30z59) rfl rfl (by kernel_rfl) (by kernel_rfl) (by kernel_rfl) (fun _ _ _ h => h) (Or.inl ⟨by rfl, ?y30z59⟩) (by assumption) ?r30z59
    case y30z59 =>
      intro w9 hSw
      (obtain ⟨a0, a1⟩ := cells.out _ (show KX w h A n c xs g gx g7 gy g8 bs w9 from hSw).b); clear hSw
      go_simp
      all_goals with_reducible rfl
    simp only [Act.put, List.setIfInBounds_toArray, List.set_cons_zero, List.set_cons_succ]
    refine wpAnyH_at (i := 31) (some 125) (v := ?v31z60) rfl rfl (by kernel_rfl) (by kernel_rfl) (by kernel_rfl) (fun _ _ _ h => h) (Or.inl ⟨by rfl, ?y31z60⟩) (by assumption) ?r31z60
    case y31z60 =>
      intro w9 hSw
      clear hSw
      go_simp
      all_goals with_reducible rfl
    simp only [Act.put, List.setIfInBounds_toArray, List.set_cons_zero, List.set_cons_succ]
    refine wpAnyH_at (i := 32) (some 126) (v := ?v32z61) rfl rfl (by kernel_rfl) (by kernel_rfl) (by kernel_rfl) (fun _ _ _ h => h) (Or.inl ⟨by rfl, ?y32z61⟩) (by assumption) ?r32z61
    case y32z61 =>
      intro w9 hSw
      clear hSw
      go_simp
      all_goals with_reducible rfl
    simp only [Act.put, List.setIfInBounds_toArray, List.set_cons_zero, List.set_cons_succ]
    refine wpAnyH_at (i := 33) (some 127) (v := ?v33z62) rfl rfl (by kernel_rfl) (by kernel_rfl) (by kernel_rfl) (fun _ _ _ h => h) (Or.inl ⟨by rfl, ?y33z62⟩) (by assumption) ?r33z62
    case y33z62 =>
      intro w9 hSw
      clear hSw
      go_simp
      all_goals with_reducible rfl
    simp only [Act.put, List.setIfInBounds_toArray, List.set_cons_zero, List.set_cons_succ]
    refine wpAnyH_at (i := 34) (some 128) (v := ?v34z63) rfl rfl (by kernel_rfl) (by kernel_rfl) (by kernel_rfl) (fun _ _ _ h => h) (Or.inl ⟨by rfl, ?y34z63⟩) (by assumption) ?r34z63
    case y34z63 =>
      intro w9 hSw
      clear hSw
      go_simp
      all_goals with_reducible rfl
    simp only [Act.put, List.setIfInBounds_toArray, List.set_cons_zero, List.set_cons_succ]
    refine wpAnyH_at (i := 35) (some 129) (v := ?v35z64) rfl rfl (by kernel_rfl) (by kernel_rfl) (by kernel_rfl) (fun _ _ _ h => h) (Or.inl ⟨by rfl, ?y35z64⟩) (by assumption) ?r35z64
    case y35z64 =>
      intro w9 hSw
      (obtain ⟨a0, a1⟩ := cells.out _ (show KX w h A n c xs g gx g7 gy g8 bs w9 from hSw).b); clear hSw
      go_simp
      all_goals with_reducible rfl
    simp only [Act.put, List.setIfInBounds_toArray, List.set_cons_zero, List.set_cons_succ]
    refine wpAnyH_at (i := 36) (some 130) (v := ?v36z65) rfl rfl (by kernel_rfl) (by kernel_rfl) (by kernel_rfl) (fun _ _ _ h => h) (Or.inl ⟨by rfl, ?y36z65⟩) (by assumption) ?r36z65
    case y36z65 =>
      intro w9 hSw
      clear hSw
      go_simp
      all_goals with_reducible rfl
    simp only [Act.put, List.setIfInBounds_toArray, List.set_cons_zero, List.set_cons_succ]
    refine wpAnyH_at (i := 37) (some 131) (v := ?v37z66) rfl rfl (by kernel_rfl) (by kernel_rfl) (by kernel_rfl) (fun _ _ _ h => h) (Or.inl ⟨by rfl, ?y37z66⟩) (by assumption) ?r37z66
    case y37z66 =>
      intro w9 hSw
      clear hSw
      go_simp
      all_goals with_reducible rfl
    simp only [Act.put, List.setIfInBounds_toArray, List.set_cons_zero, List.set_cons_succ]
    refine wpAnyH_at (i := 38) (some 132) (v := ?v38z67) rfl rfl (by kernel_rfl) (by kernel_rfl) (by kernel_rfl) (fun _ _ _ h => h) (Or.inl ⟨by rfl, ?y38z67⟩) (by assumption) ?r38z67
    case y38z67 =>
      intro w9 hSw
      clear hSw
      go_simp
      all_goals with_reducible rfl
    simp only [Act.put, List.setIfInBounds_toArray, List.set_cons_zero, List.set_cons_succ]
    refine wpAnyH_at (i := 39) (some 133) (v := ?v39z68) rfl rfl (by kernel_rfl) (by kernel_rfl) (by kernel_rfl) (fun _ _ _ h => h) (Or.inl ⟨by rfl, ?y39z68⟩) (by assumption) ?r39z68
    case y39z68 =>
      intro w9 hSw
      clear hSw
      go_simp
      all_goals with_reducible rfl
    simp only [Act.put, List.setIfInBounds_toArray, List.set_cons_zero, List.set_cons_succ]
    refine wpAnyH_at (i := 40) (some 10) (v := ?v40z69) rfl rfl (by kernel_rfl) (by kernel_rfl) (by kernel_rfl) (fun _ _ _ h => h) (Or.inl ⟨by rfl, ?y40z69⟩) (by assumption) ?r40z69
    case y40z69 =>
      intro w9 hSw
      clear hSw
      go_simp
      all_goals with_reducible rfl
    simp only [Act.put, List.setIfInBounds_toArray, List.set_cons_zero, List.set_cons_succ]
    refine wpAnyH_done (by kernel_rfl) ?_ _
    clear hHeld
    go_wp2
    go_ret
    exact ⟨rfl, q.kn.below⟩
  · have hbv := H67.out.2 hz
    have hzb : (z6 == 0) = false := by simpa using hz
    clear H67
    refine wpAnyH_at (i := 30) (some 124) (v := ?v30z70) rfl rfl (by kernel_rfl) (by kernel_rfl) (by kernel_rfl) (fun _ _ _ h => h) (Or.inl ⟨by rfl, ?y30z70⟩) (by assumption) ?r30z70
    case y30z70 =>
      intro w9 hSw
      (obtain ⟨a0, a1⟩ := cells.out _ (show KX w h A n c xs g gx g7 gy g8 bs w9 from hSw).b); clear hSw
      go_simp
      all_goals with_reducible rfl
    simp only [Act.put, List.setIfInBounds_toArray, List.set_cons_zero, List.set_cons_succ]
    refine wpAnyH_at (i := 31) (some 125) (v := ?v31z71) rfl rfl (by kernel_rfl) (by kernel_rfl) (by kernel_rfl) (fun _ _ _ h => h) (Or.inl ⟨by rfl, ?y31z71⟩) (by assumption) ?r31z71
    case y31z71 =>
      intro w9 hSw
      clear hSw
      go_simp
      all_goals with_reducible rfl
    simp only [Act.put, List.setIfInBounds_toArray, List.set_cons_zero, List.set_cons_succ]
    refine wpAnyH_at (i := 32) (some 126) (v := ?v32z72) rfl rfl (by kernel_rfl) (by kernel_rfl) (by kernel_rfl) (fun _ _ _ h => h) (Or.inl ⟨by rfl, ?y32z72⟩) (by assumption) ?r32z72
    case y32z72 =>
      intro w9 hSw
      clear hSw
      go_simp
      all_goals with_reducible rfl
    simp only [Act.put, List.setIfInBounds_toArray, List.set_cons_zero, List.set_cons_succ]
    refine wpAnyH_at (i := 33) (some 127) (v := undef) rfl rfl (by kernel_rfl) (by kernel_rfl) (by kernel_rfl) (fun _ _ _ h => h) (Or.inr ⟨by rfl, rfl⟩) (by assumption) ?_
    simp only [Act.put, List.setIfInBounds_toArray, List.set_cons_zero, List.set_cons_succ]
    refine wpAnyH_at (i := 34) (some 128) (v := undef) rfl rfl (by kernel_rfl) (by kernel_rfl) (by kernel_rfl) (fun _ _ _ h => h) (Or.inr ⟨by rfl, rfl⟩) (by assumption) ?_
    simp only [Act.put, List.setIfInBounds_toArray, List.set_cons_zero, List.set_cons_succ]
    refine wpAnyH_at (i := 35) (some 129) (v := undef) rfl rfl (by kernel_rfl) (by kernel_rfl) (by kernel_rfl) (fun _ _ _ h => h) (Or.inr ⟨by rfl, rfl⟩) (by assumption) ?_
    simp only [Act.put, List.setIfInBounds_toArray, List.set_cons_zero, List.set_cons_succ]
    refine wpAnyH_at (i := 36) (some 130) (v := undef) rfl rfl (by kernel_rfl) (by kernel_rfl) (by kernel_rfl) (fun _ _ _ h => h) (Or.inr ⟨by rfl, rfl⟩) (by assumption) ?_
    simp only [Act.put, List.setIfInBounds_toArray, List.set_cons_zero, List.set_cons_succ]
    refine wpAnyH_at (i := 37) (some 131) (v := ?v37z73) rfl rfl (by kernel_rfl) (by kernel_rfl) (by kernel_rfl) (fun _ _ _ h => h) (Or.inl ⟨by rfl, ?y37z73⟩) (by assumption) ?r37z73
    case y37z73 =>
      intro w9 hSw
      clear hSw
      go_simp
      all_goals with_reducible rfl
    simp only [Act.put, List.setIfInBounds_toArray, List.set_cons_zero, List.set_cons_succ]
    refine wpAnyH_at (i := 38) (some 132) (v := ?v38z74) rfl rfl (by kernel_rfl) (by kernel_rfl) (by kernel_rfl) (fun _ _ _ h => h) (Or.inl ⟨by rfl, ?y38z74⟩) (by assumption) ?r38z74
    case y38z74 =>
      intro w9 hSw
      clear hSw
      go_simp
      all_goals with_reducible rfl
    simp only [Act.put, List.setIfInBounds_toArray, List.set_cons_zero, List.set_cons_succ]
    refine wpAnyH_at (i := 39) (some 133) (v := ?v39z75) rfl rfl (by kernel_rfl) (by kernel_rfl) (by kernel_rfl) (fun _ _ _ h => h) (Or.inl ⟨by rfl, ?y39z75⟩) (by assumption) ?r39z75
    case y39z75 =>
      intro w9 hSw
      clear hSw
      go_simp
      all_goals with_reducible rfl
    simp only [Act.put, List.setIfInBounds_toArray, List.set_cons_zero, List.set_cons_succ]
    refine wpAnyH_at (i := 40) (some 10) (v := ?v40z76) rfl rfl (by kernel_rfl) (by kernel_rfl) (by kernel_rfl) (fun _ _ _ h => h) (Or.inl ⟨by rfl, ?y40z76⟩) (by assumption) ?r40z76
    case y40z76 =>
      intro w9 hSw
      clear hSw
      go_simp
      all_goals with_reducible rfl
    simp only [Act.put, List.setIfInBounds_toArray, List.set_cons_zero, List.set_cons_succ]
    refine wpAnyH_done (by kernel_rfl) ?_ _
    clear hHeld
    go_wp2
    go_ret
    exact ⟨rfl, q.kn.below⟩
theorem writes_law (h : Hd) (A : Option Addr) (n c : Nat) (xs : List Int) (h2 : Hd) (A2 : Option Addr) (n2 c2 : Nat) (ys : List Int) (Ab : Option Addr) (nb cb : Nat) (zs : List Int) (f t : Int) (w : World) (hg : Laid w) (hr : Rd .u8 w w.heap.size A n c xs) (hr2 : Rd .u8 w w.heap.size A2 n2 c2 ys) (hrb : Rd .u8 w w.heap.size Ab nb cb zs) (hk : h.ok) (hf : Ip f) (ht : Ip t) : Calls Tryd.prog 4 #[pkV h A n c, pkV h2 A2 n2 c2, .int .u32 f, .int .u32 t, .slice Ab nb cb] w fun e w' => e = .returned (.bool true) ∧ Below w.heap.size w w' := by
  by_cases hn : 3000 < n ∨ 3000 < n2 ∨ 300 < nb
  · exact writes_far h A n c xs h2 A2 n2 c2 ys Ab nb cb zs f t w hg hr hr2 hrb hn
  · by_cases hb : 1472 < n
    · exact writes_big h A n c xs h2 A2 n2 c2 ys Ab nb cb zs f t w hg hr hr2 hrb hk hf ht (by omega) (by omega) (by omega) hb
    · exact writes_near h A n c xs h2 A2 n2 c2 ys Ab nb cb zs f t w hg hr hr2 hrb hk hf ht (by omega) (by omega) (by omega) (by omega) _ rfl
theorem writes_args (h : Hd) (A : Option Addr) (n c : Nat) (xs : List Int) (h2 : Hd) (A2 : Option Addr) (n2 c2 : Nat) (ys : List Int) (f t : Int) (Ab : Option Addr) (nb cb : Nat) (zs : List Int) (w : World) (hg : Laid w) (hk : h.ok) (hr : Rd .u8 w w.heap.size A n c xs) (hk2 : h2.ok) (hr2 : Rd .u8 w w.heap.size A2 n2 c2 ys) (hf : Ip f) (ht : Ip t) (hrb : Rd .u8 w w.heap.size Ab nb cb zs) : Calls Tryd.prog 4 #[pkV h A n c, pkV h2 A2 n2 c2, .int .u32 f, .int .u32 t, .slice Ab nb cb] w fun e w' => e = .returned (.bool true) ∧ Below w.heap.size w w' := by
  exact writes_law h A n c xs h2 A2 n2 c2 ys Ab nb cb zs f t w hg hr hr2 hrb hk hf ht
end Go.Proofs.YtmgdfckhnjihpaaDoor
