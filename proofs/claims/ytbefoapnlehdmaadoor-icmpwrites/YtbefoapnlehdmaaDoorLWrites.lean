/-
  The law IcmpWrites, all of it.
-/
import Derived.Test.YtbefoapnlehdmaaDoorLWrites0
namespace Go.Proofs.YtbefoapnlehdmaaDoor
open Go.RowKit
set_option linter.unusedVariables false

set_option maxRecDepth 100000 in
set_option maxHeartbeats 4000000 in
theorem writes_big (h : Ms) (A : Option Addr) (n c : Nat) (xs : List Int) (h2 : Ms) (A2 : Option Addr) (n2 c2 : Nat) (ys : List Int) (k : Int) (w : World) (hg : Laid w) (hk : h.ok) (hr : Rd .u8 w w.heap.size A n c xs) (hk2 : h2.ok) (hr2 : Rd .u8 w w.heap.size A2 n2 c2 ys) (hkb : 0 ≤ k ∧ k ≤ 65535) (hn1 : 1472 < n) (hn : n ≤ 3000) (hn2 : n2 ≤ 3000) : Calls Tryd.prog 4 #[msV h A n c, msV h2 A2 n2 c2, .int .u16 k] w fun e w' => e = .returned (.bool true) ∧ Below w.heap.size w w' := by
  have q := KM.start (h := h) (h2 := h2) hg hr hr2
  have m1 : ¬ (3000 : Int) < (n : Int) := by omega
  have m2 : ¬ (3000 : Int) < (n2 : Int) := by omega
  have hcap := hr.cap
  have hmax := hr.max
  have hcap2 := hr2.cap
  have hmax2 := hr2.max
  have cC := Lib.hid (fun A n c W => class_any h A n c W)
  have cD := Lib.hid (fun A n c W => refClass_any h A n c W)
  have cM := Lib.hid (fun A n c W => mark_any h A n c W hk)
  have cN := Lib.hid (fun A n c W => refMark_any h A n c W hk)
  have cX := Lib.hid (fun W A n c (q : Rd .u8 W W.heap.size A n c xs) (hn : n ≤ 100000) => marked_any h A n c xs k W q hn hkb)
  have cY := Lib.hid (fun W A n c (q : Rd .u8 W W.heap.size A n c xs) (hn : n ≤ 100000) => refMarked_any h A n c xs k W q hn hkb)
  have cS := Lib.hid (fun W A n c A2 n2 c2 (q : Rd .u8 W W.heap.size A n c xs) (q2 : Rd .u8 W W.heap.size A2 n2 c2 ys) => same_ms h h2 A A2 n c n2 c2 xs ys W q q2 hk hk2)
  have Xl := Lib.hid hr.len
  have Xw := Lib.hid hr.2.2.2.1
  have cB := Lib.hid (fun W A c => mbytes_far h A n c W hn1 (by omega))
  have cR := Lib.hid (fun W A c (q : Rd .u8 W W.heap.size A n c xs) => refMBytes_far h A n c xs W q hn1)
  clear hn1
  generalize mkN h = mn at *
  generalize clsV h = cl at *
  generalize hks : mkS h k = hs at *
  generalize hbb : mmB h h2 xs ys = bb at *
  have BB := Lib.hid hbb
  have s35 := Lib.hid (fun W A n c A2 n2 c2 (q : Rd .u8 W W.heap.size A n c xs) (q2 : Rd .u8 W W.heap.size A2 n2 c2 xs) => by have := refSame_ms hs hs A A2 n c n2 c2 xs xs W q q2; rwa [mmB_self] at this)
  have s46 := Lib.hid (fun W A n c A2 n2 c2 (q : Rd .u8 W W.heap.size A n c xs) (q2 : Rd .u8 W W.heap.size A2 n2 c2 ys) => by have := refSame_ms h h2 A A2 n c n2 c2 xs ys W q q2; rwa [hbb] at this)
  clear hr hr2 hk hk2 hkb hks hbb BB
  go_enter Tryd.func4, Tryd.ntmps4
  go_wp2_with (go_at_call 8; refine (alive_any _ q.kn.laid).mono ?_; rintro ev w1 ⟨rfl, hb⟩; replace q := q.step hb; clear hb; obtain ⟨a0, a1, a2, a3, a4, a5, a6⟩ := q.m.cells; obtain ⟨b0, b1, b2, b3, b4, b5, b6⟩ := q.o.cells)
  refine (cB.out _ _ _).mono ?_
  rintro ev w2 ⟨rfl, hb⟩
  replace q := q.step hb
  clear hb cB a0 a1 a2 a3 a4 a5 a6 b0 b1 b2 b3 b4 b5 b6
  obtain ⟨a0, a1, a2, a3, a4, a5, a6⟩ := q.m.cells
  go_wp2_with fail
  refine (of_ms h A n c xs _ q.rm' (by omega)).mono ?_
  rintro ev w3 ⟨A3, n3, c3, rfl, o3, hb⟩
  obtain rfl : n = n3 := Xl.out.symm.trans o3.len
  replace q := q.step hb
  skip
  clear hb a0 a1 a2 a3 a4 a5 a6
  go_wp2_with fail
  refine (cR.out _ _ _ o3.rd).mono ?_
  rintro ev w4 ⟨Af1, nf1, cf1, rfl, rf1, hb⟩
  have ba : Below w4.heap.size w4 (w4.alloc (.cells (flC Af1 nf1 cf1 11) 36)) := alloc_below w4 _
  have f : KF w none 0 0 none 0 0 [] w4.heap.size Af1 nf1 cf1 11 [1] (w4.alloc (.cells (flC Af1 nf1 cf1 11) 36)) := ⟨Rd.nil, Rd.nil, heap_alloc_new w4 _, (rf1.below ba (Nat.le_refl _)).more ba.size⟩
  replace hb := hb.trans (ba.mono hb.size)
  replace q := q.step hb
  clear hb ba o3 cR rf1
  go_wp2_with fail
  replace q := q.step (below_drew _)
  replace f := f.step (below_drew _)
  refine wp_region_held_drew (S := fun w' => (KM w h A n c xs h2 A2 n2 c2 ys w' ∧ KF w none 0 0 none 0 0 [] w4.heap.size Af1 nf1 cf1 11 [1] w')) (by kernel_rfl) ⟨q, f⟩ (fun hHeld => ?_)
  clear hHeld
  change wpAnyH _ _ _ _ _ _ _ _ (World.drew _)
  generalize World.drew _ = U0 at *
  have hHeld := And.intro q f
  refine wpAnyH_at (i := 0) (some 36) (v := ?v0z33) rfl rfl (by kernel_rfl) (by kernel_rfl) (by kernel_rfl) (fun _ _ _ h => h) (Or.inl ⟨by rfl, ?y0z33⟩) (by assumption) ?r0z33
  case y0z33 =>
    intro w9 hSw
    clear hSw
    go_simp
    all_goals with_reducible rfl
  simp only [Act.put, List.setIfInBounds_toArray, List.set_cons_zero, List.set_cons_succ]
  refine wpAnyH_at (i := 1) (some 37) (v := ?v1z34) rfl rfl (by kernel_rfl) (by kernel_rfl) (by kernel_rfl) (fun _ _ _ h => h) (Or.inl ⟨by rfl, ?y1z34⟩) (by assumption) ?r1z34
  case y1z34 =>
    intro w9 hSw
    (obtain ⟨a0, a1⟩ := (show (KM w h A n c xs h2 A2 n2 c2 ys w9 ∧ KF w none 0 0 none 0 0 [] w4.heap.size Af1 nf1 cf1 11 [1] w9) from hSw).2.fault); clear hSw
    go_simp
    all_goals with_reducible rfl
  simp only [Act.put, List.setIfInBounds_toArray, List.set_cons_zero, List.set_cons_succ]
  refine wpAnyH_one (i := 2) (by kernel_rfl) rfl ?_
  go_wp2_with (go_at_call 12; refine (is_err Af1 nf1 cf1 1 11 _ q.kn.laid f.fr (by decide)).mono ?_; rintro ev V2 ⟨rfl, hb⟩)
  replace q := q.step hb
  replace f := f.step hb
  clear hb hHeld
  have hHeld := And.intro q f
  refine ⟨hHeld, ?_⟩
  try simp only [Act.put, List.setIfInBounds_toArray, List.set_cons_zero, List.set_cons_succ]
  refine wpAnyH_at (i := 3) (some 39) (v := ?v3z35) rfl rfl (by kernel_rfl) (by kernel_rfl) (by kernel_rfl) (fun _ _ _ h => h) (Or.inl ⟨by rfl, ?y3z35⟩) (by assumption) ?r3z35
  case y3z35 =>
    intro w9 hSw
    clear hSw
    go_simp
    all_goals with_reducible rfl
  simp only [Act.put, List.setIfInBounds_toArray, List.set_cons_zero, List.set_cons_succ]
  refine wpAnyH_at (i := 4) (some 40) (v := ?v4z36) rfl rfl (by kernel_rfl) (by kernel_rfl) (by kernel_rfl) (fun _ _ _ h => h) (Or.inl ⟨by rfl, ?y4z36⟩) (by assumption) ?r4z36
  case y4z36 =>
    intro w9 hSw
    clear hSw
    go_simp
    all_goals with_reducible rfl
  simp only [Act.put, List.setIfInBounds_toArray, List.set_cons_zero, List.set_cons_succ]
  refine wpAnyH_at (i := 5) (some 41) (v := ?v5z37) rfl rfl (by kernel_rfl) (by kernel_rfl) (by kernel_rfl) (fun _ _ _ h => h) (Or.inl ⟨by rfl, ?y5z37⟩) (by assumption) ?r5z37
  case y5z37 =>
    intro w9 hSw
    clear hSw
    go_simp
    all_goals with_reducible rfl
  simp only [Act.put, List.setIfInBounds_toArray, List.set_cons_zero, List.set_cons_succ]
  refine wpAnyH_at (i := 6) (some 42) (v := ?v6z38) rfl rfl (by kernel_rfl) (by kernel_rfl) (by kernel_rfl) (fun _ _ _ h => h) (Or.inl ⟨by rfl, ?y6z38⟩) (by assumption) ?r6z38
  case y6z38 =>
    intro w9 hSw
    clear hSw
    go_simp
    all_goals with_reducible rfl
  simp only [Act.put, List.setIfInBounds_toArray, List.set_cons_zero, List.set_cons_succ]
  refine wpAnyH_one (i := 7) (by kernel_rfl) rfl ?_
  go_wp2_with (go_at_call 15; refine (same_any _ _ _ _ _ _ [] _ _ _ f.b f.c).mono ?_; rintro ev V3 ⟨rfl, hb⟩)
  replace q := q.step hb
  replace f := f.step hb
  clear hb hHeld
  have hHeld := And.intro q f
  refine ⟨hHeld, ?_⟩
  try simp only [Act.put, List.setIfInBounds_toArray, List.set_cons_zero, List.set_cons_succ]
  refine wpAnyH_at (i := 8) (some 44) (v := ?v8z39) rfl rfl (by kernel_rfl) (by kernel_rfl) (by kernel_rfl) (fun _ _ _ h => h) (Or.inl ⟨by rfl, ?y8z39⟩) (by assumption) ?r8z39
  case y8z39 =>
    intro w9 hSw
    clear hSw
    go_simp
    all_goals with_reducible rfl
  simp only [Act.put, List.setIfInBounds_toArray, List.set_cons_zero, List.set_cons_succ]
  refine wpAnyH_at (i := 9) (some 45) (v := ?v9z40) rfl rfl (by kernel_rfl) (by kernel_rfl) (by kernel_rfl) (fun _ _ _ h => h) (Or.inl ⟨by rfl, ?y9z40⟩) (by assumption) ?r9z40
  case y9z40 =>
    intro w9 hSw
    clear hSw
    go_simp
    all_goals with_reducible rfl
  simp only [Act.put, List.setIfInBounds_toArray, List.set_cons_zero, List.set_cons_succ]
  refine wpAnyH_at (i := 10) (some 46) (v := ?v10z41) rfl rfl (by kernel_rfl) (by kernel_rfl) (by kernel_rfl) (fun _ _ _ h => h) (Or.inl ⟨by rfl, ?y10z41⟩) (by assumption) ?r10z41
  case y10z41 =>
    intro w9 hSw
    clear hSw
    go_simp
    all_goals with_reducible rfl
  simp only [Act.put, List.setIfInBounds_toArray, List.set_cons_zero, List.set_cons_succ]
  refine wpAnyH_at (i := 11) (some 47) (v := ?v11z42) rfl rfl (by kernel_rfl) (by kernel_rfl) (by kernel_rfl) (fun _ _ _ h => h) (Or.inl ⟨by rfl, ?y11z42⟩) (by assumption) ?r11z42
  case y11z42 =>
    intro w9 hSw
    (obtain ⟨a0, a1, a2, a3, a4, a5, a6⟩ := (show (KM w h A n c xs h2 A2 n2 c2 ys w9 ∧ KF w none 0 0 none 0 0 [] w4.heap.size Af1 nf1 cf1 11 [1] w9) from hSw).1.m.cells); clear hSw
    go_simp
    all_goals with_reducible rfl
  simp only [Act.put, List.setIfInBounds_toArray, List.set_cons_zero, List.set_cons_succ]
  refine wpAnyH_at (i := 13) (some 49) (v := ?v13z43) rfl rfl (by kernel_rfl) (by kernel_rfl) (by kernel_rfl) (fun _ _ _ h => h) (Or.inl ⟨by rfl, ?y13z43⟩) (by assumption) ?r13z43
  case y13z43 =>
    intro w9 hSw
    (obtain ⟨a0, a1, a2, a3, a4, a5, a6⟩ := (show (KM w h A n c xs h2 A2 n2 c2 ys w9 ∧ KF w none 0 0 none 0 0 [] w4.heap.size Af1 nf1 cf1 11 [1] w9) from hSw).1.m.cells); clear hSw
    go_simp
    all_goals with_reducible rfl
  simp only [Act.put, List.setIfInBounds_toArray, List.set_cons_zero, List.set_cons_succ]
  refine wpAnyH_one (i := 12) (by kernel_rfl) rfl ?_
  go_wp2_with (go_at_call 19; refine (cC.out _ _ _ _).mono ?_; rintro ev V4 ⟨rfl, hb⟩)
  replace q := q.step hb
  replace f := f.step hb
  clear hb hHeld
  have hHeld := And.intro q f
  refine ⟨hHeld, ?_⟩
  try simp only [Act.put, List.setIfInBounds_toArray, List.set_cons_zero, List.set_cons_succ]
  refine wpAnyH_one (i := 14) (by kernel_rfl) rfl ?_
  go_wp2_with (go_at_call 14; refine (of_ms h A n c xs _ q.rm' (by omega)).mono ?_; rintro ev V5 ⟨A14, n14, c14, rfl, o14, hb⟩)
  replace q := q.step hb
  replace f := f.step hb
  clear hb hHeld
  have hHeld := And.intro q f
  refine ⟨hHeld, ?_⟩
  try simp only [Act.put, List.setIfInBounds_toArray, List.set_cons_zero, List.set_cons_succ]
  refine wpAnyH_one (i := 15) (by kernel_rfl) rfl ?_
  go_wp2_with (go_at_call 20; refine (cD.out _ _ _ _).mono ?_; rintro ev V6 ⟨rfl, hb⟩)
  replace q := q.step hb
  replace f := f.step hb
  clear o14
  clear hb hHeld
  have hHeld := And.intro q f
  refine ⟨hHeld, ?_⟩
  try simp only [Act.put, List.setIfInBounds_toArray, List.set_cons_zero, List.set_cons_succ]
  refine wpAnyH_at (i := 16) (some 52) (v := ?v16z44) rfl rfl (by kernel_rfl) (by kernel_rfl) (by kernel_rfl) (fun _ _ _ h => h) (Or.inl ⟨by rfl, ?y16z44⟩) (by assumption) ?r16z44
  case y16z44 =>
    intro w9 hSw
    clear hSw
    go_simp
    all_goals with_reducible rfl
  simp only [Act.put, List.setIfInBounds_toArray, List.set_cons_zero, List.set_cons_succ]
  refine wpAnyH_at (i := 17) (some 53) (v := ?v17z45) rfl rfl (by kernel_rfl) (by kernel_rfl) (by kernel_rfl) (fun _ _ _ h => h) (Or.inl ⟨by rfl, ?y17z45⟩) (by assumption) ?r17z45
  case y17z45 =>
    intro w9 hSw
    clear hSw
    go_simp
    all_goals with_reducible rfl
  simp only [Act.put, List.setIfInBounds_toArray, List.set_cons_zero, List.set_cons_succ]
  refine wpAnyH_at (i := 18) (some 54) (v := ?v18z46) rfl rfl (by kernel_rfl) (by kernel_rfl) (by kernel_rfl) (fun _ _ _ h => h) (Or.inl ⟨by rfl, ?y18z46⟩) (by assumption) ?r18z46
  case y18z46 =>
    intro w9 hSw
    clear hSw
    go_simp
    all_goals with_reducible rfl
  simp only [Act.put, List.setIfInBounds_toArray, List.set_cons_zero, List.set_cons_succ]
  refine wpAnyH_at (i := 19) (some 55) (v := ?v19z47) rfl rfl (by kernel_rfl) (by kernel_rfl) (by kernel_rfl) (fun _ _ _ h => h) (Or.inl ⟨by rfl, ?y19z47⟩) (by assumption) ?r19z47
  case y19z47 =>
    intro w9 hSw
    (obtain ⟨a0, a1, a2, a3, a4, a5, a6⟩ := (show (KM w h A n c xs h2 A2 n2 c2 ys w9 ∧ KF w none 0 0 none 0 0 [] w4.heap.size Af1 nf1 cf1 11 [1] w9) from hSw).1.m.cells); clear hSw
    go_simp
    all_goals with_reducible rfl
  simp only [Act.put, List.setIfInBounds_toArray, List.set_cons_zero, List.set_cons_succ]
  refine wpAnyH_at (i := 21) (some 57) (v := ?v21z48) rfl rfl (by kernel_rfl) (by kernel_rfl) (by kernel_rfl) (fun _ _ _ h => h) (Or.inl ⟨by rfl, ?y21z48⟩) (by assumption) ?r21z48
  case y21z48 =>
    intro w9 hSw
    (obtain ⟨a0, a1, a2, a3, a4, a5, a6⟩ := (show (KM w h A n c xs h2 A2 n2 c2 ys w9 ∧ KF w none 0 0 none 0 0 [] w4.heap.size Af1 nf1 cf1 11 [1] w9) from hSw).1.m.cells); clear hSw
    go_simp
    all_goals with_reducible rfl
  simp only [Act.put, List.setIfInBounds_toArray, List.set_cons_zero, List.set_cons_succ]
  refine wpAnyH_one (i := 20) (by kernel_rfl) rfl ?_
  go_wp2_with (go_at_call 21; refine (cM.out _ _ _ _).mono ?_; rintro ev V7 ⟨rfl, hb⟩)
  replace q := q.step hb
  replace f := f.step hb
  clear hb hHeld
  have hHeld := And.intro q f
  refine ⟨hHeld, ?_⟩
  try simp only [Act.put, List.setIfInBounds_toArray, List.set_cons_zero, List.set_cons_succ]
  refine wpAnyH_one (i := 22) (by kernel_rfl) rfl ?_
  go_wp2_with (go_at_call 14; refine (of_ms h A n c xs _ q.rm' (by omega)).mono ?_; rintro ev V8 ⟨A22, n22, c22, rfl, o22, hb⟩)
  replace q := q.step hb
  replace f := f.step hb
  clear hb hHeld
  have hHeld := And.intro q f
  refine ⟨hHeld, ?_⟩
  try simp only [Act.put, List.setIfInBounds_toArray, List.set_cons_zero, List.set_cons_succ]
  refine wpAnyH_one (i := 23) (by kernel_rfl) rfl ?_
  go_wp2_with (go_at_call 22; refine (cN.out _ _ _ _).mono ?_; rintro ev V9 ⟨rfl, hb⟩)
  replace q := q.step hb
  replace f := f.step hb
  clear o22
  clear hb hHeld
  have hHeld := And.intro q f
  refine ⟨hHeld, ?_⟩
  try simp only [Act.put, List.setIfInBounds_toArray, List.set_cons_zero, List.set_cons_succ]
  refine wpAnyH_at (i := 24) (some 60) (v := ?v24z49) rfl rfl (by kernel_rfl) (by kernel_rfl) (by kernel_rfl) (fun _ _ _ h => h) (Or.inl ⟨by rfl, ?y24z49⟩) (by assumption) ?r24z49
  case y24z49 =>
    intro w9 hSw
    clear hSw
    go_simp
    all_goals with_reducible rfl
  simp only [Act.put, List.setIfInBounds_toArray, List.set_cons_zero, List.set_cons_succ]
  refine wpAnyH_at (i := 25) (some 61) (v := ?v25z50) rfl rfl (by kernel_rfl) (by kernel_rfl) (by kernel_rfl) (fun _ _ _ h => h) (Or.inl ⟨by rfl, ?y25z50⟩) (by assumption) ?r25z50
  case y25z50 =>
    intro w9 hSw
    clear hSw
    go_simp
    all_goals with_reducible rfl
  simp only [Act.put, List.setIfInBounds_toArray, List.set_cons_zero, List.set_cons_succ]
  refine wpAnyH_at (i := 26) (some 62) (v := ?v26z51) rfl rfl (by kernel_rfl) (by kernel_rfl) (by kernel_rfl) (fun _ _ _ h => h) (Or.inl ⟨by rfl, ?y26z51⟩) (by assumption) ?r26z51
  case y26z51 =>
    intro w9 hSw
    clear hSw
    go_simp
    all_goals with_reducible rfl
  simp only [Act.put, List.setIfInBounds_toArray, List.set_cons_zero, List.set_cons_succ]
  refine wpAnyH_at (i := 27) (some 63) (v := ?v27z52) rfl rfl (by kernel_rfl) (by kernel_rfl) (by kernel_rfl) (fun _ _ _ h => h) (Or.inl ⟨by rfl, ?y27z52⟩) (by assumption) ?r27z52
  case y27z52 =>
    intro w9 hSw
    (obtain ⟨a0, a1, a2, a3, a4, a5, a6⟩ := (show (KM w h A n c xs h2 A2 n2 c2 ys w9 ∧ KF w none 0 0 none 0 0 [] w4.heap.size Af1 nf1 cf1 11 [1] w9) from hSw).1.m.cells); clear hSw
    go_simp
    all_goals with_reducible rfl
  simp only [Act.put, List.setIfInBounds_toArray, List.set_cons_zero, List.set_cons_succ]
  refine wpAnyH_at (i := 28) (some 64) (v := ?v28z53) rfl rfl (by kernel_rfl) (by kernel_rfl) (by kernel_rfl) (fun _ _ _ h => h) (Or.inl ⟨by rfl, ?y28z53⟩) (by assumption) ?r28z53
  case y28z53 =>
    intro w9 hSw
    clear hSw
    go_simp
    all_goals with_reducible rfl
  simp only [Act.put, List.setIfInBounds_toArray, List.set_cons_zero, List.set_cons_succ]
  refine wpAnyH_at (i := 31) (some 67) (v := ?v31z54) rfl rfl (by kernel_rfl) (by kernel_rfl) (by kernel_rfl) (fun _ _ _ h => h) (Or.inl ⟨by rfl, ?y31z54⟩) (by assumption) ?r31z54
  case y31z54 =>
    intro w9 hSw
    (obtain ⟨a0, a1, a2, a3, a4, a5, a6⟩ := (show (KM w h A n c xs h2 A2 n2 c2 ys w9 ∧ KF w none 0 0 none 0 0 [] w4.heap.size Af1 nf1 cf1 11 [1] w9) from hSw).1.m.cells); clear hSw
    go_simp
    all_goals with_reducible rfl
  simp only [Act.put, List.setIfInBounds_toArray, List.set_cons_zero, List.set_cons_succ]
  refine wpAnyH_at (i := 33) (some 69) (v := ?v33z55) rfl rfl (by kernel_rfl) (by kernel_rfl) (by kernel_rfl) (fun _ _ _ h => h) (Or.inl ⟨by rfl, ?y33z55⟩) (by assumption) ?r33z55
  case y33z55 =>
    intro w9 hSw
    clear hSw
    go_simp
    all_goals with_reducible rfl
  simp only [Act.put, List.setIfInBounds_toArray, List.set_cons_zero, List.set_cons_succ]
  refine wpAnyH_one (i := 29) (by kernel_rfl) rfl ?_
  go_wp2_with (go_at_call 23; refine (cX.out _ _ _ _ q.rm' (by omega)).mono ?_; rintro ev V10 ⟨g29, rfl, r29, -, hb⟩)
  replace q := q.step hb
  replace f := f.step hb
  clear hb hHeld
  have hHeld := And.intro q f
  refine ⟨hHeld, ?_⟩
  try simp only [Act.put, List.setIfInBounds_toArray, List.set_cons_zero, List.set_cons_succ]
  refine wpAnyH_one (i := 30) (by kernel_rfl) rfl ?_
  go_wp2_with (go_at_call 14; refine (of_ms hs (some ⟨g29, 0, none⟩) n n xs _ (r29.rdW Xl.out (by omega) Xw.out) (by omega)).mono ?_; rintro ev V11 ⟨A30, n30, c30, rfl, o30, hb⟩)
  replace q := q.step hb
  replace f := f.step hb
  clear r29
  clear hb hHeld
  have hHeld := And.intro q f
  refine ⟨hHeld, ?_⟩
  try simp only [Act.put, List.setIfInBounds_toArray, List.set_cons_zero, List.set_cons_succ]
  refine wpAnyH_one (i := 32) (by kernel_rfl) rfl ?_
  go_wp2_with (go_at_call 14; refine (of_ms h A n c xs _ q.rm' (by omega)).mono ?_; rintro ev V12 ⟨A32, n32, c32, rfl, o32, hb⟩)
  replace q := q.step hb
  replace f := f.step hb
  replace o30 := o30.below hb (Nat.le_refl _)
  obtain rfl : n = n32 := Xl.out.symm.trans o32.len
  clear hb hHeld
  have hHeld := And.intro q f
  refine ⟨hHeld, ?_⟩
  try simp only [Act.put, List.setIfInBounds_toArray, List.set_cons_zero, List.set_cons_succ]
  refine wpAnyH_one (i := 34) (by kernel_rfl) rfl ?_
  go_wp2_with (go_at_call 24; refine (cY.out _ _ _ _ o32.rd (by omega)).mono ?_; rintro ev V13 ⟨A34, n34, c34, rfl, o34, hb⟩)
  replace q := q.step hb
  replace f := f.step hb
  replace o30 := o30.below hb (Nat.le_refl _)
  clear o32
  clear hb hHeld
  have hHeld := And.intro q f
  refine ⟨hHeld, ?_⟩
  try simp only [Act.put, List.setIfInBounds_toArray, List.set_cons_zero, List.set_cons_succ]
  refine wpAnyH_one (i := 35) (by kernel_rfl) rfl ?_
  go_wp2_with (go_at_call 13; refine (s35.out _ _ _ _ _ _ _ o30.rd o34.rd).mono ?_; rintro ev V14 ⟨rfl, hb⟩)
  replace q := q.step hb
  replace f := f.step hb
  clear o30 o34
  clear hb hHeld
  have hHeld := And.intro q f
  refine ⟨hHeld, ?_⟩
  try simp only [Act.put, List.setIfInBounds_toArray, List.set_cons_zero, List.set_cons_succ]
  refine wpAnyH_at (i := 36) (some 72) (v := ?v36z56) rfl rfl (by kernel_rfl) (by kernel_rfl) (by kernel_rfl) (fun _ _ _ h => h) (Or.inl ⟨by rfl, ?y36z56⟩) (by assumption) ?r36z56
  case y36z56 =>
    intro w9 hSw
    clear hSw
    go_simp
    all_goals with_reducible rfl
  simp only [Act.put, List.setIfInBounds_toArray, List.set_cons_zero, List.set_cons_succ]
  refine wpAnyH_at (i := 37) (some 73) (v := ?v37z57) rfl rfl (by kernel_rfl) (by kernel_rfl) (by kernel_rfl) (fun _ _ _ h => h) (Or.inl ⟨by rfl, ?y37z57⟩) (by assumption) ?r37z57
  case y37z57 =>
    intro w9 hSw
    clear hSw
    go_simp
    all_goals with_reducible rfl
  simp only [Act.put, List.setIfInBounds_toArray, List.set_cons_zero, List.set_cons_succ]
  refine wpAnyH_at (i := 38) (some 74) (v := ?v38z58) rfl rfl (by kernel_rfl) (by kernel_rfl) (by kernel_rfl) (fun _ _ _ h => h) (Or.inl ⟨by rfl, ?y38z58⟩) (by assumption) ?r38z58
  case y38z58 =>
    intro w9 hSw
    clear hSw
    go_simp
    all_goals with_reducible rfl
  simp only [Act.put, List.setIfInBounds_toArray, List.set_cons_zero, List.set_cons_succ]
  refine wpAnyH_at (i := 39) (some 75) (v := ?v39z59) rfl rfl (by kernel_rfl) (by kernel_rfl) (by kernel_rfl) (fun _ _ _ h => h) (Or.inl ⟨by rfl, ?y39z59⟩) (by assumption) ?r39z59
  case y39z59 =>
    intro w9 hSw
    (obtain ⟨a0, a1, a2, a3, a4, a5, a6⟩ := (show (KM w h A n c xs h2 A2 n2 c2 ys w9 ∧ KF w none 0 0 none 0 0 [] w4.heap.size Af1 nf1 cf1 11 [1] w9) from hSw).1.m.cells); clear hSw
    go_simp
    all_goals with_reducible rfl
  simp only [Act.put, List.setIfInBounds_toArray, List.set_cons_zero, List.set_cons_succ]
  refine wpAnyH_at (i := 40) (some 76) (v := ?v40z60) rfl rfl (by kernel_rfl) (by kernel_rfl) (by kernel_rfl) (fun _ _ _ h => h) (Or.inl ⟨by rfl, ?y40z60⟩) (by assumption) ?r40z60
  case y40z60 =>
    intro w9 hSw
    (obtain ⟨a0, a1, a2, a3, a4, a5, a6⟩ := (show (KM w h A n c xs h2 A2 n2 c2 ys w9 ∧ KF w none 0 0 none 0 0 [] w4.heap.size Af1 nf1 cf1 11 [1] w9) from hSw).1.o.cells); clear hSw
    go_simp
    all_goals with_reducible rfl
  simp only [Act.put, List.setIfInBounds_toArray, List.set_cons_zero, List.set_cons_succ]
  refine wpAnyH_at (i := 42) (some 78) (v := ?v42z61) rfl rfl (by kernel_rfl) (by kernel_rfl) (by kernel_rfl) (fun _ _ _ h => h) (Or.inl ⟨by rfl, ?y42z61⟩) (by assumption) ?r42z61
  case y42z61 =>
    intro w9 hSw
    (obtain ⟨a0, a1, a2, a3, a4, a5, a6⟩ := (show (KM w h A n c xs h2 A2 n2 c2 ys w9 ∧ KF w none 0 0 none 0 0 [] w4.heap.size Af1 nf1 cf1 11 [1] w9) from hSw).1.m.cells); clear hSw
    go_simp
    all_goals with_reducible rfl
  simp only [Act.put, List.setIfInBounds_toArray, List.set_cons_zero, List.set_cons_succ]
  refine wpAnyH_at (i := 44) (some 80) (v := ?v44z62) rfl rfl (by kernel_rfl) (by kernel_rfl) (by kernel_rfl) (fun _ _ _ h => h) (Or.inl ⟨by rfl, ?y44z62⟩) (by assumption) ?r44z62
  case y44z62 =>
    intro w9 hSw
    (obtain ⟨a0, a1, a2, a3, a4, a5, a6⟩ := (show (KM w h A n c xs h2 A2 n2 c2 ys w9 ∧ KF w none 0 0 none 0 0 [] w4.heap.size Af1 nf1 cf1 11 [1] w9) from hSw).1.o.cells); clear hSw
    go_simp
    all_goals with_reducible rfl
  simp only [Act.put, List.setIfInBounds_toArray, List.set_cons_zero, List.set_cons_succ]
  refine wpAnyH_one (i := 41) (by kernel_rfl) rfl ?_
  go_wp2_with (go_at_call 25; refine (cS.out _ _ _ _ _ _ _ q.rm' q.ro').mono ?_; rintro ev V15 ⟨rfl, hb⟩)
  replace q := q.step hb
  replace f := f.step hb
  clear hb hHeld
  have hHeld := And.intro q f
  refine ⟨hHeld, ?_⟩
  try simp only [Act.put, List.setIfInBounds_toArray, List.set_cons_zero, List.set_cons_succ]
  refine wpAnyH_one (i := 43) (by kernel_rfl) rfl ?_
  go_wp2_with (go_at_call 14; refine (of_ms h A n c xs _ q.rm' (by omega)).mono ?_; rintro ev V16 ⟨A43, n43, c43, rfl, o43, hb⟩)
  replace q := q.step hb
  replace f := f.step hb
  clear hb hHeld
  have hHeld := And.intro q f
  refine ⟨hHeld, ?_⟩
  try simp only [Act.put, List.setIfInBounds_toArray, List.set_cons_zero, List.set_cons_succ]
  refine wpAnyH_one (i := 45) (by kernel_rfl) rfl ?_
  go_wp2_with (go_at_call 14; refine (of_ms h2 A2 n2 c2 ys _ q.ro' (by omega)).mono ?_; rintro ev V17 ⟨A45, n45, c45, rfl, o45, hb⟩)
  replace q := q.step hb
  replace f := f.step hb
  replace o43 := o43.below hb (Nat.le_refl _)
  clear hb hHeld
  have hHeld := And.intro q f
  refine ⟨hHeld, ?_⟩
  try simp only [Act.put, List.setIfInBounds_toArray, List.set_cons_zero, List.set_cons_succ]
  refine wpAnyH_one (i := 46) (by kernel_rfl) rfl ?_
  go_wp2_with (go_at_call 13; refine (s46.out _ _ _ _ _ _ _ o43.rd o45.rd).mono ?_; rintro ev V18 ⟨rfl, hb⟩)
  replace q := q.step hb
  replace f := f.step hb
  clear o43 o45
  clear hb hHeld
  have hHeld := And.intro q f
  refine ⟨hHeld, ?_⟩
  try simp only [Act.put, List.setIfInBounds_toArray, List.set_cons_zero, List.set_cons_succ]
  refine wpAnyH_at (i := 47) (some 83) (v := ?v47z63) rfl rfl (by kernel_rfl) (by kernel_rfl) (by kernel_rfl) (fun _ _ _ h => h) (Or.inl ⟨by rfl, ?y47z63⟩) (by assumption) ?r47z63
  case y47z63 =>
    intro w9 hSw
    clear hSw
    go_simp
    all_goals with_reducible rfl
  simp only [Act.put, List.setIfInBounds_toArray, List.set_cons_zero, List.set_cons_succ]
  refine wpAnyH_at (i := 48) (some 84) (v := ?v48z64) rfl rfl (by kernel_rfl) (by kernel_rfl) (by kernel_rfl) (fun _ _ _ h => h) (Or.inl ⟨by rfl, ?y48z64⟩) (by assumption) ?r48z64
  case y48z64 =>
    intro w9 hSw
    clear hSw
    go_simp
    all_goals with_reducible rfl
  simp only [Act.put, List.setIfInBounds_toArray, List.set_cons_zero, List.set_cons_succ]
  refine wpAnyH_done (by kernel_rfl) ?_ _
  go_wp2
  go_ret
  exact ⟨rfl, q.kn.below⟩
theorem writes_law (h : Ms) (A : Option Addr) (n c : Nat) (xs : List Int) (h2 : Ms) (A2 : Option Addr) (n2 c2 : Nat) (ys : List Int) (k : Int) (w : World) (hg : Laid w) (hk : h.ok) (hr : Rd .u8 w w.heap.size A n c xs) (hk2 : h2.ok) (hr2 : Rd .u8 w w.heap.size A2 n2 c2 ys) (hkb : 0 ≤ k ∧ k ≤ 65535) : Calls Tryd.prog 4 #[msV h A n c, msV h2 A2 n2 c2, .int .u16 k] w fun e w' => e = .returned (.bool true) ∧ Below w.heap.size w w' := by
  by_cases hn : 3000 < n
  · exact writes_far h A n c xs h2 A2 n2 c2 ys k w hg hk hr hk2 hr2 hkb hn
  · by_cases hn2 : 3000 < n2
    · exact writes_far2 h A n c xs h2 A2 n2 c2 ys k w hg hk hr hk2 hr2 hkb hn hn2
    · by_cases hn1 : 1472 < n
      · exact writes_big h A n c xs h2 A2 n2 c2 ys k w hg hk hr hk2 hr2 hkb hn1 (by omega) (by omega)
      · exact writes_near h A n c xs h2 A2 n2 c2 ys k w hg hk hr hk2 hr2 hkb (by omega) (by omega)
end Go.Proofs.YtbefoapnlehdmaaDoor
