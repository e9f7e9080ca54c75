/-
  The law IcmpParses: every Parse of any bytes answers what the document says; a message's bytes are those that were parsed.
-/
import Derived.Test.YtbefoapnlehdmaaDoorMW
namespace Go.Proofs.YtbefoapnlehdmaaDoor
open Go.RowKit
set_option linter.unusedVariables false

/-- What the walk knows: the bytes, the law's own copy of them. -/
structure KO (w : World) (A : Option Addr) (n c : Nat) (A2 : Option Addr) (n2 c2 : Nat) (xs : List Int) (B1 : Nat) (W : World) : Prop where
  kn : Kn w W
  rd : Rd .u8 W w.heap.size A n c xs
  own : Rd .u8 W B1 A2 n2 c2 xs
  le : B1 ≤ W.heap.size
section
variable {w W V : World} {A : Option Addr} {n c : Nat} {A2 : Option Addr} {n2 c2 : Nat} {xs : List Int} {B1 : Nat}
theorem KO.step (q : KO w A n c A2 n2 c2 xs B1 W) (hb : Below W.heap.size W V) : KO w A n c A2 n2 c2 xs B1 V := ⟨q.kn.step hb, q.rd.below hb q.kn.below.size, q.own.below hb q.le, Nat.le_trans q.le hb.size⟩
theorem KO.rd' (q : KO w A n c A2 n2 c2 xs B1 W) : Rd .u8 W W.heap.size A n c xs := q.rd.more q.kn.below.size
theorem KO.own' (q : KO w A n c A2 n2 c2 xs B1 W) : Rd .u8 W W.heap.size A2 n2 c2 xs := q.own.more q.le
end
theorem mE_pair (xs : List Int) (h : ¬ (mE xs).2 = 0) : ∃ r e, mE xs = (r, e) ∧ ¬ e = 0 := ⟨(mE xs).1, (mE xs).2, rfl, h⟩
theorem parses_far (A : Option Addr) (n c : Nat) (w : World) (hg : Laid w) (hn : 3000 < n) (hmax : n ≤ 9223372036854775807) : Calls Tryd.prog 3 #[.slice A n c] w fun e w' => e = .returned (.bool true) ∧ Below w.heap.size w w' := by
  have n1 : (3000 : Int) < (n : Int) := by omega
  go_enter Tryd.func3, Tryd.ntmps3
  go_wp2_with (go_at_call 8; refine (alive_any _ hg).mono ?_; rintro ev w1 ⟨rfl, hb⟩)
  go_ret
  exact ⟨rfl, hb⟩

set_option maxRecDepth 100000 in
set_option maxHeartbeats 4000000 in
theorem parses_no (A : Option Addr) (n c : Nat) (xs : List Int) (w : World) (hg : Laid w) (hr : Rd .u8 w w.heap.size A n c xs) (hn : n ≤ 3000) (r1 e1 : Int) (hE : mE xs = (r1, e1)) (he1 : ¬ e1 = 0) : Calls Tryd.prog 3 #[.slice A n c] w fun e w' => e = .returned (.bool true) ∧ Below w.heap.size w w' := by
  have n1 : ¬ (3000 : Int) < (n : Int) := by omega
  have k0 := Kn.start hg
  have hcap := hr.cap
  have hmax := hr.max
  have c11 := Lib.hid (fun W A n c (q : Rd .u8 W W.heap.size A n c xs) => mparse_no q hE he1)
  have c12 := Lib.hid (fun W A n c (q : Rd .u8 W W.heap.size A n c xs) => refMParse_no q hE he1)
  clear hE
  go_enter Tryd.func3, Tryd.ntmps3
  go_wp2_with fail
  refine (alive_any _ hg).mono ?_
  rintro ev w1 ⟨rfl, hb⟩
  have r0 := hr.below hb (Nat.le_refl _)
  replace k0 := k0.step hb
  clear hr hb
  go_wp2_with fail
  refine (own_any A n c w.heap.size xs _ r0 k0.below.size (by omega)).mono ?_
  rintro ev w2 ⟨A2, n2, c2, rfl, o2, hb⟩
  obtain rfl : n = n2 := r0.len.symm.trans o2.len
  have k : KO w A n c A2 n c2 xs w2.heap.size w2 := ⟨k0.step hb, r0.below hb k0.below.size, o2.rd, Nat.le_refl _⟩
  have hw2 := k.kn.below.size
  clear hb r0 k0 o2
  go_wp2_with fail
  refine (c11.out _ _ _ _ k.own').mono ?_
  rintro ev w3 ⟨rfl, hb⟩
  have ba := alloc_below w3 (.cells (msC zeroS none 0 0) 27)
  replace hb := hb.trans (ba.mono hb.size)
  have sp : Sp w3.heap.size zeroS none 0 [] (w3.alloc (.cells (msC zeroS none 0 0) 27)) := Sp.new Rd.nil
  replace k := k.step hb
  clear hb ba
  go_wp2_with fail
  refine (c12.out _ _ _ _ k.rd').mono ?_
  rintro ev w4 ⟨hb, Af1, nf1, cf1, rfl, rf1, -⟩
  have ba : Below w4.heap.size w4 ((w4.alloc (.cells (msC zeroS none 0 0) 32)).alloc (.cells (flC Af1 nf1 cf1 e1) 36)) := (alloc_below w4 _).alloc (by simp) _
  replace hb := hb.trans (ba.mono hb.size)
  have sq : Sq w4.heap.size (w4.heap.size + 1) zeroS none 0 0 [] Af1 nf1 cf1 e1 [r1] ((w4.alloc (.cells (msC zeroS none 0 0) 32)).alloc (.cells (flC Af1 nf1 cf1 e1) 36)) := Sq.new Rd.nil rf1
  replace k := k.step hb
  replace sp := sp.step hb
  clear hb ba rf1 c11 c12
  generalize hgp : w3.heap.size = gp at *
  go_wp2_with fail
  replace k := k.step (below_drew _)
  replace sp := sp.step (below_drew _)
  replace sq := sq.step (below_drew _)
  generalize hgf : w4.heap.size + 1 = gf at *
  generalize w4.heap.size = gq at *
  refine wp_region_held_drew (S := fun w' => (KO w A n c A2 n c2 xs w2.heap.size w' ∧ Sp gp zeroS none 0 [] w' ∧ Sq gq gf zeroS none 0 0 [] Af1 nf1 cf1 e1 [r1] w')) (by kernel_rfl) ⟨k, sp, sq⟩ (fun hHeld => ?_)
  clear hHeld
  change wpAnyH _ _ _ _ _ _ _ _ (World.drew _)
  generalize World.drew _ = W7 at *
  have hHeld := And.intro k (And.intro sp sq)
  refine wpAnyH_at (i := 0) (some 27) (v := ?v0z1) rfl rfl (by kernel_rfl) (by kernel_rfl) (by kernel_rfl) (fun _ _ _ h => h) (Or.inl ⟨by rfl, ?y0z1⟩) (by assumption) ?r0z1
  case y0z1 =>
    intro w9 hSw
    clear hSw
    go_simp
    all_goals with_reducible rfl
  simp only [Act.put, List.setIfInBounds_toArray, List.set_cons_zero, List.set_cons_succ]
  refine wpAnyH_at (i := 1) (some 28) (v := ?v1z2) rfl rfl (by kernel_rfl) (by kernel_rfl) (by kernel_rfl) (fun _ _ _ h => h) (Or.inl ⟨by rfl, ?y1z2⟩) (by assumption) ?r1z2
  case y1z2 =>
    intro w9 hSw
    (obtain ⟨a0, a1⟩ := (show (KO w A n c A2 n c2 xs w2.heap.size w9 ∧ Sp gp zeroS none 0 [] w9 ∧ Sq gq gf zeroS none 0 0 [] Af1 nf1 cf1 e1 [r1] w9) from hSw).2.2.fault); clear hSw
    go_simp
    all_goals with_reducible rfl
  simp only [Act.put, List.setIfInBounds_toArray, List.set_cons_zero, List.set_cons_succ]
  refine wpAnyH_one (i := 2) (by kernel_rfl) rfl ?_
  go_wp2_with (go_at_call 12; refine (is_err Af1 nf1 cf1 r1 e1 _ k.kn.laid sq.fr he1).mono ?_; rintro ev V1 ⟨rfl, hb⟩)
  replace k := k.step hb
  replace sp := sp.step hb
  replace sq := sq.step hb
  clear hb hHeld
  have hHeld := And.intro k (And.intro sp sq)
  refine ⟨hHeld, ?_⟩
  try simp only [Act.put, List.setIfInBounds_toArray, List.set_cons_zero, List.set_cons_succ]
  refine wpAnyH_at (i := 3) (some 30) (v := ?v3z3) rfl rfl (by kernel_rfl) (by kernel_rfl) (by kernel_rfl) (fun _ _ _ h => h) (Or.inl ⟨by rfl, ?y3z3⟩) (by assumption) ?r3z3
  case y3z3 =>
    intro w9 hSw
    clear hSw
    go_simp
    all_goals with_reducible rfl
  simp only [Act.put, List.setIfInBounds_toArray, List.set_cons_zero, List.set_cons_succ]
  refine wpAnyH_at (i := 4) (some 31) (v := ?v4z4) rfl rfl (by kernel_rfl) (by kernel_rfl) (by kernel_rfl) (fun _ _ _ h => h) (Or.inl ⟨by rfl, ?y4z4⟩) (by assumption) ?r4z4
  case y4z4 =>
    intro w9 hSw
    clear hSw
    go_simp
    all_goals with_reducible rfl
  simp only [Act.put, List.setIfInBounds_toArray, List.set_cons_zero, List.set_cons_succ]
  refine wpAnyH_at (i := 5) (some 32) (v := ?v5z5) rfl rfl (by kernel_rfl) (by kernel_rfl) (by kernel_rfl) (fun _ _ _ h => h) (Or.inl ⟨by rfl, ?y5z5⟩) (by assumption) ?r5z5
  case y5z5 =>
    intro w9 hSw
    (obtain ⟨a0, a1, a2, a3, a4, a5, a6⟩ := (show (KO w A n c A2 n c2 xs w2.heap.size w9 ∧ Sp gp zeroS none 0 [] w9 ∧ Sq gq gf zeroS none 0 0 [] Af1 nf1 cf1 e1 [r1] w9) from hSw).2.1.p.cells); clear hSw
    go_simp
    all_goals with_reducible rfl
  simp only [Act.put, List.setIfInBounds_toArray, List.set_cons_zero, List.set_cons_succ]
  refine wpAnyH_at (i := 7) (some 34) (v := ?v7z6) rfl rfl (by kernel_rfl) (by kernel_rfl) (by kernel_rfl) (fun _ _ _ h => h) (Or.inl ⟨by rfl, ?y7z6⟩) (by assumption) ?r7z6
  case y7z6 =>
    intro w9 hSw
    (obtain ⟨a0, a1, a2, a3, a4, a5, a6⟩ := (show (KO w A n c A2 n c2 xs w2.heap.size w9 ∧ Sp gp zeroS none 0 [] w9 ∧ Sq gq gf zeroS none 0 0 [] Af1 nf1 cf1 e1 [r1] w9) from hSw).2.2.q.cells); clear hSw
    go_simp
    all_goals with_reducible rfl
  simp only [Act.put, List.setIfInBounds_toArray, List.set_cons_zero, List.set_cons_succ]
  refine wpAnyH_one (i := 6) (by kernel_rfl) rfl ?_
  go_wp2_with (go_at_call 14; refine (of_ms zeroS none 0 0 [] _ sp.r (by omega)).mono ?_; rintro ev V2 ⟨A3, n3, c3, rfl, o3, hb⟩)
  replace k := k.step hb
  replace sp := sp.step hb
  replace sq := sq.step hb
  clear hb hHeld
  have hHeld := And.intro k (And.intro sp sq)
  refine ⟨hHeld, ?_⟩
  try simp only [Act.put, List.setIfInBounds_toArray, List.set_cons_zero, List.set_cons_succ]
  refine wpAnyH_one (i := 8) (by kernel_rfl) rfl ?_
  have s8 := refSame_ms zeroS zeroS _ _ _ _ _ _ [] [] _ o3.rd sq.r
  rw [mmB_self] at s8
  go_wp2_with (go_at_call 13; refine (s8).mono ?_; rintro ev V3 ⟨rfl, hb⟩)
  replace k := k.step hb
  replace sp := sp.step hb
  replace sq := sq.step hb
  clear s8 o3
  clear hb hHeld
  have hHeld := And.intro k (And.intro sp sq)
  refine ⟨hHeld, ?_⟩
  try simp only [Act.put, List.setIfInBounds_toArray, List.set_cons_zero, List.set_cons_succ]
  refine wpAnyH_at (i := 9) (some 36) (v := ?v9z7) rfl rfl (by kernel_rfl) (by kernel_rfl) (by kernel_rfl) (fun _ _ _ h => h) (Or.inl ⟨by rfl, ?y9z7⟩) (by assumption) ?r9z7
  case y9z7 =>
    intro w9 hSw
    clear hSw
    go_simp
    all_goals with_reducible rfl
  simp only [Act.put, List.setIfInBounds_toArray, List.set_cons_zero, List.set_cons_succ]
  refine wpAnyH_at (i := 10) (some 37) (v := ?v10z8) rfl rfl (by kernel_rfl) (by kernel_rfl) (by kernel_rfl) (fun _ _ _ h => h) (Or.inl ⟨by rfl, ?y10z8⟩) (by assumption) ?r10z8
  case y10z8 =>
    intro w9 hSw
    clear hSw
    go_simp
    all_goals with_reducible rfl
  simp only [Act.put, List.setIfInBounds_toArray, List.set_cons_zero, List.set_cons_succ]
  refine wpAnyH_at (i := 11) (some 38) (v := ?v11z9) rfl rfl (by kernel_rfl) (by kernel_rfl) (by kernel_rfl) (fun _ _ _ h => h) (Or.inl ⟨by rfl, ?y11z9⟩) (by assumption) ?r11z9
  case y11z9 =>
    intro w9 hSw
    clear hSw
    go_simp
    all_goals with_reducible rfl
  simp only [Act.put, List.setIfInBounds_toArray, List.set_cons_zero, List.set_cons_succ]
  refine wpAnyH_at (i := 12) (some 39) (v := ?v12z10) rfl rfl (by kernel_rfl) (by kernel_rfl) (by kernel_rfl) (fun _ _ _ h => h) (Or.inl ⟨by rfl, ?y12z10⟩) (by assumption) ?r12z10
  case y12z10 =>
    intro w9 hSw
    clear hSw
    go_simp
    all_goals with_reducible rfl
  simp only [Act.put, List.setIfInBounds_toArray, List.set_cons_zero, List.set_cons_succ]
  refine wpAnyH_at (i := 13) (some 40) (v := ?v13z11) rfl rfl (by kernel_rfl) (by kernel_rfl) (by kernel_rfl) (fun _ _ _ h => h) (Or.inl ⟨by rfl, ?y13z11⟩) (by assumption) ?r13z11
  case y13z11 =>
    intro w9 hSw
    clear hSw
    go_simp
    all_goals with_reducible rfl
  simp only [Act.put, List.setIfInBounds_toArray, List.set_cons_zero, List.set_cons_succ]
  refine wpAnyH_one (i := 14) (by kernel_rfl) rfl ?_
  go_wp2_with (go_at_call 15; refine (same_any _ _ _ _ _ _ xs _ _ _ k.own' k.rd').mono ?_; rintro ev V4 ⟨rfl, hb⟩)
  replace k := k.step hb
  replace sp := sp.step hb
  replace sq := sq.step hb
  clear hb hHeld
  have hHeld := And.intro k (And.intro sp sq)
  refine ⟨hHeld, ?_⟩
  try simp only [Act.put, List.setIfInBounds_toArray, List.set_cons_zero, List.set_cons_succ]
  refine wpAnyH_at (i := 15) (some 42) (v := ?v15z12) rfl rfl (by kernel_rfl) (by kernel_rfl) (by kernel_rfl) (fun _ _ _ h => h) (Or.inl ⟨by rfl, ?y15z12⟩) (by assumption) ?r15z12
  case y15z12 =>
    intro w9 hSw
    clear hSw
    go_simp
    all_goals with_reducible rfl
  simp only [Act.put, List.setIfInBounds_toArray, List.set_cons_zero, List.set_cons_succ]
  refine wpAnyH_at (i := 16) (some 43) (v := ?v16z13) rfl rfl (by kernel_rfl) (by kernel_rfl) (by kernel_rfl) (fun _ _ _ h => h) (Or.inl ⟨by rfl, ?y16z13⟩) (by assumption) ?r16z13
  case y16z13 =>
    intro w9 hSw
    clear hSw
    go_simp
    all_goals with_reducible rfl
  simp only [Act.put, List.setIfInBounds_toArray, List.set_cons_zero, List.set_cons_succ]
  refine wpAnyH_done (by kernel_rfl) ?_ _
  clear hHeld sq
  go_wp2
  go_ret
  exact ⟨rfl, k.kn.below⟩

set_option maxRecDepth 100000 in
set_option maxHeartbeats 4000000 in
theorem parses_same (b o n c : Nat) (xs : List Int) (w : World) (hg : Laid w) (hr : Rd .u8 w w.heap.size (some ⟨b, o, none⟩) n c xs) (hn : n ≤ 3000) (hE : (mE xs).2 = 0) (hz : mR (mOf xs) (xs.drop 8) = xs) : Calls Tryd.prog 3 #[.slice (some ⟨b, o, none⟩) n c] w fun e w' => e = .returned (.bool true) ∧ Below w.heap.size w w' := by
  have n1 : ¬ (3000 : Int) < (n : Int) := by omega
  have k0 := Kn.start hg
  have hcap := hr.cap
  have hmax := hr.max
  obtain ⟨h8, h1480, -, -⟩ := mE_ok hE
  have hl := hr.len
  rw [hl] at h8 h1480
  have hk := mOf_ok hr h8
  obtain ⟨m, hm⟩ : ∃ m, n - 8 = m := ⟨_, rfl⟩
  have hwx := hr.2.2.2.1
  have hwy : ∀ x ∈ xs.drop 8, (Lit.int .u8 x).wf = true := fun x q => hwx x (List.mem_of_mem_drop q)
  have ep := list_parts (xs := xs) (by omega)
  have Z0 : Hid (∀ W A n c (q : Rd .u8 W W.heap.size A n c xs) (h8 : 8 ≤ n), True) := Lib.hid (fun _ _ _ _ _ _ => trivial)
  have hm8 : (8 : Int) + (m : Int) = (n : Int) := by omega
  have Hzl : Hid ((mR (mOf xs) (xs.drop 8)).length = n) := Lib.hid (by rw [mR_len, List.length_drop]; omega)
  have Hzw : Hid (∀ x ∈ mR (mOf xs) (xs.drop 8), (Lit.int .u8 x).wf = true) := Lib.hid (mR_wf hk hwy)
  have Hz0 : Hid ((mR (mOf xs) (xs.drop 8)).getD 0 0 = xs.getD 0 0 ∧ (mR (mOf xs) (xs.drop 8)).getD 1 0 = xs.getD 1 0) := Lib.hid ⟨rfl, rfl⟩
  have Hz4 : Hid ((mR (mOf xs) (xs.drop 8)).drop 4 = xs.drop 4) := Lib.hid (by
    have := congrArg (List.drop 4) ep
    rw [this]
    rfl)
  have c11 := Lib.hid (fun W A c (q : Rd .u8 W W.heap.size A n c xs) => mparse_yes q hE rfl rfl hm)
  have c12 := Lib.hid (fun W A c (q : Rd .u8 W W.heap.size A n c xs) => refMParse_yes q hE rfl rfl)
  have cB := Lib.hid (fun A c W (q : Rd .u8 W W.heap.size A m c (xs.drop 8)) => mbytes_near (mOf xs) A m c n (xs.drop 8) W hk q (by omega) hm8)
  have Hyl : Hid ((xs.drop 8).length = m) := Lib.hid (by rw [List.length_drop]; omega)
  have Hyw := Lib.hid hwy
  have Hxw := Lib.hid hwx
  have hm1 : m ≤ 1472 := by omega
  have Hs := Lib.hid hz
  clear hz
  have i0 : 0 < n := by omega
  have i1 : (1 : Int) < (n : Int) := by omega
  have j2 : (2 : Int) ≤ (n : Int) := by omega
  have j4 : (4 : Int) ≤ (n : Int) := by omega
  have j4c : (4 : Int) ≤ (c : Int) := by omega
  have k4 : ¬ n = 4 := by omega
  have k4c : ¬ c = 4 := by omega
  clear hE hm hm8 hwx hwy ep Z0 hl hk
  generalize mOf xs = h at *
  generalize hys : xs.drop 8 = ys at *
  clear hys
  generalize mR h ys = zs at *
  go_enter Tryd.func3, Tryd.ntmps3
  go_wp2_with fail
  refine (alive_any _ hg).mono ?_
  rintro ev w1 ⟨rfl, hb⟩
  have r0 := hr.below hb (Nat.le_refl _)
  replace k0 := k0.step hb
  clear hr hb
  go_wp2_with fail
  refine (own_any (some ⟨b, o, none⟩) n c w.heap.size xs _ r0 k0.below.size (by omega)).mono ?_
  rintro ev w2 ⟨A2, n2, c2, rfl, o2, hb⟩
  obtain rfl : n = n2 := r0.len.symm.trans o2.len
  have k : KO w (some ⟨b, o, none⟩) n c A2 n c2 xs w2.heap.size w2 := ⟨k0.step hb, r0.below hb k0.below.size, o2.rd, Nat.le_refl _⟩
  have hw2 := k.kn.below.size
  clear hb r0 k0 o2
  go_wp2_with fail
  refine (c11.out _ _ _ k.own').mono ?_
  rintro ev w3 ⟨g1, rfl, row1, gb1, hb⟩
  have ba := alloc_below w3 (.cells (msC h (some ⟨g1, 0, none⟩) m m) 27)
  replace hb := hb.trans (ba.mono hb.size)
  have sp : Sp w3.heap.size h (some ⟨g1, 0, none⟩) m ys (w3.alloc (.cells (msC h (some ⟨g1, 0, none⟩) m m) 27)) := Sp.new (row1.rdW Hyl.out (by omega) Hyw.out)
  replace k := k.step hb
  clear hb ba row1 gb1
  go_wp2_with fail
  refine (c12.out _ _ _ k.rd').mono ?_
  rintro ev w4 ⟨hb, D1, nd1, cd1, rfl, od1⟩
  have ba : Below w4.heap.size w4 ((w4.alloc (.cells (msC h D1 nd1 cd1) 32)).alloc (.cells (flC none 0 0 0) 36)) := (alloc_below w4 _).alloc (by simp) _
  replace hb := hb.trans (ba.mono hb.size)
  have sq : Sq w4.heap.size (w4.heap.size + 1) h D1 nd1 cd1 ys none 0 0 0 [] ((w4.alloc (.cells (msC h D1 nd1 cd1) 32)).alloc (.cells (flC none 0 0 0) 36)) := Sq.new od1.rd Rd.nil
  replace k := k.step hb
  replace sp := sp.step hb
  clear hb ba od1 c11 c12
  generalize hgp : w3.heap.size = gp at *
  go_wp2_with fail
  replace k := k.step (below_drew _)
  replace sp := sp.step (below_drew _)
  replace sq := sq.step (below_drew _)
  generalize hgf : w4.heap.size + 1 = gf at *
  generalize w4.heap.size = gq at *
  refine wp_region_held_drew (S := fun w' => (KO w (some ⟨b, o, none⟩) n c A2 n c2 xs w2.heap.size w' ∧ Sp gp h (some ⟨g1, 0, none⟩) m ys w' ∧ Sq gq gf h D1 nd1 cd1 ys none 0 0 0 [] w')) (by kernel_rfl) ⟨k, sp, sq⟩ (fun hHeld => ?_)
  clear hHeld
  change wpAnyH _ _ _ _ _ _ _ _ (World.drew _)
  generalize World.drew _ = W7 at *
  have hHeld := And.intro k (And.intro sp sq)
  refine wpAnyH_at (i := 0) (some 27) (v := ?v0z14) rfl rfl (by kernel_rfl) (by kernel_rfl) (by kernel_rfl) (fun _ _ _ h => h) (Or.inl ⟨by rfl, ?y0z14⟩) (by assumption) ?r0z14
  case y0z14 =>
    intro w9 hSw
    clear hSw
    go_simp
    all_goals with_reducible rfl
  simp only [Act.put, List.setIfInBounds_toArray, List.set_cons_zero, List.set_cons_succ]
  refine wpAnyH_at (i := 1) (some 28) (v := ?v1z15) rfl rfl (by kernel_rfl) (by kernel_rfl) (by kernel_rfl) (fun _ _ _ h => h) (Or.inl ⟨by rfl, ?y1z15⟩) (by assumption) ?r1z15
  case y1z15 =>
    intro w9 hSw
    (obtain ⟨a0, a1⟩ := (show (KO w (some ⟨b, o, none⟩) n c A2 n c2 xs w2.heap.size w9 ∧ Sp gp h (some ⟨g1, 0, none⟩) m ys w9 ∧ Sq gq gf h D1 nd1 cd1 ys none 0 0 0 [] w9) from hSw).2.2.fault); clear hSw
    go_simp
    all_goals with_reducible rfl
  simp only [Act.put, List.setIfInBounds_toArray, List.set_cons_zero, List.set_cons_succ]
  refine wpAnyH_one (i := 2) (by kernel_rfl) rfl ?_
  go_wp2_with (go_at_call 12; refine (is_nil none 0 0 _).mono ?_; rintro ev V1 ⟨rfl, hb⟩)
  replace k := k.step hb
  replace sp := sp.step hb
  replace sq := sq.step hb
  clear hb hHeld
  have hHeld := And.intro k (And.intro sp sq)
  refine ⟨hHeld, ?_⟩
  try simp only [Act.put, List.setIfInBounds_toArray, List.set_cons_zero, List.set_cons_succ]
  refine wpAnyH_at (i := 3) (some 30) (v := ?v3z16) rfl rfl (by kernel_rfl) (by kernel_rfl) (by kernel_rfl) (fun _ _ _ h => h) (Or.inl ⟨by rfl, ?y3z16⟩) (by assumption) ?r3z16
  case y3z16 =>
    intro w9 hSw
    clear hSw
    go_simp
    all_goals with_reducible rfl
  simp only [Act.put, List.setIfInBounds_toArray, List.set_cons_zero, List.set_cons_succ]
  refine wpAnyH_at (i := 4) (some 31) (v := ?v4z17) rfl rfl (by kernel_rfl) (by kernel_rfl) (by kernel_rfl) (fun _ _ _ h => h) (Or.inl ⟨by rfl, ?y4z17⟩) (by assumption) ?r4z17
  case y4z17 =>
    intro w9 hSw
    clear hSw
    go_simp
    all_goals with_reducible rfl
  simp only [Act.put, List.setIfInBounds_toArray, List.set_cons_zero, List.set_cons_succ]
  refine wpAnyH_at (i := 5) (some 32) (v := ?v5z18) rfl rfl (by kernel_rfl) (by kernel_rfl) (by kernel_rfl) (fun _ _ _ h => h) (Or.inl ⟨by rfl, ?y5z18⟩) (by assumption) ?r5z18
  case y5z18 =>
    intro w9 hSw
    (obtain ⟨a0, a1, a2, a3, a4, a5, a6⟩ := (show (KO w (some ⟨b, o, none⟩) n c A2 n c2 xs w2.heap.size w9 ∧ Sp gp h (some ⟨g1, 0, none⟩) m ys w9 ∧ Sq gq gf h D1 nd1 cd1 ys none 0 0 0 [] w9) from hSw).2.1.p.cells); clear hSw
    go_simp
    all_goals with_reducible rfl
  simp only [Act.put, List.setIfInBounds_toArray, List.set_cons_zero, List.set_cons_succ]
  refine wpAnyH_at (i := 7) (some 34) (v := ?v7z19) rfl rfl (by kernel_rfl) (by kernel_rfl) (by kernel_rfl) (fun _ _ _ h => h) (Or.inl ⟨by rfl, ?y7z19⟩) (by assumption) ?r7z19
  case y7z19 =>
    intro w9 hSw
    (obtain ⟨a0, a1, a2, a3, a4, a5, a6⟩ := (show (KO w (some ⟨b, o, none⟩) n c A2 n c2 xs w2.heap.size w9 ∧ Sp gp h (some ⟨g1, 0, none⟩) m ys w9 ∧ Sq gq gf h D1 nd1 cd1 ys none 0 0 0 [] w9) from hSw).2.2.q.cells); clear hSw
    go_simp
    all_goals with_reducible rfl
  simp only [Act.put, List.setIfInBounds_toArray, List.set_cons_zero, List.set_cons_succ]
  refine wpAnyH_one (i := 6) (by kernel_rfl) rfl ?_
  go_wp2_with (go_at_call 14; refine (of_ms h (some ⟨g1, 0, none⟩) m m ys _ sp.r (by omega)).mono ?_; rintro ev V2 ⟨A3, n3, c3, rfl, o3, hb⟩)
  replace k := k.step hb
  replace sp := sp.step hb
  replace sq := sq.step hb
  clear hb hHeld
  have hHeld := And.intro k (And.intro sp sq)
  refine ⟨hHeld, ?_⟩
  try simp only [Act.put, List.setIfInBounds_toArray, List.set_cons_zero, List.set_cons_succ]
  refine wpAnyH_one (i := 8) (by kernel_rfl) rfl ?_
  have s8 := refSame_ms h h _ _ _ _ _ _ ys ys _ o3.rd sq.r
  rw [mmB_self] at s8
  go_wp2_with (go_at_call 13; refine (s8).mono ?_; rintro ev V3 ⟨rfl, hb⟩)
  replace k := k.step hb
  replace sp := sp.step hb
  replace sq := sq.step hb
  clear s8 o3
  clear hb hHeld
  have hHeld := And.intro k (And.intro sp sq)
  refine ⟨hHeld, ?_⟩
  try simp only [Act.put, List.setIfInBounds_toArray, List.set_cons_zero, List.set_cons_succ]
  refine wpAnyH_at (i := 9) (some 36) (v := ?v9z20) rfl rfl (by kernel_rfl) (by kernel_rfl) (by kernel_rfl) (fun _ _ _ h => h) (Or.inl ⟨by rfl, ?y9z20⟩) (by assumption) ?r9z20
  case y9z20 =>
    intro w9 hSw
    clear hSw
    go_simp
    all_goals with_reducible rfl
  simp only [Act.put, List.setIfInBounds_toArray, List.set_cons_zero, List.set_cons_succ]
  refine wpAnyH_at (i := 10) (some 37) (v := ?v10z21) rfl rfl (by kernel_rfl) (by kernel_rfl) (by kernel_rfl) (fun _ _ _ h => h) (Or.inl ⟨by rfl, ?y10z21⟩) (by assumption) ?r10z21
  case y10z21 =>
    intro w9 hSw
    clear hSw
    go_simp
    all_goals with_reducible rfl
  simp only [Act.put, List.setIfInBounds_toArray, List.set_cons_zero, List.set_cons_succ]
  refine wpAnyH_at (i := 11) (some 38) (v := ?v11z22) rfl rfl (by kernel_rfl) (by kernel_rfl) (by kernel_rfl) (fun _ _ _ h => h) (Or.inl ⟨by rfl, ?y11z22⟩) (by assumption) ?r11z22
  case y11z22 =>
    intro w9 hSw
    clear hSw
    go_simp
    all_goals with_reducible rfl
  simp only [Act.put, List.setIfInBounds_toArray, List.set_cons_zero, List.set_cons_succ]
  refine wpAnyH_at (i := 12) (some 39) (v := ?v12z23) rfl rfl (by kernel_rfl) (by kernel_rfl) (by kernel_rfl) (fun _ _ _ h => h) (Or.inl ⟨by rfl, ?y12z23⟩) (by assumption) ?r12z23
  case y12z23 =>
    intro w9 hSw
    clear hSw
    go_simp
    all_goals with_reducible rfl
  simp only [Act.put, List.setIfInBounds_toArray, List.set_cons_zero, List.set_cons_succ]
  refine wpAnyH_at (i := 13) (some 40) (v := ?v13z24) rfl rfl (by kernel_rfl) (by kernel_rfl) (by kernel_rfl) (fun _ _ _ h => h) (Or.inl ⟨by rfl, ?y13z24⟩) (by assumption) ?r13z24
  case y13z24 =>
    intro w9 hSw
    clear hSw
    go_simp
    all_goals with_reducible rfl
  simp only [Act.put, List.setIfInBounds_toArray, List.set_cons_zero, List.set_cons_succ]
  refine wpAnyH_one (i := 14) (by kernel_rfl) rfl ?_
  go_wp2_with (go_at_call 15; refine (same_any _ _ _ _ _ _ xs _ _ _ k.own' k.rd').mono ?_; rintro ev V4 ⟨rfl, hb⟩)
  replace k := k.step hb
  replace sp := sp.step hb
  replace sq := sq.step hb
  clear hb hHeld
  have hHeld := And.intro k (And.intro sp sq)
  refine ⟨hHeld, ?_⟩
  try simp only [Act.put, List.setIfInBounds_toArray, List.set_cons_zero, List.set_cons_succ]
  refine wpAnyH_at (i := 15) (some 42) (v := ?v15z25) rfl rfl (by kernel_rfl) (by kernel_rfl) (by kernel_rfl) (fun _ _ _ h => h) (Or.inl ⟨by rfl, ?y15z25⟩) (by assumption) ?r15z25
  case y15z25 =>
    intro w9 hSw
    clear hSw
    go_simp
    all_goals with_reducible rfl
  simp only [Act.put, List.setIfInBounds_toArray, List.set_cons_zero, List.set_cons_succ]
  refine wpAnyH_at (i := 16) (some 43) (v := ?v16z26) rfl rfl (by kernel_rfl) (by kernel_rfl) (by kernel_rfl) (fun _ _ _ h => h) (Or.inl ⟨by rfl, ?y16z26⟩) (by assumption) ?r16z26
  case y16z26 =>
    intro w9 hSw
    clear hSw
    go_simp
    all_goals with_reducible rfl
  simp only [Act.put, List.setIfInBounds_toArray, List.set_cons_zero, List.set_cons_succ]
  refine wpAnyH_done (by kernel_rfl) ?_ _
  clear hHeld sq
  obtain ⟨a0, a1, a2, a3, a4, a5, a6⟩ := sp.p.cells
  go_wp2_with fail
  refine (cB.out _ _ _ sp.r).mono ?_
  rintro ev w8 ⟨gC, rfl, rowC, -, hb⟩
  replace k := k.step hb
  clear hb cB sp a0 a1 a2 a3 a4 a5 a6
  go_wp2_with fail
  replace k := k.step (below_drew _)
  replace rowC := rowC.below (below_drew _) rowC.lt
  refine wp_region_held_drew (S := fun w' => (KO w (some ⟨b, o, none⟩) n c A2 n c2 xs w2.heap.size w' ∧ Row w' gC zs)) (by kernel_rfl) ⟨k, rowC⟩ (fun hHeld => ?_)
  clear hHeld
  change wpAnyH _ _ _ _ _ _ _ _ (World.drew _)
  generalize World.drew _ = U0 at *
  have hHeld := And.intro k rowC
  have cc : ∀ W, Row W gC zs → W.cell? ⟨gC, 0, none⟩ = some (.int .u8 (xs.getD 0 0)) ∧ W.cell? ⟨gC, 1, none⟩ = some (.int .u8 (xs.getD 1 0)) := fun W r => by
    have q0 := r.cell (i := 0) (by rw [Hzl.out]; omega)
    have q1 := r.cell (i := 1) (by rw [Hzl.out]; omega)
    rw [Hz0.out.1] at q0
    rw [Hz0.out.2] at q1
    exact ⟨q0, q1⟩
  have cb : ∀ W, Rd .u8 W w.heap.size (some ⟨b, o, none⟩) n c xs → W.cell? ⟨b, o, none⟩ = some (.int .u8 (xs.getD 0 0)) ∧ W.cell? ⟨b, o + 1, none⟩ = some (.int .u8 (xs.getD 1 0)) := fun W r => ⟨r.cellAt (i := 0) (by omega), r.cellAt (i := 1) (by omega)⟩
  generalize xs.getD 0 0 = x0 at *
  generalize xs.getD 1 0 = x1 at *
  refine wpAnyH_at (i := 0) (some 51) (v := ?v0z27) rfl rfl (by kernel_rfl) (by kernel_rfl) (by kernel_rfl) (fun _ _ _ h => h) (Or.inl ⟨by rfl, ?y0z27⟩) (by assumption) ?r0z27
  case y0z27 =>
    intro w9 hSw
    clear hSw
    go_simp
    all_goals with_reducible rfl
  simp only [Act.put, List.setIfInBounds_toArray, List.set_cons_zero, List.set_cons_succ]
  refine wpAnyH_at (i := 1) (some 52) (v := ?v1z28) rfl rfl (by kernel_rfl) (by kernel_rfl) (by kernel_rfl) (fun _ _ _ h => h) (Or.inl ⟨by rfl, ?y1z28⟩) (by assumption) ?r1z28
  case y1z28 =>
    intro w9 hSw
    clear hSw
    go_simp
    all_goals with_reducible rfl
  simp only [Act.put, List.setIfInBounds_toArray, List.set_cons_zero, List.set_cons_succ]
  refine wpAnyH_at (i := 2) (some 53) (v := ?v2z29) rfl rfl (by kernel_rfl) (by kernel_rfl) (by kernel_rfl) (fun _ _ _ h => h) (Or.inl ⟨by rfl, ?y2z29⟩) (by assumption) ?r2z29
  case y2z29 =>
    intro w9 hSw
    clear hSw
    go_simp
    all_goals with_reducible rfl
  simp only [Act.put, List.setIfInBounds_toArray, List.set_cons_zero, List.set_cons_succ]
  refine wpAnyH_at (i := 3) (some 54) (v := ?v3z30) rfl rfl (by kernel_rfl) (by kernel_rfl) (by kernel_rfl) (fun _ _ _ h => h) (Or.inl ⟨by rfl, ?y3z30⟩) (by assumption) ?r3z30
  case y3z30 =>
    intro w9 hSw
    clear hSw
    go_simp
    all_goals with_reducible rfl
  simp only [Act.put, List.setIfInBounds_toArray, List.set_cons_zero, List.set_cons_succ]
  refine wpAnyH_at (i := 4) (some 55) (v := ?v4z31) rfl rfl (by kernel_rfl) (by kernel_rfl) (by kernel_rfl) (fun _ _ _ h => h) (Or.inl ⟨by rfl, ?y4z31⟩) (by assumption) ?r4z31
  case y4z31 =>
    intro w9 hSw
    clear hSw
    go_simp
    all_goals with_reducible rfl
  simp only [Act.put, List.setIfInBounds_toArray, List.set_cons_zero, List.set_cons_succ]
  refine wpAnyH_at (i := 5) (some 56) (v := ?v5z32) rfl rfl (by kernel_rfl) (by kernel_rfl) (by kernel_rfl) (fun _ _ _ h => h) (Or.inl ⟨by rfl, ?y5z32⟩) (by assumption) ?r5z32
  case y5z32 =>
    intro w9 hSw
    clear hSw
    go_simp
    all_goals with_reducible rfl
  simp only [Act.put, List.setIfInBounds_toArray, List.set_cons_zero, List.set_cons_succ]
  refine wpAnyH_at (i := 6) (some 57) (v := ?v6z33) rfl rfl (by kernel_rfl) (by kernel_rfl) (by kernel_rfl) (fun _ _ _ h => h) (Or.inl ⟨by rfl, ?y6z33⟩) (by assumption) ?r6z33
  case y6z33 =>
    intro w9 hSw
    clear hSw
    go_simp
    all_goals with_reducible rfl
  simp only [Act.put, List.setIfInBounds_toArray, List.set_cons_zero, List.set_cons_succ]
  refine wpAnyH_at (i := 7) (some 58) (v := ?v7z34) rfl rfl (by kernel_rfl) (by kernel_rfl) (by kernel_rfl) (fun _ _ _ h => h) (Or.inl ⟨by rfl, ?y7z34⟩) (by assumption) ?r7z34
  case y7z34 =>
    intro w9 hSw
    clear hSw
    go_simp
    all_goals with_reducible rfl
  simp only [Act.put, List.setIfInBounds_toArray, List.set_cons_zero, List.set_cons_succ]
  refine wpAnyH_at (i := 8) (some 59) (v := ?v8z35) rfl rfl (by kernel_rfl) (by kernel_rfl) (by kernel_rfl) (fun _ _ _ h => h) (Or.inl ⟨by rfl, ?y8z35⟩) (by assumption) ?r8z35
  case y8z35 =>
    intro w9 hSw
    clear hSw
    go_simp
    all_goals with_reducible rfl
  simp only [Act.put, List.setIfInBounds_toArray, List.set_cons_zero, List.set_cons_succ]
  refine wpAnyH_at (i := 9) (some 60) (v := ?v9z36) rfl rfl (by kernel_rfl) (by kernel_rfl) (by kernel_rfl) (fun _ _ _ h => h) (Or.inl ⟨by rfl, ?y9z36⟩) (by assumption) ?r9z36
  case y9z36 =>
    intro w9 hSw
    clear hSw
    go_simp
    all_goals with_reducible rfl
  simp only [Act.put, List.setIfInBounds_toArray, List.set_cons_zero, List.set_cons_succ]
  refine wpAnyH_at (i := 10) (some 61) (v := ?v10z37) rfl rfl (by kernel_rfl) (by kernel_rfl) (by kernel_rfl) (fun _ _ _ h => h) (Or.inl ⟨by rfl, ?y10z37⟩) (by assumption) ?r10z37
  case y10z37 =>
    intro w9 hSw
    clear hSw
    go_simp
    all_goals with_reducible rfl
  simp only [Act.put, List.setIfInBounds_toArray, List.set_cons_zero, List.set_cons_succ]
  refine wpAnyH_at (i := 11) (some 62) (v := ?v11z38) rfl rfl (by kernel_rfl) (by kernel_rfl) (by kernel_rfl) (fun _ _ _ h => h) (Or.inl ⟨by rfl, ?y11z38⟩) (by assumption) ?r11z38
  case y11z38 =>
    intro w9 hSw
    clear hSw
    go_simp
    all_goals with_reducible rfl
  simp only [Act.put, List.setIfInBounds_toArray, List.set_cons_zero, List.set_cons_succ]
  refine wpAnyH_at (i := 12) (some 63) (v := ?v12z39) rfl rfl (by kernel_rfl) (by kernel_rfl) (by kernel_rfl) (fun _ _ _ h => h) (Or.inl ⟨by rfl, ?y12z39⟩) (by assumption) ?r12z39
  case y12z39 =>
    intro w9 hSw
    clear hSw
    go_simp
    all_goals with_reducible rfl
  simp only [Act.put, List.setIfInBounds_toArray, List.set_cons_zero, List.set_cons_succ]
  refine wpAnyH_at (i := 13) (some 64) (v := ?v13z40) rfl rfl (by kernel_rfl) (by kernel_rfl) (by kernel_rfl) (fun _ _ _ h => h) (Or.inl ⟨by rfl, ?y13z40⟩) (by assumption) ?r13z40
  case y13z40 =>
    intro w9 hSw
    clear hSw
    go_simp
    all_goals with_reducible rfl
  simp only [Act.put, List.setIfInBounds_toArray, List.set_cons_zero, List.set_cons_succ]
  refine wpAnyH_one (i := 14) (by kernel_rfl) rfl ?_
  have s14 := same_any _ _ _ _ _ _ (xs.drop 4) _ _ U0 (show Rd .u8 U0 U0.heap.size (some ⟨gC, 4, none⟩) (n - 4) (n - 4) (xs.drop 4) by have q := (rowC.rdW Hzl.out (by omega) Hzw.out).cutS 4 (by omega) k4; rw [Hz4.out] at q; simpa using q) (k.rd'.cutS 4 (by omega) k4c)
  go_wp2_with (go_at_call 15; refine (s14).mono ?_; rintro ev U1 ⟨rfl, hb⟩)
  replace k := k.step hb
  replace rowC := rowC.below hb rowC.lt
  clear s14
  clear hb hHeld
  have hHeld := And.intro k rowC
  refine ⟨hHeld, ?_⟩
  try simp only [Act.put, List.setIfInBounds_toArray, List.set_cons_zero, List.set_cons_succ]
  refine wpAnyH_at (i := 15) (some 66) (v := ?v15z41) rfl rfl (by kernel_rfl) (by kernel_rfl) (by kernel_rfl) (fun _ _ _ h => h) (Or.inl ⟨by rfl, ?y15z41⟩) (by assumption) ?r15z41
  case y15z41 =>
    intro w9 hSw
    clear hSw
    go_simp
    all_goals with_reducible rfl
  simp only [Act.put, List.setIfInBounds_toArray, List.set_cons_zero, List.set_cons_succ]
  refine wpAnyH_at (i := 16) (some 67) (v := ?v16z42) rfl rfl (by kernel_rfl) (by kernel_rfl) (by kernel_rfl) (fun _ _ _ h => h) (Or.inl ⟨by rfl, ?y16z42⟩) (by assumption) ?r16z42
  case y16z42 =>
    intro w9 hSw
    clear hSw
    go_simp
    all_goals with_reducible rfl
  simp only [Act.put, List.setIfInBounds_toArray, List.set_cons_zero, List.set_cons_succ]
  refine wpAnyH_at (i := 17) (some 68) (v := ?v17z43) rfl rfl (by kernel_rfl) (by kernel_rfl) (by kernel_rfl) (fun _ _ _ h => h) (Or.inl ⟨by rfl, ?y17z43⟩) (by assumption) ?r17z43
  case y17z43 =>
    intro w9 hSw
    clear hSw
    go_simp
    all_goals with_reducible rfl
  simp only [Act.put, List.setIfInBounds_toArray, List.set_cons_zero, List.set_cons_succ]
  refine wpAnyH_at (i := 18) (some 69) (v := ?v18z44) rfl rfl (by kernel_rfl) (by kernel_rfl) (by kernel_rfl) (fun _ _ _ h => h) (Or.inl ⟨by rfl, ?y18z44⟩) (by assumption) ?r18z44
  case y18z44 =>
    intro w9 hSw
    clear hSw
    go_simp
    all_goals with_reducible rfl
  simp only [Act.put, List.setIfInBounds_toArray, List.set_cons_zero, List.set_cons_succ]
  refine wpAnyH_at (i := 19) (some 70) (v := ?v19z45) rfl rfl (by kernel_rfl) (by kernel_rfl) (by kernel_rfl) (fun _ _ _ h => h) (Or.inl ⟨by rfl, ?y19z45⟩) (by assumption) ?r19z45
  case y19z45 =>
    intro w9 hSw
    clear hSw
    go_simp
    all_goals with_reducible rfl
  simp only [Act.put, List.setIfInBounds_toArray, List.set_cons_zero, List.set_cons_succ]
  refine wpAnyH_at (i := 20) (some 71) (v := ?v20z46) rfl rfl (by kernel_rfl) (by kernel_rfl) (by kernel_rfl) (fun _ _ _ h => h) (Or.inl ⟨by rfl, ?y20z46⟩) (by assumption) ?r20z46
  case y20z46 =>
    intro w9 hSw
    (obtain ⟨q0, q1⟩ := cc _ (show (KO w (some ⟨b, o, none⟩) n c A2 n c2 xs w2.heap.size w9 ∧ Row w9 gC zs) from hSw).2); clear hSw
    go_simp
    all_goals with_reducible rfl
  simp only [Act.put, List.setIfInBounds_toArray, List.set_cons_zero, List.set_cons_succ]
  refine wpAnyH_at (i := 21) (some 72) (v := ?v21z47) rfl rfl (by kernel_rfl) (by kernel_rfl) (by kernel_rfl) (fun _ _ _ h => h) (Or.inl ⟨by rfl, ?y21z47⟩) (by assumption) ?r21z47
  case y21z47 =>
    intro w9 hSw
    clear hSw
    go_simp
    all_goals with_reducible rfl
  simp only [Act.put, List.setIfInBounds_toArray, List.set_cons_zero, List.set_cons_succ]
  refine wpAnyH_at (i := 22) (some 73) (v := ?v22z48) rfl rfl (by kernel_rfl) (by kernel_rfl) (by kernel_rfl) (fun _ _ _ h => h) (Or.inl ⟨by rfl, ?y22z48⟩) (by assumption) ?r22z48
  case y22z48 =>
    intro w9 hSw
    clear hSw
    go_simp
    all_goals with_reducible rfl
  simp only [Act.put, List.setIfInBounds_toArray, List.set_cons_zero, List.set_cons_succ]
  refine wpAnyH_at (i := 23) (some 74) (v := ?v23z49) rfl rfl (by kernel_rfl) (by kernel_rfl) (by kernel_rfl) (fun _ _ _ h => h) (Or.inl ⟨by rfl, ?y23z49⟩) (by assumption) ?r23z49
  case y23z49 =>
    intro w9 hSw
    (obtain ⟨q0, q1⟩ := cb _ (KO.rd (show (KO w (some ⟨b, o, none⟩) n c A2 n c2 xs w2.heap.size w9 ∧ Row w9 gC zs) from hSw).1)); clear hSw
    go_simp
    all_goals with_reducible rfl
  simp only [Act.put, List.setIfInBounds_toArray, List.set_cons_zero, List.set_cons_succ]
  refine wpAnyH_at (i := 24) (some 75) (v := ?v24z50) rfl rfl (by kernel_rfl) (by kernel_rfl) (by kernel_rfl) (fun _ _ _ h => h) (Or.inl ⟨by rfl, ?y24z50⟩) (by assumption) ?r24z50
  case y24z50 =>
    intro w9 hSw
    clear hSw
    go_simp
    all_goals with_reducible rfl
  simp only [Act.put, List.setIfInBounds_toArray, List.set_cons_zero, List.set_cons_succ]
  refine wpAnyH_at (i := 25) (some 76) (v := ?v25z51) rfl rfl (by kernel_rfl) (by kernel_rfl) (by kernel_rfl) (fun _ _ _ h => h) (Or.inl ⟨by rfl, ?y25z51⟩) (by assumption) ?r25z51
  case y25z51 =>
    intro w9 hSw
    clear hSw
    go_simp
    all_goals with_reducible rfl
  simp only [Act.put, List.setIfInBounds_toArray, List.set_cons_zero, List.set_cons_succ]
  refine wpAnyH_at (i := 26) (some 77) (v := ?v26z52) rfl rfl (by kernel_rfl) (by kernel_rfl) (by kernel_rfl) (fun _ _ _ h => h) (Or.inl ⟨by rfl, ?y26z52⟩) (by assumption) ?r26z52
  case y26z52 =>
    intro w9 hSw
    clear hSw
    go_simp
    all_goals with_reducible rfl
  simp only [Act.put, List.setIfInBounds_toArray, List.set_cons_zero, List.set_cons_succ]
  refine wpAnyH_at (i := 27) (some 78) (v := ?v27z53) rfl rfl (by kernel_rfl) (by kernel_rfl) (by kernel_rfl) (fun _ _ _ h => h) (Or.inl ⟨by rfl, ?y27z53⟩) (by assumption) ?r27z53
  case y27z53 =>
    intro w9 hSw
    clear hSw
    go_simp
    all_goals with_reducible rfl
  simp only [Act.put, List.setIfInBounds_toArray, List.set_cons_zero, List.set_cons_succ]
  refine wpAnyH_at (i := 28) (some 79) (v := ?v28z54) rfl rfl (by kernel_rfl) (by kernel_rfl) (by kernel_rfl) (fun _ _ _ h => h) (Or.inl ⟨by rfl, ?y28z54⟩) (by assumption) ?r28z54
  case y28z54 =>
    intro w9 hSw
    clear hSw
    go_simp
    all_goals with_reducible rfl
  simp only [Act.put, List.setIfInBounds_toArray, List.set_cons_zero, List.set_cons_succ]
  refine wpAnyH_at (i := 29) (some 80) (v := ?v29z55) rfl rfl (by kernel_rfl) (by kernel_rfl) (by kernel_rfl) (fun _ _ _ h => h) (Or.inl ⟨by rfl, ?y29z55⟩) (by assumption) ?r29z55
  case y29z55 =>
    intro w9 hSw
    (obtain ⟨q0, q1⟩ := cc _ (show (KO w (some ⟨b, o, none⟩) n c A2 n c2 xs w2.heap.size w9 ∧ Row w9 gC zs) from hSw).2); clear hSw
    go_simp
    all_goals with_reducible rfl
  simp only [Act.put, List.setIfInBounds_toArray, List.set_cons_zero, List.set_cons_succ]
  refine wpAnyH_at (i := 30) (some 81) (v := ?v30z56) rfl rfl (by kernel_rfl) (by kernel_rfl) (by kernel_rfl) (fun _ _ _ h => h) (Or.inl ⟨by rfl, ?y30z56⟩) (by assumption) ?r30z56
  case y30z56 =>
    intro w9 hSw
    clear hSw
    go_simp
    all_goals with_reducible rfl
  simp only [Act.put, List.setIfInBounds_toArray, List.set_cons_zero, List.set_cons_succ]
  refine wpAnyH_at (i := 31) (some 82) (v := ?v31z57) rfl rfl (by kernel_rfl) (by kernel_rfl) (by kernel_rfl) (fun _ _ _ h => h) (Or.inl ⟨by rfl, ?y31z57⟩) (by assumption) ?r31z57
  case y31z57 =>
    intro w9 hSw
    clear hSw
    go_simp
    all_goals with_reducible rfl
  simp only [Act.put, List.setIfInBounds_toArray, List.set_cons_zero, List.set_cons_succ]
  refine wpAnyH_at (i := 32) (some 83) (v := ?v32z58) rfl rfl (by kernel_rfl) (by kernel_rfl) (by kernel_rfl) (fun _ _ _ h => h) (Or.inl ⟨by rfl, ?y32z58⟩) (by assumption) ?r32z58
  case y32z58 =>
    intro w9 hSw
    (obtain ⟨q0, q1⟩ := cb _ (KO.rd (show (KO w (some ⟨b, o, none⟩) n c A2 n c2 xs w2.heap.size w9 ∧ Row w9 gC zs) from hSw).1)); clear hSw
    go_simp
    all_goals with_reducible rfl
  simp only [Act.put, List.setIfInBounds_toArray, List.set_cons_zero, List.set_cons_succ]
  refine wpAnyH_at (i := 33) (some 84) (v := ?v33z59) rfl rfl (by kernel_rfl) (by kernel_rfl) (by kernel_rfl) (fun _ _ _ h => h) (Or.inl ⟨by rfl, ?y33z59⟩) (by assumption) ?r33z59
  case y33z59 =>
    intro w9 hSw
    clear hSw
    go_simp
    all_goals with_reducible rfl
  simp only [Act.put, List.setIfInBounds_toArray, List.set_cons_zero, List.set_cons_succ]
  refine wpAnyH_at (i := 34) (some 85) (v := ?v34z60) rfl rfl (by kernel_rfl) (by kernel_rfl) (by kernel_rfl) (fun _ _ _ h => h) (Or.inl ⟨by rfl, ?y34z60⟩) (by assumption) ?r34z60
  case y34z60 =>
    intro w9 hSw
    clear hSw
    go_simp
    all_goals with_reducible rfl
  simp only [Act.put, List.setIfInBounds_toArray, List.set_cons_zero, List.set_cons_succ]
  refine wpAnyH_done (by kernel_rfl) ?_ _
  clear hHeld cc cb
  go_wp2_with fail
  replace k := k.step (below_drew _)
  replace rowC := rowC.below (below_drew _) rowC.lt
  refine wp_region_held_drew (S := fun w' => (KO w (some ⟨b, o, none⟩) n c A2 n c2 xs w2.heap.size w' ∧ Row w' gC zs)) (by kernel_rfl) ⟨k, rowC⟩ (fun hHeld => ?_)
  clear hHeld
  change wpAnyH _ _ _ _ _ _ _ _ (World.drew _)
  generalize World.drew _ = U2 at *
  have hHeld := And.intro k rowC
  refine wpAnyH_at (i := 0) (some 86) (v := ?v0z61) rfl rfl (by kernel_rfl) (by kernel_rfl) (by kernel_rfl) (fun _ _ _ h => h) (Or.inl ⟨by rfl, ?y0z61⟩) (by assumption) ?r0z61
  case y0z61 =>
    intro w9 hSw
    clear hSw
    go_simp
    all_goals with_reducible rfl
  simp only [Act.put, List.setIfInBounds_toArray, List.set_cons_zero, List.set_cons_succ]
  refine wpAnyH_at (i := 1) (some 87) (v := ?v1z62) rfl rfl (by kernel_rfl) (by kernel_rfl) (by kernel_rfl) (fun _ _ _ h => h) (Or.inl ⟨by rfl, ?y1z62⟩) (by assumption) ?r1z62
  case y1z62 =>
    intro w9 hSw
    clear hSw
    go_simp
    all_goals with_reducible rfl
  simp only [Act.put, List.setIfInBounds_toArray, List.set_cons_zero, List.set_cons_succ]
  refine wpAnyH_one (i := 2) (by kernel_rfl) rfl ?_
  have s2 := same_any _ _ _ _ _ _ xs _ _ U2 (show Rd .u8 U2 U2.heap.size (some ⟨gC, 0, none⟩) n n xs by have q := rowC.rdW Hzl.out (by omega) Hzw.out; rw [Hs.out] at q; exact q) k.rd'
  go_wp2_with (go_at_call 15; refine (s2).mono ?_; rintro ev U3 ⟨rfl, hb⟩)
  replace k := k.step hb
  replace rowC := rowC.below hb rowC.lt
  clear s2
  clear hb hHeld
  have hHeld := And.intro k rowC
  refine ⟨hHeld, ?_⟩
  try simp only [Act.put, List.setIfInBounds_toArray, List.set_cons_zero, List.set_cons_succ]
  refine wpAnyH_at (i := 3) (some 89) (v := ?v3z63) rfl rfl (by kernel_rfl) (by kernel_rfl) (by kernel_rfl) (fun _ _ _ h => h) (Or.inl ⟨by rfl, ?y3z63⟩) (by assumption) ?r3z63
  case y3z63 =>
    intro w9 hSw
    clear hSw
    go_simp
    all_goals with_reducible rfl
  simp only [Act.put, List.setIfInBounds_toArray, List.set_cons_zero, List.set_cons_succ]
  refine wpAnyH_at (i := 4) (some 90) (v := undef) rfl rfl (by kernel_rfl) (by kernel_rfl) (by kernel_rfl) (fun _ _ _ h => h) (Or.inr ⟨by rfl, rfl⟩) (by assumption) ?_
  simp only [Act.put, List.setIfInBounds_toArray, List.set_cons_zero, List.set_cons_succ]
  refine wpAnyH_at (i := 5) (some 91) (v := undef) rfl rfl (by kernel_rfl) (by kernel_rfl) (by kernel_rfl) (fun _ _ _ h => h) (Or.inr ⟨by rfl, rfl⟩) (by assumption) ?_
  simp only [Act.put, List.setIfInBounds_toArray, List.set_cons_zero, List.set_cons_succ]
  refine wpAnyH_at (i := 6) (some 92) (v := undef) rfl rfl (by kernel_rfl) (by kernel_rfl) (by kernel_rfl) (fun _ _ _ h => h) (Or.inr ⟨by rfl, rfl⟩) (by assumption) ?_
  simp only [Act.put, List.setIfInBounds_toArray, List.set_cons_zero, List.set_cons_succ]
  refine wpAnyH_at (i := 7) (some 93) (v := undef) rfl rfl (by kernel_rfl) (by kernel_rfl) (by kernel_rfl) (fun _ _ _ h => h) (Or.inr ⟨by rfl, rfl⟩) (by assumption) ?_
  simp only [Act.put, List.setIfInBounds_toArray, List.set_cons_zero, List.set_cons_succ]
  refine wpAnyH_at (i := 8) (some 94) (v := undef) rfl rfl (by kernel_rfl) (by kernel_rfl) (by kernel_rfl) (fun _ _ _ h => h) (Or.inr ⟨by rfl, rfl⟩) (by assumption) ?_
  simp only [Act.put, List.setIfInBounds_toArray, List.set_cons_zero, List.set_cons_succ]
  refine wpAnyH_at (i := 9) (some 95) (v := undef) rfl rfl (by kernel_rfl) (by kernel_rfl) (by kernel_rfl) (fun _ _ _ h => h) (Or.inr ⟨by rfl, rfl⟩) (by assumption) ?_
  simp only [Act.put, List.setIfInBounds_toArray, List.set_cons_zero, List.set_cons_succ]
  refine wpAnyH_at (i := 10) (some 96) (v := undef) rfl rfl (by kernel_rfl) (by kernel_rfl) (by kernel_rfl) (fun _ _ _ h => h) (Or.inr ⟨by rfl, rfl⟩) (by assumption) ?_
  simp only [Act.put, List.setIfInBounds_toArray, List.set_cons_zero, List.set_cons_succ]
  refine wpAnyH_at (i := 11) (some 97) (v := ?v11z64) rfl rfl (by kernel_rfl) (by kernel_rfl) (by kernel_rfl) (fun _ _ _ h => h) (Or.inl ⟨by rfl, ?y11z64⟩) (by assumption) ?r11z64
  case y11z64 =>
    intro w9 hSw
    clear hSw
    go_simp
    all_goals with_reducible rfl
  simp only [Act.put, List.setIfInBounds_toArray, List.set_cons_zero, List.set_cons_succ]
  refine wpAnyH_at (i := 12) (some 98) (v := ?v12z65) rfl rfl (by kernel_rfl) (by kernel_rfl) (by kernel_rfl) (fun _ _ _ h => h) (Or.inl ⟨by rfl, ?y12z65⟩) (by assumption) ?r12z65
  case y12z65 =>
    intro w9 hSw
    clear hSw
    go_simp
    all_goals with_reducible rfl
  simp only [Act.put, List.setIfInBounds_toArray, List.set_cons_zero, List.set_cons_succ]
  refine wpAnyH_at (i := 13) (some 99) (v := undef) rfl rfl (by kernel_rfl) (by kernel_rfl) (by kernel_rfl) (fun _ _ _ h => h) (Or.inr ⟨by rfl, rfl⟩) (by assumption) ?_
  simp only [Act.put, List.setIfInBounds_toArray, List.set_cons_zero, List.set_cons_succ]
  refine wpAnyH_at (i := 14) (some 100) (v := undef) rfl rfl (by kernel_rfl) (by kernel_rfl) (by kernel_rfl) (fun _ _ _ h => h) (Or.inr ⟨by rfl, rfl⟩) (by assumption) ?_
  simp only [Act.put, List.setIfInBounds_toArray, List.set_cons_zero, List.set_cons_succ]
  refine wpAnyH_at (i := 15) (some 101) (v := undef) rfl rfl (by kernel_rfl) (by kernel_rfl) (by kernel_rfl) (fun _ _ _ h => h) (Or.inr ⟨by rfl, rfl⟩) (by assumption) ?_
  simp only [Act.put, List.setIfInBounds_toArray, List.set_cons_zero, List.set_cons_succ]
  refine wpAnyH_at (i := 16) (some 102) (v := undef) rfl rfl (by kernel_rfl) (by kernel_rfl) (by kernel_rfl) (fun _ _ _ h => h) (Or.inr ⟨by rfl, rfl⟩) (by assumption) ?_
  simp only [Act.put, List.setIfInBounds_toArray, List.set_cons_zero, List.set_cons_succ]
  refine wpAnyH_at (i := 17) (some 103) (v := undef) rfl rfl (by kernel_rfl) (by kernel_rfl) (by kernel_rfl) (fun _ _ _ h => h) (Or.inr ⟨by rfl, rfl⟩) (by assumption) ?_
  simp only [Act.put, List.setIfInBounds_toArray, List.set_cons_zero, List.set_cons_succ]
  refine wpAnyH_at (i := 18) (some 104) (v := undef) rfl rfl (by kernel_rfl) (by kernel_rfl) (by kernel_rfl) (fun _ _ _ h => h) (Or.inr ⟨by rfl, rfl⟩) (by assumption) ?_
  simp only [Act.put, List.setIfInBounds_toArray, List.set_cons_zero, List.set_cons_succ]
  refine wpAnyH_at (i := 19) (some 105) (v := undef) rfl rfl (by kernel_rfl) (by kernel_rfl) (by kernel_rfl) (fun _ _ _ h => h) (Or.inr ⟨by rfl, rfl⟩) (by assumption) ?_
  simp only [Act.put, List.setIfInBounds_toArray, List.set_cons_zero, List.set_cons_succ]
  refine wpAnyH_at (i := 20) (some 106) (v := ?v20z66) rfl rfl (by kernel_rfl) (by kernel_rfl) (by kernel_rfl) (fun _ _ _ h => h) (Or.inl ⟨by rfl, ?y20z66⟩) (by assumption) ?r20z66
  case y20z66 =>
    intro w9 hSw
    clear hSw
    go_simp
    all_goals with_reducible rfl
  simp only [Act.put, List.setIfInBounds_toArray, List.set_cons_zero, List.set_cons_succ]
  refine wpAnyH_at (i := 21) (some 2) (v := ?v21z67) rfl rfl (by kernel_rfl) (by kernel_rfl) (by kernel_rfl) (fun _ _ _ h => h) (Or.inl ⟨by rfl, ?y21z67⟩) (by assumption) ?r21z67
  case y21z67 =>
    intro w9 hSw
    clear hSw
    go_simp
    all_goals with_reducible rfl
  simp only [Act.put, List.setIfInBounds_toArray, List.set_cons_zero, List.set_cons_succ]
  refine wpAnyH_done (by kernel_rfl) ?_ _
  go_wp2
  go_ret
  exact ⟨rfl, k.kn.below⟩
end Go.Proofs.YtbefoapnlehdmaaDoor
