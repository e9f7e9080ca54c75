/-
  The law TcpParses: every Parse and Sums of any bytes answers what the document says.
-/
import Derived.Test.YtggnkmllbpgfoaaDoorTW
namespace Go.Proofs.YtggnkmllbpgfoaaDoor
open Go.RowKit
set_option linter.unusedVariables false

/-- What the walk knows: the bytes, the law's own copy of them. -/
structure KO (w : World) (A : Option Addr) (n c : Nat) (A2 : Option Addr) (n2 c2 : Nat) (xs : List Int) (B1 : Nat) (W : World) : Prop where
  kn : Kn w W
  rd : Rd .u8 W w.heap.size A n c xs
  own : Rd .u8 W B1 A2 n2 c2 xs
  le : B1 ≤ W.heap.size
section
variable {w W V : World} {A : Option Addr} {n c : Nat} {A2 : Option Addr} {n2 c2 : Nat} {xs : List Int} {B1 : Nat}
theorem KO.step (q : KO w A n c A2 n2 c2 xs B1 W) (hb : Below W.heap.size W V) : KO w A n c A2 n2 c2 xs B1 V := ⟨q.kn.step hb, q.rd.below hb q.kn.below.size, q.own.below hb q.le, Nat.le_trans q.le hb.size⟩
theorem KO.rd' (q : KO w A n c A2 n2 c2 xs B1 W) : Rd .u8 W W.heap.size A n c xs := q.rd.more q.kn.below.size
theorem KO.own' (q : KO w A n c A2 n2 c2 xs B1 W) : Rd .u8 W W.heap.size A2 n2 c2 xs := q.own.more q.le
end
theorem parses_far (A : Option Addr) (n c : Nat) (f t : Int) (w : World) (hn : 3000 < n) (hmax : n ≤ 9223372036854775807) : Calls Tryd.prog 3 #[.slice A n c, .int .u32 f, .int .u32 t] w fun e w' => e = .returned (.bool true) ∧ Below w.heap.size w w' := by
  go_enter Tryd.func3, Tryd.ntmps3
  go_wp2_with (go_at_call 5; refine (alive_any _).mono ?_; rintro ev w1 ⟨rfl, hb⟩)
  go_ret
  exact ⟨rfl, hb⟩

set_option maxRecDepth 100000 in
set_option maxHeartbeats 4000000 in
theorem parses_good (A : Option Addr) (n c : Nat) (xs : List Int) (f t : Int) (w : World) (hg : Laid w) (hr : Rd .u8 w w.heap.size A n c xs) (hf : Ip f) (ht : Ip t) (hn : n ≤ 3000) (hE : (pE f t xs).2 = 0) : Calls Tryd.prog 3 #[.slice A n c, .int .u32 f, .int .u32 t] w fun e w' => e = .returned (.bool true) ∧ Below w.heap.size w w' := by
  have k0 := Kn.start hg
  have hcap := hr.cap
  have hmax := hr.max
  obtain ⟨h, hh⟩ : ∃ h, hdOf xs = h := ⟨_, rfl⟩
  have Hw : Hid (∀ x ∈ xs, (Lit.int .u8 x).wf = true) := Lib.hid hr.2.2.2.1
  have Hm := Lib.hid hr.len
  have c11 := Lib.hid (fun W A n c (q : Rd .u8 W W.heap.size A n c xs) => parse_yes q hf ht hE hh)
  have c12 := Lib.hid (fun W A n c (q : Rd .u8 W W.heap.size A n c xs) => refParse_yes q hf ht hE hh)
  have c14 := Lib.hid (fun W A n c (q : Rd .u8 W W.heap.size A n c xs) (hn : n ≤ 65535) => sums_any A n c xs f t W q hf ht hn)
  have c15 := Lib.hid (fun W A n c (q : Rd .u8 W W.heap.size A n c xs) (hn : n ≤ 65535) => refSums_any A n c xs f t W q hf ht hn)
  clear hE hf ht hh
  generalize sumB f t xs = sb at *
  go_enter Tryd.func3, Tryd.ntmps3
  go_wp2_with fail
  refine (alive_any _).mono ?_
  rintro ev w1 ⟨rfl, hb⟩
  have r0 := hr.below hb (Nat.le_refl _)
  replace k0 := k0.step hb
  clear hr hb
  go_wp2_with fail
  refine (own_any A n c w.heap.size xs _ r0 k0.below.size (by omega)).mono ?_
  rintro ev w2 ⟨A2, n2, c2, rfl, o2, hb⟩
  obtain rfl : n = n2 := r0.len.symm.trans o2.len
  have k : KO w A n c A2 n c2 xs w2.heap.size w2 := ⟨k0.step hb, r0.below hb k0.below.size, o2.rd, Nat.le_refl _⟩
  have hw2 := k.kn.below.size
  clear hb r0 k0 o2
  go_wp2_with fail
  refine (c11.out _ _ _ _ k.own').mono ?_
  rintro ev w3 ⟨g1, rfl, row1, gb1, hb⟩
  have ba := alloc_below w3 (.cells (pkC h (some ⟨g1, 0, none⟩) n n) 28)
  replace hb := hb.trans (ba.mono hb.size)
  have sp : Sp w3.heap.size h (some ⟨g1, 0, none⟩) n xs (w3.alloc (.cells (pkC h (some ⟨g1, 0, none⟩) n n) 28)) := Sp.new (row1.rdW Hm.out (by omega) Hw.out)
  have gp1 := row1.lt
  replace row1 := row1.below ba row1.lt
  replace k := k.step hb
  clear hb ba
  go_wp2_with fail
  refine (c12.out _ _ _ _ k.rd').mono ?_
  rintro ev w4 ⟨hb, D1, nd1, cd1, rfl, od1⟩
  have ba : Below w4.heap.size w4 ((w4.alloc (.cells (pkC h D1 nd1 cd1) 33)).alloc (.cells (flC none 0 0 0) 37)) := (alloc_below w4 _).alloc (by simp) _
  replace hb := hb.trans (ba.mono hb.size)
  have sq : Sq w4.heap.size (w4.heap.size + 1) h D1 nd1 cd1 xs none 0 0 0 [] ((w4.alloc (.cells (pkC h D1 nd1 cd1) 33)).alloc (.cells (flC none 0 0 0) 37)) := Sq.new od1.rd Rd.nil
  replace k := k.step hb
  replace sp := sp.step hb
  replace row1 := row1.below hb row1.lt
  clear hb ba od1 c11 c12
  generalize hgp : w3.heap.size = gp at *
  go_wp2_with fail
  replace k := k.step (below_drew _)
  replace sp := sp.step (below_drew _)
  replace sq := sq.step (below_drew _)
  replace row1 := row1.below (below_drew _) row1.lt
  generalize hgf : w4.heap.size + 1 = gf at *
  generalize w4.heap.size = gq at *
  refine wp_region_held_drew (S := fun w' => (KO w A n c A2 n c2 xs w2.heap.size w' ∧ Sp gp h (some ⟨g1, 0, none⟩) n xs w' ∧ Sq gq gf h D1 nd1 cd1 xs none 0 0 0 [] w')) (by kernel_rfl) ⟨k, sp, sq⟩ (fun hHeld => ?_)
  clear hHeld
  change wpAnyH _ _ _ _ _ _ _ _ (World.drew _)
  generalize World.drew _ = W7 at *
  have hHeld := And.intro k (And.intro sp sq)
  refine wpAnyH_at (i := 0) (some 34) (v := ?v0z1) rfl rfl (by kernel_rfl) (by kernel_rfl) (by kernel_rfl) (fun _ _ _ h => h) (Or.inl ⟨by rfl, ?y0z1⟩) (by assumption) ?r0z1
  case y0z1 =>
    intro w9 hSw
    clear hSw
    go_simp
    all_goals with_reducible rfl
  simp only [Act.put, List.setIfInBounds_toArray, List.set_cons_zero, List.set_cons_succ]
  refine wpAnyH_at (i := 1) (some 35) (v := ?v1z2) rfl rfl (by kernel_rfl) (by kernel_rfl) (by kernel_rfl) (fun _ _ _ h => h) (Or.inl ⟨by rfl, ?y1z2⟩) (by assumption) ?r1z2
  case y1z2 =>
    intro w9 hSw
    (obtain ⟨a0, a1⟩ := (show (KO w A n c A2 n c2 xs w2.heap.size w9 ∧ Sp gp h (some ⟨g1, 0, none⟩) n xs w9 ∧ Sq gq gf h D1 nd1 cd1 xs none 0 0 0 [] w9) from hSw).2.2.fault); clear hSw
    go_simp
    all_goals with_reducible rfl
  simp only [Act.put, List.setIfInBounds_toArray, List.set_cons_zero, List.set_cons_succ]
  refine wpAnyH_one (i := 2) (by kernel_rfl) rfl ?_
  go_wp2_with (go_at_call 9; refine (is_nil none 0 0 _).mono ?_; rintro ev V1 ⟨rfl, hb⟩)
  replace k := k.step hb
  replace sp := sp.step hb
  replace sq := sq.step hb
  replace row1 := row1.below hb row1.lt
  clear hb hHeld
  have hHeld := And.intro k (And.intro sp sq)
  refine ⟨hHeld, ?_⟩
  try simp only [Act.put, List.setIfInBounds_toArray, List.set_cons_zero, List.set_cons_succ]
  refine wpAnyH_at (i := 3) (some 37) (v := ?v3z3) rfl rfl (by kernel_rfl) (by kernel_rfl) (by kernel_rfl) (fun _ _ _ h => h) (Or.inl ⟨by rfl, ?y3z3⟩) (by assumption) ?r3z3
  case y3z3 =>
    intro w9 hSw
    clear hSw
    go_simp
    all_goals with_reducible rfl
  simp only [Act.put, List.setIfInBounds_toArray, List.set_cons_zero, List.set_cons_succ]
  refine wpAnyH_at (i := 4) (some 38) (v := ?v4z4) rfl rfl (by kernel_rfl) (by kernel_rfl) (by kernel_rfl) (fun _ _ _ h => h) (Or.inl ⟨by rfl, ?y4z4⟩) (by assumption) ?r4z4
  case y4z4 =>
    intro w9 hSw
    clear hSw
    go_simp
    all_goals with_reducible rfl
  simp only [Act.put, List.setIfInBounds_toArray, List.set_cons_zero, List.set_cons_succ]
  refine wpAnyH_at (i := 5) (some 39) (v := ?v5z5) rfl rfl (by kernel_rfl) (by kernel_rfl) (by kernel_rfl) (fun _ _ _ h => h) (Or.inl ⟨by rfl, ?y5z5⟩) (by assumption) ?r5z5
  case y5z5 =>
    intro w9 hSw
    (obtain ⟨a0, a1, a2, a3⟩ := (show (KO w A n c A2 n c2 xs w2.heap.size w9 ∧ Sp gp h (some ⟨g1, 0, none⟩) n xs w9 ∧ Sq gq gf h D1 nd1 cd1 xs none 0 0 0 [] w9) from hSw).2.1.p.cells); clear hSw
    go_simp
    all_goals with_reducible rfl
  simp only [Act.put, List.setIfInBounds_toArray, List.set_cons_zero, List.set_cons_succ]
  refine wpAnyH_at (i := 7) (some 41) (v := ?v7z6) rfl rfl (by kernel_rfl) (by kernel_rfl) (by kernel_rfl) (fun _ _ _ h => h) (Or.inl ⟨by rfl, ?y7z6⟩) (by assumption) ?r7z6
  case y7z6 =>
    intro w9 hSw
    (obtain ⟨a0, a1, a2, a3⟩ := (show (KO w A n c A2 n c2 xs w2.heap.size w9 ∧ Sp gp h (some ⟨g1, 0, none⟩) n xs w9 ∧ Sq gq gf h D1 nd1 cd1 xs none 0 0 0 [] w9) from hSw).2.2.q.cells); clear hSw
    go_simp
    all_goals with_reducible rfl
  simp only [Act.put, List.setIfInBounds_toArray, List.set_cons_zero, List.set_cons_succ]
  refine wpAnyH_one (i := 6) (by kernel_rfl) rfl ?_
  go_wp2_with (go_at_call 11; refine (of_pk h (some ⟨g1, 0, none⟩) n n xs _ sp.r (by omega)).mono ?_; rintro ev V2 ⟨A3, n3, c3, rfl, o3, hb⟩)
  replace k := k.step hb
  replace sp := sp.step hb
  replace sq := sq.step hb
  replace row1 := row1.below hb row1.lt
  clear hb hHeld
  have hHeld := And.intro k (And.intro sp sq)
  refine ⟨hHeld, ?_⟩
  try simp only [Act.put, List.setIfInBounds_toArray, List.set_cons_zero, List.set_cons_succ]
  refine wpAnyH_one (i := 8) (by kernel_rfl) rfl ?_
  have s8 := refSame_pk h h _ _ _ _ _ _ xs xs _ o3.rd sq.r
  rw [smB_self] at s8
  go_wp2_with (go_at_call 10; refine (s8).mono ?_; rintro ev V3 ⟨rfl, hb⟩)
  replace k := k.step hb
  replace sp := sp.step hb
  replace sq := sq.step hb
  replace row1 := row1.below hb row1.lt
  clear s8 o3
  clear hb hHeld
  have hHeld := And.intro k (And.intro sp sq)
  refine ⟨hHeld, ?_⟩
  try simp only [Act.put, List.setIfInBounds_toArray, List.set_cons_zero, List.set_cons_succ]
  refine wpAnyH_at (i := 9) (some 43) (v := ?v9z7) rfl rfl (by kernel_rfl) (by kernel_rfl) (by kernel_rfl) (fun _ _ _ h => h) (Or.inl ⟨by rfl, ?y9z7⟩) (by assumption) ?r9z7
  case y9z7 =>
    intro w9 hSw
    clear hSw
    go_simp
    all_goals with_reducible rfl
  simp only [Act.put, List.setIfInBounds_toArray, List.set_cons_zero, List.set_cons_succ]
  refine wpAnyH_at (i := 10) (some 44) (v := ?v10z8) rfl rfl (by kernel_rfl) (by kernel_rfl) (by kernel_rfl) (fun _ _ _ h => h) (Or.inl ⟨by rfl, ?y10z8⟩) (by assumption) ?r10z8
  case y10z8 =>
    intro w9 hSw
    clear hSw
    go_simp
    all_goals with_reducible rfl
  simp only [Act.put, List.setIfInBounds_toArray, List.set_cons_zero, List.set_cons_succ]
  refine wpAnyH_at (i := 11) (some 45) (v := ?v11z9) rfl rfl (by kernel_rfl) (by kernel_rfl) (by kernel_rfl) (fun _ _ _ h => h) (Or.inl ⟨by rfl, ?y11z9⟩) (by assumption) ?r11z9
  case y11z9 =>
    intro w9 hSw
    clear hSw
    go_simp
    all_goals with_reducible rfl
  simp only [Act.put, List.setIfInBounds_toArray, List.set_cons_zero, List.set_cons_succ]
  refine wpAnyH_at (i := 12) (some 46) (v := ?v12z10) rfl rfl (by kernel_rfl) (by kernel_rfl) (by kernel_rfl) (fun _ _ _ h => h) (Or.inl ⟨by rfl, ?y12z10⟩) (by assumption) ?r12z10
  case y12z10 =>
    intro w9 hSw
    (obtain ⟨a0, a1, a2, a3⟩ := (show (KO w A n c A2 n c2 xs w2.heap.size w9 ∧ Sp gp h (some ⟨g1, 0, none⟩) n xs w9 ∧ Sq gq gf h D1 nd1 cd1 xs none 0 0 0 [] w9) from hSw).2.1.p.cells); clear hSw
    go_simp
    all_goals with_reducible rfl
  simp only [Act.put, List.setIfInBounds_toArray, List.set_cons_zero, List.set_cons_succ]
  refine wpAnyH_at (i := 14) (some 48) (v := ?v14z11) rfl rfl (by kernel_rfl) (by kernel_rfl) (by kernel_rfl) (fun _ _ _ h => h) (Or.inl ⟨by rfl, ?y14z11⟩) (by assumption) ?r14z11
  case y14z11 =>
    intro w9 hSw
    clear hSw
    go_simp
    all_goals with_reducible rfl
  simp only [Act.put, List.setIfInBounds_toArray, List.set_cons_zero, List.set_cons_succ]
  refine wpAnyH_at (i := 15) (some 49) (v := ?v15z12) rfl rfl (by kernel_rfl) (by kernel_rfl) (by kernel_rfl) (fun _ _ _ h => h) (Or.inl ⟨by rfl, ?y15z12⟩) (by assumption) ?r15z12
  case y15z12 =>
    intro w9 hSw
    (obtain ⟨a0, a1, a2, a3⟩ := (show (KO w A n c A2 n c2 xs w2.heap.size w9 ∧ Sp gp h (some ⟨g1, 0, none⟩) n xs w9 ∧ Sq gq gf h D1 nd1 cd1 xs none 0 0 0 [] w9) from hSw).2.2.q.cells); clear hSw
    go_simp
    all_goals with_reducible rfl
  simp only [Act.put, List.setIfInBounds_toArray, List.set_cons_zero, List.set_cons_succ]
  refine wpAnyH_one (i := 13) (by kernel_rfl) rfl ?_
  go_wp2_with (go_at_call 13; refine (bytes_any h (some ⟨g1, 0, none⟩) n n xs _ sp.r (by omega)).mono ?_; rintro ev V4 ⟨g4, rfl, row4, hg4, hb⟩)
  replace k := k.step hb
  replace sp := sp.step hb
  replace sq := sq.step hb
  replace row1 := row1.below hb row1.lt
  clear hb hHeld
  have hHeld := And.intro k (And.intro sp sq)
  refine ⟨hHeld, ?_⟩
  try simp only [Act.put, List.setIfInBounds_toArray, List.set_cons_zero, List.set_cons_succ]
  refine wpAnyH_one (i := 16) (by kernel_rfl) rfl ?_
  have s16 := same_any _ _ _ _ _ _ xs _ _ _ (row4.rdW Hm.out (by omega) Hw.out) sq.r
  go_wp2_with (go_at_call 12; refine (s16).mono ?_; rintro ev V5 ⟨rfl, hb⟩)
  replace k := k.step hb
  replace sp := sp.step hb
  replace sq := sq.step hb
  replace row1 := row1.below hb row1.lt
  clear s16 row4
  clear hb hHeld
  have hHeld := And.intro k (And.intro sp sq)
  refine ⟨hHeld, ?_⟩
  try simp only [Act.put, List.setIfInBounds_toArray, List.set_cons_zero, List.set_cons_succ]
  refine wpAnyH_at (i := 17) (some 51) (v := ?v17z13) rfl rfl (by kernel_rfl) (by kernel_rfl) (by kernel_rfl) (fun _ _ _ h => h) (Or.inl ⟨by rfl, ?y17z13⟩) (by assumption) ?r17z13
  case y17z13 =>
    intro w9 hSw
    clear hSw
    go_simp
    all_goals with_reducible rfl
  simp only [Act.put, List.setIfInBounds_toArray, List.set_cons_zero, List.set_cons_succ]
  refine wpAnyH_at (i := 18) (some 52) (v := ?v18z14) rfl rfl (by kernel_rfl) (by kernel_rfl) (by kernel_rfl) (fun _ _ _ h => h) (Or.inl ⟨by rfl, ?y18z14⟩) (by assumption) ?r18z14
  case y18z14 =>
    intro w9 hSw
    clear hSw
    go_simp
    all_goals with_reducible rfl
  simp only [Act.put, List.setIfInBounds_toArray, List.set_cons_zero, List.set_cons_succ]
  refine wpAnyH_at (i := 19) (some 53) (v := ?v19z15) rfl rfl (by kernel_rfl) (by kernel_rfl) (by kernel_rfl) (fun _ _ _ h => h) (Or.inl ⟨by rfl, ?y19z15⟩) (by assumption) ?r19z15
  case y19z15 =>
    intro w9 hSw
    clear hSw
    go_simp
    all_goals with_reducible rfl
  simp only [Act.put, List.setIfInBounds_toArray, List.set_cons_zero, List.set_cons_succ]
  refine wpAnyH_at (i := 20) (some 54) (v := ?v20z16) rfl rfl (by kernel_rfl) (by kernel_rfl) (by kernel_rfl) (fun _ _ _ h => h) (Or.inl ⟨by rfl, ?y20z16⟩) (by assumption) ?r20z16
  case y20z16 =>
    intro w9 hSw
    clear hSw
    go_simp
    all_goals with_reducible rfl
  simp only [Act.put, List.setIfInBounds_toArray, List.set_cons_zero, List.set_cons_succ]
  refine wpAnyH_at (i := 21) (some 55) (v := ?v21z17) rfl rfl (by kernel_rfl) (by kernel_rfl) (by kernel_rfl) (fun _ _ _ h => h) (Or.inl ⟨by rfl, ?y21z17⟩) (by assumption) ?r21z17
  case y21z17 =>
    intro w9 hSw
    clear hSw
    go_simp
    all_goals with_reducible rfl
  simp only [Act.put, List.setIfInBounds_toArray, List.set_cons_zero, List.set_cons_succ]
  refine wpAnyH_at (i := 22) (some 56) (v := ?v22z18) rfl rfl (by kernel_rfl) (by kernel_rfl) (by kernel_rfl) (fun _ _ _ h => h) (Or.inl ⟨by rfl, ?y22z18⟩) (by assumption) ?r22z18
  case y22z18 =>
    intro w9 hSw
    clear hSw
    go_simp
    all_goals with_reducible rfl
  simp only [Act.put, List.setIfInBounds_toArray, List.set_cons_zero, List.set_cons_succ]
  refine wpAnyH_at (i := 24) (some 58) (v := ?v24z19) rfl rfl (by kernel_rfl) (by kernel_rfl) (by kernel_rfl) (fun _ _ _ h => h) (Or.inl ⟨by rfl, ?y24z19⟩) (by assumption) ?r24z19
  case y24z19 =>
    intro w9 hSw
    clear hSw
    go_simp
    all_goals with_reducible rfl
  simp only [Act.put, List.setIfInBounds_toArray, List.set_cons_zero, List.set_cons_succ]
  refine wpAnyH_at (i := 25) (some 59) (v := ?v25z20) rfl rfl (by kernel_rfl) (by kernel_rfl) (by kernel_rfl) (fun _ _ _ h => h) (Or.inl ⟨by rfl, ?y25z20⟩) (by assumption) ?r25z20
  case y25z20 =>
    intro w9 hSw
    clear hSw
    go_simp
    all_goals with_reducible rfl
  simp only [Act.put, List.setIfInBounds_toArray, List.set_cons_zero, List.set_cons_succ]
  refine wpAnyH_at (i := 26) (some 60) (v := ?v26z21) rfl rfl (by kernel_rfl) (by kernel_rfl) (by kernel_rfl) (fun _ _ _ h => h) (Or.inl ⟨by rfl, ?y26z21⟩) (by assumption) ?r26z21
  case y26z21 =>
    intro w9 hSw
    clear hSw
    go_simp
    all_goals with_reducible rfl
  simp only [Act.put, List.setIfInBounds_toArray, List.set_cons_zero, List.set_cons_succ]
  refine wpAnyH_one (i := 23) (by kernel_rfl) rfl ?_
  go_wp2_with (go_at_call 14; refine (c14.out _ _ _ _ k.own' (by omega)).mono ?_; rintro ev V6 ⟨rfl, hb⟩)
  replace k := k.step hb
  replace sp := sp.step hb
  replace sq := sq.step hb
  replace row1 := row1.below hb row1.lt
  clear c14
  clear hb hHeld
  have hHeld := And.intro k (And.intro sp sq)
  refine ⟨hHeld, ?_⟩
  try simp only [Act.put, List.setIfInBounds_toArray, List.set_cons_zero, List.set_cons_succ]
  refine wpAnyH_one (i := 27) (by kernel_rfl) rfl ?_
  go_wp2_with (go_at_call 15; refine (c15.out _ _ _ _ k.rd' (by omega)).mono ?_; rintro ev V7 ⟨rfl, hb⟩)
  replace k := k.step hb
  replace sp := sp.step hb
  replace sq := sq.step hb
  replace row1 := row1.below hb row1.lt
  clear c15
  clear hb hHeld
  have hHeld := And.intro k (And.intro sp sq)
  refine ⟨hHeld, ?_⟩
  try simp only [Act.put, List.setIfInBounds_toArray, List.set_cons_zero, List.set_cons_succ]
  refine wpAnyH_at (i := 28) (some 62) (v := ?v28z22) rfl rfl (by kernel_rfl) (by kernel_rfl) (by kernel_rfl) (fun _ _ _ h => h) (Or.inl ⟨by rfl, ?y28z22⟩) (by assumption) ?r28z22
  case y28z22 =>
    intro w9 hSw
    clear hSw
    go_simp
    all_goals with_reducible rfl
  simp only [Act.put, List.setIfInBounds_toArray, List.set_cons_zero, List.set_cons_succ]
  refine wpAnyH_at (i := 29) (some 63) (v := ?v29z23) rfl rfl (by kernel_rfl) (by kernel_rfl) (by kernel_rfl) (fun _ _ _ h => h) (Or.inl ⟨by rfl, ?y29z23⟩) (by assumption) ?r29z23
  case y29z23 =>
    intro w9 hSw
    clear hSw
    go_simp
    all_goals with_reducible rfl
  simp only [Act.put, List.setIfInBounds_toArray, List.set_cons_zero, List.set_cons_succ]
  refine wpAnyH_done (by kernel_rfl) ?_ _
  clear hHeld sq
  have gpn : ¬ gp = g1 := by omega
  go_wp2_with fail
  go_loopw [12] (fun i wr => ∃ (j : Nat) (zs : List Int), i = .int .i64 j ∧ j ≤ n ∧ zs.length = n ∧ (∀ x ∈ zs, (Lit.int .u8 x).wf = true) ∧ Row wr g1 zs ∧ PkAt wr gp 28 h (some ⟨g1, 0, none⟩) n n ∧ KO w A n c A2 n c2 xs w2.heap.size wr) (fun i _ => n - (intOf i).toNat)
  case atStart => exact ⟨0, xs, rfl, by omega, Hm.out, Hw.out, row1, sp.p, k⟩
  case round =>
    clear row1 sp k
    obtain ⟨j, zs, rfl, hj, hzl, hzw, row, pk, k⟩ := hrel
    obtain ⟨x0, x1, x2, x3⟩ := pk.cells
    by_cases hjm : j = n
    · subst hjm
      have u1 : ¬ (j : Int) < (j : Int) := by omega
      go_wp2_with fail
      refine (same_any _ _ _ _ _ _ xs _ _ _ k.own' k.rd').mono ?_
      rintro ev w8 ⟨rfl, hb⟩
      replace k := k.step hb
      clear x0 x1 x2 x3
      go_wp2
      go_ret
      exact ⟨rfl, k.kn.below⟩
    · have u1 : (j : Int) < (n : Int) := by omega
      have cj := row.cell (i := j) (by omega)
      have zj := row.frozen j
      obtain ⟨v, hv⟩ : ∃ v, (zs.getD j 0 + 1) % 256 = v := ⟨_, rfl⟩
      obtain ⟨y, hy⟩ : ∃ y, zs.getD j 0 = y := ⟨_, rfl⟩
      rw [hy] at cj hv
      have hv1 : 0 ≤ v ∧ v ≤ 255 := by omega
      have row' := row.set j v
      have on := Only.setCell g1 j wr (.int .u8 v)
      have pk' : PkAt (wr.setCell ⟨g1, j, none⟩ (.int .u8 v)) gp 28 h (some ⟨g1, 0, none⟩) n n := (on.other gp gpn).trans pk
      have hgw : w.heap.size ≤ g1 := by omega
      have bw := k.kn.below.trans (on.below.mono hgw)
      have k' : KO w A n c A2 n c2 xs w2.heap.size (wr.setCell ⟨g1, j, none⟩ (.int .u8 v)) := ⟨⟨hg.below bw, bw⟩, k.rd.below on.below hgw, k.own.below on.below gb1, by rw [on.size]; exact k.le⟩
      have e0 : IntKind.i64.wrap ((j : Int) + 1) = (j : Int) + 1 := by rw [IntKind.wrap_i64]; omega
      clear row pk k on bw hy
      go_wp2
      go_roundw
      case rel => exact ⟨j + 1, zs.set j v, by simp, by omega, by rw [List.length_set]; exact hzl, (fun x hx => (List.mem_or_eq_of_mem_set hx).elim (hzw x) (fun q => by rw [q]; exact u8_mk hv1)), row', pk', k'⟩
      case measure => simp [intOf]; omega

set_option maxRecDepth 100000 in
set_option maxHeartbeats 4000000 in
theorem parses_bad (A : Option Addr) (n c : Nat) (xs : List Int) (f t : Int) (w : World) (hg : Laid w) (hr : Rd .u8 w w.heap.size A n c xs) (hf : Ip f) (ht : Ip t) (hn : n ≤ 3000) (r1 e1 : Int) (hE : pE f t xs = (r1, e1)) (he1 : ¬ e1 = 0) : Calls Tryd.prog 3 #[.slice A n c, .int .u32 f, .int .u32 t] w fun e w' => e = .returned (.bool true) ∧ Below w.heap.size w w' := by
  have k0 := Kn.start hg
  have hcap := hr.cap
  have hmax := hr.max
  have c11 := Lib.hid (fun W A n c (q : Rd .u8 W W.heap.size A n c xs) => parse_no q hf ht hE he1)
  have c12 := Lib.hid (fun W A n c (q : Rd .u8 W W.heap.size A n c xs) => refParse_no q hf ht hE he1)
  have c14 := Lib.hid (fun W A n c (q : Rd .u8 W W.heap.size A n c xs) (hn : n ≤ 65535) => sums_any A n c xs f t W q hf ht hn)
  have c15 := Lib.hid (fun W A n c (q : Rd .u8 W W.heap.size A n c xs) (hn : n ≤ 65535) => refSums_any A n c xs f t W q hf ht hn)
  clear hE hf ht
  generalize sumB f t xs = sb at *
  go_enter Tryd.func3, Tryd.ntmps3
  go_wp2_with fail
  refine (alive_any _).mono ?_
  rintro ev w1 ⟨rfl, hb⟩
  have r0 := hr.below hb (Nat.le_refl _)
  replace k0 := k0.step hb
  clear hr hb
  go_wp2_with fail
  refine (own_any A n c w.heap.size xs _ r0 k0.below.size (by omega)).mono ?_
  rintro ev w2 ⟨A2, n2, c2, rfl, o2, hb⟩
  obtain rfl : n = n2 := r0.len.symm.trans o2.len
  have k : KO w A n c A2 n c2 xs w2.heap.size w2 := ⟨k0.step hb, r0.below hb k0.below.size, o2.rd, Nat.le_refl _⟩
  have hw2 := k.kn.below.size
  clear hb r0 k0 o2
  go_wp2_with fail
  refine (c11.out _ _ _ _ k.own').mono ?_
  rintro ev w3 ⟨rfl, hb⟩
  have ba := alloc_below w3 (.cells (pkC zeroH none 0 0) 28)
  replace hb := hb.trans (ba.mono hb.size)
  have sp : Sp w3.heap.size zeroH none 0 [] (w3.alloc (.cells (pkC zeroH none 0 0) 28)) := Sp.new Rd.nil
  replace k := k.step hb
  clear hb ba
  go_wp2_with fail
  refine (c12.out _ _ _ _ k.rd').mono ?_
  rintro ev w4 ⟨hb, Af1, nf1, cf1, rfl, rf1, -⟩
  have ba : Below w4.heap.size w4 ((w4.alloc (.cells (pkC zeroH none 0 0) 33)).alloc (.cells (flC Af1 nf1 cf1 e1) 37)) := (alloc_below w4 _).alloc (by simp) _
  replace hb := hb.trans (ba.mono hb.size)
  have sq : Sq w4.heap.size (w4.heap.size + 1) zeroH none 0 0 [] Af1 nf1 cf1 e1 [r1] ((w4.alloc (.cells (pkC zeroH none 0 0) 33)).alloc (.cells (flC Af1 nf1 cf1 e1) 37)) := Sq.new Rd.nil rf1
  replace k := k.step hb
  replace sp := sp.step hb
  clear hb ba rf1 c11 c12
  generalize hgp : w3.heap.size = gp at *
  go_wp2_with fail
  replace k := k.step (below_drew _)
  replace sp := sp.step (below_drew _)
  replace sq := sq.step (below_drew _)
  skip
  generalize hgf : w4.heap.size + 1 = gf at *
  generalize w4.heap.size = gq at *
  refine wp_region_held_drew (S := fun w' => (KO w A n c A2 n c2 xs w2.heap.size w' ∧ Sp gp zeroH none 0 [] w' ∧ Sq gq gf zeroH none 0 0 [] Af1 nf1 cf1 e1 [r1] w')) (by kernel_rfl) ⟨k, sp, sq⟩ (fun hHeld => ?_)
  clear hHeld
  change wpAnyH _ _ _ _ _ _ _ _ (World.drew _)
  generalize World.drew _ = W7 at *
  have hHeld := And.intro k (And.intro sp sq)
  refine wpAnyH_at (i := 0) (some 34) (v := ?v0z24) rfl rfl (by kernel_rfl) (by kernel_rfl) (by kernel_rfl) (fun _ _ _ h => h) (Or.inl ⟨by rfl, ?y0z24⟩) (by assumption) ?r0z24
  case y0z24 =>
    intro w9 hSw
    clear hSw
    go_simp
    all_goals with_reducible rfl
  simp only [Act.put, List.setIfInBounds_toArray, List.set_cons_zero, List.set_cons_succ]
  refine wpAnyH_at (i := 1) (some 35) (v := ?v1z25) rfl rfl (by kernel_rfl) (by kernel_rfl) (by kernel_rfl) (fun _ _ _ h => h) (Or.inl ⟨by rfl, ?y1z25⟩) (by assumption) ?r1z25
  case y1z25 =>
    intro w9 hSw
    (obtain ⟨a0, a1⟩ := (show (KO w A n c A2 n c2 xs w2.heap.size w9 ∧ Sp gp zeroH none 0 [] w9 ∧ Sq gq gf zeroH none 0 0 [] Af1 nf1 cf1 e1 [r1] w9) from hSw).2.2.fault); clear hSw
    go_simp
    all_goals with_reducible rfl
  simp only [Act.put, List.setIfInBounds_toArray, List.set_cons_zero, List.set_cons_succ]
  refine wpAnyH_one (i := 2) (by kernel_rfl) rfl ?_
  go_wp2_with (go_at_call 9; refine (is_err Af1 nf1 cf1 r1 e1 _ k.kn.laid sq.fr he1).mono ?_; rintro ev V1 ⟨rfl, hb⟩)
  replace k := k.step hb
  replace sp := sp.step hb
  replace sq := sq.step hb
  clear hb hHeld
  have hHeld := And.intro k (And.intro sp sq)
  refine ⟨hHeld, ?_⟩
  try simp only [Act.put, List.setIfInBounds_toArray, List.set_cons_zero, List.set_cons_succ]
  refine wpAnyH_at (i := 3) (some 37) (v := ?v3z26) rfl rfl (by kernel_rfl) (by kernel_rfl) (by kernel_rfl) (fun _ _ _ h => h) (Or.inl ⟨by rfl, ?y3z26⟩) (by assumption) ?r3z26
  case y3z26 =>
    intro w9 hSw
    clear hSw
    go_simp
    all_goals with_reducible rfl
  simp only [Act.put, List.setIfInBounds_toArray, List.set_cons_zero, List.set_cons_succ]
  refine wpAnyH_at (i := 4) (some 38) (v := ?v4z27) rfl rfl (by kernel_rfl) (by kernel_rfl) (by kernel_rfl) (fun _ _ _ h => h) (Or.inl ⟨by rfl, ?y4z27⟩) (by assumption) ?r4z27
  case y4z27 =>
    intro w9 hSw
    clear hSw
    go_simp
    all_goals with_reducible rfl
  simp only [Act.put, List.setIfInBounds_toArray, List.set_cons_zero, List.set_cons_succ]
  refine wpAnyH_at (i := 5) (some 39) (v := ?v5z28) rfl rfl (by kernel_rfl) (by kernel_rfl) (by kernel_rfl) (fun _ _ _ h => h) (Or.inl ⟨by rfl, ?y5z28⟩) (by assumption) ?r5z28
  case y5z28 =>
    intro w9 hSw
    (obtain ⟨a0, a1, a2, a3⟩ := (show (KO w A n c A2 n c2 xs w2.heap.size w9 ∧ Sp gp zeroH none 0 [] w9 ∧ Sq gq gf zeroH none 0 0 [] Af1 nf1 cf1 e1 [r1] w9) from hSw).2.1.p.cells); clear hSw
    go_simp
    all_goals with_reducible rfl
  simp only [Act.put, List.setIfInBounds_toArray, List.set_cons_zero, List.set_cons_succ]
  refine wpAnyH_at (i := 7) (some 41) (v := ?v7z29) rfl rfl (by kernel_rfl) (by kernel_rfl) (by kernel_rfl) (fun _ _ _ h => h) (Or.inl ⟨by rfl, ?y7z29⟩) (by assumption) ?r7z29
  case y7z29 =>
    intro w9 hSw
    (obtain ⟨a0, a1, a2, a3⟩ := (show (KO w A n c A2 n c2 xs w2.heap.size w9 ∧ Sp gp zeroH none 0 [] w9 ∧ Sq gq gf zeroH none 0 0 [] Af1 nf1 cf1 e1 [r1] w9) from hSw).2.2.q.cells); clear hSw
    go_simp
    all_goals with_reducible rfl
  simp only [Act.put, List.setIfInBounds_toArray, List.set_cons_zero, List.set_cons_succ]
  refine wpAnyH_one (i := 6) (by kernel_rfl) rfl ?_
  go_wp2_with (go_at_call 11; refine (of_pk zeroH none 0 0 [] _ sp.r (by omega)).mono ?_; rintro ev V2 ⟨A3, n3, c3, rfl, o3, hb⟩)
  replace k := k.step hb
  replace sp := sp.step hb
  replace sq := sq.step hb
  clear hb hHeld
  have hHeld := And.intro k (And.intro sp sq)
  refine ⟨hHeld, ?_⟩
  try simp only [Act.put, List.setIfInBounds_toArray, List.set_cons_zero, List.set_cons_succ]
  refine wpAnyH_one (i := 8) (by kernel_rfl) rfl ?_
  have s8 := refSame_pk zeroH zeroH _ _ _ _ _ _ [] [] _ o3.rd sq.r
  rw [smB_self] at s8
  go_wp2_with (go_at_call 10; refine (s8).mono ?_; rintro ev V3 ⟨rfl, hb⟩)
  replace k := k.step hb
  replace sp := sp.step hb
  replace sq := sq.step hb
  clear s8 o3
  clear hb hHeld
  have hHeld := And.intro k (And.intro sp sq)
  refine ⟨hHeld, ?_⟩
  try simp only [Act.put, List.setIfInBounds_toArray, List.set_cons_zero, List.set_cons_succ]
  refine wpAnyH_at (i := 9) (some 43) (v := ?v9z30) rfl rfl (by kernel_rfl) (by kernel_rfl) (by kernel_rfl) (fun _ _ _ h => h) (Or.inl ⟨by rfl, ?y9z30⟩) (by assumption) ?r9z30
  case y9z30 =>
    intro w9 hSw
    clear hSw
    go_simp
    all_goals with_reducible rfl
  simp only [Act.put, List.setIfInBounds_toArray, List.set_cons_zero, List.set_cons_succ]
  refine wpAnyH_at (i := 10) (some 44) (v := ?v10z31) rfl rfl (by kernel_rfl) (by kernel_rfl) (by kernel_rfl) (fun _ _ _ h => h) (Or.inl ⟨by rfl, ?y10z31⟩) (by assumption) ?r10z31
  case y10z31 =>
    intro w9 hSw
    clear hSw
    go_simp
    all_goals with_reducible rfl
  simp only [Act.put, List.setIfInBounds_toArray, List.set_cons_zero, List.set_cons_succ]
  refine wpAnyH_at (i := 11) (some 45) (v := ?v11z32) rfl rfl (by kernel_rfl) (by kernel_rfl) (by kernel_rfl) (fun _ _ _ h => h) (Or.inl ⟨by rfl, ?y11z32⟩) (by assumption) ?r11z32
  case y11z32 =>
    intro w9 hSw
    clear hSw
    go_simp
    all_goals with_reducible rfl
  simp only [Act.put, List.setIfInBounds_toArray, List.set_cons_zero, List.set_cons_succ]
  refine wpAnyH_at (i := 12) (some 46) (v := ?v12z33) rfl rfl (by kernel_rfl) (by kernel_rfl) (by kernel_rfl) (fun _ _ _ h => h) (Or.inl ⟨by rfl, ?y12z33⟩) (by assumption) ?r12z33
  case y12z33 =>
    intro w9 hSw
    (obtain ⟨a0, a1, a2, a3⟩ := (show (KO w A n c A2 n c2 xs w2.heap.size w9 ∧ Sp gp zeroH none 0 [] w9 ∧ Sq gq gf zeroH none 0 0 [] Af1 nf1 cf1 e1 [r1] w9) from hSw).2.1.p.cells); clear hSw
    go_simp
    all_goals with_reducible rfl
  simp only [Act.put, List.setIfInBounds_toArray, List.set_cons_zero, List.set_cons_succ]
  refine wpAnyH_at (i := 14) (some 48) (v := ?v14z34) rfl rfl (by kernel_rfl) (by kernel_rfl) (by kernel_rfl) (fun _ _ _ h => h) (Or.inl ⟨by rfl, ?y14z34⟩) (by assumption) ?r14z34
  case y14z34 =>
    intro w9 hSw
    clear hSw
    go_simp
    all_goals with_reducible rfl
  simp only [Act.put, List.setIfInBounds_toArray, List.set_cons_zero, List.set_cons_succ]
  refine wpAnyH_at (i := 15) (some 49) (v := ?v15z35) rfl rfl (by kernel_rfl) (by kernel_rfl) (by kernel_rfl) (fun _ _ _ h => h) (Or.inl ⟨by rfl, ?y15z35⟩) (by assumption) ?r15z35
  case y15z35 =>
    intro w9 hSw
    (obtain ⟨a0, a1, a2, a3⟩ := (show (KO w A n c A2 n c2 xs w2.heap.size w9 ∧ Sp gp zeroH none 0 [] w9 ∧ Sq gq gf zeroH none 0 0 [] Af1 nf1 cf1 e1 [r1] w9) from hSw).2.2.q.cells); clear hSw
    go_simp
    all_goals with_reducible rfl
  simp only [Act.put, List.setIfInBounds_toArray, List.set_cons_zero, List.set_cons_succ]
  refine wpAnyH_one (i := 13) (by kernel_rfl) rfl ?_
  go_wp2_with (go_at_call 13; refine (bytes_any zeroH none 0 0 [] _ sp.r (by omega)).mono ?_; rintro ev V4 ⟨g4, rfl, row4, hg4, hb⟩)
  replace k := k.step hb
  replace sp := sp.step hb
  replace sq := sq.step hb
  clear hb hHeld
  have hHeld := And.intro k (And.intro sp sq)
  refine ⟨hHeld, ?_⟩
  try simp only [Act.put, List.setIfInBounds_toArray, List.set_cons_zero, List.set_cons_succ]
  refine wpAnyH_one (i := 16) (by kernel_rfl) rfl ?_
  have s16 := same_any _ _ _ _ _ _ [] _ _ _ (row4.rdW (n := 0) rfl (by omega) (by simp)) sq.r
  go_wp2_with (go_at_call 12; refine (s16).mono ?_; rintro ev V5 ⟨rfl, hb⟩)
  replace k := k.step hb
  replace sp := sp.step hb
  replace sq := sq.step hb
  clear s16 row4
  clear hb hHeld
  have hHeld := And.intro k (And.intro sp sq)
  refine ⟨hHeld, ?_⟩
  try simp only [Act.put, List.setIfInBounds_toArray, List.set_cons_zero, List.set_cons_succ]
  refine wpAnyH_at (i := 17) (some 51) (v := ?v17z36) rfl rfl (by kernel_rfl) (by kernel_rfl) (by kernel_rfl) (fun _ _ _ h => h) (Or.inl ⟨by rfl, ?y17z36⟩) (by assumption) ?r17z36
  case y17z36 =>
    intro w9 hSw
    clear hSw
    go_simp
    all_goals with_reducible rfl
  simp only [Act.put, List.setIfInBounds_toArray, List.set_cons_zero, List.set_cons_succ]
  refine wpAnyH_at (i := 18) (some 52) (v := ?v18z37) rfl rfl (by kernel_rfl) (by kernel_rfl) (by kernel_rfl) (fun _ _ _ h => h) (Or.inl ⟨by rfl, ?y18z37⟩) (by assumption) ?r18z37
  case y18z37 =>
    intro w9 hSw
    clear hSw
    go_simp
    all_goals with_reducible rfl
  simp only [Act.put, List.setIfInBounds_toArray, List.set_cons_zero, List.set_cons_succ]
  refine wpAnyH_at (i := 19) (some 53) (v := ?v19z38) rfl rfl (by kernel_rfl) (by kernel_rfl) (by kernel_rfl) (fun _ _ _ h => h) (Or.inl ⟨by rfl, ?y19z38⟩) (by assumption) ?r19z38
  case y19z38 =>
    intro w9 hSw
    clear hSw
    go_simp
    all_goals with_reducible rfl
  simp only [Act.put, List.setIfInBounds_toArray, List.set_cons_zero, List.set_cons_succ]
  refine wpAnyH_at (i := 20) (some 54) (v := ?v20z39) rfl rfl (by kernel_rfl) (by kernel_rfl) (by kernel_rfl) (fun _ _ _ h => h) (Or.inl ⟨by rfl, ?y20z39⟩) (by assumption) ?r20z39
  case y20z39 =>
    intro w9 hSw
    clear hSw
    go_simp
    all_goals with_reducible rfl
  simp only [Act.put, List.setIfInBounds_toArray, List.set_cons_zero, List.set_cons_succ]
  refine wpAnyH_at (i := 21) (some 55) (v := ?v21z40) rfl rfl (by kernel_rfl) (by kernel_rfl) (by kernel_rfl) (fun _ _ _ h => h) (Or.inl ⟨by rfl, ?y21z40⟩) (by assumption) ?r21z40
  case y21z40 =>
    intro w9 hSw
    clear hSw
    go_simp
    all_goals with_reducible rfl
  simp only [Act.put, List.setIfInBounds_toArray, List.set_cons_zero, List.set_cons_succ]
  refine wpAnyH_at (i := 22) (some 56) (v := ?v22z41) rfl rfl (by kernel_rfl) (by kernel_rfl) (by kernel_rfl) (fun _ _ _ h => h) (Or.inl ⟨by rfl, ?y22z41⟩) (by assumption) ?r22z41
  case y22z41 =>
    intro w9 hSw
    clear hSw
    go_simp
    all_goals with_reducible rfl
  simp only [Act.put, List.setIfInBounds_toArray, List.set_cons_zero, List.set_cons_succ]
  refine wpAnyH_at (i := 24) (some 58) (v := ?v24z42) rfl rfl (by kernel_rfl) (by kernel_rfl) (by kernel_rfl) (fun _ _ _ h => h) (Or.inl ⟨by rfl, ?y24z42⟩) (by assumption) ?r24z42
  case y24z42 =>
    intro w9 hSw
    clear hSw
    go_simp
    all_goals with_reducible rfl
  simp only [Act.put, List.setIfInBounds_toArray, List.set_cons_zero, List.set_cons_succ]
  refine wpAnyH_at (i := 25) (some 59) (v := ?v25z43) rfl rfl (by kernel_rfl) (by kernel_rfl) (by kernel_rfl) (fun _ _ _ h => h) (Or.inl ⟨by rfl, ?y25z43⟩) (by assumption) ?r25z43
  case y25z43 =>
    intro w9 hSw
    clear hSw
    go_simp
    all_goals with_reducible rfl
  simp only [Act.put, List.setIfInBounds_toArray, List.set_cons_zero, List.set_cons_succ]
  refine wpAnyH_at (i := 26) (some 60) (v := ?v26z44) rfl rfl (by kernel_rfl) (by kernel_rfl) (by kernel_rfl) (fun _ _ _ h => h) (Or.inl ⟨by rfl, ?y26z44⟩) (by assumption) ?r26z44
  case y26z44 =>
    intro w9 hSw
    clear hSw
    go_simp
    all_goals with_reducible rfl
  simp only [Act.put, List.setIfInBounds_toArray, List.set_cons_zero, List.set_cons_succ]
  refine wpAnyH_one (i := 23) (by kernel_rfl) rfl ?_
  go_wp2_with (go_at_call 14; refine (c14.out _ _ _ _ k.own' (by omega)).mono ?_; rintro ev V6 ⟨rfl, hb⟩)
  replace k := k.step hb
  replace sp := sp.step hb
  replace sq := sq.step hb
  clear c14
  clear hb hHeld
  have hHeld := And.intro k (And.intro sp sq)
  refine ⟨hHeld, ?_⟩
  try simp only [Act.put, List.setIfInBounds_toArray, List.set_cons_zero, List.set_cons_succ]
  refine wpAnyH_one (i := 27) (by kernel_rfl) rfl ?_
  go_wp2_with (go_at_call 15; refine (c15.out _ _ _ _ k.rd' (by omega)).mono ?_; rintro ev V7 ⟨rfl, hb⟩)
  replace k := k.step hb
  replace sp := sp.step hb
  replace sq := sq.step hb
  clear c15
  clear hb hHeld
  have hHeld := And.intro k (And.intro sp sq)
  refine ⟨hHeld, ?_⟩
  try simp only [Act.put, List.setIfInBounds_toArray, List.set_cons_zero, List.set_cons_succ]
  refine wpAnyH_at (i := 28) (some 62) (v := ?v28z45) rfl rfl (by kernel_rfl) (by kernel_rfl) (by kernel_rfl) (fun _ _ _ h => h) (Or.inl ⟨by rfl, ?y28z45⟩) (by assumption) ?r28z45
  case y28z45 =>
    intro w9 hSw
    clear hSw
    go_simp
    all_goals with_reducible rfl
  simp only [Act.put, List.setIfInBounds_toArray, List.set_cons_zero, List.set_cons_succ]
  refine wpAnyH_at (i := 29) (some 63) (v := ?v29z46) rfl rfl (by kernel_rfl) (by kernel_rfl) (by kernel_rfl) (fun _ _ _ h => h) (Or.inl ⟨by rfl, ?y29z46⟩) (by assumption) ?r29z46
  case y29z46 =>
    intro w9 hSw
    clear hSw
    go_simp
    all_goals with_reducible rfl
  simp only [Act.put, List.setIfInBounds_toArray, List.set_cons_zero, List.set_cons_succ]
  refine wpAnyH_done (by kernel_rfl) ?_ _
  clear hHeld sq
  go_wp2_with fail
  go_loopw [12] (fun i wr => i = .int .i64 0 ∧ PkAt wr gp 28 zeroH none 0 0 ∧ KO w A n c A2 n c2 xs w2.heap.size wr) (fun _ _ => 0)
  case atStart => exact ⟨rfl, sp.p, k⟩
  case round =>
    clear sp k
    obtain ⟨rfl, pk, k⟩ := hrel
    obtain ⟨x0, x1, x2, x3⟩ := pk.cells
    go_wp2_with fail
    refine (same_any _ _ _ _ _ _ xs _ _ _ k.own' k.rd').mono ?_
    rintro ev w8 ⟨rfl, hb⟩
    replace k := k.step hb
    clear x0 x1 x2 x3
    go_wp2
    go_ret
    exact ⟨rfl, k.kn.below⟩
theorem parses_law (A : Option Addr) (n c : Nat) (xs : List Int) (f t : Int) (w : World) (hg : Laid w) (hr : Rd .u8 w w.heap.size A n c xs) (hf : Ip f) (ht : Ip t) : Calls Tryd.prog 3 #[.slice A n c, .int .u32 f, .int .u32 t] w fun e w' => e = .returned (.bool true) ∧ Below w.heap.size w w' := by
  by_cases hn : 3000 < n
  · exact parses_far A n c f t w hn (Nat.le_trans hr.cap hr.max)
  · have hn' : n ≤ 3000 := by omega
    by_cases h : (pE f t xs).2 = 0
    · exact parses_good A n c xs f t w hg hr hf ht hn' h
    · obtain ⟨r, e, hE, he⟩ := pE_pair f t xs h
      exact parses_bad A n c xs f t w hg hr hf ht hn' r e hE he
end Go.Proofs.YtggnkmllbpgfoaaDoor
