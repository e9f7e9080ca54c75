/-
  The law InetParses: every Parse and Peek of any bytes answers what the document says.
-/
import Derived.Test.YthgdgjpckgfmbaaDoorLPeeks
import Derived.Test.YthgdgjpckgfmbaaDoorRParse
namespace Go.Proofs.YthgdgjpckgfmbaaDoor
open Go.RowKit
set_option linter.unusedVariables false

/-- What the walk knows: the bytes, the law's own copy of them. -/
structure KO (w : World) (A : Option Addr) (n c : Nat) (A2 : Option Addr) (n2 c2 : Nat) (xs : List Int) (B1 : Nat) (W : World) : Prop where
  kn : Kn w W
  rd : Rd .u8 W w.heap.size A n c xs
  own : Rd .u8 W B1 A2 n2 c2 xs
  le : B1 ≤ W.heap.size
/-- A packet of the program's: its block, its body. -/
structure Sp (g : Nat) (h : Hd) (B : Option Addr) (m : Nat) (ys : List Int) (W : World) : Prop where
  p : PkAt W g 28 h B m m
  r : Rd .u8 W W.heap.size B m m ys
/-- A packet of the document's, with its fault. -/
structure Sq (g gf : Nat) (h : Hd) (D : Option Addr) (nd cd : Nat) (ys : List Int) (Af : Option Addr) (nf cf : Nat) (ef : Int) (rs : List Int) (W : World) : Prop where
  q : PkAt W g 33 h D nd cd
  r : Rd .u8 W W.heap.size D nd cd ys
  f : W.heap[gf]? = some (.cells (flC Af nf cf ef) 37 (0, 0))
  fr : Rd .i64 W W.heap.size Af nf cf rs
section
variable {w W V : World} {A : Option Addr} {n c : Nat} {A2 : Option Addr} {n2 c2 : Nat} {xs ys : List Int} {B1 g gf : Nat} {h : Hd} {B D Af : Option Addr} {m nd cd nf cf : Nat} {ef : Int} {rs : List Int}
theorem KO.step (q : KO w A n c A2 n2 c2 xs B1 W) (hb : Below W.heap.size W V) : KO w A n c A2 n2 c2 xs B1 V := ⟨q.kn.step hb, q.rd.below hb q.kn.below.size, q.own.below hb q.le, Nat.le_trans q.le hb.size⟩
theorem KO.rd' (q : KO w A n c A2 n2 c2 xs B1 W) : Rd .u8 W W.heap.size A n c xs := q.rd.more q.kn.below.size
theorem KO.own' (q : KO w A n c A2 n2 c2 xs B1 W) : Rd .u8 W W.heap.size A2 n2 c2 xs := q.own.more q.le
theorem Sp.step (q : Sp g h B m ys W) (hb : Below W.heap.size W V) : Sp g h B m ys V := ⟨q.p.step hb, (q.r.below hb (Nat.le_refl _)).more hb.size⟩
theorem Sp.new (r : Rd .u8 W W.heap.size B m m ys) : Sp W.heap.size h B m ys (W.alloc (.cells (pkC h B m m) 28)) := ⟨PkAt.new W 28 h B m m, (r.below (alloc_below _ _) (Nat.le_refl _)).more (alloc_below _ _).size⟩
theorem Sq.step (q : Sq g gf h D nd cd ys Af nf cf ef rs W) (hb : Below W.heap.size W V) : Sq g gf h D nd cd ys Af nf cf ef rs V := ⟨q.q.step hb, (q.r.below hb (Nat.le_refl _)).more hb.size, (hb.block _ (blk_lt q.f)).trans q.f, (q.fr.below hb (Nat.le_refl _)).more hb.size⟩
theorem Sq.new (r : Rd .u8 W W.heap.size D nd cd ys) (fr : Rd .i64 W W.heap.size Af nf cf rs) : Sq W.heap.size (W.heap.size + 1) h D nd cd ys Af nf cf ef rs ((W.alloc (.cells (pkC h D nd cd) 33)).alloc (.cells (flC Af nf cf ef) 37)) := by
  have b1 := alloc_below W (.cells (pkC h D nd cd) 33)
  have p1 := PkAt.new W 33 h D nd cd
  have s1 : (W.alloc (.cells (pkC h D nd cd) 33)).heap.size = W.heap.size + 1 := by simp
  have r1 := (r.below b1 (Nat.le_refl _)).more b1.size
  have f1 := (fr.below b1 (Nat.le_refl _)).more b1.size
  generalize W.alloc (.cells (pkC h D nd cd) 33) = W1 at *
  have b2 := alloc_below W1 (.cells (flC Af nf cf ef) 37)
  have y := heap_alloc_new W1 (.cells (flC Af nf cf ef) 37)
  rw [s1] at y
  exact ⟨p1.step b2, (r1.below b2 (Nat.le_refl _)).more b2.size, y, (f1.below b2 (Nat.le_refl _)).more b2.size⟩
theorem Sq.fault (q : Sq g gf h D nd cd ys Af nf cf ef rs W) : W.cell? ⟨gf, 0, none⟩ = some (.slice Af nf cf) ∧ W.cell? ⟨gf, 1, none⟩ = some (.int .i64 ef) := ⟨blk_cell q.f rfl, blk_cell q.f rfl⟩
end
theorem parses_far (A : Option Addr) (n c : Nat) (w : World) (hg : Laid w) (hn : 3000 < n) (hmax : n ≤ 9223372036854775807) : Calls Tryd.prog 3 #[.slice A n c] w fun e w' => e = .returned (.bool true) ∧ Below w.heap.size w w' := by
  go_enter Tryd.func3, Tryd.ntmps3
  go_wp2_with (go_at_call 9; refine (alive_any _ hg).mono ?_; rintro ev w1 ⟨rfl, hb⟩)
  go_ret
  exact ⟨rfl, hb⟩

set_option maxRecDepth 100000 in
set_option maxHeartbeats 4000000 in
theorem parses_good (A : Option Addr) (n c : Nat) (xs : List Int) (w : World) (hg : Laid w) (hr : Rd .u8 w w.heap.size A n c xs) (hn : n ≤ 3000) (hE : (pE true xs).2 = 0) : Calls Tryd.prog 3 #[.slice A n c] w fun e w' => e = .returned (.bool true) ∧ Below w.heap.size w w' := by
  have k0 := Kn.start hg
  have hcap := hr.cap
  have hmax := hr.max
  have hl := body_len (b := false) (pE_peek hE)
  have hlen := hr.len
  obtain ⟨h, hh⟩ : ∃ h, hdOf xs = h := ⟨_, rfl⟩
  obtain ⟨ys, hy⟩ : ∃ ys, bodyOf xs = ys := ⟨_, rfl⟩
  obtain ⟨m, hm⟩ : ∃ m, ys.length = m := ⟨_, rfl⟩
  have hmn : m ≤ 3000 := by rw [← hm, ← hy]; omega
  have Hw : Hid (∀ x ∈ ys, (Lit.int .u8 x).wf = true) := Lib.hid (by rw [← hy]; exact body_wf hr.2.2.2.1)
  have Hm := Lib.hid hm
  have c11 := Lib.hid (fun W A n c (q : Rd .u8 W W.heap.size A n c xs) => parse_yes q hE hh hy hm)
  have c12 := Lib.hid (fun W A n c (q : Rd .u8 W W.heap.size A n c xs) => refParse_yes q hE hh hy)
  have c13 := Lib.hid (fun W A n c (q : Rd .u8 W W.heap.size A n c xs) => peek_yes q (pE_peek hE) hh hy hm)
  have c14 := Lib.hid (fun W A n c (q : Rd .u8 W W.heap.size A n c xs) => refPeek_yes q (pE_peek hE) hh hy)
  clear hE hl hlen hh hy hm
  go_enter Tryd.func3, Tryd.ntmps3
  go_wp2_with fail
  refine (alive_any _ k0.laid).mono ?_
  rintro ev w1 ⟨rfl, hb⟩
  have r0 := hr.below hb (Nat.le_refl _)
  replace k0 := k0.step hb
  clear hr hb
  go_wp2_with fail
  refine (own_any A n c w.heap.size xs _ r0 k0.below.size (by omega)).mono ?_
  rintro ev w2 ⟨A2, n2, c2, rfl, o2, hb⟩
  have k : KO w A n c A2 n2 c2 xs w2.heap.size w2 := ⟨k0.step hb, r0.below hb k0.below.size, o2.rd, Nat.le_refl _⟩
  have hw2 := k.kn.below.size
  clear hb r0 k0 o2
  go_wp2_with fail
  refine (c11.out _ _ _ _ k.own').mono ?_
  rintro ev w3 ⟨g1, rfl, row1, gb1, hb⟩
  have ba := alloc_below w3 (.cells (pkC h (some ⟨g1, 0, none⟩) m m) 28)
  replace hb := hb.trans (ba.mono hb.size)
  have sp : Sp w3.heap.size h (some ⟨g1, 0, none⟩) m ys (w3.alloc (.cells (pkC h (some ⟨g1, 0, none⟩) m m) 28)) := Sp.new (row1.rdW Hm.out (by omega) Hw.out)
  have gp1 := row1.lt
  replace row1 := row1.below ba row1.lt
  replace k := k.step hb
  clear hb ba
  go_wp2_with fail
  refine (c12.out _ _ _ _ k.rd').mono ?_
  rintro ev w4 ⟨hb, D1, nd1, cd1, rfl, od1⟩
  have ba : Below w4.heap.size w4 ((w4.alloc (.cells (pkC h D1 nd1 cd1) 33)).alloc (.cells (flC none 0 0 0) 37)) := (alloc_below w4 _).alloc (by simp) _
  replace hb := hb.trans (ba.mono hb.size)
  have sq : Sq w4.heap.size (w4.heap.size + 1) h D1 nd1 cd1 ys none 0 0 0 [] ((w4.alloc (.cells (pkC h D1 nd1 cd1) 33)).alloc (.cells (flC none 0 0 0) 37)) := Sq.new od1.rd Rd.nil
  replace k := k.step hb
  replace sp := sp.step hb
  replace row1 := row1.below hb row1.lt
  clear hb ba od1
  go_wp2_with fail
  refine (c13.out _ _ _ _ k.own').mono ?_
  rintro ev w5 ⟨g2, rfl, row2, gb2, hb⟩
  have ba := alloc_below w5 (.cells (pkC h (some ⟨g2, 0, none⟩) m m) 28)
  replace hb := hb.trans (ba.mono hb.size)
  have sx : Sp w5.heap.size h (some ⟨g2, 0, none⟩) m ys (w5.alloc (.cells (pkC h (some ⟨g2, 0, none⟩) m m) 28)) := Sp.new (row2.rdW Hm.out (by omega) Hw.out)
  replace k := k.step hb
  replace sp := sp.step hb
  replace sq := sq.step hb
  replace row1 := row1.below hb row1.lt
  clear hb ba row2 gb2
  go_wp2_with fail
  refine (c14.out _ _ _ _ k.rd').mono ?_
  rintro ev w6 ⟨hb, D2, nd2, cd2, rfl, od2⟩
  have ba : Below w6.heap.size w6 ((w6.alloc (.cells (pkC h D2 nd2 cd2) 33)).alloc (.cells (flC none 0 0 0) 37)) := (alloc_below w6 _).alloc (by simp) _
  replace hb := hb.trans (ba.mono hb.size)
  have sy : Sq w6.heap.size (w6.heap.size + 1) h D2 nd2 cd2 ys none 0 0 0 [] ((w6.alloc (.cells (pkC h D2 nd2 cd2) 33)).alloc (.cells (flC none 0 0 0) 37)) := Sq.new od2.rd Rd.nil
  replace k := k.step hb
  replace sp := sp.step hb
  replace sq := sq.step hb
  replace sx := sx.step hb
  replace row1 := row1.below hb row1.lt
  clear hb ba od2
  clear c11 c12 c13 c14
  generalize hgp : w3.heap.size = gp at *
  generalize hgf : w4.heap.size + 1 = gf at *
  generalize w4.heap.size = gq at *
  generalize w5.heap.size = gx at *
  go_wp2_with fail
  replace k := k.step (below_drew _)
  replace sp := sp.step (below_drew _)
  replace sq := sq.step (below_drew _)
  replace sx := sx.step (below_drew _)
  replace sy := sy.step (below_drew _)
  replace row1 := row1.below (below_drew _) row1.lt
  generalize hgh : w6.heap.size + 1 = gh at *
  generalize w6.heap.size = gy at *
  refine wp_region_held_drew (S := fun w' => (KO w A n c A2 n2 c2 xs w2.heap.size w' ∧ Sp gp h (some ⟨g1, 0, none⟩) m ys w' ∧ Sq gq gf h D1 nd1 cd1 ys none 0 0 0 [] w' ∧ Sp gx h (some ⟨g2, 0, none⟩) m ys w' ∧ Sq gy gh h D2 nd2 cd2 ys none 0 0 0 [] w')) (by kernel_rfl) ⟨k, sp, sq, sx, sy⟩ (fun hHeld => ?_)
  clear hHeld
  change wpAnyH _ _ _ _ _ _ _ _ (World.drew _)
  generalize World.drew _ = W7 at *
  have hHeld := And.intro k (And.intro sp (And.intro sq (And.intro sx sy)))
  refine wpAnyH_at (i := 0) (some 40) (v := ?v0z1) rfl rfl (by kernel_rfl) (by kernel_rfl) (by kernel_rfl) (fun _ _ _ h => h) (Or.inl ⟨by rfl, ?y0z1⟩) (by assumption) ?r0z1
  case y0z1 =>
    intro w9 hSw
    clear hSw
    go_simp
    all_goals with_reducible rfl
  simp only [Act.put, List.setIfInBounds_toArray, List.set_cons_zero, List.set_cons_succ]
  refine wpAnyH_at (i := 1) (some 41) (v := ?v1z2) rfl rfl (by kernel_rfl) (by kernel_rfl) (by kernel_rfl) (fun _ _ _ h => h) (Or.inl ⟨by rfl, ?y1z2⟩) (by assumption) ?r1z2
  case y1z2 =>
    intro w9 hSw
    (obtain ⟨a0, a1⟩ := (show (KO w A n c A2 n2 c2 xs w2.heap.size w9 ∧ Sp gp h (some ⟨g1, 0, none⟩) m ys w9 ∧ Sq gq gf h D1 nd1 cd1 ys none 0 0 0 [] w9 ∧ Sp gx h (some ⟨g2, 0, none⟩) m ys w9 ∧ Sq gy gh h D2 nd2 cd2 ys none 0 0 0 [] w9) from hSw).2.2.1.fault); clear hSw
    go_simp
    all_goals with_reducible rfl
  simp only [Act.put, List.setIfInBounds_toArray, List.set_cons_zero, List.set_cons_succ]
  refine wpAnyH_one (i := 2) (by kernel_rfl) rfl ?_
  go_wp2_with (go_at_call 15; refine (is_nil none 0 0 _).mono ?_; rintro ev V1 ⟨rfl, hb⟩)
  replace k := k.step hb
  replace sp := sp.step hb
  replace sq := sq.step hb
  replace sx := sx.step hb
  replace sy := sy.step hb
  replace row1 := row1.below hb row1.lt
  clear hb hHeld
  have hHeld := And.intro k (And.intro sp (And.intro sq (And.intro sx sy)))
  refine ⟨hHeld, ?_⟩
  try simp only [Act.put, List.setIfInBounds_toArray, List.set_cons_zero, List.set_cons_succ]
  refine wpAnyH_at (i := 3) (some 43) (v := ?v3z3) rfl rfl (by kernel_rfl) (by kernel_rfl) (by kernel_rfl) (fun _ _ _ h => h) (Or.inl ⟨by rfl, ?y3z3⟩) (by assumption) ?r3z3
  case y3z3 =>
    intro w9 hSw
    clear hSw
    go_simp
    all_goals with_reducible rfl
  simp only [Act.put, List.setIfInBounds_toArray, List.set_cons_zero, List.set_cons_succ]
  refine wpAnyH_at (i := 4) (some 44) (v := ?v4z4) rfl rfl (by kernel_rfl) (by kernel_rfl) (by kernel_rfl) (fun _ _ _ h => h) (Or.inl ⟨by rfl, ?y4z4⟩) (by assumption) ?r4z4
  case y4z4 =>
    intro w9 hSw
    clear hSw
    go_simp
    all_goals with_reducible rfl
  simp only [Act.put, List.setIfInBounds_toArray, List.set_cons_zero, List.set_cons_succ]
  refine wpAnyH_at (i := 5) (some 45) (v := ?v5z5) rfl rfl (by kernel_rfl) (by kernel_rfl) (by kernel_rfl) (fun _ _ _ h => h) (Or.inl ⟨by rfl, ?y5z5⟩) (by assumption) ?r5z5
  case y5z5 =>
    intro w9 hSw
    (obtain ⟨a0, a1, a2, a3, a4, a5, a6, a7⟩ := (show (KO w A n c A2 n2 c2 xs w2.heap.size w9 ∧ Sp gp h (some ⟨g1, 0, none⟩) m ys w9 ∧ Sq gq gf h D1 nd1 cd1 ys none 0 0 0 [] w9 ∧ Sp gx h (some ⟨g2, 0, none⟩) m ys w9 ∧ Sq gy gh h D2 nd2 cd2 ys none 0 0 0 [] w9) from hSw).2.1.p.cells); clear hSw
    go_simp
    all_goals with_reducible rfl
  simp only [Act.put, List.setIfInBounds_toArray, List.set_cons_zero, List.set_cons_succ]
  refine wpAnyH_at (i := 7) (some 47) (v := ?v7z6) rfl rfl (by kernel_rfl) (by kernel_rfl) (by kernel_rfl) (fun _ _ _ h => h) (Or.inl ⟨by rfl, ?y7z6⟩) (by assumption) ?r7z6
  case y7z6 =>
    intro w9 hSw
    (obtain ⟨a0, a1, a2, a3, a4, a5, a6, a7⟩ := (show (KO w A n c A2 n2 c2 xs w2.heap.size w9 ∧ Sp gp h (some ⟨g1, 0, none⟩) m ys w9 ∧ Sq gq gf h D1 nd1 cd1 ys none 0 0 0 [] w9 ∧ Sp gx h (some ⟨g2, 0, none⟩) m ys w9 ∧ Sq gy gh h D2 nd2 cd2 ys none 0 0 0 [] w9) from hSw).2.2.1.q.cells); clear hSw
    go_simp
    all_goals with_reducible rfl
  simp only [Act.put, List.setIfInBounds_toArray, List.set_cons_zero, List.set_cons_succ]
  refine wpAnyH_one (i := 6) (by kernel_rfl) rfl ?_
  go_wp2_with (go_at_call 17; refine (of_pk h (some ⟨g1, 0, none⟩) m m ys _ sp.r (by omega)).mono ?_; rintro ev V2 ⟨A3, n3, c3, rfl, o3, hb⟩)
  replace k := k.step hb
  replace sp := sp.step hb
  replace sq := sq.step hb
  replace sx := sx.step hb
  replace sy := sy.step hb
  replace row1 := row1.below hb row1.lt
  clear hb hHeld
  have hHeld := And.intro k (And.intro sp (And.intro sq (And.intro sx sy)))
  refine ⟨hHeld, ?_⟩
  try simp only [Act.put, List.setIfInBounds_toArray, List.set_cons_zero, List.set_cons_succ]
  refine wpAnyH_one (i := 8) (by kernel_rfl) rfl ?_
  have s8 := refSame_pk h h _ _ _ _ _ _ ys ys _ o3.rd sq.r
  rw [smB_self] at s8
  go_wp2_with (go_at_call 16; refine (s8).mono ?_; rintro ev V3 ⟨rfl, hb⟩)
  replace k := k.step hb
  replace sp := sp.step hb
  replace sq := sq.step hb
  replace sx := sx.step hb
  replace sy := sy.step hb
  replace row1 := row1.below hb row1.lt
  clear s8 o3
  clear hb hHeld
  have hHeld := And.intro k (And.intro sp (And.intro sq (And.intro sx sy)))
  refine ⟨hHeld, ?_⟩
  try simp only [Act.put, List.setIfInBounds_toArray, List.set_cons_zero, List.set_cons_succ]
  refine wpAnyH_at (i := 9) (some 49) (v := ?v9z7) rfl rfl (by kernel_rfl) (by kernel_rfl) (by kernel_rfl) (fun _ _ _ h => h) (Or.inl ⟨by rfl, ?y9z7⟩) (by assumption) ?r9z7
  case y9z7 =>
    intro w9 hSw
    clear hSw
    go_simp
    all_goals with_reducible rfl
  simp only [Act.put, List.setIfInBounds_toArray, List.set_cons_zero, List.set_cons_succ]
  refine wpAnyH_at (i := 10) (some 50) (v := ?v10z8) rfl rfl (by kernel_rfl) (by kernel_rfl) (by kernel_rfl) (fun _ _ _ h => h) (Or.inl ⟨by rfl, ?y10z8⟩) (by assumption) ?r10z8
  case y10z8 =>
    intro w9 hSw
    clear hSw
    go_simp
    all_goals with_reducible rfl
  simp only [Act.put, List.setIfInBounds_toArray, List.set_cons_zero, List.set_cons_succ]
  refine wpAnyH_at (i := 11) (some 51) (v := ?v11z9) rfl rfl (by kernel_rfl) (by kernel_rfl) (by kernel_rfl) (fun _ _ _ h => h) (Or.inl ⟨by rfl, ?y11z9⟩) (by assumption) ?r11z9
  case y11z9 =>
    intro w9 hSw
    clear hSw
    go_simp
    all_goals with_reducible rfl
  simp only [Act.put, List.setIfInBounds_toArray, List.set_cons_zero, List.set_cons_succ]
  refine wpAnyH_at (i := 12) (some 52) (v := ?v12z10) rfl rfl (by kernel_rfl) (by kernel_rfl) (by kernel_rfl) (fun _ _ _ h => h) (Or.inl ⟨by rfl, ?y12z10⟩) (by assumption) ?r12z10
  case y12z10 =>
    intro w9 hSw
    clear hSw
    go_simp
    all_goals with_reducible rfl
  simp only [Act.put, List.setIfInBounds_toArray, List.set_cons_zero, List.set_cons_succ]
  refine wpAnyH_at (i := 13) (some 53) (v := ?v13z11) rfl rfl (by kernel_rfl) (by kernel_rfl) (by kernel_rfl) (fun _ _ _ h => h) (Or.inl ⟨by rfl, ?y13z11⟩) (by assumption) ?r13z11
  case y13z11 =>
    intro w9 hSw
    (obtain ⟨a0, a1⟩ := (show (KO w A n c A2 n2 c2 xs w2.heap.size w9 ∧ Sp gp h (some ⟨g1, 0, none⟩) m ys w9 ∧ Sq gq gf h D1 nd1 cd1 ys none 0 0 0 [] w9 ∧ Sp gx h (some ⟨g2, 0, none⟩) m ys w9 ∧ Sq gy gh h D2 nd2 cd2 ys none 0 0 0 [] w9) from hSw).2.2.2.2.fault); clear hSw
    go_simp
    all_goals with_reducible rfl
  simp only [Act.put, List.setIfInBounds_toArray, List.set_cons_zero, List.set_cons_succ]
  refine wpAnyH_one (i := 14) (by kernel_rfl) rfl ?_
  go_wp2_with (go_at_call 15; refine (is_nil none 0 0 _).mono ?_; rintro ev V4 ⟨rfl, hb⟩)
  replace k := k.step hb
  replace sp := sp.step hb
  replace sq := sq.step hb
  replace sx := sx.step hb
  replace sy := sy.step hb
  replace row1 := row1.below hb row1.lt
  clear hb hHeld
  have hHeld := And.intro k (And.intro sp (And.intro sq (And.intro sx sy)))
  refine ⟨hHeld, ?_⟩
  try simp only [Act.put, List.setIfInBounds_toArray, List.set_cons_zero, List.set_cons_succ]
  refine wpAnyH_at (i := 15) (some 55) (v := ?v15z12) rfl rfl (by kernel_rfl) (by kernel_rfl) (by kernel_rfl) (fun _ _ _ h => h) (Or.inl ⟨by rfl, ?y15z12⟩) (by assumption) ?r15z12
  case y15z12 =>
    intro w9 hSw
    clear hSw
    go_simp
    all_goals with_reducible rfl
  simp only [Act.put, List.setIfInBounds_toArray, List.set_cons_zero, List.set_cons_succ]
  refine wpAnyH_at (i := 16) (some 56) (v := ?v16z13) rfl rfl (by kernel_rfl) (by kernel_rfl) (by kernel_rfl) (fun _ _ _ h => h) (Or.inl ⟨by rfl, ?y16z13⟩) (by assumption) ?r16z13
  case y16z13 =>
    intro w9 hSw
    clear hSw
    go_simp
    all_goals with_reducible rfl
  simp only [Act.put, List.setIfInBounds_toArray, List.set_cons_zero, List.set_cons_succ]
  refine wpAnyH_at (i := 17) (some 57) (v := ?v17z14) rfl rfl (by kernel_rfl) (by kernel_rfl) (by kernel_rfl) (fun _ _ _ h => h) (Or.inl ⟨by rfl, ?y17z14⟩) (by assumption) ?r17z14
  case y17z14 =>
    intro w9 hSw
    clear hSw
    go_simp
    all_goals with_reducible rfl
  simp only [Act.put, List.setIfInBounds_toArray, List.set_cons_zero, List.set_cons_succ]
  refine wpAnyH_at (i := 18) (some 58) (v := ?v18z15) rfl rfl (by kernel_rfl) (by kernel_rfl) (by kernel_rfl) (fun _ _ _ h => h) (Or.inl ⟨by rfl, ?y18z15⟩) (by assumption) ?r18z15
  case y18z15 =>
    intro w9 hSw
    (obtain ⟨a0, a1, a2, a3, a4, a5, a6, a7⟩ := (show (KO w A n c A2 n2 c2 xs w2.heap.size w9 ∧ Sp gp h (some ⟨g1, 0, none⟩) m ys w9 ∧ Sq gq gf h D1 nd1 cd1 ys none 0 0 0 [] w9 ∧ Sp gx h (some ⟨g2, 0, none⟩) m ys w9 ∧ Sq gy gh h D2 nd2 cd2 ys none 0 0 0 [] w9) from hSw).2.2.2.1.p.cells); clear hSw
    go_simp
    all_goals with_reducible rfl
  simp only [Act.put, List.setIfInBounds_toArray, List.set_cons_zero, List.set_cons_succ]
  refine wpAnyH_at (i := 20) (some 60) (v := ?v20z16) rfl rfl (by kernel_rfl) (by kernel_rfl) (by kernel_rfl) (fun _ _ _ h => h) (Or.inl ⟨by rfl, ?y20z16⟩) (by assumption) ?r20z16
  case y20z16 =>
    intro w9 hSw
    (obtain ⟨a0, a1, a2, a3, a4, a5, a6, a7⟩ := (show (KO w A n c A2 n2 c2 xs w2.heap.size w9 ∧ Sp gp h (some ⟨g1, 0, none⟩) m ys w9 ∧ Sq gq gf h D1 nd1 cd1 ys none 0 0 0 [] w9 ∧ Sp gx h (some ⟨g2, 0, none⟩) m ys w9 ∧ Sq gy gh h D2 nd2 cd2 ys none 0 0 0 [] w9) from hSw).2.2.2.2.q.cells); clear hSw
    go_simp
    all_goals with_reducible rfl
  simp only [Act.put, List.setIfInBounds_toArray, List.set_cons_zero, List.set_cons_succ]
  refine wpAnyH_one (i := 19) (by kernel_rfl) rfl ?_
  go_wp2_with (go_at_call 17; refine (of_pk h (some ⟨g2, 0, none⟩) m m ys _ sx.r (by omega)).mono ?_; rintro ev V5 ⟨A3, n3, c3, rfl, o3, hb⟩)
  replace k := k.step hb
  replace sp := sp.step hb
  replace sq := sq.step hb
  replace sx := sx.step hb
  replace sy := sy.step hb
  replace row1 := row1.below hb row1.lt
  clear hb hHeld
  have hHeld := And.intro k (And.intro sp (And.intro sq (And.intro sx sy)))
  refine ⟨hHeld, ?_⟩
  try simp only [Act.put, List.setIfInBounds_toArray, List.set_cons_zero, List.set_cons_succ]
  refine wpAnyH_one (i := 21) (by kernel_rfl) rfl ?_
  have s9 := refSame_pk h h _ _ _ _ _ _ ys ys _ o3.rd sy.r
  rw [smB_self] at s9
  go_wp2_with (go_at_call 16; refine (s9).mono ?_; rintro ev V6 ⟨rfl, hb⟩)
  replace k := k.step hb
  replace sp := sp.step hb
  replace sq := sq.step hb
  replace sx := sx.step hb
  replace sy := sy.step hb
  replace row1 := row1.below hb row1.lt
  clear s9 o3
  clear hb hHeld
  have hHeld := And.intro k (And.intro sp (And.intro sq (And.intro sx sy)))
  refine ⟨hHeld, ?_⟩
  try simp only [Act.put, List.setIfInBounds_toArray, List.set_cons_zero, List.set_cons_succ]
  refine wpAnyH_at (i := 22) (some 62) (v := ?v22z17) rfl rfl (by kernel_rfl) (by kernel_rfl) (by kernel_rfl) (fun _ _ _ h => h) (Or.inl ⟨by rfl, ?y22z17⟩) (by assumption) ?r22z17
  case y22z17 =>
    intro w9 hSw
    clear hSw
    go_simp
    all_goals with_reducible rfl
  simp only [Act.put, List.setIfInBounds_toArray, List.set_cons_zero, List.set_cons_succ]
  refine wpAnyH_at (i := 23) (some 63) (v := ?v23z18) rfl rfl (by kernel_rfl) (by kernel_rfl) (by kernel_rfl) (fun _ _ _ h => h) (Or.inl ⟨by rfl, ?y23z18⟩) (by assumption) ?r23z18
  case y23z18 =>
    intro w9 hSw
    clear hSw
    go_simp
    all_goals with_reducible rfl
  simp only [Act.put, List.setIfInBounds_toArray, List.set_cons_zero, List.set_cons_succ]
  refine wpAnyH_done (by kernel_rfl) ?_ _
  clear hHeld sq sx sy
  have gpn : ¬ gp = g1 := by omega
  go_wp2_with fail
  go_loopw [12] (fun i wr => ∃ (j : Nat) (zs : List Int), i = .int .i64 j ∧ j ≤ m ∧ zs.length = m ∧ (∀ x ∈ zs, (Lit.int .u8 x).wf = true) ∧ Row wr g1 zs ∧ PkAt wr gp 28 h (some ⟨g1, 0, none⟩) m m ∧ KO w A n c A2 n2 c2 xs w2.heap.size wr) (fun i _ => m - (intOf i).toNat)
  case atStart => exact ⟨0, ys, rfl, by omega, Hm.out, Hw.out, row1, sp.p, k⟩
  case round =>
    clear row1 sp k
    obtain ⟨j, zs, rfl, hj, hzl, hzw, row, pk, k⟩ := hrel
    obtain ⟨x0, x1, x2, x3, x4, x5, x6, x7⟩ := pk.cells
    by_cases hjm : j = m
    · subst hjm
      have u1 : ¬ (j : Int) < (j : Int) := by omega
      go_wp2_with fail
      refine (same_any _ _ _ _ _ _ xs _ _ _ k.own' k.rd').mono ?_
      rintro ev w8 ⟨rfl, hb⟩
      replace k := k.step hb
      clear x0 x1 x2 x3 x4 x5 x6 x7
      go_wp2
      go_ret
      exact ⟨rfl, k.kn.below⟩
    · have u1 : (j : Int) < (m : Int) := by omega
      have cj := row.cell (i := j) (by omega)
      have zj := row.frozen j
      obtain ⟨v, hv⟩ : ∃ v, (zs.getD j 0 + 1) % 256 = v := ⟨_, rfl⟩
      obtain ⟨y, hy⟩ : ∃ y, zs.getD j 0 = y := ⟨_, rfl⟩
      rw [hy] at cj hv
      have hv1 : 0 ≤ v ∧ v ≤ 255 := by omega
      have row' := row.set j v
      have on := Only.setCell g1 j wr (.int .u8 v)
      have pk' : PkAt (wr.setCell ⟨g1, j, none⟩ (.int .u8 v)) gp 28 h (some ⟨g1, 0, none⟩) m m := (on.other gp gpn).trans pk
      have hgw : w.heap.size ≤ g1 := by omega
      have bw := k.kn.below.trans (on.below.mono hgw)
      have k' : KO w A n c A2 n2 c2 xs w2.heap.size (wr.setCell ⟨g1, j, none⟩ (.int .u8 v)) := ⟨⟨hg.below bw, bw⟩, k.rd.below on.below hgw, k.own.below on.below gb1, by rw [on.size]; exact k.le⟩
      have e0 : IntKind.i64.wrap ((j : Int) + 1) = (j : Int) + 1 := by rw [IntKind.wrap_i64]; omega
      clear row pk k on bw hy
      go_wp2
      go_roundw
      case rel => exact ⟨j + 1, zs.set j v, by simp, by omega, by rw [List.length_set]; exact hzl, (fun x hx => (List.mem_or_eq_of_mem_set hx).elim (hzw x) (fun q => by rw [q]; exact u8_mk hv1)), row', pk', k'⟩
      case measure => simp [intOf]; omega

set_option maxRecDepth 100000 in
set_option maxHeartbeats 4000000 in
theorem parses_bad (A : Option Addr) (n c : Nat) (xs : List Int) (w : World) (hg : Laid w) (hr : Rd .u8 w w.heap.size A n c xs) (hn : n ≤ 3000) (r1 e1 : Int) (hE : pE true xs = (r1, e1)) (he1 : ¬ e1 = 0) (r2 e2 : Int) (hE2 : pE false xs = (r2, e2)) (he2 : ¬ e2 = 0) : Calls Tryd.prog 3 #[.slice A n c] w fun e w' => e = .returned (.bool true) ∧ Below w.heap.size w w' := by
  have k0 := Kn.start hg
  have hcap := hr.cap
  have hmax := hr.max
  have c11 := Lib.hid (fun W A n c (q : Rd .u8 W W.heap.size A n c xs) => parse_no q hE he1)
  have c12 := Lib.hid (fun W A n c (q : Rd .u8 W W.heap.size A n c xs) => refParse_no q hE he1)
  have c13 := Lib.hid (fun W A n c (q : Rd .u8 W W.heap.size A n c xs) => peek_no q hE2 he2)
  have c14 := Lib.hid (fun W A n c (q : Rd .u8 W W.heap.size A n c xs) => refPeek_no q hE2 he2)
  clear hE hE2
  go_enter Tryd.func3, Tryd.ntmps3
  go_wp2_with fail
  refine (alive_any _ k0.laid).mono ?_
  rintro ev w1 ⟨rfl, hb⟩
  have r0 := hr.below hb (Nat.le_refl _)
  replace k0 := k0.step hb
  clear hr hb
  go_wp2_with fail
  refine (own_any A n c w.heap.size xs _ r0 k0.below.size (by omega)).mono ?_
  rintro ev w2 ⟨A2, n2, c2, rfl, o2, hb⟩
  have k : KO w A n c A2 n2 c2 xs w2.heap.size w2 := ⟨k0.step hb, r0.below hb k0.below.size, o2.rd, Nat.le_refl _⟩
  have hw2 := k.kn.below.size
  clear hb r0 k0 o2
  go_wp2_with fail
  refine (c11.out _ _ _ _ k.own').mono ?_
  rintro ev w3 ⟨rfl, hb⟩
  have ba := alloc_below w3 (.cells (pkC zeroH none 0 0) 28)
  replace hb := hb.trans (ba.mono hb.size)
  have sp : Sp w3.heap.size zeroH none 0 [] (w3.alloc (.cells (pkC zeroH none 0 0) 28)) := Sp.new Rd.nil
  replace k := k.step hb
  clear hb ba
  go_wp2_with fail
  refine (c12.out _ _ _ _ k.rd').mono ?_
  rintro ev w4 ⟨hb, Af1, nf1, cf1, rfl, rf1, -⟩
  have ba : Below w4.heap.size w4 ((w4.alloc (.cells (pkC zeroH none 0 0) 33)).alloc (.cells (flC Af1 nf1 cf1 e1) 37)) := (alloc_below w4 _).alloc (by simp) _
  replace hb := hb.trans (ba.mono hb.size)
  have sq : Sq w4.heap.size (w4.heap.size + 1) zeroH none 0 0 [] Af1 nf1 cf1 e1 [r1] ((w4.alloc (.cells (pkC zeroH none 0 0) 33)).alloc (.cells (flC Af1 nf1 cf1 e1) 37)) := Sq.new Rd.nil rf1
  replace k := k.step hb
  replace sp := sp.step hb
  clear hb ba rf1
  go_wp2_with fail
  refine (c13.out _ _ _ _ k.own').mono ?_
  rintro ev w5 ⟨rfl, hb⟩
  have ba := alloc_below w5 (.cells (pkC zeroH none 0 0) 28)
  replace hb := hb.trans (ba.mono hb.size)
  have sx : Sp w5.heap.size zeroH none 0 [] (w5.alloc (.cells (pkC zeroH none 0 0) 28)) := Sp.new Rd.nil
  replace k := k.step hb
  replace sp := sp.step hb
  replace sq := sq.step hb
  clear hb ba
  go_wp2_with fail
  refine (c14.out _ _ _ _ k.rd').mono ?_
  rintro ev w6 ⟨hb, Af2, nf2, cf2, rfl, rf2, -⟩
  have ba : Below w6.heap.size w6 ((w6.alloc (.cells (pkC zeroH none 0 0) 33)).alloc (.cells (flC Af2 nf2 cf2 e2) 37)) := (alloc_below w6 _).alloc (by simp) _
  replace hb := hb.trans (ba.mono hb.size)
  have sy : Sq w6.heap.size (w6.heap.size + 1) zeroH none 0 0 [] Af2 nf2 cf2 e2 [r2] ((w6.alloc (.cells (pkC zeroH none 0 0) 33)).alloc (.cells (flC Af2 nf2 cf2 e2) 37)) := Sq.new Rd.nil rf2
  replace k := k.step hb
  replace sp := sp.step hb
  replace sq := sq.step hb
  replace sx := sx.step hb
  clear hb ba rf2
  clear c11 c12 c13 c14
  generalize hgp : w3.heap.size = gp at *
  generalize hgf : w4.heap.size + 1 = gf at *
  generalize w4.heap.size = gq at *
  generalize w5.heap.size = gx at *
  go_wp2_with fail
  replace k := k.step (below_drew _)
  replace sp := sp.step (below_drew _)
  replace sq := sq.step (below_drew _)
  replace sx := sx.step (below_drew _)
  replace sy := sy.step (below_drew _)
  skip
  generalize hgh : w6.heap.size + 1 = gh at *
  generalize w6.heap.size = gy at *
  refine wp_region_held_drew (S := fun w' => (KO w A n c A2 n2 c2 xs w2.heap.size w' ∧ Sp gp zeroH none 0 [] w' ∧ Sq gq gf zeroH none 0 0 [] Af1 nf1 cf1 e1 [r1] w' ∧ Sp gx zeroH none 0 [] w' ∧ Sq gy gh zeroH none 0 0 [] Af2 nf2 cf2 e2 [r2] w')) (by kernel_rfl) ⟨k, sp, sq, sx, sy⟩ (fun hHeld => ?_)
  clear hHeld
  change wpAnyH _ _ _ _ _ _ _ _ (World.drew _)
  generalize World.drew _ = W7 at *
  have hHeld := And.intro k (And.intro sp (And.intro sq (And.intro sx sy)))
  refine wpAnyH_at (i := 0) (some 40) (v := ?v0z19) rfl rfl (by kernel_rfl) (by kernel_rfl) (by kernel_rfl) (fun _ _ _ h => h) (Or.inl ⟨by rfl, ?y0z19⟩) (by assumption) ?r0z19
  case y0z19 =>
    intro w9 hSw
    clear hSw
    go_simp
    all_goals with_reducible rfl
  simp only [Act.put, List.setIfInBounds_toArray, List.set_cons_zero, List.set_cons_succ]
  refine wpAnyH_at (i := 1) (some 41) (v := ?v1z20) rfl rfl (by kernel_rfl) (by kernel_rfl) (by kernel_rfl) (fun _ _ _ h => h) (Or.inl ⟨by rfl, ?y1z20⟩) (by assumption) ?r1z20
  case y1z20 =>
    intro w9 hSw
    (obtain ⟨a0, a1⟩ := (show (KO w A n c A2 n2 c2 xs w2.heap.size w9 ∧ Sp gp zeroH none 0 [] w9 ∧ Sq gq gf zeroH none 0 0 [] Af1 nf1 cf1 e1 [r1] w9 ∧ Sp gx zeroH none 0 [] w9 ∧ Sq gy gh zeroH none 0 0 [] Af2 nf2 cf2 e2 [r2] w9) from hSw).2.2.1.fault); clear hSw
    go_simp
    all_goals with_reducible rfl
  simp only [Act.put, List.setIfInBounds_toArray, List.set_cons_zero, List.set_cons_succ]
  refine wpAnyH_one (i := 2) (by kernel_rfl) rfl ?_
  go_wp2_with (go_at_call 15; refine (is_err Af1 nf1 cf1 r1 e1 _ k.kn.laid sq.fr he1).mono ?_; rintro ev V1 ⟨rfl, hb⟩)
  replace k := k.step hb
  replace sp := sp.step hb
  replace sq := sq.step hb
  replace sx := sx.step hb
  replace sy := sy.step hb
  clear hb hHeld
  have hHeld := And.intro k (And.intro sp (And.intro sq (And.intro sx sy)))
  refine ⟨hHeld, ?_⟩
  try simp only [Act.put, List.setIfInBounds_toArray, List.set_cons_zero, List.set_cons_succ]
  refine wpAnyH_at (i := 3) (some 43) (v := ?v3z21) rfl rfl (by kernel_rfl) (by kernel_rfl) (by kernel_rfl) (fun _ _ _ h => h) (Or.inl ⟨by rfl, ?y3z21⟩) (by assumption) ?r3z21
  case y3z21 =>
    intro w9 hSw
    clear hSw
    go_simp
    all_goals with_reducible rfl
  simp only [Act.put, List.setIfInBounds_toArray, List.set_cons_zero, List.set_cons_succ]
  refine wpAnyH_at (i := 4) (some 44) (v := ?v4z22) rfl rfl (by kernel_rfl) (by kernel_rfl) (by kernel_rfl) (fun _ _ _ h => h) (Or.inl ⟨by rfl, ?y4z22⟩) (by assumption) ?r4z22
  case y4z22 =>
    intro w9 hSw
    clear hSw
    go_simp
    all_goals with_reducible rfl
  simp only [Act.put, List.setIfInBounds_toArray, List.set_cons_zero, List.set_cons_succ]
  refine wpAnyH_at (i := 5) (some 45) (v := ?v5z23) rfl rfl (by kernel_rfl) (by kernel_rfl) (by kernel_rfl) (fun _ _ _ h => h) (Or.inl ⟨by rfl, ?y5z23⟩) (by assumption) ?r5z23
  case y5z23 =>
    intro w9 hSw
    (obtain ⟨a0, a1, a2, a3, a4, a5, a6, a7⟩ := (show (KO w A n c A2 n2 c2 xs w2.heap.size w9 ∧ Sp gp zeroH none 0 [] w9 ∧ Sq gq gf zeroH none 0 0 [] Af1 nf1 cf1 e1 [r1] w9 ∧ Sp gx zeroH none 0 [] w9 ∧ Sq gy gh zeroH none 0 0 [] Af2 nf2 cf2 e2 [r2] w9) from hSw).2.1.p.cells); clear hSw
    go_simp
    all_goals with_reducible rfl
  simp only [Act.put, List.setIfInBounds_toArray, List.set_cons_zero, List.set_cons_succ]
  refine wpAnyH_at (i := 7) (some 47) (v := ?v7z24) rfl rfl (by kernel_rfl) (by kernel_rfl) (by kernel_rfl) (fun _ _ _ h => h) (Or.inl ⟨by rfl, ?y7z24⟩) (by assumption) ?r7z24
  case y7z24 =>
    intro w9 hSw
    (obtain ⟨a0, a1, a2, a3, a4, a5, a6, a7⟩ := (show (KO w A n c A2 n2 c2 xs w2.heap.size w9 ∧ Sp gp zeroH none 0 [] w9 ∧ Sq gq gf zeroH none 0 0 [] Af1 nf1 cf1 e1 [r1] w9 ∧ Sp gx zeroH none 0 [] w9 ∧ Sq gy gh zeroH none 0 0 [] Af2 nf2 cf2 e2 [r2] w9) from hSw).2.2.1.q.cells); clear hSw
    go_simp
    all_goals with_reducible rfl
  simp only [Act.put, List.setIfInBounds_toArray, List.set_cons_zero, List.set_cons_succ]
  refine wpAnyH_one (i := 6) (by kernel_rfl) rfl ?_
  go_wp2_with (go_at_call 17; refine (of_pk zeroH none 0 0 [] _ sp.r (by omega)).mono ?_; rintro ev V2 ⟨A3, n3, c3, rfl, o3, hb⟩)
  replace k := k.step hb
  replace sp := sp.step hb
  replace sq := sq.step hb
  replace sx := sx.step hb
  replace sy := sy.step hb
  clear hb hHeld
  have hHeld := And.intro k (And.intro sp (And.intro sq (And.intro sx sy)))
  refine ⟨hHeld, ?_⟩
  try simp only [Act.put, List.setIfInBounds_toArray, List.set_cons_zero, List.set_cons_succ]
  refine wpAnyH_one (i := 8) (by kernel_rfl) rfl ?_
  have s8 := refSame_pk zeroH zeroH _ _ _ _ _ _ [] [] _ o3.rd sq.r
  rw [smB_self] at s8
  go_wp2_with (go_at_call 16; refine (s8).mono ?_; rintro ev V3 ⟨rfl, hb⟩)
  replace k := k.step hb
  replace sp := sp.step hb
  replace sq := sq.step hb
  replace sx := sx.step hb
  replace sy := sy.step hb
  clear s8 o3
  clear hb hHeld
  have hHeld := And.intro k (And.intro sp (And.intro sq (And.intro sx sy)))
  refine ⟨hHeld, ?_⟩
  try simp only [Act.put, List.setIfInBounds_toArray, List.set_cons_zero, List.set_cons_succ]
  refine wpAnyH_at (i := 9) (some 49) (v := ?v9z25) rfl rfl (by kernel_rfl) (by kernel_rfl) (by kernel_rfl) (fun _ _ _ h => h) (Or.inl ⟨by rfl, ?y9z25⟩) (by assumption) ?r9z25
  case y9z25 =>
    intro w9 hSw
    clear hSw
    go_simp
    all_goals with_reducible rfl
  simp only [Act.put, List.setIfInBounds_toArray, List.set_cons_zero, List.set_cons_succ]
  refine wpAnyH_at (i := 10) (some 50) (v := ?v10z26) rfl rfl (by kernel_rfl) (by kernel_rfl) (by kernel_rfl) (fun _ _ _ h => h) (Or.inl ⟨by rfl, ?y10z26⟩) (by assumption) ?r10z26
  case y10z26 =>
    intro w9 hSw
    clear hSw
    go_simp
    all_goals with_reducible rfl
  simp only [Act.put, List.setIfInBounds_toArray, List.set_cons_zero, List.set_cons_succ]
  refine wpAnyH_at (i := 11) (some 51) (v := ?v11z27) rfl rfl (by kernel_rfl) (by kernel_rfl) (by kernel_rfl) (fun _ _ _ h => h) (Or.inl ⟨by rfl, ?y11z27⟩) (by assumption) ?r11z27
  case y11z27 =>
    intro w9 hSw
    clear hSw
    go_simp
    all_goals with_reducible rfl
  simp only [Act.put, List.setIfInBounds_toArray, List.set_cons_zero, List.set_cons_succ]
  refine wpAnyH_at (i := 12) (some 52) (v := ?v12z28) rfl rfl (by kernel_rfl) (by kernel_rfl) (by kernel_rfl) (fun _ _ _ h => h) (Or.inl ⟨by rfl, ?y12z28⟩) (by assumption) ?r12z28
  case y12z28 =>
    intro w9 hSw
    clear hSw
    go_simp
    all_goals with_reducible rfl
  simp only [Act.put, List.setIfInBounds_toArray, List.set_cons_zero, List.set_cons_succ]
  refine wpAnyH_at (i := 13) (some 53) (v := ?v13z29) rfl rfl (by kernel_rfl) (by kernel_rfl) (by kernel_rfl) (fun _ _ _ h => h) (Or.inl ⟨by rfl, ?y13z29⟩) (by assumption) ?r13z29
  case y13z29 =>
    intro w9 hSw
    (obtain ⟨a0, a1⟩ := (show (KO w A n c A2 n2 c2 xs w2.heap.size w9 ∧ Sp gp zeroH none 0 [] w9 ∧ Sq gq gf zeroH none 0 0 [] Af1 nf1 cf1 e1 [r1] w9 ∧ Sp gx zeroH none 0 [] w9 ∧ Sq gy gh zeroH none 0 0 [] Af2 nf2 cf2 e2 [r2] w9) from hSw).2.2.2.2.fault); clear hSw
    go_simp
    all_goals with_reducible rfl
  simp only [Act.put, List.setIfInBounds_toArray, List.set_cons_zero, List.set_cons_succ]
  refine wpAnyH_one (i := 14) (by kernel_rfl) rfl ?_
  go_wp2_with (go_at_call 15; refine (is_err Af2 nf2 cf2 r2 e2 _ k.kn.laid sy.fr he2).mono ?_; rintro ev V4 ⟨rfl, hb⟩)
  replace k := k.step hb
  replace sp := sp.step hb
  replace sq := sq.step hb
  replace sx := sx.step hb
  replace sy := sy.step hb
  clear hb hHeld
  have hHeld := And.intro k (And.intro sp (And.intro sq (And.intro sx sy)))
  refine ⟨hHeld, ?_⟩
  try simp only [Act.put, List.setIfInBounds_toArray, List.set_cons_zero, List.set_cons_succ]
  refine wpAnyH_at (i := 15) (some 55) (v := ?v15z30) rfl rfl (by kernel_rfl) (by kernel_rfl) (by kernel_rfl) (fun _ _ _ h => h) (Or.inl ⟨by rfl, ?y15z30⟩) (by assumption) ?r15z30
  case y15z30 =>
    intro w9 hSw
    clear hSw
    go_simp
    all_goals with_reducible rfl
  simp only [Act.put, List.setIfInBounds_toArray, List.set_cons_zero, List.set_cons_succ]
  refine wpAnyH_at (i := 16) (some 56) (v := ?v16z31) rfl rfl (by kernel_rfl) (by kernel_rfl) (by kernel_rfl) (fun _ _ _ h => h) (Or.inl ⟨by rfl, ?y16z31⟩) (by assumption) ?r16z31
  case y16z31 =>
    intro w9 hSw
    clear hSw
    go_simp
    all_goals with_reducible rfl
  simp only [Act.put, List.setIfInBounds_toArray, List.set_cons_zero, List.set_cons_succ]
  refine wpAnyH_at (i := 17) (some 57) (v := ?v17z32) rfl rfl (by kernel_rfl) (by kernel_rfl) (by kernel_rfl) (fun _ _ _ h => h) (Or.inl ⟨by rfl, ?y17z32⟩) (by assumption) ?r17z32
  case y17z32 =>
    intro w9 hSw
    clear hSw
    go_simp
    all_goals with_reducible rfl
  simp only [Act.put, List.setIfInBounds_toArray, List.set_cons_zero, List.set_cons_succ]
  refine wpAnyH_at (i := 18) (some 58) (v := ?v18z33) rfl rfl (by kernel_rfl) (by kernel_rfl) (by kernel_rfl) (fun _ _ _ h => h) (Or.inl ⟨by rfl, ?y18z33⟩) (by assumption) ?r18z33
  case y18z33 =>
    intro w9 hSw
    (obtain ⟨a0, a1, a2, a3, a4, a5, a6, a7⟩ := (show (KO w A n c A2 n2 c2 xs w2.heap.size w9 ∧ Sp gp zeroH none 0 [] w9 ∧ Sq gq gf zeroH none 0 0 [] Af1 nf1 cf1 e1 [r1] w9 ∧ Sp gx zeroH none 0 [] w9 ∧ Sq gy gh zeroH none 0 0 [] Af2 nf2 cf2 e2 [r2] w9) from hSw).2.2.2.1.p.cells); clear hSw
    go_simp
    all_goals with_reducible rfl
  simp only [Act.put, List.setIfInBounds_toArray, List.set_cons_zero, List.set_cons_succ]
  refine wpAnyH_at (i := 20) (some 60) (v := ?v20z34) rfl rfl (by kernel_rfl) (by kernel_rfl) (by kernel_rfl) (fun _ _ _ h => h) (Or.inl ⟨by rfl, ?y20z34⟩) (by assumption) ?r20z34
  case y20z34 =>
    intro w9 hSw
    (obtain ⟨a0, a1, a2, a3, a4, a5, a6, a7⟩ := (show (KO w A n c A2 n2 c2 xs w2.heap.size w9 ∧ Sp gp zeroH none 0 [] w9 ∧ Sq gq gf zeroH none 0 0 [] Af1 nf1 cf1 e1 [r1] w9 ∧ Sp gx zeroH none 0 [] w9 ∧ Sq gy gh zeroH none 0 0 [] Af2 nf2 cf2 e2 [r2] w9) from hSw).2.2.2.2.q.cells); clear hSw
    go_simp
    all_goals with_reducible rfl
  simp only [Act.put, List.setIfInBounds_toArray, List.set_cons_zero, List.set_cons_succ]
  refine wpAnyH_one (i := 19) (by kernel_rfl) rfl ?_
  go_wp2_with (go_at_call 17; refine (of_pk zeroH none 0 0 [] _ sx.r (by omega)).mono ?_; rintro ev V5 ⟨A3, n3, c3, rfl, o3, hb⟩)
  replace k := k.step hb
  replace sp := sp.step hb
  replace sq := sq.step hb
  replace sx := sx.step hb
  replace sy := sy.step hb
  clear hb hHeld
  have hHeld := And.intro k (And.intro sp (And.intro sq (And.intro sx sy)))
  refine ⟨hHeld, ?_⟩
  try simp only [Act.put, List.setIfInBounds_toArray, List.set_cons_zero, List.set_cons_succ]
  refine wpAnyH_one (i := 21) (by kernel_rfl) rfl ?_
  have s9 := refSame_pk zeroH zeroH _ _ _ _ _ _ [] [] _ o3.rd sy.r
  rw [smB_self] at s9
  go_wp2_with (go_at_call 16; refine (s9).mono ?_; rintro ev V6 ⟨rfl, hb⟩)
  replace k := k.step hb
  replace sp := sp.step hb
  replace sq := sq.step hb
  replace sx := sx.step hb
  replace sy := sy.step hb
  clear s9 o3
  clear hb hHeld
  have hHeld := And.intro k (And.intro sp (And.intro sq (And.intro sx sy)))
  refine ⟨hHeld, ?_⟩
  try simp only [Act.put, List.setIfInBounds_toArray, List.set_cons_zero, List.set_cons_succ]
  refine wpAnyH_at (i := 22) (some 62) (v := ?v22z35) rfl rfl (by kernel_rfl) (by kernel_rfl) (by kernel_rfl) (fun _ _ _ h => h) (Or.inl ⟨by rfl, ?y22z35⟩) (by assumption) ?r22z35
  case y22z35 =>
    intro w9 hSw
    clear hSw
    go_simp
    all_goals with_reducible rfl
  simp only [Act.put, List.setIfInBounds_toArray, List.set_cons_zero, List.set_cons_succ]
  refine wpAnyH_at (i := 23) (some 63) (v := ?v23z36) rfl rfl (by kernel_rfl) (by kernel_rfl) (by kernel_rfl) (fun _ _ _ h => h) (Or.inl ⟨by rfl, ?y23z36⟩) (by assumption) ?r23z36
  case y23z36 =>
    intro w9 hSw
    clear hSw
    go_simp
    all_goals with_reducible rfl
  simp only [Act.put, List.setIfInBounds_toArray, List.set_cons_zero, List.set_cons_succ]
  refine wpAnyH_done (by kernel_rfl) ?_ _
  clear hHeld sq sx sy
  go_wp2_with fail
  go_loopw [12] (fun i wr => i = .int .i64 0 ∧ PkAt wr gp 28 zeroH none 0 0 ∧ KO w A n c A2 n2 c2 xs w2.heap.size wr) (fun _ _ => 0)
  case atStart => exact ⟨rfl, sp.p, k⟩
  case round =>
    clear sp k
    obtain ⟨rfl, pk, k⟩ := hrel
    obtain ⟨x0, x1, x2, x3, x4, x5, x6, x7⟩ := pk.cells
    go_wp2_with fail
    refine (same_any _ _ _ _ _ _ xs _ _ _ k.own' k.rd').mono ?_
    rintro ev w8 ⟨rfl, hb⟩
    replace k := k.step hb
    clear x0 x1 x2 x3 x4 x5 x6 x7
    go_wp2
    go_ret
    exact ⟨rfl, k.kn.below⟩

set_option maxRecDepth 100000 in
set_option maxHeartbeats 4000000 in
theorem parses_part (A : Option Addr) (n c : Nat) (xs : List Int) (w : World) (hg : Laid w) (hr : Rd .u8 w w.heap.size A n c xs) (hn : n ≤ 3000) (r1 e1 : Int) (hE : pE true xs = (r1, e1)) (he1 : ¬ e1 = 0) (hE2 : (pE false xs).2 = 0) : Calls Tryd.prog 3 #[.slice A n c] w fun e w' => e = .returned (.bool true) ∧ Below w.heap.size w w' := by
  have k0 := Kn.start hg
  have hcap := hr.cap
  have hmax := hr.max
  have hl := body_len (b := false) hE2
  have hlen := hr.len
  obtain ⟨h, hh⟩ : ∃ h, hdOf xs = h := ⟨_, rfl⟩
  obtain ⟨ys, hy⟩ : ∃ ys, bodyOf xs = ys := ⟨_, rfl⟩
  obtain ⟨m, hm⟩ : ∃ m, ys.length = m := ⟨_, rfl⟩
  have hmn : m ≤ 3000 := by rw [← hm, ← hy]; omega
  have Hw : Hid (∀ x ∈ ys, (Lit.int .u8 x).wf = true) := Lib.hid (by rw [← hy]; exact body_wf hr.2.2.2.1)
  have Hm := Lib.hid hm
  have c11 := Lib.hid (fun W A n c (q : Rd .u8 W W.heap.size A n c xs) => parse_no q hE he1)
  have c12 := Lib.hid (fun W A n c (q : Rd .u8 W W.heap.size A n c xs) => refParse_no q hE he1)
  have c13 := Lib.hid (fun W A n c (q : Rd .u8 W W.heap.size A n c xs) => peek_yes q hE2 hh hy hm)
  have c14 := Lib.hid (fun W A n c (q : Rd .u8 W W.heap.size A n c xs) => refPeek_yes q hE2 hh hy)
  clear hE hE2 hl hlen hh hy hm
  go_enter Tryd.func3, Tryd.ntmps3
  go_wp2_with fail
  refine (alive_any _ k0.laid).mono ?_
  rintro ev w1 ⟨rfl, hb⟩
  have r0 := hr.below hb (Nat.le_refl _)
  replace k0 := k0.step hb
  clear hr hb
  go_wp2_with fail
  refine (own_any A n c w.heap.size xs _ r0 k0.below.size (by omega)).mono ?_
  rintro ev w2 ⟨A2, n2, c2, rfl, o2, hb⟩
  have k : KO w A n c A2 n2 c2 xs w2.heap.size w2 := ⟨k0.step hb, r0.below hb k0.below.size, o2.rd, Nat.le_refl _⟩
  have hw2 := k.kn.below.size
  clear hb r0 k0 o2
  go_wp2_with fail
  refine (c11.out _ _ _ _ k.own').mono ?_
  rintro ev w3 ⟨rfl, hb⟩
  have ba := alloc_below w3 (.cells (pkC zeroH none 0 0) 28)
  replace hb := hb.trans (ba.mono hb.size)
  have sp : Sp w3.heap.size zeroH none 0 [] (w3.alloc (.cells (pkC zeroH none 0 0) 28)) := Sp.new Rd.nil
  replace k := k.step hb
  clear hb ba
  go_wp2_with fail
  refine (c12.out _ _ _ _ k.rd').mono ?_
  rintro ev w4 ⟨hb, Af1, nf1, cf1, rfl, rf1, -⟩
  have ba : Below w4.heap.size w4 ((w4.alloc (.cells (pkC zeroH none 0 0) 33)).alloc (.cells (flC Af1 nf1 cf1 e1) 37)) := (alloc_below w4 _).alloc (by simp) _
  replace hb := hb.trans (ba.mono hb.size)
  have sq : Sq w4.heap.size (w4.heap.size + 1) zeroH none 0 0 [] Af1 nf1 cf1 e1 [r1] ((w4.alloc (.cells (pkC zeroH none 0 0) 33)).alloc (.cells (flC Af1 nf1 cf1 e1) 37)) := Sq.new Rd.nil rf1
  replace k := k.step hb
  replace sp := sp.step hb
  clear hb ba rf1
  go_wp2_with fail
  refine (c13.out _ _ _ _ k.own').mono ?_
  rintro ev w5 ⟨g2, rfl, row2, gb2, hb⟩
  have ba := alloc_below w5 (.cells (pkC h (some ⟨g2, 0, none⟩) m m) 28)
  replace hb := hb.trans (ba.mono hb.size)
  have sx : Sp w5.heap.size h (some ⟨g2, 0, none⟩) m ys (w5.alloc (.cells (pkC h (some ⟨g2, 0, none⟩) m m) 28)) := Sp.new (row2.rdW Hm.out (by omega) Hw.out)
  replace k := k.step hb
  replace sp := sp.step hb
  replace sq := sq.step hb
  clear hb ba row2 gb2
  go_wp2_with fail
  refine (c14.out _ _ _ _ k.rd').mono ?_
  rintro ev w6 ⟨hb, D2, nd2, cd2, rfl, od2⟩
  have ba : Below w6.heap.size w6 ((w6.alloc (.cells (pkC h D2 nd2 cd2) 33)).alloc (.cells (flC none 0 0 0) 37)) := (alloc_below w6 _).alloc (by simp) _
  replace hb := hb.trans (ba.mono hb.size)
  have sy : Sq w6.heap.size (w6.heap.size + 1) h D2 nd2 cd2 ys none 0 0 0 [] ((w6.alloc (.cells (pkC h D2 nd2 cd2) 33)).alloc (.cells (flC none 0 0 0) 37)) := Sq.new od2.rd Rd.nil
  replace k := k.step hb
  replace sp := sp.step hb
  replace sq := sq.step hb
  replace sx := sx.step hb
  clear hb ba od2
  clear c11 c12 c13 c14
  generalize hgp : w3.heap.size = gp at *
  generalize hgf : w4.heap.size + 1 = gf at *
  generalize w4.heap.size = gq at *
  generalize w5.heap.size = gx at *
  go_wp2_with fail
  replace k := k.step (below_drew _)
  replace sp := sp.step (below_drew _)
  replace sq := sq.step (below_drew _)
  replace sx := sx.step (below_drew _)
  replace sy := sy.step (below_drew _)
  skip
  generalize hgh : w6.heap.size + 1 = gh at *
  generalize w6.heap.size = gy at *
  refine wp_region_held_drew (S := fun w' => (KO w A n c A2 n2 c2 xs w2.heap.size w' ∧ Sp gp zeroH none 0 [] w' ∧ Sq gq gf zeroH none 0 0 [] Af1 nf1 cf1 e1 [r1] w' ∧ Sp gx h (some ⟨g2, 0, none⟩) m ys w' ∧ Sq gy gh h D2 nd2 cd2 ys none 0 0 0 [] w')) (by kernel_rfl) ⟨k, sp, sq, sx, sy⟩ (fun hHeld => ?_)
  clear hHeld
  change wpAnyH _ _ _ _ _ _ _ _ (World.drew _)
  generalize World.drew _ = W7 at *
  have hHeld := And.intro k (And.intro sp (And.intro sq (And.intro sx sy)))
  refine wpAnyH_at (i := 0) (some 40) (v := ?v0z37) rfl rfl (by kernel_rfl) (by kernel_rfl) (by kernel_rfl) (fun _ _ _ h => h) (Or.inl ⟨by rfl, ?y0z37⟩) (by assumption) ?r0z37
  case y0z37 =>
    intro w9 hSw
    clear hSw
    go_simp
    all_goals with_reducible rfl
  simp only [Act.put, List.setIfInBounds_toArray, List.set_cons_zero, List.set_cons_succ]
  refine wpAnyH_at (i := 1) (some 41) (v := ?v1z38) rfl rfl (by kernel_rfl) (by kernel_rfl) (by kernel_rfl) (fun _ _ _ h => h) (Or.inl ⟨by rfl, ?y1z38⟩) (by assumption) ?r1z38
  case y1z38 =>
    intro w9 hSw
    (obtain ⟨a0, a1⟩ := (show (KO w A n c A2 n2 c2 xs w2.heap.size w9 ∧ Sp gp zeroH none 0 [] w9 ∧ Sq gq gf zeroH none 0 0 [] Af1 nf1 cf1 e1 [r1] w9 ∧ Sp gx h (some ⟨g2, 0, none⟩) m ys w9 ∧ Sq gy gh h D2 nd2 cd2 ys none 0 0 0 [] w9) from hSw).2.2.1.fault); clear hSw
    go_simp
    all_goals with_reducible rfl
  simp only [Act.put, List.setIfInBounds_toArray, List.set_cons_zero, List.set_cons_succ]
  refine wpAnyH_one (i := 2) (by kernel_rfl) rfl ?_
  go_wp2_with (go_at_call 15; refine (is_err Af1 nf1 cf1 r1 e1 _ k.kn.laid sq.fr he1).mono ?_; rintro ev V1 ⟨rfl, hb⟩)
  replace k := k.step hb
  replace sp := sp.step hb
  replace sq := sq.step hb
  replace sx := sx.step hb
  replace sy := sy.step hb
  clear hb hHeld
  have hHeld := And.intro k (And.intro sp (And.intro sq (And.intro sx sy)))
  refine ⟨hHeld, ?_⟩
  try simp only [Act.put, List.setIfInBounds_toArray, List.set_cons_zero, List.set_cons_succ]
  refine wpAnyH_at (i := 3) (some 43) (v := ?v3z39) rfl rfl (by kernel_rfl) (by kernel_rfl) (by kernel_rfl) (fun _ _ _ h => h) (Or.inl ⟨by rfl, ?y3z39⟩) (by assumption) ?r3z39
  case y3z39 =>
    intro w9 hSw
    clear hSw
    go_simp
    all_goals with_reducible rfl
  simp only [Act.put, List.setIfInBounds_toArray, List.set_cons_zero, List.set_cons_succ]
  refine wpAnyH_at (i := 4) (some 44) (v := ?v4z40) rfl rfl (by kernel_rfl) (by kernel_rfl) (by kernel_rfl) (fun _ _ _ h => h) (Or.inl ⟨by rfl, ?y4z40⟩) (by assumption) ?r4z40
  case y4z40 =>
    intro w9 hSw
    clear hSw
    go_simp
    all_goals with_reducible rfl
  simp only [Act.put, List.setIfInBounds_toArray, List.set_cons_zero, List.set_cons_succ]
  refine wpAnyH_at (i := 5) (some 45) (v := ?v5z41) rfl rfl (by kernel_rfl) (by kernel_rfl) (by kernel_rfl) (fun _ _ _ h => h) (Or.inl ⟨by rfl, ?y5z41⟩) (by assumption) ?r5z41
  case y5z41 =>
    intro w9 hSw
    (obtain ⟨a0, a1, a2, a3, a4, a5, a6, a7⟩ := (show (KO w A n c A2 n2 c2 xs w2.heap.size w9 ∧ Sp gp zeroH none 0 [] w9 ∧ Sq gq gf zeroH none 0 0 [] Af1 nf1 cf1 e1 [r1] w9 ∧ Sp gx h (some ⟨g2, 0, none⟩) m ys w9 ∧ Sq gy gh h D2 nd2 cd2 ys none 0 0 0 [] w9) from hSw).2.1.p.cells); clear hSw
    go_simp
    all_goals with_reducible rfl
  simp only [Act.put, List.setIfInBounds_toArray, List.set_cons_zero, List.set_cons_succ]
  refine wpAnyH_at (i := 7) (some 47) (v := ?v7z42) rfl rfl (by kernel_rfl) (by kernel_rfl) (by kernel_rfl) (fun _ _ _ h => h) (Or.inl ⟨by rfl, ?y7z42⟩) (by assumption) ?r7z42
  case y7z42 =>
    intro w9 hSw
    (obtain ⟨a0, a1, a2, a3, a4, a5, a6, a7⟩ := (show (KO w A n c A2 n2 c2 xs w2.heap.size w9 ∧ Sp gp zeroH none 0 [] w9 ∧ Sq gq gf zeroH none 0 0 [] Af1 nf1 cf1 e1 [r1] w9 ∧ Sp gx h (some ⟨g2, 0, none⟩) m ys w9 ∧ Sq gy gh h D2 nd2 cd2 ys none 0 0 0 [] w9) from hSw).2.2.1.q.cells); clear hSw
    go_simp
    all_goals with_reducible rfl
  simp only [Act.put, List.setIfInBounds_toArray, List.set_cons_zero, List.set_cons_succ]
  refine wpAnyH_one (i := 6) (by kernel_rfl) rfl ?_
  go_wp2_with (go_at_call 17; refine (of_pk zeroH none 0 0 [] _ sp.r (by omega)).mono ?_; rintro ev V2 ⟨A3, n3, c3, rfl, o3, hb⟩)
  replace k := k.step hb
  replace sp := sp.step hb
  replace sq := sq.step hb
  replace sx := sx.step hb
  replace sy := sy.step hb
  clear hb hHeld
  have hHeld := And.intro k (And.intro sp (And.intro sq (And.intro sx sy)))
  refine ⟨hHeld, ?_⟩
  try simp only [Act.put, List.setIfInBounds_toArray, List.set_cons_zero, List.set_cons_succ]
  refine wpAnyH_one (i := 8) (by kernel_rfl) rfl ?_
  have s8 := refSame_pk zeroH zeroH _ _ _ _ _ _ [] [] _ o3.rd sq.r
  rw [smB_self] at s8
  go_wp2_with (go_at_call 16; refine (s8).mono ?_; rintro ev V3 ⟨rfl, hb⟩)
  replace k := k.step hb
  replace sp := sp.step hb
  replace sq := sq.step hb
  replace sx := sx.step hb
  replace sy := sy.step hb
  clear s8 o3
  clear hb hHeld
  have hHeld := And.intro k (And.intro sp (And.intro sq (And.intro sx sy)))
  refine ⟨hHeld, ?_⟩
  try simp only [Act.put, List.setIfInBounds_toArray, List.set_cons_zero, List.set_cons_succ]
  refine wpAnyH_at (i := 9) (some 49) (v := ?v9z43) rfl rfl (by kernel_rfl) (by kernel_rfl) (by kernel_rfl) (fun _ _ _ h => h) (Or.inl ⟨by rfl, ?y9z43⟩) (by assumption) ?r9z43
  case y9z43 =>
    intro w9 hSw
    clear hSw
    go_simp
    all_goals with_reducible rfl
  simp only [Act.put, List.setIfInBounds_toArray, List.set_cons_zero, List.set_cons_succ]
  refine wpAnyH_at (i := 10) (some 50) (v := ?v10z44) rfl rfl (by kernel_rfl) (by kernel_rfl) (by kernel_rfl) (fun _ _ _ h => h) (Or.inl ⟨by rfl, ?y10z44⟩) (by assumption) ?r10z44
  case y10z44 =>
    intro w9 hSw
    clear hSw
    go_simp
    all_goals with_reducible rfl
  simp only [Act.put, List.setIfInBounds_toArray, List.set_cons_zero, List.set_cons_succ]
  refine wpAnyH_at (i := 11) (some 51) (v := ?v11z45) rfl rfl (by kernel_rfl) (by kernel_rfl) (by kernel_rfl) (fun _ _ _ h => h) (Or.inl ⟨by rfl, ?y11z45⟩) (by assumption) ?r11z45
  case y11z45 =>
    intro w9 hSw
    clear hSw
    go_simp
    all_goals with_reducible rfl
  simp only [Act.put, List.setIfInBounds_toArray, List.set_cons_zero, List.set_cons_succ]
  refine wpAnyH_at (i := 12) (some 52) (v := ?v12z46) rfl rfl (by kernel_rfl) (by kernel_rfl) (by kernel_rfl) (fun _ _ _ h => h) (Or.inl ⟨by rfl, ?y12z46⟩) (by assumption) ?r12z46
  case y12z46 =>
    intro w9 hSw
    clear hSw
    go_simp
    all_goals with_reducible rfl
  simp only [Act.put, List.setIfInBounds_toArray, List.set_cons_zero, List.set_cons_succ]
  refine wpAnyH_at (i := 13) (some 53) (v := ?v13z47) rfl rfl (by kernel_rfl) (by kernel_rfl) (by kernel_rfl) (fun _ _ _ h => h) (Or.inl ⟨by rfl, ?y13z47⟩) (by assumption) ?r13z47
  case y13z47 =>
    intro w9 hSw
    (obtain ⟨a0, a1⟩ := (show (KO w A n c A2 n2 c2 xs w2.heap.size w9 ∧ Sp gp zeroH none 0 [] w9 ∧ Sq gq gf zeroH none 0 0 [] Af1 nf1 cf1 e1 [r1] w9 ∧ Sp gx h (some ⟨g2, 0, none⟩) m ys w9 ∧ Sq gy gh h D2 nd2 cd2 ys none 0 0 0 [] w9) from hSw).2.2.2.2.fault); clear hSw
    go_simp
    all_goals with_reducible rfl
  simp only [Act.put, List.setIfInBounds_toArray, List.set_cons_zero, List.set_cons_succ]
  refine wpAnyH_one (i := 14) (by kernel_rfl) rfl ?_
  go_wp2_with (go_at_call 15; refine (is_nil none 0 0 _).mono ?_; rintro ev V4 ⟨rfl, hb⟩)
  replace k := k.step hb
  replace sp := sp.step hb
  replace sq := sq.step hb
  replace sx := sx.step hb
  replace sy := sy.step hb
  clear hb hHeld
  have hHeld := And.intro k (And.intro sp (And.intro sq (And.intro sx sy)))
  refine ⟨hHeld, ?_⟩
  try simp only [Act.put, List.setIfInBounds_toArray, List.set_cons_zero, List.set_cons_succ]
  refine wpAnyH_at (i := 15) (some 55) (v := ?v15z48) rfl rfl (by kernel_rfl) (by kernel_rfl) (by kernel_rfl) (fun _ _ _ h => h) (Or.inl ⟨by rfl, ?y15z48⟩) (by assumption) ?r15z48
  case y15z48 =>
    intro w9 hSw
    clear hSw
    go_simp
    all_goals with_reducible rfl
  simp only [Act.put, List.setIfInBounds_toArray, List.set_cons_zero, List.set_cons_succ]
  refine wpAnyH_at (i := 16) (some 56) (v := ?v16z49) rfl rfl (by kernel_rfl) (by kernel_rfl) (by kernel_rfl) (fun _ _ _ h => h) (Or.inl ⟨by rfl, ?y16z49⟩) (by assumption) ?r16z49
  case y16z49 =>
    intro w9 hSw
    clear hSw
    go_simp
    all_goals with_reducible rfl
  simp only [Act.put, List.setIfInBounds_toArray, List.set_cons_zero, List.set_cons_succ]
  refine wpAnyH_at (i := 17) (some 57) (v := ?v17z50) rfl rfl (by kernel_rfl) (by kernel_rfl) (by kernel_rfl) (fun _ _ _ h => h) (Or.inl ⟨by rfl, ?y17z50⟩) (by assumption) ?r17z50
  case y17z50 =>
    intro w9 hSw
    clear hSw
    go_simp
    all_goals with_reducible rfl
  simp only [Act.put, List.setIfInBounds_toArray, List.set_cons_zero, List.set_cons_succ]
  refine wpAnyH_at (i := 18) (some 58) (v := ?v18z51) rfl rfl (by kernel_rfl) (by kernel_rfl) (by kernel_rfl) (fun _ _ _ h => h) (Or.inl ⟨by rfl, ?y18z51⟩) (by assumption) ?r18z51
  case y18z51 =>
    intro w9 hSw
    (obtain ⟨a0, a1, a2, a3, a4, a5, a6, a7⟩ := (show (KO w A n c A2 n2 c2 xs w2.heap.size w9 ∧ Sp gp zeroH none 0 [] w9 ∧ Sq gq gf zeroH none 0 0 [] Af1 nf1 cf1 e1 [r1] w9 ∧ Sp gx h (some ⟨g2, 0, none⟩) m ys w9 ∧ Sq gy gh h D2 nd2 cd2 ys none 0 0 0 [] w9) from hSw).2.2.2.1.p.cells); clear hSw
    go_simp
    all_goals with_reducible rfl
  simp only [Act.put, List.setIfInBounds_toArray, List.set_cons_zero, List.set_cons_succ]
  refine wpAnyH_at (i := 20) (some 60) (v := ?v20z52) rfl rfl (by kernel_rfl) (by kernel_rfl) (by kernel_rfl) (fun _ _ _ h => h) (Or.inl ⟨by rfl, ?y20z52⟩) (by assumption) ?r20z52
  case y20z52 =>
    intro w9 hSw
    (obtain ⟨a0, a1, a2, a3, a4, a5, a6, a7⟩ := (show (KO w A n c A2 n2 c2 xs w2.heap.size w9 ∧ Sp gp zeroH none 0 [] w9 ∧ Sq gq gf zeroH none 0 0 [] Af1 nf1 cf1 e1 [r1] w9 ∧ Sp gx h (some ⟨g2, 0, none⟩) m ys w9 ∧ Sq gy gh h D2 nd2 cd2 ys none 0 0 0 [] w9) from hSw).2.2.2.2.q.cells); clear hSw
    go_simp
    all_goals with_reducible rfl
  simp only [Act.put, List.setIfInBounds_toArray, List.set_cons_zero, List.set_cons_succ]
  refine wpAnyH_one (i := 19) (by kernel_rfl) rfl ?_
  go_wp2_with (go_at_call 17; refine (of_pk h (some ⟨g2, 0, none⟩) m m ys _ sx.r (by omega)).mono ?_; rintro ev V5 ⟨A3, n3, c3, rfl, o3, hb⟩)
  replace k := k.step hb
  replace sp := sp.step hb
  replace sq := sq.step hb
  replace sx := sx.step hb
  replace sy := sy.step hb
  clear hb hHeld
  have hHeld := And.intro k (And.intro sp (And.intro sq (And.intro sx sy)))
  refine ⟨hHeld, ?_⟩
  try simp only [Act.put, List.setIfInBounds_toArray, List.set_cons_zero, List.set_cons_succ]
  refine wpAnyH_one (i := 21) (by kernel_rfl) rfl ?_
  have s9 := refSame_pk h h _ _ _ _ _ _ ys ys _ o3.rd sy.r
  rw [smB_self] at s9
  go_wp2_with (go_at_call 16; refine (s9).mono ?_; rintro ev V6 ⟨rfl, hb⟩)
  replace k := k.step hb
  replace sp := sp.step hb
  replace sq := sq.step hb
  replace sx := sx.step hb
  replace sy := sy.step hb
  clear s9 o3
  clear hb hHeld
  have hHeld := And.intro k (And.intro sp (And.intro sq (And.intro sx sy)))
  refine ⟨hHeld, ?_⟩
  try simp only [Act.put, List.setIfInBounds_toArray, List.set_cons_zero, List.set_cons_succ]
  refine wpAnyH_at (i := 22) (some 62) (v := ?v22z53) rfl rfl (by kernel_rfl) (by kernel_rfl) (by kernel_rfl) (fun _ _ _ h => h) (Or.inl ⟨by rfl, ?y22z53⟩) (by assumption) ?r22z53
  case y22z53 =>
    intro w9 hSw
    clear hSw
    go_simp
    all_goals with_reducible rfl
  simp only [Act.put, List.setIfInBounds_toArray, List.set_cons_zero, List.set_cons_succ]
  refine wpAnyH_at (i := 23) (some 63) (v := ?v23z54) rfl rfl (by kernel_rfl) (by kernel_rfl) (by kernel_rfl) (fun _ _ _ h => h) (Or.inl ⟨by rfl, ?y23z54⟩) (by assumption) ?r23z54
  case y23z54 =>
    intro w9 hSw
    clear hSw
    go_simp
    all_goals with_reducible rfl
  simp only [Act.put, List.setIfInBounds_toArray, List.set_cons_zero, List.set_cons_succ]
  refine wpAnyH_done (by kernel_rfl) ?_ _
  clear hHeld sq sx sy
  go_wp2_with fail
  go_loopw [12] (fun i wr => i = .int .i64 0 ∧ PkAt wr gp 28 zeroH none 0 0 ∧ KO w A n c A2 n2 c2 xs w2.heap.size wr) (fun _ _ => 0)
  case atStart => exact ⟨rfl, sp.p, k⟩
  case round =>
    clear sp k
    obtain ⟨rfl, pk, k⟩ := hrel
    obtain ⟨x0, x1, x2, x3, x4, x5, x6, x7⟩ := pk.cells
    go_wp2_with fail
    refine (same_any _ _ _ _ _ _ xs _ _ _ k.own' k.rd').mono ?_
    rintro ev w8 ⟨rfl, hb⟩
    replace k := k.step hb
    clear x0 x1 x2 x3 x4 x5 x6 x7
    go_wp2
    go_ret
    exact ⟨rfl, k.kn.below⟩
theorem parses_law (A : Option Addr) (n c : Nat) (xs : List Int) (w : World) (hg : Laid w) (hr : Rd .u8 w w.heap.size A n c xs) : Calls Tryd.prog 3 #[.slice A n c] w fun e w' => e = .returned (.bool true) ∧ Below w.heap.size w w' := by
  by_cases hn : 3000 < n
  · exact parses_far A n c w hg hn (Nat.le_trans hr.cap hr.max)
  · have hn' : n ≤ 3000 := by omega
    by_cases h : (pE true xs).2 = 0
    · exact parses_good A n c xs w hg hr hn' h
    · obtain ⟨r, e, hE, he⟩ := pE_pair true xs h
      by_cases h' : (pE false xs).2 = 0
      · exact parses_part A n c xs w hg hr hn' r e hE he h'
      · obtain ⟨r', e', hE', he'⟩ := pE_pair false xs h'
        exact parses_bad A n c xs w hg hr hn' r e hE he r' e' hE' he'
end Go.Proofs.YthgdgjpckgfmbaaDoor
