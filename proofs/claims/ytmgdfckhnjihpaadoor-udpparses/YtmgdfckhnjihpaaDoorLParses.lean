/-
  The law UdpParses: every Parse of any bytes answers what the document says.
-/
import Derived.Test.YtmgdfckhnjihpaaDoorUW
namespace Go.Proofs.YtmgdfckhnjihpaaDoor
open Go.RowKit
set_option linter.unusedVariables false

/-- What the walk knows: the bytes, the law's own copy of them. -/
structure KO (w : World) (A : Option Addr) (n c : Nat) (A2 : Option Addr) (n2 c2 : Nat) (xs : List Int) (B1 : Nat) (W : World) : Prop where
  kn : Kn w W
  rd : Rd .u8 W w.heap.size A n c xs
  own : Rd .u8 W B1 A2 n2 c2 xs
  le : B1 ≤ W.heap.size
/-- A datagram of the program's: its block, its body. -/
structure Sp (g : Nat) (h : Hd) (B : Option Addr) (m : Nat) (ys : List Int) (W : World) : Prop where
  p : PkAt W g 28 h B m m
  r : Rd .u8 W W.heap.size B m m ys
/-- A datagram of the document's, with its fault. -/
structure Sq (g gf : Nat) (h : Hd) (D : Option Addr) (nd cd : Nat) (ys : List Int) (Af : Option Addr) (nf cf : Nat) (ef : Int) (rs : List Int) (W : World) : Prop where
  q : PkAt W g 33 h D nd cd
  r : Rd .u8 W W.heap.size D nd cd ys
  f : W.heap[gf]? = some (.cells (flC Af nf cf ef) 37 (0, 0))
  fr : Rd .i64 W W.heap.size Af nf cf rs
section
variable {w W V : World} {A : Option Addr} {n c : Nat} {A2 : Option Addr} {n2 c2 : Nat} {xs ys : List Int} {B1 g gf : Nat} {h : Hd} {B D Af : Option Addr} {m nd cd nf cf : Nat} {ef : Int} {rs : List Int}
theorem KO.step (q : KO w A n c A2 n2 c2 xs B1 W) (hb : Below W.heap.size W V) : KO w A n c A2 n2 c2 xs B1 V := ⟨q.kn.step hb, q.rd.below hb q.kn.below.size, q.own.below hb q.le, Nat.le_trans q.le hb.size⟩
theorem KO.rd' (q : KO w A n c A2 n2 c2 xs B1 W) : Rd .u8 W W.heap.size A n c xs := q.rd.more q.kn.below.size
theorem KO.own' (q : KO w A n c A2 n2 c2 xs B1 W) : Rd .u8 W W.heap.size A2 n2 c2 xs := q.own.more q.le
theorem Sp.step (q : Sp g h B m ys W) (hb : Below W.heap.size W V) : Sp g h B m ys V := ⟨q.p.step hb, (q.r.below hb (Nat.le_refl _)).more hb.size⟩
theorem Sp.new (r : Rd .u8 W W.heap.size B m m ys) : Sp W.heap.size h B m ys (W.alloc (.cells (pkC h B m m) 28)) := ⟨PkAt.new W 28 h B m m, (r.below (alloc_below _ _) (Nat.le_refl _)).more (alloc_below _ _).size⟩
theorem Sq.step (q : Sq g gf h D nd cd ys Af nf cf ef rs W) (hb : Below W.heap.size W V) : Sq g gf h D nd cd ys Af nf cf ef rs V := ⟨q.q.step hb, (q.r.below hb (Nat.le_refl _)).more hb.size, (hb.block _ (blk_lt q.f)).trans q.f, (q.fr.below hb (Nat.le_refl _)).more hb.size⟩
theorem Sq.new (r : Rd .u8 W W.heap.size D nd cd ys) (fr : Rd .i64 W W.heap.size Af nf cf rs) : Sq W.heap.size (W.heap.size + 1) h D nd cd ys Af nf cf ef rs ((W.alloc (.cells (pkC h D nd cd) 33)).alloc (.cells (flC Af nf cf ef) 37)) := by
  have b1 := alloc_below W (.cells (pkC h D nd cd) 33)
  have p1 := PkAt.new W 33 h D nd cd
  have s1 : (W.alloc (.cells (pkC h D nd cd) 33)).heap.size = W.heap.size + 1 := by simp
  have r1 := (r.below b1 (Nat.le_refl _)).more b1.size
  have f1 := (fr.below b1 (Nat.le_refl _)).more b1.size
  generalize W.alloc (.cells (pkC h D nd cd) 33) = W1 at *
  have b2 := alloc_below W1 (.cells (flC Af nf cf ef) 37)
  have y := heap_alloc_new W1 (.cells (flC Af nf cf ef) 37)
  rw [s1] at y
  exact ⟨p1.step b2, (r1.below b2 (Nat.le_refl _)).more b2.size, y, (f1.below b2 (Nat.le_refl _)).more b2.size⟩
theorem Sq.fault (q : Sq g gf h D nd cd ys Af nf cf ef rs W) : W.cell? ⟨gf, 0, none⟩ = some (.slice Af nf cf) ∧ W.cell? ⟨gf, 1, none⟩ = some (.int .i64 ef) := ⟨blk_cell q.f rfl, blk_cell q.f rfl⟩
end
theorem parses_far (A : Option Addr) (n c : Nat) (f t : Int) (w : World) (hg : Laid w) (hn : 3000 < n) (hmax : n ≤ 9223372036854775807) : Calls Tryd.prog 3 #[.slice A n c, .int .u32 f, .int .u32 t] w fun e w' => e = .returned (.bool true) ∧ Below w.heap.size w w' := by
  go_enter Tryd.func3, Tryd.ntmps3
  go_wp2_with (go_at_call 7; refine (alive_any _ hg).mono ?_; rintro ev w1 ⟨rfl, hb⟩)
  go_ret
  exact ⟨rfl, hb⟩

set_option maxRecDepth 100000 in
set_option maxHeartbeats 4000000 in
theorem parses_good (A : Option Addr) (n c : Nat) (xs : List Int) (f t : Int) (w : World) (hg : Laid w) (hr : Rd .u8 w w.heap.size A n c xs) (hf : Ip f) (ht : Ip t) (hn : n ≤ 3000) (hE : (pE f t xs).2 = 0) : Calls Tryd.prog 3 #[.slice A n c, .int .u32 f, .int .u32 t] w fun e w' => e = .returned (.bool true) ∧ Below w.heap.size w w' := by
  have k0 := Kn.start hg
  have hcap := hr.cap
  have hmax := hr.max
  have hl := body_len hE
  have hto := (bE_ok (pE_ok hE).1).2.2.2
  obtain ⟨h, hh⟩ : ∃ h, hdOf xs = h := ⟨_, rfl⟩
  obtain ⟨ys, hy⟩ : ∃ ys, bodyOf xs = ys := ⟨_, rfl⟩
  obtain ⟨m, hm⟩ : ∃ m, ys.length = m := ⟨_, rfl⟩
  have hmn : m ≤ 3000 := by rw [← hm, ← hy]; omega
  have Hw : Hid (∀ x ∈ ys, (Lit.int .u8 x).wf = true) := Lib.hid (by rw [← hy]; exact body_wf hr.2.2.2.1)
  have Hm := Lib.hid hm
  have c11 := Lib.hid (fun W A n c (q : Rd .u8 W W.heap.size A n c xs) => parse_yes q hf ht hE hh hy hm)
  have c12 := Lib.hid (fun W A n c (q : Rd .u8 W W.heap.size A n c xs) => refParse_yes q hf ht hE hh hy)
  clear hE hf ht hl hto hh hy hm
  go_enter Tryd.func3, Tryd.ntmps3
  go_wp2_with fail
  refine (alive_any _ k0.laid).mono ?_
  rintro ev w1 ⟨rfl, hb⟩
  have r0 := hr.below hb (Nat.le_refl _)
  replace k0 := k0.step hb
  clear hr hb
  go_wp2_with fail
  refine (own_any A n c w.heap.size xs _ r0 k0.below.size (by omega)).mono ?_
  rintro ev w2 ⟨A2, n2, c2, rfl, o2, hb⟩
  have k : KO w A n c A2 n2 c2 xs w2.heap.size w2 := ⟨k0.step hb, r0.below hb k0.below.size, o2.rd, Nat.le_refl _⟩
  have hw2 := k.kn.below.size
  clear hb r0 k0 o2
  go_wp2_with fail
  refine (c11.out _ _ _ _ k.own').mono ?_
  rintro ev w3 ⟨g1, rfl, row1, gb1, hb⟩
  have ba := alloc_below w3 (.cells (pkC h (some ⟨g1, 0, none⟩) m m) 28)
  replace hb := hb.trans (ba.mono hb.size)
  have sp : Sp w3.heap.size h (some ⟨g1, 0, none⟩) m ys (w3.alloc (.cells (pkC h (some ⟨g1, 0, none⟩) m m) 28)) := Sp.new (row1.rdW Hm.out (by omega) Hw.out)
  have gp1 := row1.lt
  replace row1 := row1.below ba row1.lt
  replace k := k.step hb
  clear hb ba
  go_wp2_with fail
  refine (c12.out _ _ _ _ k.rd').mono ?_
  rintro ev w4 ⟨hb, D1, nd1, cd1, rfl, od1⟩
  have ba : Below w4.heap.size w4 ((w4.alloc (.cells (pkC h D1 nd1 cd1) 33)).alloc (.cells (flC none 0 0 0) 37)) := (alloc_below w4 _).alloc (by simp) _
  replace hb := hb.trans (ba.mono hb.size)
  have sq : Sq w4.heap.size (w4.heap.size + 1) h D1 nd1 cd1 ys none 0 0 0 [] ((w4.alloc (.cells (pkC h D1 nd1 cd1) 33)).alloc (.cells (flC none 0 0 0) 37)) := Sq.new od1.rd Rd.nil
  replace k := k.step hb
  replace sp := sp.step hb
  replace row1 := row1.below hb row1.lt
  clear hb ba od1 c11 c12
  generalize hgp : w3.heap.size = gp at *
  go_wp2_with fail
  replace k := k.step (below_drew _)
  replace sp := sp.step (below_drew _)
  replace sq := sq.step (below_drew _)
  replace row1 := row1.below (below_drew _) row1.lt
  generalize hgf : w4.heap.size + 1 = gf at *
  generalize w4.heap.size = gq at *
  refine wp_region_held_drew (S := fun w' => (KO w A n c A2 n2 c2 xs w2.heap.size w' ∧ Sp gp h (some ⟨g1, 0, none⟩) m ys w' ∧ Sq gq gf h D1 nd1 cd1 ys none 0 0 0 [] w')) (by kernel_rfl) ⟨k, sp, sq⟩ (fun hHeld => ?_)
  clear hHeld
  change wpAnyH _ _ _ _ _ _ _ _ (World.drew _)
  generalize World.drew _ = W7 at *
  have hHeld := And.intro k (And.intro sp sq)
  refine wpAnyH_at (i := 0) (some 34) (v := ?v0z1) rfl rfl (by kernel_rfl) (by kernel_rfl) (by kernel_rfl) (fun _ _ _ h => h) (Or.inl ⟨by rfl, ?y0z1⟩) (by assumption) ?r0z1
  case y0z1 =>
    intro w9 hSw
    clear hSw
    go_simp
    all_goals with_reducible rfl
  simp only [Act.put, List.setIfInBounds_toArray, List.set_cons_zero, List.set_cons_succ]
  refine wpAnyH_at (i := 1) (some 35) (v := ?v1z2) rfl rfl (by kernel_rfl) (by kernel_rfl) (by kernel_rfl) (fun _ _ _ h => h) (Or.inl ⟨by rfl, ?y1z2⟩) (by assumption) ?r1z2
  case y1z2 =>
    intro w9 hSw
    (obtain ⟨a0, a1⟩ := (show (KO w A n c A2 n2 c2 xs w2.heap.size w9 ∧ Sp gp h (some ⟨g1, 0, none⟩) m ys w9 ∧ Sq gq gf h D1 nd1 cd1 ys none 0 0 0 [] w9) from hSw).2.2.fault); clear hSw
    go_simp
    all_goals with_reducible rfl
  simp only [Act.put, List.setIfInBounds_toArray, List.set_cons_zero, List.set_cons_succ]
  refine wpAnyH_one (i := 2) (by kernel_rfl) rfl ?_
  go_wp2_with (go_at_call 11; refine (is_nil none 0 0 _).mono ?_; rintro ev V1 ⟨rfl, hb⟩)
  replace k := k.step hb
  replace sp := sp.step hb
  replace sq := sq.step hb
  replace row1 := row1.below hb row1.lt
  clear hb hHeld
  have hHeld := And.intro k (And.intro sp sq)
  refine ⟨hHeld, ?_⟩
  try simp only [Act.put, List.setIfInBounds_toArray, List.set_cons_zero, List.set_cons_succ]
  refine wpAnyH_at (i := 3) (some 37) (v := ?v3z3) rfl rfl (by kernel_rfl) (by kernel_rfl) (by kernel_rfl) (fun _ _ _ h => h) (Or.inl ⟨by rfl, ?y3z3⟩) (by assumption) ?r3z3
  case y3z3 =>
    intro w9 hSw
    clear hSw
    go_simp
    all_goals with_reducible rfl
  simp only [Act.put, List.setIfInBounds_toArray, List.set_cons_zero, List.set_cons_succ]
  refine wpAnyH_at (i := 4) (some 38) (v := ?v4z4) rfl rfl (by kernel_rfl) (by kernel_rfl) (by kernel_rfl) (fun _ _ _ h => h) (Or.inl ⟨by rfl, ?y4z4⟩) (by assumption) ?r4z4
  case y4z4 =>
    intro w9 hSw
    clear hSw
    go_simp
    all_goals with_reducible rfl
  simp only [Act.put, List.setIfInBounds_toArray, List.set_cons_zero, List.set_cons_succ]
  refine wpAnyH_at (i := 5) (some 39) (v := ?v5z5) rfl rfl (by kernel_rfl) (by kernel_rfl) (by kernel_rfl) (fun _ _ _ h => h) (Or.inl ⟨by rfl, ?y5z5⟩) (by assumption) ?r5z5
  case y5z5 =>
    intro w9 hSw
    (obtain ⟨a0, a1, a2, a3⟩ := (show (KO w A n c A2 n2 c2 xs w2.heap.size w9 ∧ Sp gp h (some ⟨g1, 0, none⟩) m ys w9 ∧ Sq gq gf h D1 nd1 cd1 ys none 0 0 0 [] w9) from hSw).2.1.p.cells); clear hSw
    go_simp
    all_goals with_reducible rfl
  simp only [Act.put, List.setIfInBounds_toArray, List.set_cons_zero, List.set_cons_succ]
  refine wpAnyH_at (i := 7) (some 41) (v := ?v7z6) rfl rfl (by kernel_rfl) (by kernel_rfl) (by kernel_rfl) (fun _ _ _ h => h) (Or.inl ⟨by rfl, ?y7z6⟩) (by assumption) ?r7z6
  case y7z6 =>
    intro w9 hSw
    (obtain ⟨a0, a1, a2, a3⟩ := (show (KO w A n c A2 n2 c2 xs w2.heap.size w9 ∧ Sp gp h (some ⟨g1, 0, none⟩) m ys w9 ∧ Sq gq gf h D1 nd1 cd1 ys none 0 0 0 [] w9) from hSw).2.2.q.cells); clear hSw
    go_simp
    all_goals with_reducible rfl
  simp only [Act.put, List.setIfInBounds_toArray, List.set_cons_zero, List.set_cons_succ]
  refine wpAnyH_one (i := 6) (by kernel_rfl) rfl ?_
  go_wp2_with (go_at_call 13; refine (of_pk h (some ⟨g1, 0, none⟩) m m ys _ sp.r (by omega)).mono ?_; rintro ev V2 ⟨A3, n3, c3, rfl, o3, hb⟩)
  replace k := k.step hb
  replace sp := sp.step hb
  replace sq := sq.step hb
  replace row1 := row1.below hb row1.lt
  clear hb hHeld
  have hHeld := And.intro k (And.intro sp sq)
  refine ⟨hHeld, ?_⟩
  try simp only [Act.put, List.setIfInBounds_toArray, List.set_cons_zero, List.set_cons_succ]
  refine wpAnyH_one (i := 8) (by kernel_rfl) rfl ?_
  have s8 := refSame_pk h h _ _ _ _ _ _ ys ys _ o3.rd sq.r
  rw [smB_self] at s8
  go_wp2_with (go_at_call 12; refine (s8).mono ?_; rintro ev V3 ⟨rfl, hb⟩)
  replace k := k.step hb
  replace sp := sp.step hb
  replace sq := sq.step hb
  replace row1 := row1.below hb row1.lt
  clear s8 o3
  clear hb hHeld
  have hHeld := And.intro k (And.intro sp sq)
  refine ⟨hHeld, ?_⟩
  try simp only [Act.put, List.setIfInBounds_toArray, List.set_cons_zero, List.set_cons_succ]
  refine wpAnyH_at (i := 9) (some 43) (v := ?v9z7) rfl rfl (by kernel_rfl) (by kernel_rfl) (by kernel_rfl) (fun _ _ _ h => h) (Or.inl ⟨by rfl, ?y9z7⟩) (by assumption) ?r9z7
  case y9z7 =>
    intro w9 hSw
    clear hSw
    go_simp
    all_goals with_reducible rfl
  simp only [Act.put, List.setIfInBounds_toArray, List.set_cons_zero, List.set_cons_succ]
  refine wpAnyH_at (i := 10) (some 44) (v := ?v10z8) rfl rfl (by kernel_rfl) (by kernel_rfl) (by kernel_rfl) (fun _ _ _ h => h) (Or.inl ⟨by rfl, ?y10z8⟩) (by assumption) ?r10z8
  case y10z8 =>
    intro w9 hSw
    clear hSw
    go_simp
    all_goals with_reducible rfl
  simp only [Act.put, List.setIfInBounds_toArray, List.set_cons_zero, List.set_cons_succ]
  refine wpAnyH_done (by kernel_rfl) ?_ _
  clear hHeld sq
  have gpn : ¬ gp = g1 := by omega
  go_wp2_with fail
  go_loopw [12] (fun i wr => ∃ (j : Nat) (zs : List Int), i = .int .i64 j ∧ j ≤ m ∧ zs.length = m ∧ (∀ x ∈ zs, (Lit.int .u8 x).wf = true) ∧ Row wr g1 zs ∧ PkAt wr gp 28 h (some ⟨g1, 0, none⟩) m m ∧ KO w A n c A2 n2 c2 xs w2.heap.size wr) (fun i _ => m - (intOf i).toNat)
  case atStart => exact ⟨0, ys, rfl, by omega, Hm.out, Hw.out, row1, sp.p, k⟩
  case round =>
    clear row1 sp k
    obtain ⟨j, zs, rfl, hj, hzl, hzw, row, pk, k⟩ := hrel
    obtain ⟨x0, x1, x2, x3⟩ := pk.cells
    by_cases hjm : j = m
    · subst hjm
      have u1 : ¬ (j : Int) < (j : Int) := by omega
      go_wp2_with fail
      refine (same_any _ _ _ _ _ _ xs _ _ _ k.own' k.rd').mono ?_
      rintro ev w8 ⟨rfl, hb⟩
      replace k := k.step hb
      clear x0 x1 x2 x3
      go_wp2
      go_ret
      exact ⟨rfl, k.kn.below⟩
    · have u1 : (j : Int) < (m : Int) := by omega
      have cj := row.cell (i := j) (by omega)
      have zj := row.frozen j
      obtain ⟨v, hv⟩ : ∃ v, (zs.getD j 0 + 1) % 256 = v := ⟨_, rfl⟩
      obtain ⟨y, hy⟩ : ∃ y, zs.getD j 0 = y := ⟨_, rfl⟩
      rw [hy] at cj hv
      have hv1 : 0 ≤ v ∧ v ≤ 255 := by omega
      have row' := row.set j v
      have on := Only.setCell g1 j wr (.int .u8 v)
      have pk' : PkAt (wr.setCell ⟨g1, j, none⟩ (.int .u8 v)) gp 28 h (some ⟨g1, 0, none⟩) m m := (on.other gp gpn).trans pk
      have hgw : w.heap.size ≤ g1 := by omega
      have bw := k.kn.below.trans (on.below.mono hgw)
      have k' : KO w A n c A2 n2 c2 xs w2.heap.size (wr.setCell ⟨g1, j, none⟩ (.int .u8 v)) := ⟨⟨hg.below bw, bw⟩, k.rd.below on.below hgw, k.own.below on.below gb1, by rw [on.size]; exact k.le⟩
      have e0 : IntKind.i64.wrap ((j : Int) + 1) = (j : Int) + 1 := by rw [IntKind.wrap_i64]; omega
      clear row pk k on bw hy
      go_wp2
      go_roundw
      case rel => exact ⟨j + 1, zs.set j v, by simp, by omega, by rw [List.length_set]; exact hzl, (fun x hx => (List.mem_or_eq_of_mem_set hx).elim (hzw x) (fun q => by rw [q]; exact u8_mk hv1)), row', pk', k'⟩
      case measure => simp [intOf]; omega

set_option maxRecDepth 100000 in
set_option maxHeartbeats 4000000 in
theorem parses_bad (A : Option Addr) (n c : Nat) (xs : List Int) (f t : Int) (w : World) (hg : Laid w) (hr : Rd .u8 w w.heap.size A n c xs) (hf : Ip f) (ht : Ip t) (hn : n ≤ 3000) (r1 e1 : Int) (hE : pE f t xs = (r1, e1)) (he1 : ¬ e1 = 0) : Calls Tryd.prog 3 #[.slice A n c, .int .u32 f, .int .u32 t] w fun e w' => e = .returned (.bool true) ∧ Below w.heap.size w w' := by
  have k0 := Kn.start hg
  have hcap := hr.cap
  have hmax := hr.max
  have c11 := Lib.hid (fun W A n c (q : Rd .u8 W W.heap.size A n c xs) => parse_no q hf ht hE he1)
  have c12 := Lib.hid (fun W A n c (q : Rd .u8 W W.heap.size A n c xs) => refParse_no q hf ht hE he1)
  clear hE hf ht
  go_enter Tryd.func3, Tryd.ntmps3
  go_wp2_with fail
  refine (alive_any _ k0.laid).mono ?_
  rintro ev w1 ⟨rfl, hb⟩
  have r0 := hr.below hb (Nat.le_refl _)
  replace k0 := k0.step hb
  clear hr hb
  go_wp2_with fail
  refine (own_any A n c w.heap.size xs _ r0 k0.below.size (by omega)).mono ?_
  rintro ev w2 ⟨A2, n2, c2, rfl, o2, hb⟩
  have k : KO w A n c A2 n2 c2 xs w2.heap.size w2 := ⟨k0.step hb, r0.below hb k0.below.size, o2.rd, Nat.le_refl _⟩
  have hw2 := k.kn.below.size
  clear hb r0 k0 o2
  go_wp2_with fail
  refine (c11.out _ _ _ _ k.own').mono ?_
  rintro ev w3 ⟨rfl, hb⟩
  have ba := alloc_below w3 (.cells (pkC zeroH none 0 0) 28)
  replace hb := hb.trans (ba.mono hb.size)
  have sp : Sp w3.heap.size zeroH none 0 [] (w3.alloc (.cells (pkC zeroH none 0 0) 28)) := Sp.new Rd.nil
  replace k := k.step hb
  clear hb ba
  go_wp2_with fail
  refine (c12.out _ _ _ _ k.rd').mono ?_
  rintro ev w4 ⟨hb, Af1, nf1, cf1, rfl, rf1, -⟩
  have ba : Below w4.heap.size w4 ((w4.alloc (.cells (pkC zeroH none 0 0) 33)).alloc (.cells (flC Af1 nf1 cf1 e1) 37)) := (alloc_below w4 _).alloc (by simp) _
  replace hb := hb.trans (ba.mono hb.size)
  have sq : Sq w4.heap.size (w4.heap.size + 1) zeroH none 0 0 [] Af1 nf1 cf1 e1 [r1] ((w4.alloc (.cells (pkC zeroH none 0 0) 33)).alloc (.cells (flC Af1 nf1 cf1 e1) 37)) := Sq.new Rd.nil rf1
  replace k := k.step hb
  replace sp := sp.step hb
  clear hb ba rf1 c11 c12
  generalize hgp : w3.heap.size = gp at *
  go_wp2_with fail
  replace k := k.step (below_drew _)
  replace sp := sp.step (below_drew _)
  replace sq := sq.step (below_drew _)
  skip
  generalize hgf : w4.heap.size + 1 = gf at *
  generalize w4.heap.size = gq at *
  refine wp_region_held_drew (S := fun w' => (KO w A n c A2 n2 c2 xs w2.heap.size w' ∧ Sp gp zeroH none 0 [] w' ∧ Sq gq gf zeroH none 0 0 [] Af1 nf1 cf1 e1 [r1] w')) (by kernel_rfl) ⟨k, sp, sq⟩ (fun hHeld => ?_)
  clear hHeld
  change wpAnyH _ _ _ _ _ _ _ _ (World.drew _)
  generalize World.drew _ = W7 at *
  have hHeld := And.intro k (And.intro sp sq)
  refine wpAnyH_at (i := 0) (some 34) (v := ?v0z9) rfl rfl (by kernel_rfl) (by kernel_rfl) (by kernel_rfl) (fun _ _ _ h => h) (Or.inl ⟨by rfl, ?y0z9⟩) (by assumption) ?r0z9
  case y0z9 =>
    intro w9 hSw
    clear hSw
    go_simp
    all_goals with_reducible rfl
  simp only [Act.put, List.setIfInBounds_toArray, List.set_cons_zero, List.set_cons_succ]
  refine wpAnyH_at (i := 1) (some 35) (v := ?v1z10) rfl rfl (by kernel_rfl) (by kernel_rfl) (by kernel_rfl) (fun _ _ _ h => h) (Or.inl ⟨by rfl, ?y1z10⟩) (by assumption) ?r1z10
  case y1z10 =>
    intro w9 hSw
    (obtain ⟨a0, a1⟩ := (show (KO w A n c A2 n2 c2 xs w2.heap.size w9 ∧ Sp gp zeroH none 0 [] w9 ∧ Sq gq gf zeroH none 0 0 [] Af1 nf1 cf1 e1 [r1] w9) from hSw).2.2.fault); clear hSw
    go_simp
    all_goals with_reducible rfl
  simp only [Act.put, List.setIfInBounds_toArray, List.set_cons_zero, List.set_cons_succ]
  refine wpAnyH_one (i := 2) (by kernel_rfl) rfl ?_
  go_wp2_with (go_at_call 11; refine (is_err Af1 nf1 cf1 r1 e1 _ k.kn.laid sq.fr he1).mono ?_; rintro ev V1 ⟨rfl, hb⟩)
  replace k := k.step hb
  replace sp := sp.step hb
  replace sq := sq.step hb
  clear hb hHeld
  have hHeld := And.intro k (And.intro sp sq)
  refine ⟨hHeld, ?_⟩
  try simp only [Act.put, List.setIfInBounds_toArray, List.set_cons_zero, List.set_cons_succ]
  refine wpAnyH_at (i := 3) (some 37) (v := ?v3z11) rfl rfl (by kernel_rfl) (by kernel_rfl) (by kernel_rfl) (fun _ _ _ h => h) (Or.inl ⟨by rfl, ?y3z11⟩) (by assumption) ?r3z11
  case y3z11 =>
    intro w9 hSw
    clear hSw
    go_simp
    all_goals with_reducible rfl
  simp only [Act.put, List.setIfInBounds_toArray, List.set_cons_zero, List.set_cons_succ]
  refine wpAnyH_at (i := 4) (some 38) (v := ?v4z12) rfl rfl (by kernel_rfl) (by kernel_rfl) (by kernel_rfl) (fun _ _ _ h => h) (Or.inl ⟨by rfl, ?y4z12⟩) (by assumption) ?r4z12
  case y4z12 =>
    intro w9 hSw
    clear hSw
    go_simp
    all_goals with_reducible rfl
  simp only [Act.put, List.setIfInBounds_toArray, List.set_cons_zero, List.set_cons_succ]
  refine wpAnyH_at (i := 5) (some 39) (v := ?v5z13) rfl rfl (by kernel_rfl) (by kernel_rfl) (by kernel_rfl) (fun _ _ _ h => h) (Or.inl ⟨by rfl, ?y5z13⟩) (by assumption) ?r5z13
  case y5z13 =>
    intro w9 hSw
    (obtain ⟨a0, a1, a2, a3⟩ := (show (KO w A n c A2 n2 c2 xs w2.heap.size w9 ∧ Sp gp zeroH none 0 [] w9 ∧ Sq gq gf zeroH none 0 0 [] Af1 nf1 cf1 e1 [r1] w9) from hSw).2.1.p.cells); clear hSw
    go_simp
    all_goals with_reducible rfl
  simp only [Act.put, List.setIfInBounds_toArray, List.set_cons_zero, List.set_cons_succ]
  refine wpAnyH_at (i := 7) (some 41) (v := ?v7z14) rfl rfl (by kernel_rfl) (by kernel_rfl) (by kernel_rfl) (fun _ _ _ h => h) (Or.inl ⟨by rfl, ?y7z14⟩) (by assumption) ?r7z14
  case y7z14 =>
    intro w9 hSw
    (obtain ⟨a0, a1, a2, a3⟩ := (show (KO w A n c A2 n2 c2 xs w2.heap.size w9 ∧ Sp gp zeroH none 0 [] w9 ∧ Sq gq gf zeroH none 0 0 [] Af1 nf1 cf1 e1 [r1] w9) from hSw).2.2.q.cells); clear hSw
    go_simp
    all_goals with_reducible rfl
  simp only [Act.put, List.setIfInBounds_toArray, List.set_cons_zero, List.set_cons_succ]
  refine wpAnyH_one (i := 6) (by kernel_rfl) rfl ?_
  go_wp2_with (go_at_call 13; refine (of_pk zeroH none 0 0 [] _ sp.r (by omega)).mono ?_; rintro ev V2 ⟨A3, n3, c3, rfl, o3, hb⟩)
  replace k := k.step hb
  replace sp := sp.step hb
  replace sq := sq.step hb
  clear hb hHeld
  have hHeld := And.intro k (And.intro sp sq)
  refine ⟨hHeld, ?_⟩
  try simp only [Act.put, List.setIfInBounds_toArray, List.set_cons_zero, List.set_cons_succ]
  refine wpAnyH_one (i := 8) (by kernel_rfl) rfl ?_
  have s8 := refSame_pk zeroH zeroH _ _ _ _ _ _ [] [] _ o3.rd sq.r
  rw [smB_self] at s8
  go_wp2_with (go_at_call 12; refine (s8).mono ?_; rintro ev V3 ⟨rfl, hb⟩)
  replace k := k.step hb
  replace sp := sp.step hb
  replace sq := sq.step hb
  clear s8 o3
  clear hb hHeld
  have hHeld := And.intro k (And.intro sp sq)
  refine ⟨hHeld, ?_⟩
  try simp only [Act.put, List.setIfInBounds_toArray, List.set_cons_zero, List.set_cons_succ]
  refine wpAnyH_at (i := 9) (some 43) (v := ?v9z15) rfl rfl (by kernel_rfl) (by kernel_rfl) (by kernel_rfl) (fun _ _ _ h => h) (Or.inl ⟨by rfl, ?y9z15⟩) (by assumption) ?r9z15
  case y9z15 =>
    intro w9 hSw
    clear hSw
    go_simp
    all_goals with_reducible rfl
  simp only [Act.put, List.setIfInBounds_toArray, List.set_cons_zero, List.set_cons_succ]
  refine wpAnyH_at (i := 10) (some 44) (v := ?v10z16) rfl rfl (by kernel_rfl) (by kernel_rfl) (by kernel_rfl) (fun _ _ _ h => h) (Or.inl ⟨by rfl, ?y10z16⟩) (by assumption) ?r10z16
  case y10z16 =>
    intro w9 hSw
    clear hSw
    go_simp
    all_goals with_reducible rfl
  simp only [Act.put, List.setIfInBounds_toArray, List.set_cons_zero, List.set_cons_succ]
  refine wpAnyH_done (by kernel_rfl) ?_ _
  clear hHeld sq
  go_wp2_with fail
  go_loopw [12] (fun i wr => i = .int .i64 0 ∧ PkAt wr gp 28 zeroH none 0 0 ∧ KO w A n c A2 n2 c2 xs w2.heap.size wr) (fun _ _ => 0)
  case atStart => exact ⟨rfl, sp.p, k⟩
  case round =>
    clear sp k
    obtain ⟨rfl, pk, k⟩ := hrel
    obtain ⟨x0, x1, x2, x3⟩ := pk.cells
    go_wp2_with fail
    refine (same_any _ _ _ _ _ _ xs _ _ _ k.own' k.rd').mono ?_
    rintro ev w8 ⟨rfl, hb⟩
    replace k := k.step hb
    clear x0 x1 x2 x3
    go_wp2
    go_ret
    exact ⟨rfl, k.kn.below⟩
theorem parses_law (A : Option Addr) (n c : Nat) (xs : List Int) (f t : Int) (w : World) (hg : Laid w) (hr : Rd .u8 w w.heap.size A n c xs) (hf : Ip f) (ht : Ip t) : Calls Tryd.prog 3 #[.slice A n c, .int .u32 f, .int .u32 t] w fun e w' => e = .returned (.bool true) ∧ Below w.heap.size w w' := by
  by_cases hn : 3000 < n
  · exact parses_far A n c f t w hg hn (Nat.le_trans hr.cap hr.max)
  · have hn' : n ≤ 3000 := by omega
    by_cases h : (pE f t xs).2 = 0
    · exact parses_good A n c xs f t w hg hr hf ht hn' h
    · obtain ⟨r, e, hE, he⟩ := pE_pair f t xs h
      exact parses_bad A n c xs f t w hg hr hf ht hn' r e hE he
end Go.Proofs.YtmgdfckhnjihpaaDoor
