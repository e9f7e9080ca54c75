/-
  The law TcpMakes: every Make and Has answers what the document says; what is made is parsed as it was, also the other way round.
-/
import Derived.Test.YtggnkmllbpgfoaaDoorTW
import Derived.Test.YtggnkmllbpgfoaaDoorTSum
namespace Go.Proofs.YtggnkmllbpgfoaaDoor
open Go.RowKit
set_option linter.unusedVariables false

/-- What the walk knows: the bytes. -/
structure KM (w : World) (A : Option Addr) (n c : Nat) (xs : List Int) (W : World) : Prop where
  kn : Kn w W
  rd : Rd .u8 W w.heap.size A n c xs
section
variable {w W V : World} {A : Option Addr} {n c : Nat} {xs : List Int}
theorem KM.step (q : KM w A n c xs W) (hb : Below W.heap.size W V) : KM w A n c xs V := ⟨q.kn.step hb, q.rd.below hb q.kn.below.size⟩
theorem KM.rd' (q : KM w A n c xs W) : Rd .u8 W W.heap.size A n c xs := q.rd.more q.kn.below.size
end
theorem makes_far (h : Hd) (so : Int) (A : Option Addr) (n c : Nat) (f t : Int) (w : World) (hn : 3000 < n) (hmax : n ≤ 9223372036854775807) : Calls Tryd.prog 4 #[.int .u16 h.src, .int .u16 h.dst, .int .u8 h.flags, .int .u8 so, .slice A n c, .int .u32 f, .int .u32 t] w fun e w' => e = .returned (.bool true) ∧ Below w.heap.size w w' := by
  go_enter Tryd.func4, Tryd.ntmps4
  go_wp2_with (go_at_call 5; refine (alive_any _).mono ?_; rintro ev w1 ⟨rfl, hb⟩)
  go_ret
  exact ⟨rfl, hb⟩

set_option maxRecDepth 100000 in
set_option maxHeartbeats 4000000 in
theorem makes_good (h : Hd) (so : Int) (A : Option Addr) (n c : Nat) (xs : List Int) (f t : Int) (w : World) (hg : Laid w) (hk : h.ok) (hr : Rd .u8 w w.heap.size A n c xs) (hf : Ip f) (ht : Ip t) (hn : n ≤ 3000) (hq : n ≤ 1460) : Calls Tryd.prog 4 #[.int .u16 h.src, .int .u16 h.dst, .int .u8 h.flags, .int .u8 so, .slice A n c, .int .u32 f, .int .u32 t] w fun e w' => e = .returned (.bool true) ∧ Below w.heap.size w w' := by
  have k0 := KM.mk (Kn.start hg) hr
  have hcap := hr.cap
  have hmax := hr.max
  obtain ⟨m, hm⟩ : ∃ m, 20 + n = m := ⟨_, rfl⟩
  obtain ⟨ys, hy⟩ : ∃ ys, mkR h f t xs = ys := ⟨_, rfl⟩
  have hxl := hr.len
  have hxw := hr.2.2.2.1
  have Hw : Hid (∀ x ∈ ys, (Lit.int .u8 x).wf = true) := Lib.hid (by rw [← hy]; exact mkR_wf hk hf ht hxw (by omega))
  have Hm : Hid (ys.length = m) := Lib.hid (by rw [← hy, mkR_size]; omega)
  have m1 : m ≤ 1480 := by omega
  have c16 := Lib.hid (fun W (q : Rd .u8 W W.heap.size A n c xs) => make_ok h A n c xs f t W hk q hf ht (by omega))
  have c17 := Lib.hid (fun W (q : Rd .u8 W W.heap.size A n c xs) => refMake_ok h A n c xs f t W hk q hf ht (by omega))
  have g := mk_good hk hf ht hxw (by omega : xs.length ≤ 1460)
  have gh := mk_hd (f := f) (t := t) (xs := xs) hk
  rw [hy] at c16 c17 g gh
  rw [hm] at c16
  have c7 := Lib.hid (fun W A n c (q : Rd .u8 W W.heap.size A n c ys) => parse_yes q hf ht (by rw [g.1]) gh)
  have c8 := Lib.hid (fun W A n c (q : Rd .u8 W W.heap.size A n c ys) => parse_yes q ht hf (by rw [g.2]) gh)
  have c18 : ∀ A n c W, Calls Tryd.prog 18 #[pkV h A n c, .int .u8 so] W fun e w' => e = .returned (.bool (bits .and .u8 h.flags so == so)) ∧ Below W.heap.size W w' := fun A n c W => has_any h A n c so W
  clear g gh hy hm hxl hxw hf ht hr hk
  go_enter Tryd.func4, Tryd.ntmps4
  go_wp2_with fail
  refine (alive_any _).mono ?_
  rintro ev w1 ⟨rfl, hb⟩
  have k := k0.step hb
  clear k0 hb
  go_wp2_with fail
  refine (c16.out _ k.rd').mono ?_
  rintro ev w3 ⟨gr, rfl, row1, -, hb⟩
  have ba := alloc_below w3 (.cells (pkC h (some ⟨gr, 0, none⟩) m m) 28)
  replace hb := hb.trans (ba.mono hb.size)
  have sp : Sp w3.heap.size h (some ⟨gr, 0, none⟩) m ys (w3.alloc (.cells (pkC h (some ⟨gr, 0, none⟩) m m) 28)) := Sp.new (row1.rdW Hm.out (by omega) Hw.out)
  replace k := k.step hb
  clear hb ba row1
  go_wp2_with fail
  refine (c17.out _ k.rd').mono ?_
  rintro ev w4 ⟨hb, D1, nd1, cd1, rfl, od1⟩
  have ba : Below w4.heap.size w4 ((w4.alloc (.cells (pkC h D1 nd1 cd1) 33)).alloc (.cells (flC none 0 0 0) 37)) := (alloc_below w4 _).alloc (by simp) _
  replace hb := hb.trans (ba.mono hb.size)
  have sq : Sq w4.heap.size (w4.heap.size + 1) h D1 nd1 cd1 ys none 0 0 0 [] ((w4.alloc (.cells (pkC h D1 nd1 cd1) 33)).alloc (.cells (flC none 0 0 0) 37)) := Sq.new od1.rd Rd.nil
  replace k := k.step hb
  replace sp := sp.step hb
  clear hb ba od1 c16 c17
  generalize w3.heap.size = gp at *
  go_wp2_with fail
  replace k := k.step (below_drew _)
  replace sp := sp.step (below_drew _)
  replace sq := sq.step (below_drew _)
  generalize w4.heap.size + 1 = gf at *
  generalize w4.heap.size = gq at *
  refine wp_region_held_drew (S := fun w' => (KM w A n c xs w' ∧ Sp gp h (some ⟨gr, 0, none⟩) m ys w' ∧ Sq gq gf h D1 nd1 cd1 ys none 0 0 0 [] w')) (by kernel_rfl) ⟨k, sp, sq⟩ (fun hHeld => ?_)
  clear hHeld
  change wpAnyH _ _ _ _ _ _ _ _ (World.drew _)
  generalize World.drew _ = W7 at *
  have hHeld := And.intro k (And.intro sp sq)
  refine wpAnyH_at (i := 0) (some 48) (v := ?v0z1) rfl rfl (by kernel_rfl) (by kernel_rfl) (by kernel_rfl) (fun _ _ _ h => h) (Or.inl ⟨by rfl, ?y0z1⟩) (by assumption) ?r0z1
  case y0z1 =>
    intro w9 hSw
    clear hSw
    go_simp
    all_goals with_reducible rfl
  simp only [Act.put, List.setIfInBounds_toArray, List.set_cons_zero, List.set_cons_succ]
  refine wpAnyH_at (i := 1) (some 49) (v := ?v1z2) rfl rfl (by kernel_rfl) (by kernel_rfl) (by kernel_rfl) (fun _ _ _ h => h) (Or.inl ⟨by rfl, ?y1z2⟩) (by assumption) ?r1z2
  case y1z2 =>
    intro w9 hSw
    (obtain ⟨a0, a1⟩ := (show (KM w A n c xs w9 ∧ Sp gp h (some ⟨gr, 0, none⟩) m ys w9 ∧ Sq gq gf h D1 nd1 cd1 ys none 0 0 0 [] w9) from hSw).2.2.fault); clear hSw
    go_simp
    all_goals with_reducible rfl
  simp only [Act.put, List.setIfInBounds_toArray, List.set_cons_zero, List.set_cons_succ]
  refine wpAnyH_one (i := 2) (by kernel_rfl) rfl ?_
  go_wp2_with (go_at_call 9; refine (is_nil none 0 0 _).mono ?_; rintro ev V1 ⟨rfl, hb⟩)
  replace k := k.step hb
  replace sp := sp.step hb
  replace sq := sq.step hb
  clear hb hHeld
  have hHeld := And.intro k (And.intro sp sq)
  refine ⟨hHeld, ?_⟩
  try simp only [Act.put, List.setIfInBounds_toArray, List.set_cons_zero, List.set_cons_succ]
  refine wpAnyH_at (i := 3) (some 51) (v := ?v3z3) rfl rfl (by kernel_rfl) (by kernel_rfl) (by kernel_rfl) (fun _ _ _ h => h) (Or.inl ⟨by rfl, ?y3z3⟩) (by assumption) ?r3z3
  case y3z3 =>
    intro w9 hSw
    clear hSw
    go_simp
    all_goals with_reducible rfl
  simp only [Act.put, List.setIfInBounds_toArray, List.set_cons_zero, List.set_cons_succ]
  refine wpAnyH_at (i := 4) (some 52) (v := ?v4z4) rfl rfl (by kernel_rfl) (by kernel_rfl) (by kernel_rfl) (fun _ _ _ h => h) (Or.inl ⟨by rfl, ?y4z4⟩) (by assumption) ?r4z4
  case y4z4 =>
    intro w9 hSw
    clear hSw
    go_simp
    all_goals with_reducible rfl
  simp only [Act.put, List.setIfInBounds_toArray, List.set_cons_zero, List.set_cons_succ]
  refine wpAnyH_at (i := 5) (some 53) (v := ?v5z5) rfl rfl (by kernel_rfl) (by kernel_rfl) (by kernel_rfl) (fun _ _ _ h => h) (Or.inl ⟨by rfl, ?y5z5⟩) (by assumption) ?r5z5
  case y5z5 =>
    intro w9 hSw
    (obtain ⟨a0, a1, a2, a3⟩ := (show (KM w A n c xs w9 ∧ Sp gp h (some ⟨gr, 0, none⟩) m ys w9 ∧ Sq gq gf h D1 nd1 cd1 ys none 0 0 0 [] w9) from hSw).2.1.p.cells); clear hSw
    go_simp
    all_goals with_reducible rfl
  simp only [Act.put, List.setIfInBounds_toArray, List.set_cons_zero, List.set_cons_succ]
  refine wpAnyH_at (i := 7) (some 55) (v := ?v7z6) rfl rfl (by kernel_rfl) (by kernel_rfl) (by kernel_rfl) (fun _ _ _ h => h) (Or.inl ⟨by rfl, ?y7z6⟩) (by assumption) ?r7z6
  case y7z6 =>
    intro w9 hSw
    (obtain ⟨a0, a1, a2, a3⟩ := (show (KM w A n c xs w9 ∧ Sp gp h (some ⟨gr, 0, none⟩) m ys w9 ∧ Sq gq gf h D1 nd1 cd1 ys none 0 0 0 [] w9) from hSw).2.2.q.cells); clear hSw
    go_simp
    all_goals with_reducible rfl
  simp only [Act.put, List.setIfInBounds_toArray, List.set_cons_zero, List.set_cons_succ]
  refine wpAnyH_one (i := 6) (by kernel_rfl) rfl ?_
  go_wp2_with (go_at_call 11; refine (of_pk h (some ⟨gr, 0, none⟩) m m ys _ sp.r (by omega)).mono ?_; rintro ev V2 ⟨A3, n3, c3, rfl, o3, hb⟩)
  replace k := k.step hb
  replace sp := sp.step hb
  replace sq := sq.step hb
  clear hb hHeld
  have hHeld := And.intro k (And.intro sp sq)
  refine ⟨hHeld, ?_⟩
  try simp only [Act.put, List.setIfInBounds_toArray, List.set_cons_zero, List.set_cons_succ]
  refine wpAnyH_one (i := 8) (by kernel_rfl) rfl ?_
  have s8 := refSame_pk h h _ _ _ _ _ _ ys ys _ o3.rd sq.r
  rw [smB_self] at s8
  go_wp2_with (go_at_call 10; refine (s8).mono ?_; rintro ev V3 ⟨rfl, hb⟩)
  replace k := k.step hb
  replace sp := sp.step hb
  replace sq := sq.step hb
  clear s8 o3
  clear hb hHeld
  have hHeld := And.intro k (And.intro sp sq)
  refine ⟨hHeld, ?_⟩
  try simp only [Act.put, List.setIfInBounds_toArray, List.set_cons_zero, List.set_cons_succ]
  refine wpAnyH_at (i := 9) (some 57) (v := ?v9z7) rfl rfl (by kernel_rfl) (by kernel_rfl) (by kernel_rfl) (fun _ _ _ h => h) (Or.inl ⟨by rfl, ?y9z7⟩) (by assumption) ?r9z7
  case y9z7 =>
    intro w9 hSw
    clear hSw
    go_simp
    all_goals with_reducible rfl
  simp only [Act.put, List.setIfInBounds_toArray, List.set_cons_zero, List.set_cons_succ]
  refine wpAnyH_at (i := 10) (some 58) (v := ?v10z8) rfl rfl (by kernel_rfl) (by kernel_rfl) (by kernel_rfl) (fun _ _ _ h => h) (Or.inl ⟨by rfl, ?y10z8⟩) (by assumption) ?r10z8
  case y10z8 =>
    intro w9 hSw
    clear hSw
    go_simp
    all_goals with_reducible rfl
  simp only [Act.put, List.setIfInBounds_toArray, List.set_cons_zero, List.set_cons_succ]
  refine wpAnyH_done (by kernel_rfl) ?_ _
  clear hHeld
  obtain ⟨x0, x1, x2, x3⟩ := sp.p.cells
  go_wp2_with fail
  refine (c7.out _ _ _ _ sp.r).mono ?_
  rintro ev w5 ⟨g5, rfl, row5, -, hb⟩
  have ba := alloc_below w5 (.cells (pkC h (some ⟨g5, 0, none⟩) m m) 28)
  replace hb := hb.trans (ba.mono hb.size)
  have sy : Sp w5.heap.size h (some ⟨g5, 0, none⟩) m ys (w5.alloc (.cells (pkC h (some ⟨g5, 0, none⟩) m m) 28)) := Sp.new (row5.rdW Hm.out (by omega) Hw.out)
  replace k := k.step hb
  replace sp := sp.step hb
  replace sq := sq.step hb
  clear hb ba row5 x0 x1 x2 x3
  obtain ⟨x0, x1, x2, x3⟩ := sp.p.cells
  go_wp2_with fail
  refine (c8.out _ _ _ _ sp.r).mono ?_
  rintro ev w6 ⟨g6, rfl, row6, -, hb⟩
  have ba := alloc_below w6 (.cells (pkC h (some ⟨g6, 0, none⟩) m m) 28)
  replace hb := hb.trans (ba.mono hb.size)
  have sz : Sp w6.heap.size h (some ⟨g6, 0, none⟩) m ys (w6.alloc (.cells (pkC h (some ⟨g6, 0, none⟩) m m) 28)) := Sp.new (row6.rdW Hm.out (by omega) Hw.out)
  replace k := k.step hb
  replace sp := sp.step hb
  replace sq := sq.step hb
  replace sy := sy.step hb
  clear hb ba row6 x0 x1 x2 x3 c7 c8
  generalize w5.heap.size = gy at *
  go_wp2_with fail
  replace k := k.step (below_drew _)
  replace sp := sp.step (below_drew _)
  replace sq := sq.step (below_drew _)
  replace sy := sy.step (below_drew _)
  replace sz := sz.step (below_drew _)
  generalize w6.heap.size = gz at *
  refine wp_region_held_drew (S := fun w' => (KM w A n c xs w' ∧ Sp gp h (some ⟨gr, 0, none⟩) m ys w' ∧ Sq gq gf h D1 nd1 cd1 ys none 0 0 0 [] w' ∧ Sp gy h (some ⟨g5, 0, none⟩) m ys w' ∧ Sp gz h (some ⟨g6, 0, none⟩) m ys w')) (by kernel_rfl) ⟨k, sp, sq, sy, sz⟩ (fun hHeld => ?_)
  clear hHeld
  change wpAnyH _ _ _ _ _ _ _ _ (World.drew _)
  generalize World.drew _ = W8 at *
  have hHeld := And.intro k (And.intro sp (And.intro sq (And.intro sy sz)))
  refine wpAnyH_at (i := 0) (some 81) (v := ?v0z9) rfl rfl (by kernel_rfl) (by kernel_rfl) (by kernel_rfl) (fun _ _ _ h => h) (Or.inl ⟨by rfl, ?y0z9⟩) (by assumption) ?r0z9
  case y0z9 =>
    intro w9 hSw
    clear hSw
    go_simp
    all_goals with_reducible rfl
  simp only [Act.put, List.setIfInBounds_toArray, List.set_cons_zero, List.set_cons_succ]
  refine wpAnyH_at (i := 1) (some 82) (v := ?v1z10) rfl rfl (by kernel_rfl) (by kernel_rfl) (by kernel_rfl) (fun _ _ _ h => h) (Or.inl ⟨by rfl, ?y1z10⟩) (by assumption) ?r1z10
  case y1z10 =>
    intro w9 hSw
    clear hSw
    go_simp
    all_goals with_reducible rfl
  simp only [Act.put, List.setIfInBounds_toArray, List.set_cons_zero, List.set_cons_succ]
  refine wpAnyH_at (i := 2) (some 83) (v := ?v2z11) rfl rfl (by kernel_rfl) (by kernel_rfl) (by kernel_rfl) (fun _ _ _ h => h) (Or.inl ⟨by rfl, ?y2z11⟩) (by assumption) ?r2z11
  case y2z11 =>
    intro w9 hSw
    clear hSw
    go_simp
    all_goals with_reducible rfl
  simp only [Act.put, List.setIfInBounds_toArray, List.set_cons_zero, List.set_cons_succ]
  refine wpAnyH_at (i := 3) (some 84) (v := ?v3z12) rfl rfl (by kernel_rfl) (by kernel_rfl) (by kernel_rfl) (fun _ _ _ h => h) (Or.inl ⟨by rfl, ?y3z12⟩) (by assumption) ?r3z12
  case y3z12 =>
    intro w9 hSw
    clear hSw
    go_simp
    all_goals with_reducible rfl
  simp only [Act.put, List.setIfInBounds_toArray, List.set_cons_zero, List.set_cons_succ]
  refine wpAnyH_at (i := 4) (some 85) (v := ?v4z13) rfl rfl (by kernel_rfl) (by kernel_rfl) (by kernel_rfl) (fun _ _ _ h => h) (Or.inl ⟨by rfl, ?y4z13⟩) (by assumption) ?r4z13
  case y4z13 =>
    intro w9 hSw
    clear hSw
    go_simp
    all_goals with_reducible rfl
  simp only [Act.put, List.setIfInBounds_toArray, List.set_cons_zero, List.set_cons_succ]
  refine wpAnyH_at (i := 5) (some 86) (v := ?v5z14) rfl rfl (by kernel_rfl) (by kernel_rfl) (by kernel_rfl) (fun _ _ _ h => h) (Or.inl ⟨by rfl, ?y5z14⟩) (by assumption) ?r5z14
  case y5z14 =>
    intro w9 hSw
    clear hSw
    go_simp
    all_goals with_reducible rfl
  simp only [Act.put, List.setIfInBounds_toArray, List.set_cons_zero, List.set_cons_succ]
  refine wpAnyH_at (i := 6) (some 87) (v := ?v6z15) rfl rfl (by kernel_rfl) (by kernel_rfl) (by kernel_rfl) (fun _ _ _ h => h) (Or.inl ⟨by rfl, ?y6z15⟩) (by assumption) ?r6z15
  case y6z15 =>
    intro w9 hSw
    clear hSw
    go_simp
    all_goals with_reducible rfl
  simp only [Act.put, List.setIfInBounds_toArray, List.set_cons_zero, List.set_cons_succ]
  refine wpAnyH_at (i := 7) (some 88) (v := ?v7z16) rfl rfl (by kernel_rfl) (by kernel_rfl) (by kernel_rfl) (fun _ _ _ h => h) (Or.inl ⟨by rfl, ?y7z16⟩) (by assumption) ?r7z16
  case y7z16 =>
    intro w9 hSw
    (obtain ⟨a0, a1, a2, a3⟩ := (show (KM w A n c xs w9 ∧ Sp gp h (some ⟨gr, 0, none⟩) m ys w9 ∧ Sq gq gf h D1 nd1 cd1 ys none 0 0 0 [] w9 ∧ Sp gy h (some ⟨g5, 0, none⟩) m ys w9 ∧ Sp gz h (some ⟨g6, 0, none⟩) m ys w9) from hSw).2.2.2.1.p.cells); clear hSw
    go_simp
    all_goals with_reducible rfl
  simp only [Act.put, List.setIfInBounds_toArray, List.set_cons_zero, List.set_cons_succ]
  refine wpAnyH_at (i := 9) (some 90) (v := ?v9z17) rfl rfl (by kernel_rfl) (by kernel_rfl) (by kernel_rfl) (fun _ _ _ h => h) (Or.inl ⟨by rfl, ?y9z17⟩) (by assumption) ?r9z17
  case y9z17 =>
    intro w9 hSw
    (obtain ⟨a0, a1, a2, a3⟩ := (show (KM w A n c xs w9 ∧ Sp gp h (some ⟨gr, 0, none⟩) m ys w9 ∧ Sq gq gf h D1 nd1 cd1 ys none 0 0 0 [] w9 ∧ Sp gy h (some ⟨g5, 0, none⟩) m ys w9 ∧ Sp gz h (some ⟨g6, 0, none⟩) m ys w9) from hSw).2.2.1.q.cells); clear hSw
    go_simp
    all_goals with_reducible rfl
  simp only [Act.put, List.setIfInBounds_toArray, List.set_cons_zero, List.set_cons_succ]
  refine wpAnyH_one (i := 8) (by kernel_rfl) rfl ?_
  go_wp2_with (go_at_call 11; refine (of_pk h (some ⟨g5, 0, none⟩) m m ys _ sy.r (by omega)).mono ?_; rintro ev V4 ⟨A4, n4, c4, rfl, o4, hb⟩)
  replace k := k.step hb
  replace sp := sp.step hb
  replace sq := sq.step hb
  replace sy := sy.step hb
  replace sz := sz.step hb
  clear hb hHeld
  have hHeld := And.intro k (And.intro sp (And.intro sq (And.intro sy sz)))
  refine ⟨hHeld, ?_⟩
  try simp only [Act.put, List.setIfInBounds_toArray, List.set_cons_zero, List.set_cons_succ]
  refine wpAnyH_one (i := 10) (by kernel_rfl) rfl ?_
  have s8 := refSame_pk h h _ _ _ _ _ _ ys ys _ o4.rd sq.r
  rw [smB_self] at s8
  go_wp2_with (go_at_call 10; refine (s8).mono ?_; rintro ev V5 ⟨rfl, hb⟩)
  replace k := k.step hb
  replace sp := sp.step hb
  replace sq := sq.step hb
  replace sy := sy.step hb
  replace sz := sz.step hb
  clear s8 o4
  clear hb hHeld
  have hHeld := And.intro k (And.intro sp (And.intro sq (And.intro sy sz)))
  refine ⟨hHeld, ?_⟩
  try simp only [Act.put, List.setIfInBounds_toArray, List.set_cons_zero, List.set_cons_succ]
  refine wpAnyH_at (i := 11) (some 92) (v := ?v11z18) rfl rfl (by kernel_rfl) (by kernel_rfl) (by kernel_rfl) (fun _ _ _ h => h) (Or.inl ⟨by rfl, ?y11z18⟩) (by assumption) ?r11z18
  case y11z18 =>
    intro w9 hSw
    clear hSw
    go_simp
    all_goals with_reducible rfl
  simp only [Act.put, List.setIfInBounds_toArray, List.set_cons_zero, List.set_cons_succ]
  refine wpAnyH_at (i := 12) (some 93) (v := ?v12z19) rfl rfl (by kernel_rfl) (by kernel_rfl) (by kernel_rfl) (fun _ _ _ h => h) (Or.inl ⟨by rfl, ?y12z19⟩) (by assumption) ?r12z19
  case y12z19 =>
    intro w9 hSw
    clear hSw
    go_simp
    all_goals with_reducible rfl
  simp only [Act.put, List.setIfInBounds_toArray, List.set_cons_zero, List.set_cons_succ]
  refine wpAnyH_at (i := 13) (some 94) (v := ?v13z20) rfl rfl (by kernel_rfl) (by kernel_rfl) (by kernel_rfl) (fun _ _ _ h => h) (Or.inl ⟨by rfl, ?y13z20⟩) (by assumption) ?r13z20
  case y13z20 =>
    intro w9 hSw
    (obtain ⟨a0, a1, a2, a3⟩ := (show (KM w A n c xs w9 ∧ Sp gp h (some ⟨gr, 0, none⟩) m ys w9 ∧ Sq gq gf h D1 nd1 cd1 ys none 0 0 0 [] w9 ∧ Sp gy h (some ⟨g5, 0, none⟩) m ys w9 ∧ Sp gz h (some ⟨g6, 0, none⟩) m ys w9) from hSw).2.2.2.2.p.cells); clear hSw
    go_simp
    all_goals with_reducible rfl
  simp only [Act.put, List.setIfInBounds_toArray, List.set_cons_zero, List.set_cons_succ]
  refine wpAnyH_at (i := 15) (some 96) (v := ?v15z21) rfl rfl (by kernel_rfl) (by kernel_rfl) (by kernel_rfl) (fun _ _ _ h => h) (Or.inl ⟨by rfl, ?y15z21⟩) (by assumption) ?r15z21
  case y15z21 =>
    intro w9 hSw
    (obtain ⟨a0, a1, a2, a3⟩ := (show (KM w A n c xs w9 ∧ Sp gp h (some ⟨gr, 0, none⟩) m ys w9 ∧ Sq gq gf h D1 nd1 cd1 ys none 0 0 0 [] w9 ∧ Sp gy h (some ⟨g5, 0, none⟩) m ys w9 ∧ Sp gz h (some ⟨g6, 0, none⟩) m ys w9) from hSw).2.2.1.q.cells); clear hSw
    go_simp
    all_goals with_reducible rfl
  simp only [Act.put, List.setIfInBounds_toArray, List.set_cons_zero, List.set_cons_succ]
  refine wpAnyH_one (i := 14) (by kernel_rfl) rfl ?_
  go_wp2_with (go_at_call 11; refine (of_pk h (some ⟨g6, 0, none⟩) m m ys _ sz.r (by omega)).mono ?_; rintro ev V6 ⟨A6, n6, c6, rfl, o6, hb⟩)
  replace k := k.step hb
  replace sp := sp.step hb
  replace sq := sq.step hb
  replace sy := sy.step hb
  replace sz := sz.step hb
  clear hb hHeld
  have hHeld := And.intro k (And.intro sp (And.intro sq (And.intro sy sz)))
  refine ⟨hHeld, ?_⟩
  try simp only [Act.put, List.setIfInBounds_toArray, List.set_cons_zero, List.set_cons_succ]
  refine wpAnyH_one (i := 16) (by kernel_rfl) rfl ?_
  have s8 := refSame_pk h h _ _ _ _ _ _ ys ys _ o6.rd sq.r
  rw [smB_self] at s8
  go_wp2_with (go_at_call 10; refine (s8).mono ?_; rintro ev V7 ⟨rfl, hb⟩)
  replace k := k.step hb
  replace sp := sp.step hb
  replace sq := sq.step hb
  replace sy := sy.step hb
  replace sz := sz.step hb
  clear s8 o6
  clear hb hHeld
  have hHeld := And.intro k (And.intro sp (And.intro sq (And.intro sy sz)))
  refine ⟨hHeld, ?_⟩
  try simp only [Act.put, List.setIfInBounds_toArray, List.set_cons_zero, List.set_cons_succ]
  refine wpAnyH_at (i := 17) (some 98) (v := ?v17z22) rfl rfl (by kernel_rfl) (by kernel_rfl) (by kernel_rfl) (fun _ _ _ h => h) (Or.inl ⟨by rfl, ?y17z22⟩) (by assumption) ?r17z22
  case y17z22 =>
    intro w9 hSw
    clear hSw
    go_simp
    all_goals with_reducible rfl
  simp only [Act.put, List.setIfInBounds_toArray, List.set_cons_zero, List.set_cons_succ]
  refine wpAnyH_at (i := 18) (some 99) (v := ?v18z23) rfl rfl (by kernel_rfl) (by kernel_rfl) (by kernel_rfl) (fun _ _ _ h => h) (Or.inl ⟨by rfl, ?y18z23⟩) (by assumption) ?r18z23
  case y18z23 =>
    intro w9 hSw
    clear hSw
    go_simp
    all_goals with_reducible rfl
  simp only [Act.put, List.setIfInBounds_toArray, List.set_cons_zero, List.set_cons_succ]
  refine wpAnyH_at (i := 19) (some 100) (v := ?v19z24) rfl rfl (by kernel_rfl) (by kernel_rfl) (by kernel_rfl) (fun _ _ _ h => h) (Or.inl ⟨by rfl, ?y19z24⟩) (by assumption) ?r19z24
  case y19z24 =>
    intro w9 hSw
    (obtain ⟨a0, a1, a2, a3⟩ := (show (KM w A n c xs w9 ∧ Sp gp h (some ⟨gr, 0, none⟩) m ys w9 ∧ Sq gq gf h D1 nd1 cd1 ys none 0 0 0 [] w9 ∧ Sp gy h (some ⟨g5, 0, none⟩) m ys w9 ∧ Sp gz h (some ⟨g6, 0, none⟩) m ys w9) from hSw).2.1.p.cells); clear hSw
    go_simp
    all_goals with_reducible rfl
  simp only [Act.put, List.setIfInBounds_toArray, List.set_cons_zero, List.set_cons_succ]
  refine wpAnyH_at (i := 20) (some 101) (v := ?v20z25) rfl rfl (by kernel_rfl) (by kernel_rfl) (by kernel_rfl) (fun _ _ _ h => h) (Or.inl ⟨by rfl, ?y20z25⟩) (by assumption) ?r20z25
  case y20z25 =>
    intro w9 hSw
    clear hSw
    go_simp
    all_goals with_reducible rfl
  simp only [Act.put, List.setIfInBounds_toArray, List.set_cons_zero, List.set_cons_succ]
  refine wpAnyH_at (i := 22) (some 103) (v := ?v22z26) rfl rfl (by kernel_rfl) (by kernel_rfl) (by kernel_rfl) (fun _ _ _ h => h) (Or.inl ⟨by rfl, ?y22z26⟩) (by assumption) ?r22z26
  case y22z26 =>
    intro w9 hSw
    clear hSw
    go_simp
    all_goals with_reducible rfl
  simp only [Act.put, List.setIfInBounds_toArray, List.set_cons_zero, List.set_cons_succ]
  refine wpAnyH_at (i := 23) (some 104) (v := ?v23z27) rfl rfl (by kernel_rfl) (by kernel_rfl) (by kernel_rfl) (fun _ _ _ h => h) (Or.inl ⟨by rfl, ?y23z27⟩) (by assumption) ?r23z27
  case y23z27 =>
    intro w9 hSw
    clear hSw
    go_simp
    all_goals with_reducible rfl
  simp only [Act.put, List.setIfInBounds_toArray, List.set_cons_zero, List.set_cons_succ]
  refine wpAnyH_at (i := 24) (some 105) (v := ?v24z28) rfl rfl (by kernel_rfl) (by kernel_rfl) (by kernel_rfl) (fun _ _ _ h => h) (Or.inl ⟨by rfl, ?y24z28⟩) (by assumption) ?r24z28
  case y24z28 =>
    intro w9 hSw
    clear hSw
    go_simp
    all_goals with_reducible rfl
  simp only [Act.put, List.setIfInBounds_toArray, List.set_cons_zero, List.set_cons_succ]
  refine wpAnyH_at (i := 25) (some 106) (v := ?v25z29) rfl rfl (by kernel_rfl) (by kernel_rfl) (by kernel_rfl) (fun _ _ _ h => h) (Or.inl ⟨by rfl, ?y25z29⟩) (by assumption) ?r25z29
  case y25z29 =>
    intro w9 hSw
    clear hSw
    go_simp
    all_goals with_reducible rfl
  simp only [Act.put, List.setIfInBounds_toArray, List.set_cons_zero, List.set_cons_succ]
  refine wpAnyH_at (i := 26) (some 107) (v := ?v26z30) rfl rfl (by kernel_rfl) (by kernel_rfl) (by kernel_rfl) (fun _ _ _ h => h) (Or.inl ⟨by rfl, ?y26z30⟩) (by assumption) ?r26z30
  case y26z30 =>
    intro w9 hSw
    clear hSw
    go_simp
    all_goals with_reducible rfl
  simp only [Act.put, List.setIfInBounds_toArray, List.set_cons_zero, List.set_cons_succ]
  refine wpAnyH_one (i := 21) (by kernel_rfl) rfl ?_
  go_wp2_with (go_at_call 18; refine (c18 _ _ _ _).mono ?_; rintro ev V8 ⟨rfl, hb⟩)
  replace k := k.step hb
  replace sp := sp.step hb
  replace sq := sq.step hb
  replace sy := sy.step hb
  replace sz := sz.step hb
  clear c18
  clear hb hHeld
  have hHeld := And.intro k (And.intro sp (And.intro sq (And.intro sy sz)))
  refine ⟨hHeld, ?_⟩
  try simp only [Act.put, List.setIfInBounds_toArray, List.set_cons_zero, List.set_cons_succ]
  refine wpAnyH_at (i := 27) (some 108) (v := ?v27z31) rfl rfl (by kernel_rfl) (by kernel_rfl) (by kernel_rfl) (fun _ _ _ h => h) (Or.inl ⟨by rfl, ?y27z31⟩) (by assumption) ?r27z31
  case y27z31 =>
    intro w9 hSw
    clear hSw
    go_simp
    all_goals with_reducible rfl
  simp only [Act.put, List.setIfInBounds_toArray, List.set_cons_zero, List.set_cons_succ]
  refine wpAnyH_at (i := 28) (some 109) (v := ?v28z32) rfl rfl (by kernel_rfl) (by kernel_rfl) (by kernel_rfl) (fun _ _ _ h => h) (Or.inl ⟨by rfl, ?y28z32⟩) (by assumption) ?r28z32
  case y28z32 =>
    intro w9 hSw
    clear hSw
    go_simp
    all_goals with_reducible rfl
  simp only [Act.put, List.setIfInBounds_toArray, List.set_cons_zero, List.set_cons_succ]
  refine wpAnyH_at (i := 29) (some 14) (v := ?v29z33) rfl rfl (by kernel_rfl) (by kernel_rfl) (by kernel_rfl) (fun _ _ _ h => h) (Or.inl ⟨by rfl, ?y29z33⟩) (by assumption) ?r29z33
  case y29z33 =>
    intro w9 hSw
    clear hSw
    go_simp
    all_goals with_reducible rfl
  simp only [Act.put, List.setIfInBounds_toArray, List.set_cons_zero, List.set_cons_succ]
  refine wpAnyH_done (by kernel_rfl) ?_ _
  go_wp2
  go_ret
  exact ⟨rfl, k.kn.below⟩

set_option maxRecDepth 100000 in
set_option maxHeartbeats 4000000 in
theorem makes_bad (h : Hd) (so : Int) (A : Option Addr) (n c : Nat) (xs : List Int) (f t : Int) (w : World) (hg : Laid w) (hk : h.ok) (hr : Rd .u8 w w.heap.size A n c xs) (hf : Ip f) (ht : Ip t) (hn : n ≤ 3000) (hq : 1460 < n) : Calls Tryd.prog 4 #[.int .u16 h.src, .int .u16 h.dst, .int .u8 h.flags, .int .u8 so, .slice A n c, .int .u32 f, .int .u32 t] w fun e w' => e = .returned (.bool true) ∧ Below w.heap.size w w' := by
  have k0 := KM.mk (Kn.start hg) hr
  have hcap := hr.cap
  have hmax := hr.max
  have c16 := Lib.hid (fun W => make_far h A n c f t W hq (by omega))
  have c17 := Lib.hid (fun W (q : Rd .u8 W W.heap.size A n c xs) => refMake_far h A n c xs f t W q hq)
  clear hf ht hr hk
  go_enter Tryd.func4, Tryd.ntmps4
  go_wp2_with fail
  refine (alive_any _).mono ?_
  rintro ev w1 ⟨rfl, hb⟩
  have k := k0.step hb
  clear k0 hb
  go_wp2_with fail
  refine (c16.out _).mono ?_
  rintro ev w3 ⟨rfl, hb⟩
  have ba := alloc_below w3 (.cells (pkC zeroH none 0 0) 28)
  replace hb := hb.trans (ba.mono hb.size)
  have sp : Sp w3.heap.size zeroH none 0 [] (w3.alloc (.cells (pkC zeroH none 0 0) 28)) := Sp.new Rd.nil
  replace k := k.step hb
  clear hb ba
  go_wp2_with fail
  refine (c17.out _ k.rd').mono ?_
  rintro ev w4 ⟨hb, Af1, nf1, cf1, rfl, rf1, -⟩
  have ba : Below w4.heap.size w4 ((w4.alloc (.cells (pkC zeroH none 0 0) 33)).alloc (.cells (flC Af1 nf1 cf1 11) 37)) := (alloc_below w4 _).alloc (by simp) _
  replace hb := hb.trans (ba.mono hb.size)
  have sq : Sq w4.heap.size (w4.heap.size + 1) zeroH none 0 0 [] Af1 nf1 cf1 11 [1] ((w4.alloc (.cells (pkC zeroH none 0 0) 33)).alloc (.cells (flC Af1 nf1 cf1 11) 37)) := Sq.new Rd.nil rf1
  replace k := k.step hb
  replace sp := sp.step hb
  clear hb ba rf1 c16 c17
  generalize w3.heap.size = gp at *
  go_wp2_with fail
  replace k := k.step (below_drew _)
  replace sp := sp.step (below_drew _)
  replace sq := sq.step (below_drew _)
  generalize w4.heap.size + 1 = gf at *
  generalize w4.heap.size = gq at *
  refine wp_region_held_drew (S := fun w' => (KM w A n c xs w' ∧ Sp gp zeroH none 0 [] w' ∧ Sq gq gf zeroH none 0 0 [] Af1 nf1 cf1 11 [1] w')) (by kernel_rfl) ⟨k, sp, sq⟩ (fun hHeld => ?_)
  clear hHeld
  change wpAnyH _ _ _ _ _ _ _ _ (World.drew _)
  generalize World.drew _ = W7 at *
  have hHeld := And.intro k (And.intro sp sq)
  refine wpAnyH_at (i := 0) (some 48) (v := ?v0z34) rfl rfl (by kernel_rfl) (by kernel_rfl) (by kernel_rfl) (fun _ _ _ h => h) (Or.inl ⟨by rfl, ?y0z34⟩) (by assumption) ?r0z34
  case y0z34 =>
    intro w9 hSw
    clear hSw
    go_simp
    all_goals with_reducible rfl
  simp only [Act.put, List.setIfInBounds_toArray, List.set_cons_zero, List.set_cons_succ]
  refine wpAnyH_at (i := 1) (some 49) (v := ?v1z35) rfl rfl (by kernel_rfl) (by kernel_rfl) (by kernel_rfl) (fun _ _ _ h => h) (Or.inl ⟨by rfl, ?y1z35⟩) (by assumption) ?r1z35
  case y1z35 =>
    intro w9 hSw
    (obtain ⟨a0, a1⟩ := (show (KM w A n c xs w9 ∧ Sp gp zeroH none 0 [] w9 ∧ Sq gq gf zeroH none 0 0 [] Af1 nf1 cf1 11 [1] w9) from hSw).2.2.fault); clear hSw
    go_simp
    all_goals with_reducible rfl
  simp only [Act.put, List.setIfInBounds_toArray, List.set_cons_zero, List.set_cons_succ]
  refine wpAnyH_one (i := 2) (by kernel_rfl) rfl ?_
  go_wp2_with (go_at_call 9; refine (is_err Af1 nf1 cf1 1 11 _ k.kn.laid sq.fr (by decide)).mono ?_; rintro ev V1 ⟨rfl, hb⟩)
  replace k := k.step hb
  replace sp := sp.step hb
  replace sq := sq.step hb
  clear hb hHeld
  have hHeld := And.intro k (And.intro sp sq)
  refine ⟨hHeld, ?_⟩
  try simp only [Act.put, List.setIfInBounds_toArray, List.set_cons_zero, List.set_cons_succ]
  refine wpAnyH_at (i := 3) (some 51) (v := ?v3z36) rfl rfl (by kernel_rfl) (by kernel_rfl) (by kernel_rfl) (fun _ _ _ h => h) (Or.inl ⟨by rfl, ?y3z36⟩) (by assumption) ?r3z36
  case y3z36 =>
    intro w9 hSw
    clear hSw
    go_simp
    all_goals with_reducible rfl
  simp only [Act.put, List.setIfInBounds_toArray, List.set_cons_zero, List.set_cons_succ]
  refine wpAnyH_at (i := 4) (some 52) (v := ?v4z37) rfl rfl (by kernel_rfl) (by kernel_rfl) (by kernel_rfl) (fun _ _ _ h => h) (Or.inl ⟨by rfl, ?y4z37⟩) (by assumption) ?r4z37
  case y4z37 =>
    intro w9 hSw
    clear hSw
    go_simp
    all_goals with_reducible rfl
  simp only [Act.put, List.setIfInBounds_toArray, List.set_cons_zero, List.set_cons_succ]
  refine wpAnyH_at (i := 5) (some 53) (v := ?v5z38) rfl rfl (by kernel_rfl) (by kernel_rfl) (by kernel_rfl) (fun _ _ _ h => h) (Or.inl ⟨by rfl, ?y5z38⟩) (by assumption) ?r5z38
  case y5z38 =>
    intro w9 hSw
    (obtain ⟨a0, a1, a2, a3⟩ := (show (KM w A n c xs w9 ∧ Sp gp zeroH none 0 [] w9 ∧ Sq gq gf zeroH none 0 0 [] Af1 nf1 cf1 11 [1] w9) from hSw).2.1.p.cells); clear hSw
    go_simp
    all_goals with_reducible rfl
  simp only [Act.put, List.setIfInBounds_toArray, List.set_cons_zero, List.set_cons_succ]
  refine wpAnyH_at (i := 7) (some 55) (v := ?v7z39) rfl rfl (by kernel_rfl) (by kernel_rfl) (by kernel_rfl) (fun _ _ _ h => h) (Or.inl ⟨by rfl, ?y7z39⟩) (by assumption) ?r7z39
  case y7z39 =>
    intro w9 hSw
    (obtain ⟨a0, a1, a2, a3⟩ := (show (KM w A n c xs w9 ∧ Sp gp zeroH none 0 [] w9 ∧ Sq gq gf zeroH none 0 0 [] Af1 nf1 cf1 11 [1] w9) from hSw).2.2.q.cells); clear hSw
    go_simp
    all_goals with_reducible rfl
  simp only [Act.put, List.setIfInBounds_toArray, List.set_cons_zero, List.set_cons_succ]
  refine wpAnyH_one (i := 6) (by kernel_rfl) rfl ?_
  go_wp2_with (go_at_call 11; refine (of_pk zeroH none 0 0 [] _ sp.r (by omega)).mono ?_; rintro ev V2 ⟨A3, n3, c3, rfl, o3, hb⟩)
  replace k := k.step hb
  replace sp := sp.step hb
  replace sq := sq.step hb
  clear hb hHeld
  have hHeld := And.intro k (And.intro sp sq)
  refine ⟨hHeld, ?_⟩
  try simp only [Act.put, List.setIfInBounds_toArray, List.set_cons_zero, List.set_cons_succ]
  refine wpAnyH_one (i := 8) (by kernel_rfl) rfl ?_
  have s8 := refSame_pk zeroH zeroH _ _ _ _ _ _ [] [] _ o3.rd sq.r
  rw [smB_self] at s8
  go_wp2_with (go_at_call 10; refine (s8).mono ?_; rintro ev V3 ⟨rfl, hb⟩)
  replace k := k.step hb
  replace sp := sp.step hb
  replace sq := sq.step hb
  clear s8 o3
  clear hb hHeld
  have hHeld := And.intro k (And.intro sp sq)
  refine ⟨hHeld, ?_⟩
  try simp only [Act.put, List.setIfInBounds_toArray, List.set_cons_zero, List.set_cons_succ]
  refine wpAnyH_at (i := 9) (some 57) (v := ?v9z40) rfl rfl (by kernel_rfl) (by kernel_rfl) (by kernel_rfl) (fun _ _ _ h => h) (Or.inl ⟨by rfl, ?y9z40⟩) (by assumption) ?r9z40
  case y9z40 =>
    intro w9 hSw
    clear hSw
    go_simp
    all_goals with_reducible rfl
  simp only [Act.put, List.setIfInBounds_toArray, List.set_cons_zero, List.set_cons_succ]
  refine wpAnyH_at (i := 10) (some 58) (v := ?v10z41) rfl rfl (by kernel_rfl) (by kernel_rfl) (by kernel_rfl) (fun _ _ _ h => h) (Or.inl ⟨by rfl, ?y10z41⟩) (by assumption) ?r10z41
  case y10z41 =>
    intro w9 hSw
    clear hSw
    go_simp
    all_goals with_reducible rfl
  simp only [Act.put, List.setIfInBounds_toArray, List.set_cons_zero, List.set_cons_succ]
  refine wpAnyH_done (by kernel_rfl) ?_ _
  clear hHeld
  obtain ⟨x0, x1, x2, x3⟩ := sp.p.cells
  go_wp2
  go_ret
  exact ⟨rfl, k.kn.below⟩
theorem makes_law (h : Hd) (so : Int) (A : Option Addr) (n c : Nat) (xs : List Int) (f t : Int) (w : World) (hg : Laid w) (hk : h.ok) (hr : Rd .u8 w w.heap.size A n c xs) (hf : Ip f) (ht : Ip t) : Calls Tryd.prog 4 #[.int .u16 h.src, .int .u16 h.dst, .int .u8 h.flags, .int .u8 so, .slice A n c, .int .u32 f, .int .u32 t] w fun e w' => e = .returned (.bool true) ∧ Below w.heap.size w w' := by
  by_cases hn : 3000 < n
  · exact makes_far h so A n c f t w hn (Nat.le_trans hr.cap hr.max)
  · have hn' : n ≤ 3000 := by omega
    by_cases hq : n ≤ 1460
    · exact makes_good h so A n c xs f t w hg hk hr hf ht hn' hq
    · exact makes_bad h so A n c xs f t w hg hk hr hf ht hn' (by omega)
theorem makes_plain (a b fl so : Int) (A : Option Addr) (n c : Nat) (xs : List Int) (f t : Int) (w : World) (hg : Laid w) (ha : (Lit.int .u16 a).wf = true) (hb : (Lit.int .u16 b).wf = true) (hfl : (Lit.int .u8 fl).wf = true) (hso : (Lit.int .u8 so).wf = true) (hr : Rd .u8 w w.heap.size A n c xs) (hf : Ip f) (ht : Ip t) :
    Calls Tryd.prog 4 #[.int .u16 a, .int .u16 b, .int .u8 fl, .int .u8 so, .slice A n c, .int .u32 f, .int .u32 t] w fun e w' => e = .returned (.bool true) ∧ Below w.heap.size w w' :=
  makes_law ⟨a, b, fl⟩ so A n c xs f t w hg ⟨u16_bd ha, u16_bd hb, u8_bd hfl⟩ hr hf ht
end Go.Proofs.YtggnkmllbpgfoaaDoor
