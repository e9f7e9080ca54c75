/-
  The law IcmpWrites: every Bytes, Class, Mark, Marked and Same answers what the document says; what is written is parsed as it was.
-/
import Derived.Test.YtbefoapnlehdmaaDoorMW
namespace Go.Proofs.YtbefoapnlehdmaaDoor
open Go.RowKit
set_option linter.unusedVariables false

/-- What the walk knows: the two messages' boxes. -/
structure KM (w : World) (h : Ms) (A : Option Addr) (n c : Nat) (xs : List Int) (h2 : Ms) (A2 : Option Addr) (n2 c2 : Nat) (ys : List Int) (W : World) : Prop where
  kn : Kn w W
  m : MsAt W w.heap.size 27 h A n c
  o : MsAt W (w.heap.size + 1) 27 h2 A2 n2 c2
  rm : Rd .u8 W w.heap.size A n c xs
  ro : Rd .u8 W w.heap.size A2 n2 c2 ys
/-- And what was written, twice, with the document's fault. -/
structure KF (w : World) (Ab : Option Addr) (nb cb : Nat) (Ac : Option Addr) (nc cc : Nat) (zs : List Int) (gf : Nat) (Af : Option Addr) (nf cf : Nat) (ef : Int) (rs : List Int) (W : World) : Prop where
  b : Rd .u8 W W.heap.size Ab nb cb zs
  c : Rd .u8 W W.heap.size Ac nc cc zs
  f : W.heap[gf]? = some (.cells (flC Af nf cf ef) 36 (0, 0))
  fr : Rd .i64 W W.heap.size Af nf cf rs
section
variable {w W V : World} {h h2 : Ms} {A A2 Ab Ac Af : Option Addr} {n c n2 c2 nb cb nc cc gf nf cf : Nat} {xs ys zs rs : List Int} {ef : Int}
theorem KM.step (q : KM w h A n c xs h2 A2 n2 c2 ys W) (hb : Below W.heap.size W V) : KM w h A n c xs h2 A2 n2 c2 ys V := ⟨q.kn.step hb, q.m.step hb, q.o.step hb, q.rm.below hb q.kn.below.size, q.ro.below hb q.kn.below.size⟩
theorem KM.rm' (q : KM w h A n c xs h2 A2 n2 c2 ys W) : Rd .u8 W W.heap.size A n c xs := q.rm.more q.kn.below.size
theorem KM.ro' (q : KM w h A n c xs h2 A2 n2 c2 ys W) : Rd .u8 W W.heap.size A2 n2 c2 ys := q.ro.more q.kn.below.size
theorem KM.start (hg : Laid w) (hr : Rd .u8 w w.heap.size A n c xs) (hr2 : Rd .u8 w w.heap.size A2 n2 c2 ys) : KM w h A n c xs h2 A2 n2 c2 ys ((w.alloc (.cells (msC h A n c) 27)).alloc (.cells (msC h2 A2 n2 c2) 27)) := by
  have b0 : Below w.heap.size w ((w.alloc (.cells (msC h A n c) 27)).alloc (.cells (msC h2 A2 n2 c2) 27)) := (alloc_below w _).alloc (by simp) _
  exact ⟨((Kn.start hg).alloc _).alloc _, (MsAt.new w 27 h A n c).step (alloc_below _ _), by simpa using MsAt.new (w.alloc (.cells (msC h A n c) 27)) 27 h2 A2 n2 c2, hr.below b0 (Nat.le_refl _), hr2.below b0 (Nat.le_refl _)⟩
theorem KF.step (q : KF w Ab nb cb Ac nc cc zs gf Af nf cf ef rs W) (hb : Below W.heap.size W V) : KF w Ab nb cb Ac nc cc zs gf Af nf cf ef rs V := ⟨(q.b.below hb (Nat.le_refl _)).more hb.size, (q.c.below hb (Nat.le_refl _)).more hb.size, (hb.block _ (blk_lt q.f)).trans q.f, (q.fr.below hb (Nat.le_refl _)).more hb.size⟩
theorem KF.fault (q : KF w Ab nb cb Ac nc cc zs gf Af nf cf ef rs W) : W.cell? ⟨gf, 0, none⟩ = some (.slice Af nf cf) ∧ W.cell? ⟨gf, 1, none⟩ = some (.int .i64 ef) := ⟨blk_cell q.f rfl, blk_cell q.f rfl⟩
end
theorem writes_far (h : Ms) (A : Option Addr) (n c : Nat) (xs : List Int) (h2 : Ms) (A2 : Option Addr) (n2 c2 : Nat) (ys : List Int) (k : Int) (w : World) (hg : Laid w) (hk : h.ok) (hr : Rd .u8 w w.heap.size A n c xs) (hk2 : h2.ok) (hr2 : Rd .u8 w w.heap.size A2 n2 c2 ys) (hkb : 0 ≤ k ∧ k ≤ 65535) (hn : 3000 < n) : Calls Tryd.prog 4 #[msV h A n c, msV h2 A2 n2 c2, .int .u16 k] w fun e w' => e = .returned (.bool true) ∧ Below w.heap.size w w' := by
  have q := KM.start (h := h) (h2 := h2) hg hr hr2
  have hmax := Nat.le_trans hr.cap hr.max
  have hmax2 := Nat.le_trans hr2.cap hr2.max
  have n1 : (3000 : Int) < (n : Int) := by omega
  clear hr hr2
  go_enter Tryd.func4, Tryd.ntmps4
  go_wp2_with (go_at_call 8; refine (alive_any _ q.kn.laid).mono ?_; rintro ev w1 ⟨rfl, hb⟩; replace q := q.step hb; clear hb; obtain ⟨a0, a1, a2, a3, a4, a5, a6⟩ := q.m.cells; obtain ⟨b0, b1, b2, b3, b4, b5, b6⟩ := q.o.cells)
  go_ret
  exact ⟨rfl, q.kn.below⟩
theorem writes_far2 (h : Ms) (A : Option Addr) (n c : Nat) (xs : List Int) (h2 : Ms) (A2 : Option Addr) (n2 c2 : Nat) (ys : List Int) (k : Int) (w : World) (hg : Laid w) (hk : h.ok) (hr : Rd .u8 w w.heap.size A n c xs) (hk2 : h2.ok) (hr2 : Rd .u8 w w.heap.size A2 n2 c2 ys) (hkb : 0 ≤ k ∧ k ≤ 65535) (hn : ¬ 3000 < n) (hn2 : 3000 < n2) : Calls Tryd.prog 4 #[msV h A n c, msV h2 A2 n2 c2, .int .u16 k] w fun e w' => e = .returned (.bool true) ∧ Below w.heap.size w w' := by
  have q := KM.start (h := h) (h2 := h2) hg hr hr2
  have hmax := Nat.le_trans hr.cap hr.max
  have hmax2 := Nat.le_trans hr2.cap hr2.max
  have n1 : ¬ (3000 : Int) < (n : Int) := by omega
  have n2 : (3000 : Int) < (n2 : Int) := by omega
  clear hr hr2
  go_enter Tryd.func4, Tryd.ntmps4
  go_wp2_with (go_at_call 8; refine (alive_any _ q.kn.laid).mono ?_; rintro ev w1 ⟨rfl, hb⟩; replace q := q.step hb; clear hb; obtain ⟨a0, a1, a2, a3, a4, a5, a6⟩ := q.m.cells; obtain ⟨b0, b1, b2, b3, b4, b5, b6⟩ := q.o.cells)
  go_ret
  exact ⟨rfl, q.kn.below⟩

set_option maxRecDepth 100000 in
set_option maxHeartbeats 4000000 in
theorem writes_near (h : Ms) (A : Option Addr) (n c : Nat) (xs : List Int) (h2 : Ms) (A2 : Option Addr) (n2 c2 : Nat) (ys : List Int) (k : Int) (w : World) (hg : Laid w) (hk : h.ok) (hr : Rd .u8 w w.heap.size A n c xs) (hk2 : h2.ok) (hr2 : Rd .u8 w w.heap.size A2 n2 c2 ys) (hkb : 0 ≤ k ∧ k ≤ 65535) (hn : n ≤ 1472) (hn2 : n2 ≤ 3000) : Calls Tryd.prog 4 #[msV h A n c, msV h2 A2 n2 c2, .int .u16 k] w fun e w' => e = .returned (.bool true) ∧ Below w.heap.size w w' := by
  have q := KM.start (h := h) (h2 := h2) hg hr hr2
  have m1 : ¬ (3000 : Int) < (n : Int) := by omega
  have m2 : ¬ (3000 : Int) < (n2 : Int) := by omega
  have hcap := hr.cap
  have hmax := hr.max
  have hcap2 := hr2.cap
  have hmax2 := hr2.max
  have cC := Lib.hid (fun A n c W => class_any h A n c W)
  have cD := Lib.hid (fun A n c W => refClass_any h A n c W)
  have cM := Lib.hid (fun A n c W => mark_any h A n c W hk)
  have cN := Lib.hid (fun A n c W => refMark_any h A n c W hk)
  have cX := Lib.hid (fun W A n c (q : Rd .u8 W W.heap.size A n c xs) (hn : n ≤ 100000) => marked_any h A n c xs k W q hn hkb)
  have cY := Lib.hid (fun W A n c (q : Rd .u8 W W.heap.size A n c xs) (hn : n ≤ 100000) => refMarked_any h A n c xs k W q hn hkb)
  have cS := Lib.hid (fun W A n c A2 n2 c2 (q : Rd .u8 W W.heap.size A n c xs) (q2 : Rd .u8 W W.heap.size A2 n2 c2 ys) => same_ms h h2 A A2 n c n2 c2 xs ys W q q2 hk hk2)
  have Xl := Lib.hid hr.len
  have Xw := Lib.hid hr.2.2.2.1
  obtain ⟨m, hm⟩ : ∃ m, 8 + n = m := ⟨_, rfl⟩
  have hm' : (8 : Int) + (n : Int) = (m : Int) := by omega
  have hmb : m ≤ 1480 := by omega
  have hxl := hr.len
  have hxw := hr.2.2.2.1
  have cB := Lib.hid (fun W A c (q : Rd .u8 W W.heap.size A n c xs) => mbytes_near h A n c m xs W hk q hn hm')
  have cR := Lib.hid (fun W A c (q : Rd .u8 W W.heap.size A n c xs) => refMBytes_ok h A n c xs W hk q hn)
  obtain ⟨zs, hzs⟩ : ∃ z, mR h xs = z := ⟨_, rfl⟩
  have hzl : zs.length = m := by rw [← hzs, mR_len, hxl]; exact hm
  have hzw : ∀ x ∈ zs, (Lit.int .u8 x).wf = true := by rw [← hzs]; exact mR_wf hk hxw
  have cP := Lib.hid (fun W A c (q : Rd .u8 W W.heap.size A m c zs) => mparse_yes (m := n) q (by rw [← hzs, mR_mE hk hxw (by omega)]) (show mOf zs = h by subst hzs; exact mR_hd xs) (show zs.drop 8 = xs by subst hzs; exact mR_body h xs) (by omega))
  have cZ := Lib.hid (fun W A n c A2 n2 c2 (q : Rd .u8 W W.heap.size A n c xs) (q2 : Rd .u8 W W.heap.size A2 n2 c2 xs) => by have := same_ms h h A A2 n c n2 c2 xs xs W q q2 hk hk; rwa [mmB_self] at this)
  rw [hzs] at cB cR
  have Zl := Lib.hid hzl
  have Zw := Lib.hid hzw
  clear hm hm' hzs hzl hzw hxl hxw
  generalize mkN h = mn at *
  generalize clsV h = cl at *
  generalize hks : mkS h k = hs at *
  generalize hbb : mmB h h2 xs ys = bb at *
  have BB := Lib.hid hbb
  have s35 := Lib.hid (fun W A n c A2 n2 c2 (q : Rd .u8 W W.heap.size A n c xs) (q2 : Rd .u8 W W.heap.size A2 n2 c2 xs) => by have := refSame_ms hs hs A A2 n c n2 c2 xs xs W q q2; rwa [mmB_self] at this)
  have s46 := Lib.hid (fun W A n c A2 n2 c2 (q : Rd .u8 W W.heap.size A n c xs) (q2 : Rd .u8 W W.heap.size A2 n2 c2 ys) => by have := refSame_ms h h2 A A2 n c n2 c2 xs ys W q q2; rwa [hbb] at this)
  clear hr hr2 hk hk2 hkb hks hbb BB
  go_enter Tryd.func4, Tryd.ntmps4
  go_wp2_with (go_at_call 8; refine (alive_any _ q.kn.laid).mono ?_; rintro ev w1 ⟨rfl, hb⟩; replace q := q.step hb; clear hb; obtain ⟨a0, a1, a2, a3, a4, a5, a6⟩ := q.m.cells; obtain ⟨b0, b1, b2, b3, b4, b5, b6⟩ := q.o.cells)
  refine (cB.out _ _ _ q.rm').mono ?_
  rintro ev w2 ⟨gB, rfl, rB, -, hb⟩
  replace q := q.step hb
  clear hb cB a0 a1 a2 a3 a4 a5 a6 b0 b1 b2 b3 b4 b5 b6
  obtain ⟨a0, a1, a2, a3, a4, a5, a6⟩ := q.m.cells
  go_wp2_with fail
  refine (of_ms h A n c xs _ q.rm' (by omega)).mono ?_
  rintro ev w3 ⟨A3, n3, c3, rfl, o3, hb⟩
  obtain rfl : n = n3 := Xl.out.symm.trans o3.len
  replace q := q.step hb
  replace rB := rB.below hb rB.lt
  clear hb a0 a1 a2 a3 a4 a5 a6
  go_wp2_with fail
  refine (cR.out _ _ _ o3.rd).mono ?_
  rintro ev w4 ⟨Ac, nc, cc, rfl, oc, hb⟩
  have ba : Below w4.heap.size w4 (w4.alloc (.cells (flC none 0 0 0) 36)) := alloc_below w4 _
  have f : KF w (some ⟨gB, 0, none⟩) m m Ac nc cc zs w4.heap.size none 0 0 0 [] (w4.alloc (.cells (flC none 0 0 0) 36)) := ⟨((rB.below hb rB.lt).below ba (by exact (rB.below hb rB.lt).lt)).rdW Zl.out (by omega) Zw.out, ((oc.rd).below ba (Nat.le_refl _)).more ba.size, heap_alloc_new w4 _, Rd.nil⟩
  replace hb := hb.trans (ba.mono hb.size)
  replace q := q.step hb
  clear hb ba o3 cR rB oc
  go_wp2_with fail
  replace q := q.step (below_drew _)
  replace f := f.step (below_drew _)
  refine wp_region_held_drew (S := fun w' => (KM w h A n c xs h2 A2 n2 c2 ys w' ∧ KF w (some ⟨gB, 0, none⟩) m m Ac nc cc zs w4.heap.size none 0 0 0 [] w')) (by kernel_rfl) ⟨q, f⟩ (fun hHeld => ?_)
  clear hHeld
  change wpAnyH _ _ _ _ _ _ _ _ (World.drew _)
  generalize World.drew _ = U0 at *
  have hHeld := And.intro q f
  refine wpAnyH_at (i := 0) (some 36) (v := ?v0z1) rfl rfl (by kernel_rfl) (by kernel_rfl) (by kernel_rfl) (fun _ _ _ h => h) (Or.inl ⟨by rfl, ?y0z1⟩) (by assumption) ?r0z1
  case y0z1 =>
    intro w9 hSw
    clear hSw
    go_simp
    all_goals with_reducible rfl
  simp only [Act.put, List.setIfInBounds_toArray, List.set_cons_zero, List.set_cons_succ]
  refine wpAnyH_at (i := 1) (some 37) (v := ?v1z2) rfl rfl (by kernel_rfl) (by kernel_rfl) (by kernel_rfl) (fun _ _ _ h => h) (Or.inl ⟨by rfl, ?y1z2⟩) (by assumption) ?r1z2
  case y1z2 =>
    intro w9 hSw
    (obtain ⟨a0, a1⟩ := (show (KM w h A n c xs h2 A2 n2 c2 ys w9 ∧ KF w (some ⟨gB, 0, none⟩) m m Ac nc cc zs w4.heap.size none 0 0 0 [] w9) from hSw).2.fault); clear hSw
    go_simp
    all_goals with_reducible rfl
  simp only [Act.put, List.setIfInBounds_toArray, List.set_cons_zero, List.set_cons_succ]
  refine wpAnyH_one (i := 2) (by kernel_rfl) rfl ?_
  go_wp2_with (go_at_call 12; refine (is_nil none 0 0 _).mono ?_; rintro ev V2 ⟨rfl, hb⟩)
  replace q := q.step hb
  replace f := f.step hb
  clear hb hHeld
  have hHeld := And.intro q f
  refine ⟨hHeld, ?_⟩
  try simp only [Act.put, List.setIfInBounds_toArray, List.set_cons_zero, List.set_cons_succ]
  refine wpAnyH_at (i := 3) (some 39) (v := ?v3z3) rfl rfl (by kernel_rfl) (by kernel_rfl) (by kernel_rfl) (fun _ _ _ h => h) (Or.inl ⟨by rfl, ?y3z3⟩) (by assumption) ?r3z3
  case y3z3 =>
    intro w9 hSw
    clear hSw
    go_simp
    all_goals with_reducible rfl
  simp only [Act.put, List.setIfInBounds_toArray, List.set_cons_zero, List.set_cons_succ]
  refine wpAnyH_at (i := 4) (some 40) (v := ?v4z4) rfl rfl (by kernel_rfl) (by kernel_rfl) (by kernel_rfl) (fun _ _ _ h => h) (Or.inl ⟨by rfl, ?y4z4⟩) (by assumption) ?r4z4
  case y4z4 =>
    intro w9 hSw
    clear hSw
    go_simp
    all_goals with_reducible rfl
  simp only [Act.put, List.setIfInBounds_toArray, List.set_cons_zero, List.set_cons_succ]
  refine wpAnyH_at (i := 5) (some 41) (v := ?v5z5) rfl rfl (by kernel_rfl) (by kernel_rfl) (by kernel_rfl) (fun _ _ _ h => h) (Or.inl ⟨by rfl, ?y5z5⟩) (by assumption) ?r5z5
  case y5z5 =>
    intro w9 hSw
    clear hSw
    go_simp
    all_goals with_reducible rfl
  simp only [Act.put, List.setIfInBounds_toArray, List.set_cons_zero, List.set_cons_succ]
  refine wpAnyH_at (i := 6) (some 42) (v := ?v6z6) rfl rfl (by kernel_rfl) (by kernel_rfl) (by kernel_rfl) (fun _ _ _ h => h) (Or.inl ⟨by rfl, ?y6z6⟩) (by assumption) ?r6z6
  case y6z6 =>
    intro w9 hSw
    clear hSw
    go_simp
    all_goals with_reducible rfl
  simp only [Act.put, List.setIfInBounds_toArray, List.set_cons_zero, List.set_cons_succ]
  refine wpAnyH_one (i := 7) (by kernel_rfl) rfl ?_
  go_wp2_with (go_at_call 15; refine (same_any _ _ _ _ _ _ zs _ _ _ f.b f.c).mono ?_; rintro ev V3 ⟨rfl, hb⟩)
  replace q := q.step hb
  replace f := f.step hb
  clear hb hHeld
  have hHeld := And.intro q f
  refine ⟨hHeld, ?_⟩
  try simp only [Act.put, List.setIfInBounds_toArray, List.set_cons_zero, List.set_cons_succ]
  refine wpAnyH_at (i := 8) (some 44) (v := ?v8z7) rfl rfl (by kernel_rfl) (by kernel_rfl) (by kernel_rfl) (fun _ _ _ h => h) (Or.inl ⟨by rfl, ?y8z7⟩) (by assumption) ?r8z7
  case y8z7 =>
    intro w9 hSw
    clear hSw
    go_simp
    all_goals with_reducible rfl
  simp only [Act.put, List.setIfInBounds_toArray, List.set_cons_zero, List.set_cons_succ]
  refine wpAnyH_at (i := 9) (some 45) (v := ?v9z8) rfl rfl (by kernel_rfl) (by kernel_rfl) (by kernel_rfl) (fun _ _ _ h => h) (Or.inl ⟨by rfl, ?y9z8⟩) (by assumption) ?r9z8
  case y9z8 =>
    intro w9 hSw
    clear hSw
    go_simp
    all_goals with_reducible rfl
  simp only [Act.put, List.setIfInBounds_toArray, List.set_cons_zero, List.set_cons_succ]
  refine wpAnyH_at (i := 10) (some 46) (v := ?v10z9) rfl rfl (by kernel_rfl) (by kernel_rfl) (by kernel_rfl) (fun _ _ _ h => h) (Or.inl ⟨by rfl, ?y10z9⟩) (by assumption) ?r10z9
  case y10z9 =>
    intro w9 hSw
    clear hSw
    go_simp
    all_goals with_reducible rfl
  simp only [Act.put, List.setIfInBounds_toArray, List.set_cons_zero, List.set_cons_succ]
  refine wpAnyH_at (i := 11) (some 47) (v := ?v11z10) rfl rfl (by kernel_rfl) (by kernel_rfl) (by kernel_rfl) (fun _ _ _ h => h) (Or.inl ⟨by rfl, ?y11z10⟩) (by assumption) ?r11z10
  case y11z10 =>
    intro w9 hSw
    (obtain ⟨a0, a1, a2, a3, a4, a5, a6⟩ := (show (KM w h A n c xs h2 A2 n2 c2 ys w9 ∧ KF w (some ⟨gB, 0, none⟩) m m Ac nc cc zs w4.heap.size none 0 0 0 [] w9) from hSw).1.m.cells); clear hSw
    go_simp
    all_goals with_reducible rfl
  simp only [Act.put, List.setIfInBounds_toArray, List.set_cons_zero, List.set_cons_succ]
  refine wpAnyH_at (i := 13) (some 49) (v := ?v13z11) rfl rfl (by kernel_rfl) (by kernel_rfl) (by kernel_rfl) (fun _ _ _ h => h) (Or.inl ⟨by rfl, ?y13z11⟩) (by assumption) ?r13z11
  case y13z11 =>
    intro w9 hSw
    (obtain ⟨a0, a1, a2, a3, a4, a5, a6⟩ := (show (KM w h A n c xs h2 A2 n2 c2 ys w9 ∧ KF w (some ⟨gB, 0, none⟩) m m Ac nc cc zs w4.heap.size none 0 0 0 [] w9) from hSw).1.m.cells); clear hSw
    go_simp
    all_goals with_reducible rfl
  simp only [Act.put, List.setIfInBounds_toArray, List.set_cons_zero, List.set_cons_succ]
  refine wpAnyH_one (i := 12) (by kernel_rfl) rfl ?_
  go_wp2_with (go_at_call 19; refine (cC.out _ _ _ _).mono ?_; rintro ev V4 ⟨rfl, hb⟩)
  replace q := q.step hb
  replace f := f.step hb
  clear hb hHeld
  have hHeld := And.intro q f
  refine ⟨hHeld, ?_⟩
  try simp only [Act.put, List.setIfInBounds_toArray, List.set_cons_zero, List.set_cons_succ]
  refine wpAnyH_one (i := 14) (by kernel_rfl) rfl ?_
  go_wp2_with (go_at_call 14; refine (of_ms h A n c xs _ q.rm' (by omega)).mono ?_; rintro ev V5 ⟨A14, n14, c14, rfl, o14, hb⟩)
  replace q := q.step hb
  replace f := f.step hb
  clear hb hHeld
  have hHeld := And.intro q f
  refine ⟨hHeld, ?_⟩
  try simp only [Act.put, List.setIfInBounds_toArray, List.set_cons_zero, List.set_cons_succ]
  refine wpAnyH_one (i := 15) (by kernel_rfl) rfl ?_
  go_wp2_with (go_at_call 20; refine (cD.out _ _ _ _).mono ?_; rintro ev V6 ⟨rfl, hb⟩)
  replace q := q.step hb
  replace f := f.step hb
  clear o14
  clear hb hHeld
  have hHeld := And.intro q f
  refine ⟨hHeld, ?_⟩
  try simp only [Act.put, List.setIfInBounds_toArray, List.set_cons_zero, List.set_cons_succ]
  refine wpAnyH_at (i := 16) (some 52) (v := ?v16z12) rfl rfl (by kernel_rfl) (by kernel_rfl) (by kernel_rfl) (fun _ _ _ h => h) (Or.inl ⟨by rfl, ?y16z12⟩) (by assumption) ?r16z12
  case y16z12 =>
    intro w9 hSw
    clear hSw
    go_simp
    all_goals with_reducible rfl
  simp only [Act.put, List.setIfInBounds_toArray, List.set_cons_zero, List.set_cons_succ]
  refine wpAnyH_at (i := 17) (some 53) (v := ?v17z13) rfl rfl (by kernel_rfl) (by kernel_rfl) (by kernel_rfl) (fun _ _ _ h => h) (Or.inl ⟨by rfl, ?y17z13⟩) (by assumption) ?r17z13
  case y17z13 =>
    intro w9 hSw
    clear hSw
    go_simp
    all_goals with_reducible rfl
  simp only [Act.put, List.setIfInBounds_toArray, List.set_cons_zero, List.set_cons_succ]
  refine wpAnyH_at (i := 18) (some 54) (v := ?v18z14) rfl rfl (by kernel_rfl) (by kernel_rfl) (by kernel_rfl) (fun _ _ _ h => h) (Or.inl ⟨by rfl, ?y18z14⟩) (by assumption) ?r18z14
  case y18z14 =>
    intro w9 hSw
    clear hSw
    go_simp
    all_goals with_reducible rfl
  simp only [Act.put, List.setIfInBounds_toArray, List.set_cons_zero, List.set_cons_succ]
  refine wpAnyH_at (i := 19) (some 55) (v := ?v19z15) rfl rfl (by kernel_rfl) (by kernel_rfl) (by kernel_rfl) (fun _ _ _ h => h) (Or.inl ⟨by rfl, ?y19z15⟩) (by assumption) ?r19z15
  case y19z15 =>
    intro w9 hSw
    (obtain ⟨a0, a1, a2, a3, a4, a5, a6⟩ := (show (KM w h A n c xs h2 A2 n2 c2 ys w9 ∧ KF w (some ⟨gB, 0, none⟩) m m Ac nc cc zs w4.heap.size none 0 0 0 [] w9) from hSw).1.m.cells); clear hSw
    go_simp
    all_goals with_reducible rfl
  simp only [Act.put, List.setIfInBounds_toArray, List.set_cons_zero, List.set_cons_succ]
  refine wpAnyH_at (i := 21) (some 57) (v := ?v21z16) rfl rfl (by kernel_rfl) (by kernel_rfl) (by kernel_rfl) (fun _ _ _ h => h) (Or.inl ⟨by rfl, ?y21z16⟩) (by assumption) ?r21z16
  case y21z16 =>
    intro w9 hSw
    (obtain ⟨a0, a1, a2, a3, a4, a5, a6⟩ := (show (KM w h A n c xs h2 A2 n2 c2 ys w9 ∧ KF w (some ⟨gB, 0, none⟩) m m Ac nc cc zs w4.heap.size none 0 0 0 [] w9) from hSw).1.m.cells); clear hSw
    go_simp
    all_goals with_reducible rfl
  simp only [Act.put, List.setIfInBounds_toArray, List.set_cons_zero, List.set_cons_succ]
  refine wpAnyH_one (i := 20) (by kernel_rfl) rfl ?_
  go_wp2_with (go_at_call 21; refine (cM.out _ _ _ _).mono ?_; rintro ev V7 ⟨rfl, hb⟩)
  replace q := q.step hb
  replace f := f.step hb
  clear hb hHeld
  have hHeld := And.intro q f
  refine ⟨hHeld, ?_⟩
  try simp only [Act.put, List.setIfInBounds_toArray, List.set_cons_zero, List.set_cons_succ]
  refine wpAnyH_one (i := 22) (by kernel_rfl) rfl ?_
  go_wp2_with (go_at_call 14; refine (of_ms h A n c xs _ q.rm' (by omega)).mono ?_; rintro ev V8 ⟨A22, n22, c22, rfl, o22, hb⟩)
  replace q := q.step hb
  replace f := f.step hb
  clear hb hHeld
  have hHeld := And.intro q f
  refine ⟨hHeld, ?_⟩
  try simp only [Act.put, List.setIfInBounds_toArray, List.set_cons_zero, List.set_cons_succ]
  refine wpAnyH_one (i := 23) (by kernel_rfl) rfl ?_
  go_wp2_with (go_at_call 22; refine (cN.out _ _ _ _).mono ?_; rintro ev V9 ⟨rfl, hb⟩)
  replace q := q.step hb
  replace f := f.step hb
  clear o22
  clear hb hHeld
  have hHeld := And.intro q f
  refine ⟨hHeld, ?_⟩
  try simp only [Act.put, List.setIfInBounds_toArray, List.set_cons_zero, List.set_cons_succ]
  refine wpAnyH_at (i := 24) (some 60) (v := ?v24z17) rfl rfl (by kernel_rfl) (by kernel_rfl) (by kernel_rfl) (fun _ _ _ h => h) (Or.inl ⟨by rfl, ?y24z17⟩) (by assumption) ?r24z17
  case y24z17 =>
    intro w9 hSw
    clear hSw
    go_simp
    all_goals with_reducible rfl
  simp only [Act.put, List.setIfInBounds_toArray, List.set_cons_zero, List.set_cons_succ]
  refine wpAnyH_at (i := 25) (some 61) (v := ?v25z18) rfl rfl (by kernel_rfl) (by kernel_rfl) (by kernel_rfl) (fun _ _ _ h => h) (Or.inl ⟨by rfl, ?y25z18⟩) (by assumption) ?r25z18
  case y25z18 =>
    intro w9 hSw
    clear hSw
    go_simp
    all_goals with_reducible rfl
  simp only [Act.put, List.setIfInBounds_toArray, List.set_cons_zero, List.set_cons_succ]
  refine wpAnyH_at (i := 26) (some 62) (v := ?v26z19) rfl rfl (by kernel_rfl) (by kernel_rfl) (by kernel_rfl) (fun _ _ _ h => h) (Or.inl ⟨by rfl, ?y26z19⟩) (by assumption) ?r26z19
  case y26z19 =>
    intro w9 hSw
    clear hSw
    go_simp
    all_goals with_reducible rfl
  simp only [Act.put, List.setIfInBounds_toArray, List.set_cons_zero, List.set_cons_succ]
  refine wpAnyH_at (i := 27) (some 63) (v := ?v27z20) rfl rfl (by kernel_rfl) (by kernel_rfl) (by kernel_rfl) (fun _ _ _ h => h) (Or.inl ⟨by rfl, ?y27z20⟩) (by assumption) ?r27z20
  case y27z20 =>
    intro w9 hSw
    (obtain ⟨a0, a1, a2, a3, a4, a5, a6⟩ := (show (KM w h A n c xs h2 A2 n2 c2 ys w9 ∧ KF w (some ⟨gB, 0, none⟩) m m Ac nc cc zs w4.heap.size none 0 0 0 [] w9) from hSw).1.m.cells); clear hSw
    go_simp
    all_goals with_reducible rfl
  simp only [Act.put, List.setIfInBounds_toArray, List.set_cons_zero, List.set_cons_succ]
  refine wpAnyH_at (i := 28) (some 64) (v := ?v28z21) rfl rfl (by kernel_rfl) (by kernel_rfl) (by kernel_rfl) (fun _ _ _ h => h) (Or.inl ⟨by rfl, ?y28z21⟩) (by assumption) ?r28z21
  case y28z21 =>
    intro w9 hSw
    clear hSw
    go_simp
    all_goals with_reducible rfl
  simp only [Act.put, List.setIfInBounds_toArray, List.set_cons_zero, List.set_cons_succ]
  refine wpAnyH_at (i := 31) (some 67) (v := ?v31z22) rfl rfl (by kernel_rfl) (by kernel_rfl) (by kernel_rfl) (fun _ _ _ h => h) (Or.inl ⟨by rfl, ?y31z22⟩) (by assumption) ?r31z22
  case y31z22 =>
    intro w9 hSw
    (obtain ⟨a0, a1, a2, a3, a4, a5, a6⟩ := (show (KM w h A n c xs h2 A2 n2 c2 ys w9 ∧ KF w (some ⟨gB, 0, none⟩) m m Ac nc cc zs w4.heap.size none 0 0 0 [] w9) from hSw).1.m.cells); clear hSw
    go_simp
    all_goals with_reducible rfl
  simp only [Act.put, List.setIfInBounds_toArray, List.set_cons_zero, List.set_cons_succ]
  refine wpAnyH_at (i := 33) (some 69) (v := ?v33z23) rfl rfl (by kernel_rfl) (by kernel_rfl) (by kernel_rfl) (fun _ _ _ h => h) (Or.inl ⟨by rfl, ?y33z23⟩) (by assumption) ?r33z23
  case y33z23 =>
    intro w9 hSw
    clear hSw
    go_simp
    all_goals with_reducible rfl
  simp only [Act.put, List.setIfInBounds_toArray, List.set_cons_zero, List.set_cons_succ]
  refine wpAnyH_one (i := 29) (by kernel_rfl) rfl ?_
  go_wp2_with (go_at_call 23; refine (cX.out _ _ _ _ q.rm' (by omega)).mono ?_; rintro ev V10 ⟨g29, rfl, r29, -, hb⟩)
  replace q := q.step hb
  replace f := f.step hb
  clear hb hHeld
  have hHeld := And.intro q f
  refine ⟨hHeld, ?_⟩
  try simp only [Act.put, List.setIfInBounds_toArray, List.set_cons_zero, List.set_cons_succ]
  refine wpAnyH_one (i := 30) (by kernel_rfl) rfl ?_
  go_wp2_with (go_at_call 14; refine (of_ms hs (some ⟨g29, 0, none⟩) n n xs _ (r29.rdW Xl.out (by omega) Xw.out) (by omega)).mono ?_; rintro ev V11 ⟨A30, n30, c30, rfl, o30, hb⟩)
  replace q := q.step hb
  replace f := f.step hb
  clear r29
  clear hb hHeld
  have hHeld := And.intro q f
  refine ⟨hHeld, ?_⟩
  try simp only [Act.put, List.setIfInBounds_toArray, List.set_cons_zero, List.set_cons_succ]
  refine wpAnyH_one (i := 32) (by kernel_rfl) rfl ?_
  go_wp2_with (go_at_call 14; refine (of_ms h A n c xs _ q.rm' (by omega)).mono ?_; rintro ev V12 ⟨A32, n32, c32, rfl, o32, hb⟩)
  replace q := q.step hb
  replace f := f.step hb
  replace o30 := o30.below hb (Nat.le_refl _)
  obtain rfl : n = n32 := Xl.out.symm.trans o32.len
  clear hb hHeld
  have hHeld := And.intro q f
  refine ⟨hHeld, ?_⟩
  try simp only [Act.put, List.setIfInBounds_toArray, List.set_cons_zero, List.set_cons_succ]
  refine wpAnyH_one (i := 34) (by kernel_rfl) rfl ?_
  go_wp2_with (go_at_call 24; refine (cY.out _ _ _ _ o32.rd (by omega)).mono ?_; rintro ev V13 ⟨A34, n34, c34, rfl, o34, hb⟩)
  replace q := q.step hb
  replace f := f.step hb
  replace o30 := o30.below hb (Nat.le_refl _)
  clear o32
  clear hb hHeld
  have hHeld := And.intro q f
  refine ⟨hHeld, ?_⟩
  try simp only [Act.put, List.setIfInBounds_toArray, List.set_cons_zero, List.set_cons_succ]
  refine wpAnyH_one (i := 35) (by kernel_rfl) rfl ?_
  go_wp2_with (go_at_call 13; refine (s35.out _ _ _ _ _ _ _ o30.rd o34.rd).mono ?_; rintro ev V14 ⟨rfl, hb⟩)
  replace q := q.step hb
  replace f := f.step hb
  clear o30 o34
  clear hb hHeld
  have hHeld := And.intro q f
  refine ⟨hHeld, ?_⟩
  try simp only [Act.put, List.setIfInBounds_toArray, List.set_cons_zero, List.set_cons_succ]
  refine wpAnyH_at (i := 36) (some 72) (v := ?v36z24) rfl rfl (by kernel_rfl) (by kernel_rfl) (by kernel_rfl) (fun _ _ _ h => h) (Or.inl ⟨by rfl, ?y36z24⟩) (by assumption) ?r36z24
  case y36z24 =>
    intro w9 hSw
    clear hSw
    go_simp
    all_goals with_reducible rfl
  simp only [Act.put, List.setIfInBounds_toArray, List.set_cons_zero, List.set_cons_succ]
  refine wpAnyH_at (i := 37) (some 73) (v := ?v37z25) rfl rfl (by kernel_rfl) (by kernel_rfl) (by kernel_rfl) (fun _ _ _ h => h) (Or.inl ⟨by rfl, ?y37z25⟩) (by assumption) ?r37z25
  case y37z25 =>
    intro w9 hSw
    clear hSw
    go_simp
    all_goals with_reducible rfl
  simp only [Act.put, List.setIfInBounds_toArray, List.set_cons_zero, List.set_cons_succ]
  refine wpAnyH_at (i := 38) (some 74) (v := ?v38z26) rfl rfl (by kernel_rfl) (by kernel_rfl) (by kernel_rfl) (fun _ _ _ h => h) (Or.inl ⟨by rfl, ?y38z26⟩) (by assumption) ?r38z26
  case y38z26 =>
    intro w9 hSw
    clear hSw
    go_simp
    all_goals with_reducible rfl
  simp only [Act.put, List.setIfInBounds_toArray, List.set_cons_zero, List.set_cons_succ]
  refine wpAnyH_at (i := 39) (some 75) (v := ?v39z27) rfl rfl (by kernel_rfl) (by kernel_rfl) (by kernel_rfl) (fun _ _ _ h => h) (Or.inl ⟨by rfl, ?y39z27⟩) (by assumption) ?r39z27
  case y39z27 =>
    intro w9 hSw
    (obtain ⟨a0, a1, a2, a3, a4, a5, a6⟩ := (show (KM w h A n c xs h2 A2 n2 c2 ys w9 ∧ KF w (some ⟨gB, 0, none⟩) m m Ac nc cc zs w4.heap.size none 0 0 0 [] w9) from hSw).1.m.cells); clear hSw
    go_simp
    all_goals with_reducible rfl
  simp only [Act.put, List.setIfInBounds_toArray, List.set_cons_zero, List.set_cons_succ]
  refine wpAnyH_at (i := 40) (some 76) (v := ?v40z28) rfl rfl (by kernel_rfl) (by kernel_rfl) (by kernel_rfl) (fun _ _ _ h => h) (Or.inl ⟨by rfl, ?y40z28⟩) (by assumption) ?r40z28
  case y40z28 =>
    intro w9 hSw
    (obtain ⟨a0, a1, a2, a3, a4, a5, a6⟩ := (show (KM w h A n c xs h2 A2 n2 c2 ys w9 ∧ KF w (some ⟨gB, 0, none⟩) m m Ac nc cc zs w4.heap.size none 0 0 0 [] w9) from hSw).1.o.cells); clear hSw
    go_simp
    all_goals with_reducible rfl
  simp only [Act.put, List.setIfInBounds_toArray, List.set_cons_zero, List.set_cons_succ]
  refine wpAnyH_at (i := 42) (some 78) (v := ?v42z29) rfl rfl (by kernel_rfl) (by kernel_rfl) (by kernel_rfl) (fun _ _ _ h => h) (Or.inl ⟨by rfl, ?y42z29⟩) (by assumption) ?r42z29
  case y42z29 =>
    intro w9 hSw
    (obtain ⟨a0, a1, a2, a3, a4, a5, a6⟩ := (show (KM w h A n c xs h2 A2 n2 c2 ys w9 ∧ KF w (some ⟨gB, 0, none⟩) m m Ac nc cc zs w4.heap.size none 0 0 0 [] w9) from hSw).1.m.cells); clear hSw
    go_simp
    all_goals with_reducible rfl
  simp only [Act.put, List.setIfInBounds_toArray, List.set_cons_zero, List.set_cons_succ]
  refine wpAnyH_at (i := 44) (some 80) (v := ?v44z30) rfl rfl (by kernel_rfl) (by kernel_rfl) (by kernel_rfl) (fun _ _ _ h => h) (Or.inl ⟨by rfl, ?y44z30⟩) (by assumption) ?r44z30
  case y44z30 =>
    intro w9 hSw
    (obtain ⟨a0, a1, a2, a3, a4, a5, a6⟩ := (show (KM w h A n c xs h2 A2 n2 c2 ys w9 ∧ KF w (some ⟨gB, 0, none⟩) m m Ac nc cc zs w4.heap.size none 0 0 0 [] w9) from hSw).1.o.cells); clear hSw
    go_simp
    all_goals with_reducible rfl
  simp only [Act.put, List.setIfInBounds_toArray, List.set_cons_zero, List.set_cons_succ]
  refine wpAnyH_one (i := 41) (by kernel_rfl) rfl ?_
  go_wp2_with (go_at_call 25; refine (cS.out _ _ _ _ _ _ _ q.rm' q.ro').mono ?_; rintro ev V15 ⟨rfl, hb⟩)
  replace q := q.step hb
  replace f := f.step hb
  clear hb hHeld
  have hHeld := And.intro q f
  refine ⟨hHeld, ?_⟩
  try simp only [Act.put, List.setIfInBounds_toArray, List.set_cons_zero, List.set_cons_succ]
  refine wpAnyH_one (i := 43) (by kernel_rfl) rfl ?_
  go_wp2_with (go_at_call 14; refine (of_ms h A n c xs _ q.rm' (by omega)).mono ?_; rintro ev V16 ⟨A43, n43, c43, rfl, o43, hb⟩)
  replace q := q.step hb
  replace f := f.step hb
  clear hb hHeld
  have hHeld := And.intro q f
  refine ⟨hHeld, ?_⟩
  try simp only [Act.put, List.setIfInBounds_toArray, List.set_cons_zero, List.set_cons_succ]
  refine wpAnyH_one (i := 45) (by kernel_rfl) rfl ?_
  go_wp2_with (go_at_call 14; refine (of_ms h2 A2 n2 c2 ys _ q.ro' (by omega)).mono ?_; rintro ev V17 ⟨A45, n45, c45, rfl, o45, hb⟩)
  replace q := q.step hb
  replace f := f.step hb
  replace o43 := o43.below hb (Nat.le_refl _)
  clear hb hHeld
  have hHeld := And.intro q f
  refine ⟨hHeld, ?_⟩
  try simp only [Act.put, List.setIfInBounds_toArray, List.set_cons_zero, List.set_cons_succ]
  refine wpAnyH_one (i := 46) (by kernel_rfl) rfl ?_
  go_wp2_with (go_at_call 13; refine (s46.out _ _ _ _ _ _ _ o43.rd o45.rd).mono ?_; rintro ev V18 ⟨rfl, hb⟩)
  replace q := q.step hb
  replace f := f.step hb
  clear o43 o45
  clear hb hHeld
  have hHeld := And.intro q f
  refine ⟨hHeld, ?_⟩
  try simp only [Act.put, List.setIfInBounds_toArray, List.set_cons_zero, List.set_cons_succ]
  refine wpAnyH_at (i := 47) (some 83) (v := ?v47z31) rfl rfl (by kernel_rfl) (by kernel_rfl) (by kernel_rfl) (fun _ _ _ h => h) (Or.inl ⟨by rfl, ?y47z31⟩) (by assumption) ?r47z31
  case y47z31 =>
    intro w9 hSw
    clear hSw
    go_simp
    all_goals with_reducible rfl
  simp only [Act.put, List.setIfInBounds_toArray, List.set_cons_zero, List.set_cons_succ]
  refine wpAnyH_at (i := 48) (some 84) (v := ?v48z32) rfl rfl (by kernel_rfl) (by kernel_rfl) (by kernel_rfl) (fun _ _ _ h => h) (Or.inl ⟨by rfl, ?y48z32⟩) (by assumption) ?r48z32
  case y48z32 =>
    intro w9 hSw
    clear hSw
    go_simp
    all_goals with_reducible rfl
  simp only [Act.put, List.setIfInBounds_toArray, List.set_cons_zero, List.set_cons_succ]
  refine wpAnyH_done (by kernel_rfl) ?_ _
  go_wp2_with fail
  refine (cP.out _ _ _ f.b).mono ?_
  rintro ev w8 ⟨g8, rfl, r8, -, hb⟩
  have ba := alloc_below w8 (.cells (msC h (some ⟨g8, 0, none⟩) n n) 27)
  have x : Sp w8.heap.size h (some ⟨g8, 0, none⟩) n xs (w8.alloc (.cells (msC h (some ⟨g8, 0, none⟩) n n) 27)) := Sp.new (r8.rdW Xl.out (by omega) Xw.out)
  replace hb := hb.trans (ba.mono hb.size)
  replace q := q.step hb
  clear hb ba cP r8 f hHeld
  obtain ⟨a0, a1, a2, a3, a4, a5, a6⟩ := x.p.cells
  obtain ⟨b0, b1, b2, b3, b4, b5, b6⟩ := q.m.cells
  go_wp2_with (go_at_call 25; refine (cZ.out _ _ _ _ _ _ _ x.r q.rm').mono ?_; rintro ev w9 ⟨rfl, hb⟩; replace q := q.step hb)
  go_ret
  exact ⟨rfl, q.kn.below⟩
end Go.Proofs.YtbefoapnlehdmaaDoor
