/-
  The law IcmpInner: every Inner and Error answers what the document says.
-/
import Derived.Test.YtbefoapnlehdmaaDoorMW
namespace Go.Proofs.YtbefoapnlehdmaaDoor
open Go.RowKit
set_option linter.unusedVariables false

/-- What the walk knows: the message's box, the packet's. -/
structure KN (w : World) (h : Ms) (A : Option Addr) (n c : Nat) (xs : List Int) (p : Hd) (A2 : Option Addr) (n2 c2 : Nat) (ys : List Int) (W : World) : Prop where
  kn : Kn w W
  m : MsAt W w.heap.size 27 h A n c
  p : PkAt W (w.heap.size + 1) 60 p A2 n2 c2
  rm : Rd .u8 W w.heap.size A n c xs
  rp : Rd .u8 W w.heap.size A2 n2 c2 ys
section
variable {w W V : World} {h : Ms} {A : Option Addr} {n c : Nat} {xs : List Int} {p : Hd} {A2 : Option Addr} {n2 c2 : Nat} {ys : List Int}
theorem KN.step (q : KN w h A n c xs p A2 n2 c2 ys W) (hb : Below W.heap.size W V) : KN w h A n c xs p A2 n2 c2 ys V := ⟨q.kn.step hb, q.m.step hb, q.p.step hb, q.rm.below hb q.kn.below.size, q.rp.below hb q.kn.below.size⟩
theorem KN.rm' (q : KN w h A n c xs p A2 n2 c2 ys W) : Rd .u8 W W.heap.size A n c xs := q.rm.more q.kn.below.size
theorem KN.rp' (q : KN w h A n c xs p A2 n2 c2 ys W) : Rd .u8 W W.heap.size A2 n2 c2 ys := q.rp.more q.kn.below.size
theorem KN.start (hg : Laid w) (hr : Rd .u8 w w.heap.size A n c xs) (hr2 : Rd .u8 w w.heap.size A2 n2 c2 ys) : KN w h A n c xs p A2 n2 c2 ys ((w.alloc (.cells (msC h A n c) 27)).alloc (.cells (pkC p A2 n2 c2) 60)) := by
  have b0 : Below w.heap.size w ((w.alloc (.cells (msC h A n c) 27)).alloc (.cells (pkC p A2 n2 c2) 60)) := (alloc_below w _).alloc (by simp) _
  exact ⟨((Kn.start hg).alloc _).alloc _, (MsAt.new w 27 h A n c).step (alloc_below _ _), by simpa using PkAt.new (w.alloc (.cells (msC h A n c) 27)) 60 p A2 n2 c2, hr.below b0 (Nat.le_refl _), hr2.below b0 (Nat.le_refl _)⟩
end
theorem iE_pair (h : Ms) (xs : List Int) (q : ¬ (iE h xs).2 = 0) : ∃ r e, iE h xs = (r, e) ∧ ¬ e = 0 := ⟨(iE h xs).1, (iE h xs).2, rfl, q⟩
theorem body_le (xs : List Int) : (bodyOf xs).length ≤ xs.length := by unfold bodyOf; rw [List.length_drop, List.length_take]; omega
theorem linner_far (h : Ms) (A : Option Addr) (n c : Nat) (xs : List Int) (kd cd : Int) (p : Hd) (A2 : Option Addr) (n2 c2 : Nat) (ys : List Int) (w : World) (hg : Laid w) (hk : h.ok) (hr : Rd .u8 w w.heap.size A n c xs) (hk2 : p.ok) (hr2 : Rd .u8 w w.heap.size A2 n2 c2 ys) (hn : 3000 < n) : Calls Tryd.prog 5 #[msV h A n c, .int .u8 kd, .int .u8 cd, pkV p A2 n2 c2] w fun e w' => e = .returned (.bool true) ∧ Below w.heap.size w w' := by
  have q := KN.start (h := h) (p := p) hg hr hr2
  have hmax := Nat.le_trans hr.cap hr.max
  have hmax2 := Nat.le_trans hr2.cap hr2.max
  have n1 : (3000 : Int) < (n : Int) := by omega
  clear hr hr2
  go_enter Tryd.func5, Tryd.ntmps5
  go_wp2_with (go_at_call 8; refine (alive_any _ q.kn.laid).mono ?_; rintro ev w1 ⟨rfl, hb⟩; replace q := q.step hb; clear hb; obtain ⟨a0, a1, a2, a3, a4, a5, a6⟩ := q.m.cells; obtain ⟨b0, b1, b2, b3, b4, b5, b6, b7⟩ := q.p.cells)
  go_ret
  exact ⟨rfl, q.kn.below⟩
theorem linner_far2 (h : Ms) (A : Option Addr) (n c : Nat) (xs : List Int) (kd cd : Int) (p : Hd) (A2 : Option Addr) (n2 c2 : Nat) (ys : List Int) (w : World) (hg : Laid w) (hk : h.ok) (hr : Rd .u8 w w.heap.size A n c xs) (hk2 : p.ok) (hr2 : Rd .u8 w w.heap.size A2 n2 c2 ys) (hn : ¬ 3000 < n) (hn2 : 3000 < n2) : Calls Tryd.prog 5 #[msV h A n c, .int .u8 kd, .int .u8 cd, pkV p A2 n2 c2] w fun e w' => e = .returned (.bool true) ∧ Below w.heap.size w w' := by
  have q := KN.start (h := h) (p := p) hg hr hr2
  have hmax := Nat.le_trans hr.cap hr.max
  have hmax2 := Nat.le_trans hr2.cap hr2.max
  have n1 : ¬ (3000 : Int) < (n : Int) := by omega
  have n2 : (3000 : Int) < (n2 : Int) := by omega
  clear hr hr2
  go_enter Tryd.func5, Tryd.ntmps5
  go_wp2_with (go_at_call 8; refine (alive_any _ q.kn.laid).mono ?_; rintro ev w1 ⟨rfl, hb⟩; replace q := q.step hb; clear hb; obtain ⟨a0, a1, a2, a3, a4, a5, a6⟩ := q.m.cells; obtain ⟨b0, b1, b2, b3, b4, b5, b6, b7⟩ := q.p.cells)
  go_ret
  exact ⟨rfl, q.kn.below⟩

set_option maxRecDepth 100000 in
set_option maxHeartbeats 4000000 in
theorem linner_yes (h : Ms) (A : Option Addr) (n c : Nat) (xs : List Int) (kd cd : Int) (p : Hd) (A2 : Option Addr) (n2 c2 : Nat) (ys : List Int) (w : World) (hg : Laid w) (hk : h.ok) (hr : Rd .u8 w w.heap.size A n c xs) (hk2 : p.ok) (hr2 : Rd .u8 w w.heap.size A2 n2 c2 ys) (hn : n ≤ 3000) (hn2 : n2 ≤ 3000) (hE : (iE h xs).2 = 0) : Calls Tryd.prog 5 #[msV h A n c, .int .u8 kd, .int .u8 cd, pkV p A2 n2 c2] w fun e w' => e = .returned (.bool true) ∧ Below w.heap.size w w' := by
  have q := KN.start (h := h) (p := p) hg hr hr2
  have m1 : ¬ (3000 : Int) < (n : Int) := by omega
  have m2 : ¬ (3000 : Int) < (n2 : Int) := by omega
  have hcap := hr.cap
  have hmax := hr.max
  have hcap2 := hr2.cap
  have hmax2 := hr2.max
  have hl2 := hr2.len
  have hw2 := hr2.2.2.2.1
  obtain ⟨bd, hbd⟩ : ∃ b, hdR p n2 ++ ys.take 8 = b := ⟨_, rfl⟩
  obtain ⟨k, hkk⟩ : ∃ k, 20 + min n2 8 = k := ⟨_, rfl⟩
  have Bw : Hid (∀ x ∈ bd, (Lit.int .u8 x).wf = true) := Lib.hid (by rw [← hbd]; exact fun x q => (List.mem_append.1 q).elim (hdR_wf hk2 (by omega) x) (fun q => hw2 x (List.mem_of_mem_take q)))
  have Bl : Hid (bd.length = k) := Lib.hid (by rw [← hbd, ← hkk, List.length_append, List.length_take, hl2, hdR_len, Nat.min_comm])
  have k28 : k ≤ 28 := by rw [← hkk]; have := Nat.min_le_right n2 8; omega
  have cE := Lib.hid (fun W A c (q : Rd .u8 W W.heap.size A n2 c ys) => by
    have := merror_ok kd cd p A n2 c ys W hk2 q (by omega)
    rwa [hbd, hkk] at this)
  have cR := Lib.hid (fun W A c (q : Rd .u8 W W.heap.size A n2 c ys) => by
    have := refError_any kd cd p A n2 c _ ys W hk2 q (by omega) rfl
    rwa [hbd] at this)
  have L2 := Lib.hid hl2
  have hmm : (bodyOf xs).length ≤ n := by rw [← hr.len]; exact body_le xs
  have Mw : Hid (∀ x ∈ bodyOf xs, (Lit.int .u8 x).wf = true) := Lib.hid (fun x q => hr.2.2.2.1 x (List.mem_of_mem_take (List.mem_of_mem_drop q)))
  have c11 := Lib.hid (fun W A n c (q : Rd .u8 W W.heap.size A n c xs) => inner_yes q hE rfl rfl rfl)
  have c12 := Lib.hid (fun W A n c (q : Rd .u8 W W.heap.size A n c xs) => refInner_yes q hE rfl rfl)
  clear hE
  generalize hdOf xs = hd at *
  generalize bodyOf xs = bs at *
  have Ml := Lib.hid (rfl : bs.length = bs.length)
  generalize hml : bs.length = mm at *
  replace Ml := Lib.hid hml
  clear hml
  clear hr hr2 hbd hkk hw2 hl2 hk2 hk
  go_enter Tryd.func5, Tryd.ntmps5
  go_wp2_with (go_at_call 8; refine (alive_any _ q.kn.laid).mono ?_; rintro ev w1 ⟨rfl, hb⟩; replace q := q.step hb; clear hb; obtain ⟨a0, a1, a2, a3, a4, a5, a6⟩ := q.m.cells; obtain ⟨b0, b1, b2, b3, b4, b5, b6, b7⟩ := q.p.cells)
  refine (c11.out _ _ _ _ q.rm').mono ?_
  rintro ev w2 ⟨g1, rfl, row1, -, hb⟩
  have ba := alloc_below w2 (.cells (pkC hd (some ⟨g1, 0, none⟩) mm mm) 60)
  replace hb := hb.trans (ba.mono hb.size)
  have sp : Pp w2.heap.size hd (some ⟨g1, 0, none⟩) mm bs (w2.alloc (.cells (pkC hd (some ⟨g1, 0, none⟩) mm mm) 60)) := Pp.new (row1.rdW Ml.out (by omega) Mw.out)
  replace q := q.step hb
  clear hb ba c11 a0 a1 a2 a3 a4 a5 a6 b0 b1 b2 b3 b4 b5 b6 b7 row1
  obtain ⟨a0, a1, a2, a3, a4, a5, a6⟩ := q.m.cells
  go_wp2_with fail
  refine (of_ms h A n c xs _ q.rm' (by omega)).mono ?_
  rintro ev w3 ⟨A3, n3, c3, rfl, o3, hb⟩
  replace q := q.step hb
  replace sp := sp.step hb
  clear hb a0 a1 a2 a3 a4 a5 a6
  go_wp2_with fail
  refine (c12.out _ _ _ _ o3.rd).mono ?_
  rintro ev w4 ⟨hb, D1, nd1, cd1, rfl, od1⟩
  have ba : Below w4.heap.size w4 ((w4.alloc (.cells (pkC hd D1 nd1 cd1) 63)).alloc (.cells (flC none 0 0 0) 36)) := (alloc_below w4 _).alloc (by simp) _
  replace hb := hb.trans (ba.mono hb.size)
  have sq : Pq w4.heap.size (w4.heap.size + 1) hd D1 nd1 cd1 bs none 0 0 0 [] ((w4.alloc (.cells (pkC hd D1 nd1 cd1) 63)).alloc (.cells (flC none 0 0 0) 36)) := Pq.new od1.rd Rd.nil
  replace q := q.step hb
  replace sp := sp.step hb
  clear hb ba o3 c12 od1
  go_wp2_with fail
  replace q := q.step (below_drew _)
  replace sp := sp.step (below_drew _)
  replace sq := sq.step (below_drew _)
  refine wp_region_held_drew (S := fun w' => (KN w h A n c xs p A2 n2 c2 ys w' ∧ Pp w2.heap.size hd (some ⟨g1, 0, none⟩) mm bs w' ∧ Pq w4.heap.size (w4.heap.size + 1) hd D1 nd1 cd1 bs none 0 0 0 [] w')) (by kernel_rfl) ⟨q, sp, sq⟩ (fun hHeld => ?_)
  clear hHeld
  change wpAnyH _ _ _ _ _ _ _ _ (World.drew _)
  generalize World.drew _ = U0 at *
  have hHeld := And.intro q (And.intro sp sq)
  refine wpAnyH_at (i := 0) (some 36) (v := ?v0z1) rfl rfl (by kernel_rfl) (by kernel_rfl) (by kernel_rfl) (fun _ _ _ h => h) (Or.inl ⟨by rfl, ?y0z1⟩) (by assumption) ?r0z1
  case y0z1 =>
    intro w9 hSw
    clear hSw
    go_simp
    all_goals with_reducible rfl
  simp only [Act.put, List.setIfInBounds_toArray, List.set_cons_zero, List.set_cons_succ]
  refine wpAnyH_at (i := 1) (some 37) (v := ?v1z2) rfl rfl (by kernel_rfl) (by kernel_rfl) (by kernel_rfl) (fun _ _ _ h => h) (Or.inl ⟨by rfl, ?y1z2⟩) (by assumption) ?r1z2
  case y1z2 =>
    intro w9 hSw
    (obtain ⟨a0, a1⟩ := (show (KN w h A n c xs p A2 n2 c2 ys w9 ∧ Pp w2.heap.size hd (some ⟨g1, 0, none⟩) mm bs w9 ∧ Pq w4.heap.size (w4.heap.size + 1) hd D1 nd1 cd1 bs none 0 0 0 [] w9) from hSw).2.2.fault); clear hSw
    go_simp
    all_goals with_reducible rfl
  simp only [Act.put, List.setIfInBounds_toArray, List.set_cons_zero, List.set_cons_succ]
  refine wpAnyH_one (i := 2) (by kernel_rfl) rfl ?_
  go_wp2_with (go_at_call 12; refine (is_nil none 0 0 _).mono ?_; rintro ev V1 ⟨rfl, hb⟩)
  replace q := q.step hb
  replace sp := sp.step hb
  replace sq := sq.step hb
  clear hb hHeld
  have hHeld := And.intro q (And.intro sp sq)
  refine ⟨hHeld, ?_⟩
  try simp only [Act.put, List.setIfInBounds_toArray, List.set_cons_zero, List.set_cons_succ]
  refine wpAnyH_at (i := 3) (some 39) (v := ?v3z3) rfl rfl (by kernel_rfl) (by kernel_rfl) (by kernel_rfl) (fun _ _ _ h => h) (Or.inl ⟨by rfl, ?y3z3⟩) (by assumption) ?r3z3
  case y3z3 =>
    intro w9 hSw
    clear hSw
    go_simp
    all_goals with_reducible rfl
  simp only [Act.put, List.setIfInBounds_toArray, List.set_cons_zero, List.set_cons_succ]
  refine wpAnyH_at (i := 4) (some 40) (v := ?v4z4) rfl rfl (by kernel_rfl) (by kernel_rfl) (by kernel_rfl) (fun _ _ _ h => h) (Or.inl ⟨by rfl, ?y4z4⟩) (by assumption) ?r4z4
  case y4z4 =>
    intro w9 hSw
    (obtain ⟨a0, a1, a2, a3, a4, a5, a6, a7⟩ := (show (KN w h A n c xs p A2 n2 c2 ys w9 ∧ Pp w2.heap.size hd (some ⟨g1, 0, none⟩) mm bs w9 ∧ Pq w4.heap.size (w4.heap.size + 1) hd D1 nd1 cd1 bs none 0 0 0 [] w9) from hSw).2.1.p.cells); clear hSw
    go_simp
    all_goals with_reducible rfl
  simp only [Act.put, List.setIfInBounds_toArray, List.set_cons_zero, List.set_cons_succ]
  refine wpAnyH_at (i := 6) (some 42) (v := ?v6z5) rfl rfl (by kernel_rfl) (by kernel_rfl) (by kernel_rfl) (fun _ _ _ h => h) (Or.inl ⟨by rfl, ?y6z5⟩) (by assumption) ?r6z5
  case y6z5 =>
    intro w9 hSw
    (obtain ⟨a0, a1, a2, a3, a4, a5, a6, a7⟩ := (show (KN w h A n c xs p A2 n2 c2 ys w9 ∧ Pp w2.heap.size hd (some ⟨g1, 0, none⟩) mm bs w9 ∧ Pq w4.heap.size (w4.heap.size + 1) hd D1 nd1 cd1 bs none 0 0 0 [] w9) from hSw).2.2.q.cells); clear hSw
    go_simp
    all_goals with_reducible rfl
  simp only [Act.put, List.setIfInBounds_toArray, List.set_cons_zero, List.set_cons_succ]
  refine wpAnyH_one (i := 5) (by kernel_rfl) rfl ?_
  go_wp2_with (go_at_call 29; refine (of_pk hd (some ⟨g1, 0, none⟩) mm mm bs _ sp.r (by omega)).mono ?_; rintro ev V2 ⟨A5, n5, c5, rfl, o5, hb⟩)
  replace q := q.step hb
  replace sp := sp.step hb
  replace sq := sq.step hb
  clear hb hHeld
  have hHeld := And.intro q (And.intro sp sq)
  refine ⟨hHeld, ?_⟩
  try simp only [Act.put, List.setIfInBounds_toArray, List.set_cons_zero, List.set_cons_succ]
  refine wpAnyH_one (i := 7) (by kernel_rfl) rfl ?_
  have s7 := refSame_pk hd hd _ _ _ _ _ _ bs bs _ o5.rd sq.r
  rw [smB_self] at s7
  go_wp2_with (go_at_call 28; refine (s7).mono ?_; rintro ev V3 ⟨rfl, hb⟩)
  replace q := q.step hb
  replace sp := sp.step hb
  replace sq := sq.step hb
  clear s7 o5
  clear hb hHeld
  have hHeld := And.intro q (And.intro sp sq)
  refine ⟨hHeld, ?_⟩
  try simp only [Act.put, List.setIfInBounds_toArray, List.set_cons_zero, List.set_cons_succ]
  refine wpAnyH_at (i := 8) (some 44) (v := ?v8z6) rfl rfl (by kernel_rfl) (by kernel_rfl) (by kernel_rfl) (fun _ _ _ h => h) (Or.inl ⟨by rfl, ?y8z6⟩) (by assumption) ?r8z6
  case y8z6 =>
    intro w9 hSw
    clear hSw
    go_simp
    all_goals with_reducible rfl
  simp only [Act.put, List.setIfInBounds_toArray, List.set_cons_zero, List.set_cons_succ]
  refine wpAnyH_at (i := 9) (some 45) (v := ?v9z7) rfl rfl (by kernel_rfl) (by kernel_rfl) (by kernel_rfl) (fun _ _ _ h => h) (Or.inl ⟨by rfl, ?y9z7⟩) (by assumption) ?r9z7
  case y9z7 =>
    intro w9 hSw
    clear hSw
    go_simp
    all_goals with_reducible rfl
  simp only [Act.put, List.setIfInBounds_toArray, List.set_cons_zero, List.set_cons_succ]
  refine wpAnyH_at (i := 10) (some 46) (v := ?v10z8) rfl rfl (by kernel_rfl) (by kernel_rfl) (by kernel_rfl) (fun _ _ _ h => h) (Or.inl ⟨by rfl, ?y10z8⟩) (by assumption) ?r10z8
  case y10z8 =>
    intro w9 hSw
    clear hSw
    go_simp
    all_goals with_reducible rfl
  simp only [Act.put, List.setIfInBounds_toArray, List.set_cons_zero, List.set_cons_succ]
  refine wpAnyH_at (i := 11) (some 47) (v := ?v11z9) rfl rfl (by kernel_rfl) (by kernel_rfl) (by kernel_rfl) (fun _ _ _ h => h) (Or.inl ⟨by rfl, ?y11z9⟩) (by assumption) ?r11z9
  case y11z9 =>
    intro w9 hSw
    clear hSw
    go_simp
    all_goals with_reducible rfl
  simp only [Act.put, List.setIfInBounds_toArray, List.set_cons_zero, List.set_cons_succ]
  refine wpAnyH_at (i := 12) (some 48) (v := ?v12z10) rfl rfl (by kernel_rfl) (by kernel_rfl) (by kernel_rfl) (fun _ _ _ h => h) (Or.inl ⟨by rfl, ?y12z10⟩) (by assumption) ?r12z10
  case y12z10 =>
    intro w9 hSw
    (obtain ⟨a0, a1, a2, a3, a4, a5, a6, a7⟩ := (show (KN w h A n c xs p A2 n2 c2 ys w9 ∧ Pp w2.heap.size hd (some ⟨g1, 0, none⟩) mm bs w9 ∧ Pq w4.heap.size (w4.heap.size + 1) hd D1 nd1 cd1 bs none 0 0 0 [] w9) from hSw).1.p.cells); clear hSw
    go_simp
    all_goals with_reducible rfl
  simp only [Act.put, List.setIfInBounds_toArray, List.set_cons_zero, List.set_cons_succ]
  refine wpAnyH_at (i := 15) (some 51) (v := ?v15z11) rfl rfl (by kernel_rfl) (by kernel_rfl) (by kernel_rfl) (fun _ _ _ h => h) (Or.inl ⟨by rfl, ?y15z11⟩) (by assumption) ?r15z11
  case y15z11 =>
    intro w9 hSw
    clear hSw
    go_simp
    all_goals with_reducible rfl
  simp only [Act.put, List.setIfInBounds_toArray, List.set_cons_zero, List.set_cons_succ]
  refine wpAnyH_at (i := 16) (some 52) (v := ?v16z12) rfl rfl (by kernel_rfl) (by kernel_rfl) (by kernel_rfl) (fun _ _ _ h => h) (Or.inl ⟨by rfl, ?y16z12⟩) (by assumption) ?r16z12
  case y16z12 =>
    intro w9 hSw
    clear hSw
    go_simp
    all_goals with_reducible rfl
  simp only [Act.put, List.setIfInBounds_toArray, List.set_cons_zero, List.set_cons_succ]
  refine wpAnyH_at (i := 17) (some 53) (v := ?v17z13) rfl rfl (by kernel_rfl) (by kernel_rfl) (by kernel_rfl) (fun _ _ _ h => h) (Or.inl ⟨by rfl, ?y17z13⟩) (by assumption) ?r17z13
  case y17z13 =>
    intro w9 hSw
    (obtain ⟨a0, a1, a2, a3, a4, a5, a6, a7⟩ := (show (KN w h A n c xs p A2 n2 c2 ys w9 ∧ Pp w2.heap.size hd (some ⟨g1, 0, none⟩) mm bs w9 ∧ Pq w4.heap.size (w4.heap.size + 1) hd D1 nd1 cd1 bs none 0 0 0 [] w9) from hSw).1.p.cells); clear hSw
    go_simp
    all_goals with_reducible rfl
  simp only [Act.put, List.setIfInBounds_toArray, List.set_cons_zero, List.set_cons_succ]
  refine wpAnyH_one (i := 13) (by kernel_rfl) rfl ?_
  go_wp2_with (go_at_call 30; refine (cE.out _ _ _ q.rp').mono ?_; rintro ev V4 ⟨gE, rfl, rE, -, hb⟩)
  replace q := q.step hb
  replace sp := sp.step hb
  replace sq := sq.step hb
  clear hb hHeld
  have hHeld := And.intro q (And.intro sp sq)
  refine ⟨hHeld, ?_⟩
  try simp only [Act.put, List.setIfInBounds_toArray, List.set_cons_zero, List.set_cons_succ]
  refine wpAnyH_one (i := 14) (by kernel_rfl) rfl ?_
  go_wp2_with (go_at_call 14; refine (of_ms ⟨kd, cd, 0, 0, 0, 0⟩ (some ⟨gE, 0, none⟩) k k bd _ (rE.rdW Bl.out (by omega) Bw.out) (by omega)).mono ?_; rintro ev V5 ⟨A6, n6, c6, rfl, o6, hb⟩)
  replace q := q.step hb
  replace sp := sp.step hb
  replace sq := sq.step hb
  clear rE
  clear hb hHeld
  have hHeld := And.intro q (And.intro sp sq)
  refine ⟨hHeld, ?_⟩
  try simp only [Act.put, List.setIfInBounds_toArray, List.set_cons_zero, List.set_cons_succ]
  refine wpAnyH_one (i := 18) (by kernel_rfl) rfl ?_
  go_wp2_with (go_at_call 29; refine (of_pk p A2 n2 c2 ys _ q.rp' (by omega)).mono ?_; rintro ev V6 ⟨A7, n7, c7, rfl, o7, hb⟩)
  replace q := q.step hb
  replace sp := sp.step hb
  replace sq := sq.step hb
  replace o6 := o6.below hb (Nat.le_refl _)
  obtain rfl : n2 = n7 := L2.out.symm.trans o7.len
  clear hb hHeld
  have hHeld := And.intro q (And.intro sp sq)
  refine ⟨hHeld, ?_⟩
  try simp only [Act.put, List.setIfInBounds_toArray, List.set_cons_zero, List.set_cons_succ]
  refine wpAnyH_one (i := 19) (by kernel_rfl) rfl ?_
  go_wp2_with (go_at_call 31; refine (cR.out _ _ _ o7.rd).mono ?_; rintro ev V7 ⟨A8, n8, c8, rfl, o8, hb⟩)
  replace q := q.step hb
  replace sp := sp.step hb
  replace sq := sq.step hb
  replace o6 := o6.below hb (Nat.le_refl _)
  clear o7
  clear hb hHeld
  have hHeld := And.intro q (And.intro sp sq)
  refine ⟨hHeld, ?_⟩
  try simp only [Act.put, List.setIfInBounds_toArray, List.set_cons_zero, List.set_cons_succ]
  refine wpAnyH_one (i := 20) (by kernel_rfl) rfl ?_
  have s20 := refSame_ms ⟨kd, cd, 0, 0, 0, 0⟩ ⟨kd, cd, 0, 0, 0, 0⟩ _ _ _ _ _ _ bd bd _ o6.rd o8.rd
  rw [mmB_self] at s20
  go_wp2_with (go_at_call 13; refine (s20).mono ?_; rintro ev V8 ⟨rfl, hb⟩)
  replace q := q.step hb
  replace sp := sp.step hb
  replace sq := sq.step hb
  clear s20 o6 o8
  clear hb hHeld
  have hHeld := And.intro q (And.intro sp sq)
  refine ⟨hHeld, ?_⟩
  try simp only [Act.put, List.setIfInBounds_toArray, List.set_cons_zero, List.set_cons_succ]
  refine wpAnyH_at (i := 21) (some 57) (v := ?v21z14) rfl rfl (by kernel_rfl) (by kernel_rfl) (by kernel_rfl) (fun _ _ _ h => h) (Or.inl ⟨by rfl, ?y21z14⟩) (by assumption) ?r21z14
  case y21z14 =>
    intro w9 hSw
    clear hSw
    go_simp
    all_goals with_reducible rfl
  simp only [Act.put, List.setIfInBounds_toArray, List.set_cons_zero, List.set_cons_succ]
  refine wpAnyH_at (i := 22) (some 8) (v := ?v22z15) rfl rfl (by kernel_rfl) (by kernel_rfl) (by kernel_rfl) (fun _ _ _ h => h) (Or.inl ⟨by rfl, ?y22z15⟩) (by assumption) ?r22z15
  case y22z15 =>
    intro w9 hSw
    clear hSw
    go_simp
    all_goals with_reducible rfl
  simp only [Act.put, List.setIfInBounds_toArray, List.set_cons_zero, List.set_cons_succ]
  refine wpAnyH_done (by kernel_rfl) ?_ _
  go_wp2
  go_ret
  exact ⟨rfl, q.kn.below⟩

set_option maxRecDepth 100000 in
set_option maxHeartbeats 4000000 in
theorem linner_no (h : Ms) (A : Option Addr) (n c : Nat) (xs : List Int) (kd cd : Int) (p : Hd) (A2 : Option Addr) (n2 c2 : Nat) (ys : List Int) (w : World) (hg : Laid w) (hk : h.ok) (hr : Rd .u8 w w.heap.size A n c xs) (hk2 : p.ok) (hr2 : Rd .u8 w w.heap.size A2 n2 c2 ys) (hn : n ≤ 3000) (hn2 : n2 ≤ 3000) (r1 e1 : Int) (hE : iE h xs = (r1, e1)) (he1 : ¬ e1 = 0) : Calls Tryd.prog 5 #[msV h A n c, .int .u8 kd, .int .u8 cd, pkV p A2 n2 c2] w fun e w' => e = .returned (.bool true) ∧ Below w.heap.size w w' := by
  have q := KN.start (h := h) (p := p) hg hr hr2
  have m1 : ¬ (3000 : Int) < (n : Int) := by omega
  have m2 : ¬ (3000 : Int) < (n2 : Int) := by omega
  have hcap := hr.cap
  have hmax := hr.max
  have hcap2 := hr2.cap
  have hmax2 := hr2.max
  have hl2 := hr2.len
  have hw2 := hr2.2.2.2.1
  obtain ⟨bd, hbd⟩ : ∃ b, hdR p n2 ++ ys.take 8 = b := ⟨_, rfl⟩
  obtain ⟨k, hkk⟩ : ∃ k, 20 + min n2 8 = k := ⟨_, rfl⟩
  have Bw : Hid (∀ x ∈ bd, (Lit.int .u8 x).wf = true) := Lib.hid (by rw [← hbd]; exact fun x q => (List.mem_append.1 q).elim (hdR_wf hk2 (by omega) x) (fun q => hw2 x (List.mem_of_mem_take q)))
  have Bl : Hid (bd.length = k) := Lib.hid (by rw [← hbd, ← hkk, List.length_append, List.length_take, hl2, hdR_len, Nat.min_comm])
  have k28 : k ≤ 28 := by rw [← hkk]; have := Nat.min_le_right n2 8; omega
  have cE := Lib.hid (fun W A c (q : Rd .u8 W W.heap.size A n2 c ys) => by
    have := merror_ok kd cd p A n2 c ys W hk2 q (by omega)
    rwa [hbd, hkk] at this)
  have cR := Lib.hid (fun W A c (q : Rd .u8 W W.heap.size A n2 c ys) => by
    have := refError_any kd cd p A n2 c _ ys W hk2 q (by omega) rfl
    rwa [hbd] at this)
  have L2 := Lib.hid hl2
  have c11 := Lib.hid (fun W A n c (q : Rd .u8 W W.heap.size A n c xs) => inner_no q hE he1)
  have c12 := Lib.hid (fun W A n c (q : Rd .u8 W W.heap.size A n c xs) => refInner_no q hE he1)
  clear hE
  clear hr hr2 hbd hkk hw2 hl2 hk2 hk
  go_enter Tryd.func5, Tryd.ntmps5
  go_wp2_with (go_at_call 8; refine (alive_any _ q.kn.laid).mono ?_; rintro ev w1 ⟨rfl, hb⟩; replace q := q.step hb; clear hb; obtain ⟨a0, a1, a2, a3, a4, a5, a6⟩ := q.m.cells; obtain ⟨b0, b1, b2, b3, b4, b5, b6, b7⟩ := q.p.cells)
  refine (c11.out _ _ _ _ q.rm').mono ?_
  rintro ev w2 ⟨rfl, hb⟩
  have ba := alloc_below w2 (.cells (pkC zeroH none 0 0) 60)
  replace hb := hb.trans (ba.mono hb.size)
  have sp : Pp w2.heap.size zeroH none 0 [] (w2.alloc (.cells (pkC zeroH none 0 0) 60)) := Pp.new Rd.nil
  replace q := q.step hb
  clear hb ba c11 a0 a1 a2 a3 a4 a5 a6 b0 b1 b2 b3 b4 b5 b6 b7
  obtain ⟨a0, a1, a2, a3, a4, a5, a6⟩ := q.m.cells
  go_wp2_with fail
  refine (of_ms h A n c xs _ q.rm' (by omega)).mono ?_
  rintro ev w3 ⟨A3, n3, c3, rfl, o3, hb⟩
  replace q := q.step hb
  replace sp := sp.step hb
  clear hb a0 a1 a2 a3 a4 a5 a6
  go_wp2_with fail
  refine (c12.out _ _ _ _ o3.rd).mono ?_
  rintro ev w4 ⟨hb, Af1, nf1, cf1, rfl, rf1, -⟩
  have ba : Below w4.heap.size w4 ((w4.alloc (.cells (pkC zeroH none 0 0) 63)).alloc (.cells (flC Af1 nf1 cf1 e1) 36)) := (alloc_below w4 _).alloc (by simp) _
  replace hb := hb.trans (ba.mono hb.size)
  have sq : Pq w4.heap.size (w4.heap.size + 1) zeroH none 0 0 [] Af1 nf1 cf1 e1 [r1] ((w4.alloc (.cells (pkC zeroH none 0 0) 63)).alloc (.cells (flC Af1 nf1 cf1 e1) 36)) := Pq.new Rd.nil rf1
  replace q := q.step hb
  replace sp := sp.step hb
  clear hb ba o3 c12 rf1
  go_wp2_with fail
  replace q := q.step (below_drew _)
  replace sp := sp.step (below_drew _)
  replace sq := sq.step (below_drew _)
  refine wp_region_held_drew (S := fun w' => (KN w h A n c xs p A2 n2 c2 ys w' ∧ Pp w2.heap.size zeroH none 0 [] w' ∧ Pq w4.heap.size (w4.heap.size + 1) zeroH none 0 0 [] Af1 nf1 cf1 e1 [r1] w')) (by kernel_rfl) ⟨q, sp, sq⟩ (fun hHeld => ?_)
  clear hHeld
  change wpAnyH _ _ _ _ _ _ _ _ (World.drew _)
  generalize World.drew _ = U0 at *
  have hHeld := And.intro q (And.intro sp sq)
  refine wpAnyH_at (i := 0) (some 36) (v := ?v0z16) rfl rfl (by kernel_rfl) (by kernel_rfl) (by kernel_rfl) (fun _ _ _ h => h) (Or.inl ⟨by rfl, ?y0z16⟩) (by assumption) ?r0z16
  case y0z16 =>
    intro w9 hSw
    clear hSw
    go_simp
    all_goals with_reducible rfl
  simp only [Act.put, List.setIfInBounds_toArray, List.set_cons_zero, List.set_cons_succ]
  refine wpAnyH_at (i := 1) (some 37) (v := ?v1z17) rfl rfl (by kernel_rfl) (by kernel_rfl) (by kernel_rfl) (fun _ _ _ h => h) (Or.inl ⟨by rfl, ?y1z17⟩) (by assumption) ?r1z17
  case y1z17 =>
    intro w9 hSw
    (obtain ⟨a0, a1⟩ := (show (KN w h A n c xs p A2 n2 c2 ys w9 ∧ Pp w2.heap.size zeroH none 0 [] w9 ∧ Pq w4.heap.size (w4.heap.size + 1) zeroH none 0 0 [] Af1 nf1 cf1 e1 [r1] w9) from hSw).2.2.fault); clear hSw
    go_simp
    all_goals with_reducible rfl
  simp only [Act.put, List.setIfInBounds_toArray, List.set_cons_zero, List.set_cons_succ]
  refine wpAnyH_one (i := 2) (by kernel_rfl) rfl ?_
  go_wp2_with (go_at_call 12; refine (is_err Af1 nf1 cf1 r1 e1 _ q.kn.laid sq.fr he1).mono ?_; rintro ev V1 ⟨rfl, hb⟩)
  replace q := q.step hb
  replace sp := sp.step hb
  replace sq := sq.step hb
  clear hb hHeld
  have hHeld := And.intro q (And.intro sp sq)
  refine ⟨hHeld, ?_⟩
  try simp only [Act.put, List.setIfInBounds_toArray, List.set_cons_zero, List.set_cons_succ]
  refine wpAnyH_at (i := 3) (some 39) (v := ?v3z18) rfl rfl (by kernel_rfl) (by kernel_rfl) (by kernel_rfl) (fun _ _ _ h => h) (Or.inl ⟨by rfl, ?y3z18⟩) (by assumption) ?r3z18
  case y3z18 =>
    intro w9 hSw
    clear hSw
    go_simp
    all_goals with_reducible rfl
  simp only [Act.put, List.setIfInBounds_toArray, List.set_cons_zero, List.set_cons_succ]
  refine wpAnyH_at (i := 4) (some 40) (v := ?v4z19) rfl rfl (by kernel_rfl) (by kernel_rfl) (by kernel_rfl) (fun _ _ _ h => h) (Or.inl ⟨by rfl, ?y4z19⟩) (by assumption) ?r4z19
  case y4z19 =>
    intro w9 hSw
    (obtain ⟨a0, a1, a2, a3, a4, a5, a6, a7⟩ := (show (KN w h A n c xs p A2 n2 c2 ys w9 ∧ Pp w2.heap.size zeroH none 0 [] w9 ∧ Pq w4.heap.size (w4.heap.size + 1) zeroH none 0 0 [] Af1 nf1 cf1 e1 [r1] w9) from hSw).2.1.p.cells); clear hSw
    go_simp
    all_goals with_reducible rfl
  simp only [Act.put, List.setIfInBounds_toArray, List.set_cons_zero, List.set_cons_succ]
  refine wpAnyH_at (i := 6) (some 42) (v := ?v6z20) rfl rfl (by kernel_rfl) (by kernel_rfl) (by kernel_rfl) (fun _ _ _ h => h) (Or.inl ⟨by rfl, ?y6z20⟩) (by assumption) ?r6z20
  case y6z20 =>
    intro w9 hSw
    (obtain ⟨a0, a1, a2, a3, a4, a5, a6, a7⟩ := (show (KN w h A n c xs p A2 n2 c2 ys w9 ∧ Pp w2.heap.size zeroH none 0 [] w9 ∧ Pq w4.heap.size (w4.heap.size + 1) zeroH none 0 0 [] Af1 nf1 cf1 e1 [r1] w9) from hSw).2.2.q.cells); clear hSw
    go_simp
    all_goals with_reducible rfl
  simp only [Act.put, List.setIfInBounds_toArray, List.set_cons_zero, List.set_cons_succ]
  refine wpAnyH_one (i := 5) (by kernel_rfl) rfl ?_
  go_wp2_with (go_at_call 29; refine (of_pk zeroH none 0 0 [] _ sp.r (by omega)).mono ?_; rintro ev V2 ⟨A5, n5, c5, rfl, o5, hb⟩)
  replace q := q.step hb
  replace sp := sp.step hb
  replace sq := sq.step hb
  clear hb hHeld
  have hHeld := And.intro q (And.intro sp sq)
  refine ⟨hHeld, ?_⟩
  try simp only [Act.put, List.setIfInBounds_toArray, List.set_cons_zero, List.set_cons_succ]
  refine wpAnyH_one (i := 7) (by kernel_rfl) rfl ?_
  have s7 := refSame_pk zeroH zeroH _ _ _ _ _ _ [] [] _ o5.rd sq.r
  rw [smB_self] at s7
  go_wp2_with (go_at_call 28; refine (s7).mono ?_; rintro ev V3 ⟨rfl, hb⟩)
  replace q := q.step hb
  replace sp := sp.step hb
  replace sq := sq.step hb
  clear s7 o5
  clear hb hHeld
  have hHeld := And.intro q (And.intro sp sq)
  refine ⟨hHeld, ?_⟩
  try simp only [Act.put, List.setIfInBounds_toArray, List.set_cons_zero, List.set_cons_succ]
  refine wpAnyH_at (i := 8) (some 44) (v := ?v8z21) rfl rfl (by kernel_rfl) (by kernel_rfl) (by kernel_rfl) (fun _ _ _ h => h) (Or.inl ⟨by rfl, ?y8z21⟩) (by assumption) ?r8z21
  case y8z21 =>
    intro w9 hSw
    clear hSw
    go_simp
    all_goals with_reducible rfl
  simp only [Act.put, List.setIfInBounds_toArray, List.set_cons_zero, List.set_cons_succ]
  refine wpAnyH_at (i := 9) (some 45) (v := ?v9z22) rfl rfl (by kernel_rfl) (by kernel_rfl) (by kernel_rfl) (fun _ _ _ h => h) (Or.inl ⟨by rfl, ?y9z22⟩) (by assumption) ?r9z22
  case y9z22 =>
    intro w9 hSw
    clear hSw
    go_simp
    all_goals with_reducible rfl
  simp only [Act.put, List.setIfInBounds_toArray, List.set_cons_zero, List.set_cons_succ]
  refine wpAnyH_at (i := 10) (some 46) (v := ?v10z23) rfl rfl (by kernel_rfl) (by kernel_rfl) (by kernel_rfl) (fun _ _ _ h => h) (Or.inl ⟨by rfl, ?y10z23⟩) (by assumption) ?r10z23
  case y10z23 =>
    intro w9 hSw
    clear hSw
    go_simp
    all_goals with_reducible rfl
  simp only [Act.put, List.setIfInBounds_toArray, List.set_cons_zero, List.set_cons_succ]
  refine wpAnyH_at (i := 11) (some 47) (v := ?v11z24) rfl rfl (by kernel_rfl) (by kernel_rfl) (by kernel_rfl) (fun _ _ _ h => h) (Or.inl ⟨by rfl, ?y11z24⟩) (by assumption) ?r11z24
  case y11z24 =>
    intro w9 hSw
    clear hSw
    go_simp
    all_goals with_reducible rfl
  simp only [Act.put, List.setIfInBounds_toArray, List.set_cons_zero, List.set_cons_succ]
  refine wpAnyH_at (i := 12) (some 48) (v := ?v12z25) rfl rfl (by kernel_rfl) (by kernel_rfl) (by kernel_rfl) (fun _ _ _ h => h) (Or.inl ⟨by rfl, ?y12z25⟩) (by assumption) ?r12z25
  case y12z25 =>
    intro w9 hSw
    (obtain ⟨a0, a1, a2, a3, a4, a5, a6, a7⟩ := (show (KN w h A n c xs p A2 n2 c2 ys w9 ∧ Pp w2.heap.size zeroH none 0 [] w9 ∧ Pq w4.heap.size (w4.heap.size + 1) zeroH none 0 0 [] Af1 nf1 cf1 e1 [r1] w9) from hSw).1.p.cells); clear hSw
    go_simp
    all_goals with_reducible rfl
  simp only [Act.put, List.setIfInBounds_toArray, List.set_cons_zero, List.set_cons_succ]
  refine wpAnyH_at (i := 15) (some 51) (v := ?v15z26) rfl rfl (by kernel_rfl) (by kernel_rfl) (by kernel_rfl) (fun _ _ _ h => h) (Or.inl ⟨by rfl, ?y15z26⟩) (by assumption) ?r15z26
  case y15z26 =>
    intro w9 hSw
    clear hSw
    go_simp
    all_goals with_reducible rfl
  simp only [Act.put, List.setIfInBounds_toArray, List.set_cons_zero, List.set_cons_succ]
  refine wpAnyH_at (i := 16) (some 52) (v := ?v16z27) rfl rfl (by kernel_rfl) (by kernel_rfl) (by kernel_rfl) (fun _ _ _ h => h) (Or.inl ⟨by rfl, ?y16z27⟩) (by assumption) ?r16z27
  case y16z27 =>
    intro w9 hSw
    clear hSw
    go_simp
    all_goals with_reducible rfl
  simp only [Act.put, List.setIfInBounds_toArray, List.set_cons_zero, List.set_cons_succ]
  refine wpAnyH_at (i := 17) (some 53) (v := ?v17z28) rfl rfl (by kernel_rfl) (by kernel_rfl) (by kernel_rfl) (fun _ _ _ h => h) (Or.inl ⟨by rfl, ?y17z28⟩) (by assumption) ?r17z28
  case y17z28 =>
    intro w9 hSw
    (obtain ⟨a0, a1, a2, a3, a4, a5, a6, a7⟩ := (show (KN w h A n c xs p A2 n2 c2 ys w9 ∧ Pp w2.heap.size zeroH none 0 [] w9 ∧ Pq w4.heap.size (w4.heap.size + 1) zeroH none 0 0 [] Af1 nf1 cf1 e1 [r1] w9) from hSw).1.p.cells); clear hSw
    go_simp
    all_goals with_reducible rfl
  simp only [Act.put, List.setIfInBounds_toArray, List.set_cons_zero, List.set_cons_succ]
  refine wpAnyH_one (i := 13) (by kernel_rfl) rfl ?_
  go_wp2_with (go_at_call 30; refine (cE.out _ _ _ q.rp').mono ?_; rintro ev V4 ⟨gE, rfl, rE, -, hb⟩)
  replace q := q.step hb
  replace sp := sp.step hb
  replace sq := sq.step hb
  clear hb hHeld
  have hHeld := And.intro q (And.intro sp sq)
  refine ⟨hHeld, ?_⟩
  try simp only [Act.put, List.setIfInBounds_toArray, List.set_cons_zero, List.set_cons_succ]
  refine wpAnyH_one (i := 14) (by kernel_rfl) rfl ?_
  go_wp2_with (go_at_call 14; refine (of_ms ⟨kd, cd, 0, 0, 0, 0⟩ (some ⟨gE, 0, none⟩) k k bd _ (rE.rdW Bl.out (by omega) Bw.out) (by omega)).mono ?_; rintro ev V5 ⟨A6, n6, c6, rfl, o6, hb⟩)
  replace q := q.step hb
  replace sp := sp.step hb
  replace sq := sq.step hb
  clear rE
  clear hb hHeld
  have hHeld := And.intro q (And.intro sp sq)
  refine ⟨hHeld, ?_⟩
  try simp only [Act.put, List.setIfInBounds_toArray, List.set_cons_zero, List.set_cons_succ]
  refine wpAnyH_one (i := 18) (by kernel_rfl) rfl ?_
  go_wp2_with (go_at_call 29; refine (of_pk p A2 n2 c2 ys _ q.rp' (by omega)).mono ?_; rintro ev V6 ⟨A7, n7, c7, rfl, o7, hb⟩)
  replace q := q.step hb
  replace sp := sp.step hb
  replace sq := sq.step hb
  replace o6 := o6.below hb (Nat.le_refl _)
  obtain rfl : n2 = n7 := L2.out.symm.trans o7.len
  clear hb hHeld
  have hHeld := And.intro q (And.intro sp sq)
  refine ⟨hHeld, ?_⟩
  try simp only [Act.put, List.setIfInBounds_toArray, List.set_cons_zero, List.set_cons_succ]
  refine wpAnyH_one (i := 19) (by kernel_rfl) rfl ?_
  go_wp2_with (go_at_call 31; refine (cR.out _ _ _ o7.rd).mono ?_; rintro ev V7 ⟨A8, n8, c8, rfl, o8, hb⟩)
  replace q := q.step hb
  replace sp := sp.step hb
  replace sq := sq.step hb
  replace o6 := o6.below hb (Nat.le_refl _)
  clear o7
  clear hb hHeld
  have hHeld := And.intro q (And.intro sp sq)
  refine ⟨hHeld, ?_⟩
  try simp only [Act.put, List.setIfInBounds_toArray, List.set_cons_zero, List.set_cons_succ]
  refine wpAnyH_one (i := 20) (by kernel_rfl) rfl ?_
  have s20 := refSame_ms ⟨kd, cd, 0, 0, 0, 0⟩ ⟨kd, cd, 0, 0, 0, 0⟩ _ _ _ _ _ _ bd bd _ o6.rd o8.rd
  rw [mmB_self] at s20
  go_wp2_with (go_at_call 13; refine (s20).mono ?_; rintro ev V8 ⟨rfl, hb⟩)
  replace q := q.step hb
  replace sp := sp.step hb
  replace sq := sq.step hb
  clear s20 o6 o8
  clear hb hHeld
  have hHeld := And.intro q (And.intro sp sq)
  refine ⟨hHeld, ?_⟩
  try simp only [Act.put, List.setIfInBounds_toArray, List.set_cons_zero, List.set_cons_succ]
  refine wpAnyH_at (i := 21) (some 57) (v := ?v21z29) rfl rfl (by kernel_rfl) (by kernel_rfl) (by kernel_rfl) (fun _ _ _ h => h) (Or.inl ⟨by rfl, ?y21z29⟩) (by assumption) ?r21z29
  case y21z29 =>
    intro w9 hSw
    clear hSw
    go_simp
    all_goals with_reducible rfl
  simp only [Act.put, List.setIfInBounds_toArray, List.set_cons_zero, List.set_cons_succ]
  refine wpAnyH_at (i := 22) (some 8) (v := ?v22z30) rfl rfl (by kernel_rfl) (by kernel_rfl) (by kernel_rfl) (fun _ _ _ h => h) (Or.inl ⟨by rfl, ?y22z30⟩) (by assumption) ?r22z30
  case y22z30 =>
    intro w9 hSw
    clear hSw
    go_simp
    all_goals with_reducible rfl
  simp only [Act.put, List.setIfInBounds_toArray, List.set_cons_zero, List.set_cons_succ]
  refine wpAnyH_done (by kernel_rfl) ?_ _
  go_wp2
  go_ret
  exact ⟨rfl, q.kn.below⟩
theorem linner_law (h : Ms) (A : Option Addr) (n c : Nat) (xs : List Int) (kd cd : Int) (p : Hd) (A2 : Option Addr) (n2 c2 : Nat) (ys : List Int) (w : World) (hg : Laid w) (hk : h.ok) (hr : Rd .u8 w w.heap.size A n c xs) (hk2 : p.ok) (hr2 : Rd .u8 w w.heap.size A2 n2 c2 ys) : Calls Tryd.prog 5 #[msV h A n c, .int .u8 kd, .int .u8 cd, pkV p A2 n2 c2] w fun e w' => e = .returned (.bool true) ∧ Below w.heap.size w w' := by
  by_cases hn : 3000 < n
  · exact linner_far h A n c xs kd cd p A2 n2 c2 ys w hg hk hr hk2 hr2 hn
  · by_cases hn2 : 3000 < n2
    · exact linner_far2 h A n c xs kd cd p A2 n2 c2 ys w hg hk hr hk2 hr2 hn hn2
    · by_cases hE : (iE h xs).2 = 0
      · exact linner_yes h A n c xs kd cd p A2 n2 c2 ys w hg hk hr hk2 hr2 (by omega) (by omega) hE
      · obtain ⟨r, e, hE, he⟩ := iE_pair h xs hE
        exact linner_no h A n c xs kd cd p A2 n2 c2 ys w hg hk hr hk2 hr2 (by omega) (by omega) r e hE he
end Go.Proofs.YtbefoapnlehdmaaDoor
