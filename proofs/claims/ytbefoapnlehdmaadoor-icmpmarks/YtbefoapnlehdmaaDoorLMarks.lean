/-
  The law IcmpMarks: another mark changes nothing but the mark.
-/
import Derived.Test.YtbefoapnlehdmaaDoorMAlive
namespace Go.Proofs.YtbefoapnlehdmaaDoor
open Go.RowKit
set_option linter.unusedVariables false

theorem mkN_mkS (h : Ms) (k : Int) : mkN (mkS h k) = k := by
  unfold mkN
  dsimp only
  omega
theorem mkS_back {h : Ms} (hk : h.ok) (k : Int) : mkS (mkS h k) (mkN h) = h := by
  have h0 := hk.r0
  have h1 := hk.r1
  obtain ⟨a, b, c, d, e, f⟩ := h
  dsimp only at h0 h1
  show Ms.mk a b ((c * 256 + d) / 256) ((c * 256 + d) % 256) e f = _
  rw [show (c * 256 + d) / 256 = c by omega, show (c * 256 + d) % 256 = d by omega]
/-- What the walk knows: the message, the one with another mark. -/
structure KX (w : World) (h : Ms) (A : Option Addr) (n c : Nat) (xs : List Int) (h2 : Ms) (gx g1 : Nat) (W : World) : Prop where
  kn : Kn w W
  m : MsAt W w.heap.size 27 h A n c
  rd : Rd .u8 W w.heap.size A n c xs
  x : MsAt W gx 27 h2 (some ⟨g1, 0, none⟩) n n
  r1 : Row W g1 xs
/-- And the one that is marked back. -/
structure KY (w : World) (h : Ms) (A : Option Addr) (n c : Nat) (xs : List Int) (h2 : Ms) (gx g1 gy g2 : Nat) (W : World) : Prop where
  k : KX w h A n c xs h2 gx g1 W
  y : MsAt W gy 27 h (some ⟨g2, 0, none⟩) n n
  r2 : Row W g2 xs
/-- And the bare one. -/
structure KZ (w : World) (h : Ms) (A : Option Addr) (n c : Nat) (xs : List Int) (h2 : Ms) (gx g1 gy g2 gb : Nat) (W : World) : Prop where
  k : KY w h A n c xs h2 gx g1 gy g2 W
  b : MsAt W gb 27 ⟨h.ty, 0, 0, 0, 0, 0⟩ none 0 0
section
variable {w W V : World} {h h2 : Ms} {A : Option Addr} {n c gx g1 gy g2 gb : Nat} {xs : List Int}
theorem KX.step (q : KX w h A n c xs h2 gx g1 W) (hb : Below W.heap.size W V) : KX w h A n c xs h2 gx g1 V := ⟨q.kn.step hb, q.m.step hb, q.rd.below hb q.kn.below.size, q.x.step hb, q.r1.below hb q.r1.lt⟩
theorem KY.step (q : KY w h A n c xs h2 gx g1 gy g2 W) (hb : Below W.heap.size W V) : KY w h A n c xs h2 gx g1 gy g2 V := ⟨q.k.step hb, q.y.step hb, q.r2.below hb q.r2.lt⟩
theorem KZ.step (q : KZ w h A n c xs h2 gx g1 gy g2 gb W) (hb : Below W.heap.size W V) : KZ w h A n c xs h2 gx g1 gy g2 gb V := ⟨q.k.step hb, q.b.step hb⟩
end
theorem marks_far (h : Ms) (A : Option Addr) (n c : Nat) (k : Int) (w : World) (hg : Laid w) (hn : 3000 < n) (hmax : n ≤ 9223372036854775807) : Calls Tryd.prog 7 #[msV h A n c, .int .u16 k] w fun e w' => e = .returned (.bool true) ∧ Below w.heap.size w w' := by
  have n1 : (3000 : Int) < (n : Int) := by omega
  have k0 := (Kn.start hg).alloc (.cells (msC h A n c) 27)
  have m0 := MsAt.new w 27 h A n c
  go_enter Tryd.func7, Tryd.ntmps7
  go_wp2_with (go_at_call 8; refine (alive_any _ k0.laid).mono ?_; rintro ev w1 ⟨rfl, hb⟩; replace m0 := m0.step hb; replace k0 := k0.step hb; obtain ⟨a0, a1, a2, a3, a4, a5, a6⟩ := m0.cells)
  go_ret
  exact ⟨rfl, k0.below⟩
set_option maxRecDepth 100000 in
set_option maxHeartbeats 4000000 in
theorem marks_near (h : Ms) (A : Option Addr) (n c : Nat) (xs : List Int) (k : Int) (w : World) (hg : Laid w) (hk : h.ok) (hr : Rd .u8 w w.heap.size A n c xs) (hkb : 0 ≤ k ∧ k ≤ 65535) (hn : n ≤ 3000) : Calls Tryd.prog 7 #[msV h A n c, .int .u16 k] w fun e w' => e = .returned (.bool true) ∧ Below w.heap.size w w' := by
  have n1 : ¬ (3000 : Int) < (n : Int) := by omega
  have k0 := (Kn.start hg).alloc (.cells (msC h A n c) 27)
  have m0 := MsAt.new w 27 h A n c
  have r0 := hr.below (alloc_below w (.cells (msC h A n c) 27)) (Nat.le_refl _)
  have hc := hr.cap
  have hmax := hr.max
  have HL := Lib.hid hr.len
  have Hw : Hid (∀ x ∈ xs, (Lit.int .u8 x).wf = true) := Lib.hid hr.2.2.2.1
  have E2 := Lib.hid (mkS_back hk k)
  have hk2 := mkS_ok hk hkb
  have hmn := mkN_bd hk
  have cX := Lib.hid (fun W A n c (q : Rd .u8 W W.heap.size A n c xs) (hn : n ≤ 100000) => marked_any h A n c xs k W q hn hkb)
  have cM := Lib.hid (fun A n c W => mark_any h A n c W hk)
  have cY := Lib.hid (fun W A n c (q : Rd .u8 W W.heap.size A n c xs) (hn : n ≤ 100000) => by have := marked_any (mkS h k) A n c xs (mkN h) W q hn hmn; rwa [mkS_back hk k] at this)
  have c1 := Lib.hid (fun A n c W => by have := mark_any (mkS h k) A n c W hk2; rwa [mkN_mkS] at this)
  have cC := Lib.hid (fun A n c W => class_any h A n c W)
  have cC2 := Lib.hid (fun A n c W => (show Calls Tryd.prog 19 #[msV (mkS h k) A n c] W fun e w' => e = .returned (.int .i64 (clsV h)) ∧ Below W.heap.size W w' from class_any (mkS h k) A n c W))
  have cC3 := Lib.hid (fun W => (show Calls Tryd.prog 19 #[msV ⟨h.ty, 0, 0, 0, 0, 0⟩ none 0 0] W fun e w' => e = .returned (.int .i64 (clsV h)) ∧ Below W.heap.size W w' from class_any ⟨h.ty, 0, 0, 0, 0, 0⟩ none 0 0 W))
  have cS := Lib.hid (fun W A n c A' n' c' (q : Rd .u8 W W.heap.size A n c xs) (q' : Rd .u8 W W.heap.size A' n' c' xs) => by have := same_ms h h A A' n c n' c' xs xs W q q' hk hk; rwa [mmB_self] at this)
  have x0 : ((mkS h k).ty == h.ty) = true := beq_self_eq_true _
  have x1 : ((mkS h k).cd == h.cd) = true := beq_self_eq_true _
  have x4 : ((mkS h k).r2 == h.r2) = true := beq_self_eq_true _
  have x5 : ((mkS h k).r3 == h.r3) = true := beq_self_eq_true _
  generalize clsV h = cl at *
  generalize mkN h = mn at *
  generalize mkS h k = h2 at *
  clear hr hk hk2 E2 hkb
  go_enter Tryd.func7, Tryd.ntmps7
  go_wp2_with (first
    | (go_at_call 8; refine (alive_any _ k0.laid).mono ?_; rintro ev w1 ⟨rfl, hb⟩; replace m0 := m0.step hb; replace r0 := r0.below hb (by simp); replace k0 := k0.step hb; clear hb; obtain ⟨a0, a1, a2, a3, a4, a5, a6⟩ := m0.cells)
    | (go_at_call 23; refine (cX.out _ _ _ _ (r0.more k0.below.size) (by omega)).mono ?_; rintro ev w2 ⟨g1, rfl, r1, -, hb⟩; have ba := alloc_below w2 (.cells (msC h2 (some ⟨g1, 0, none⟩) n n) 27); have x := MsAt.new w2 27 h2 (some ⟨g1, 0, none⟩) n n; replace r1 := r1.below ba r1.lt; replace hb := hb.trans (ba.mono hb.size); have q : KX w h A n c xs h2 w2.heap.size g1 (w2.alloc (.cells (msC h2 (some ⟨g1, 0, none⟩) n n) 27)) := ⟨k0.step hb, m0.step hb, r0.below hb k0.below.size, x, r1⟩; clear k0 m0 r0 r1 x hb ba cX a0 a1 a2 a3 a4 a5 a6))
  generalize hgx : w2.heap.size = gx at *
  go_cut [6] from 17 to 20 (fun x6 wc => ∃ gy g2, x6 = .pointer (some ⟨gy, 0, none⟩) ∧ KY w h A n c xs h2 gx g1 gy g2 wc)
  case first =>
    refine wp_region_held_drew (S := fun w' => KX w h A n c xs h2 gx g1 w') (by kernel_rfl) (q.step (below_drew _)) (fun hHeld => ?_)
    replace q := q.step (below_drew _)
    change wpAnyH _ _ _ _ _ _ _ _ (World.drew _)
    generalize World.drew _ = W0 at *
    refine wpAnyH_at (i := 0) (some 17) (v := ?v0z1) rfl rfl (by kernel_rfl) (by kernel_rfl) (by kernel_rfl) (fun _ _ _ h => h) (Or.inl ⟨by rfl, ?y0z1⟩) (by assumption) ?r0z1
    case y0z1 =>
      intro w9 hSw
      (obtain ⟨a0, a1, a2, a3, a4, a5, a6⟩ := (show KX w h A n c xs h2 gx g1 w9 from hSw).x.cells); clear hSw
      go_simp
      all_goals with_reducible rfl
    simp only [Act.put, List.setIfInBounds_toArray, List.set_cons_zero, List.set_cons_succ]
    refine wpAnyH_at (i := 1) (some 18) (v := ?v1z2) rfl rfl (by kernel_rfl) (by kernel_rfl) (by kernel_rfl) (fun _ _ _ h => h) (Or.inl ⟨by rfl, ?y1z2⟩) (by assumption) ?r1z2
    case y1z2 =>
      intro w9 hSw
      (obtain ⟨a0, a1, a2, a3, a4, a5, a6⟩ := (show KX w h A n c xs h2 gx g1 w9 from hSw).m.cells); clear hSw
      go_simp
      all_goals with_reducible rfl
    simp only [Act.put, List.setIfInBounds_toArray, List.set_cons_zero, List.set_cons_succ]
    refine wpAnyH_two (i := 2) (j := 4) (by kernel_rfl) rfl rfl ?_ ?_
    · as_aux_lemma =>
      go_wp2_with (go_at_call 21; refine (cM.out _ _ _ _).mono ?_; rintro ev W1 ⟨rfl, hb⟩)
      replace q := q.step hb
      clear hb hHeld
      have hHeld := q
      refine ⟨hHeld, ?_⟩
      try simp only [Act.put, List.setIfInBounds_toArray, List.set_cons_zero, List.set_cons_succ]
      refine wpAnyH_two (i := 3) (j := 4) (by kernel_rfl) rfl rfl ?_ ?_
      · go_wp2_with (go_at_call 23; refine (cY.out _ _ _ _ (q.r1.rdW HL.out (by omega) Hw.out) (by omega)).mono ?_; rintro ev W2 ⟨g2, rfl, r2, -, hb⟩)
        replace q := q.step hb
        clear hb hHeld
        have hHeld := q
        refine ⟨hHeld, ?_⟩
        try simp only [Act.put, List.setIfInBounds_toArray, List.set_cons_zero, List.set_cons_succ]
        refine wpAnyH_one (i := 4) (by kernel_rfl) rfl ?_
        have hgy := q.kn.below.size
        have nm := Nat.ne_of_lt q.m.lt
        have nx := Nat.ne_of_lt q.x.lt
        have n1y := Nat.ne_of_lt q.r1.lt
        have n2y := Nat.ne_of_lt r2.lt
        have z := MsAt.new W2 27 zeroS none 0 0
        have hb := alloc_below W2 (.cells (msC zeroS none 0 0) 27)
        replace q := q.step hb
        replace r2 := r2.below hb r2.lt
        clear hb hHeld
        have hHeld := q
        go_wp2
        refine ⟨hHeld, ?_⟩
        change wpAnyH _ _ _ _ _ _ _ _ (W2.alloc (.cells (msC zeroS none 0 0) 27))
        generalize W2.alloc (.cells (msC zeroS none 0 0) 27) = W3 at *
        have zl := z.lt
        generalize W2.heap.size = gy at *
        try simp only [Act.put, List.setIfInBounds_toArray, List.set_cons_zero, List.set_cons_succ]
        refine wpAnyH_one (i := 5) (by kernel_rfl) rfl ?_
        have hgl : w.heap.size ≤ gy := hgy
        refine wpList_stF rfl rfl 27 _ _ rfl gy (msC h (some ⟨g2, 0, none⟩) n n) rfl rfl 27 _ z (by kernel_rfl) rfl (msC_one ..) ?_
        intro w8 f8 hb8 ho8 hs8
        have q8 : KX w h A n c xs h2 gx g1 w8 := ⟨⟨hg.below (q.kn.below.trans (hb8.mono hgl)), q.kn.below.trans (hb8.mono hgl)⟩, (ho8 _ nm).trans q.m, q.rd.below hb8 hgl, (ho8 _ nx).trans q.x, (ho8 _ n1y).trans q.r1⟩
        have r8 : Row w8 g2 xs := (ho8 _ n2y).trans r2
        clear hHeld hb8 ho8 hs8 z
        go_wp2
        refine ⟨q8, ?_⟩
        refine wpAnyH_done (by kernel_rfl) ?_ _
        go_wp2_with fail
        go_meet
        case rel => exact ⟨gy, g2, rfl, ⟨q8, f8, r8⟩⟩
      · have hgy := q.kn.below.size
        have nm := Nat.ne_of_lt q.m.lt
        have nx := Nat.ne_of_lt q.x.lt
        have n1y := Nat.ne_of_lt q.r1.lt
        have z := MsAt.new W1 27 zeroS none 0 0
        have hb := alloc_below W1 (.cells (msC zeroS none 0 0) 27)
        replace q := q.step hb
        clear hb hHeld
        have hHeld := q
        go_wp2
        refine ⟨hHeld, ?_⟩
        change wpAnyH _ _ _ _ _ _ _ _ (W1.alloc (.cells (msC zeroS none 0 0) 27))
        generalize W1.alloc (.cells (msC zeroS none 0 0) 27) = W2 at *
        have zl := z.lt
        generalize W1.heap.size = gy at *
        try simp only [Act.put, List.setIfInBounds_toArray, List.set_cons_zero, List.set_cons_succ]
        refine wpAnyH_one (i := 3) (by kernel_rfl) rfl ?_
        go_wp2_with (go_at_call 23; refine (cY.out _ _ _ _ (q.r1.rdW HL.out (by omega) Hw.out) (by omega)).mono ?_; rintro ev W3 ⟨g2, rfl, r2, hg2, hb⟩)
        replace q := q.step hb
        have n2y : g2 ≠ gy := by omega
        replace z := z.step hb
        clear hb hHeld
        have hHeld := q
        refine ⟨hHeld, ?_⟩
        try simp only [Act.put, List.setIfInBounds_toArray, List.set_cons_zero, List.set_cons_succ]
        refine wpAnyH_one (i := 5) (by kernel_rfl) rfl ?_
        have hgl : w.heap.size ≤ gy := hgy
        refine wpList_stF rfl rfl 27 _ _ rfl gy (msC h (some ⟨g2, 0, none⟩) n n) rfl rfl 27 _ z (by kernel_rfl) rfl (msC_one ..) ?_
        intro w8 f8 hb8 ho8 hs8
        have q8 : KX w h A n c xs h2 gx g1 w8 := ⟨⟨hg.below (q.kn.below.trans (hb8.mono hgl)), q.kn.below.trans (hb8.mono hgl)⟩, (ho8 _ nm).trans q.m, q.rd.below hb8 hgl, (ho8 _ nx).trans q.x, (ho8 _ n1y).trans q.r1⟩
        have r8 : Row w8 g2 xs := (ho8 _ n2y).trans r2
        clear hHeld hb8 ho8 hs8 z
        go_wp2
        refine ⟨q8, ?_⟩
        refine wpAnyH_done (by kernel_rfl) ?_ _
        go_wp2_with fail
        go_meet
        case rel => exact ⟨gy, g2, rfl, ⟨q8, f8, r8⟩⟩
    · as_aux_lemma =>
      have hgy := q.kn.below.size
      have nm := Nat.ne_of_lt q.m.lt
      have nx := Nat.ne_of_lt q.x.lt
      have n1y := Nat.ne_of_lt q.r1.lt
      have z := MsAt.new W0 27 zeroS none 0 0
      have hb := alloc_below W0 (.cells (msC zeroS none 0 0) 27)
      replace q := q.step hb
      clear hb hHeld
      have hHeld := q
      go_wp2
      refine ⟨hHeld, ?_⟩
      change wpAnyH _ _ _ _ _ _ _ _ (W0.alloc (.cells (msC zeroS none 0 0) 27))
      generalize W0.alloc (.cells (msC zeroS none 0 0) 27) = W1 at *
      have zl := z.lt
      generalize W0.heap.size = gy at *
      try simp only [Act.put, List.setIfInBounds_toArray, List.set_cons_zero, List.set_cons_succ]
      refine wpAnyH_one (i := 2) (by kernel_rfl) rfl ?_
      go_wp2_with (go_at_call 21; refine (cM.out _ _ _ _).mono ?_; rintro ev W2 ⟨rfl, hb⟩)
      replace q := q.step hb
      have hs2 := hb.size
      replace z := z.step hb
      clear hb hHeld
      have hHeld := q
      refine ⟨hHeld, ?_⟩
      try simp only [Act.put, List.setIfInBounds_toArray, List.set_cons_zero, List.set_cons_succ]
      refine wpAnyH_one (i := 3) (by kernel_rfl) rfl ?_
      go_wp2_with (go_at_call 23; refine (cY.out _ _ _ _ (q.r1.rdW HL.out (by omega) Hw.out) (by omega)).mono ?_; rintro ev W3 ⟨g2, rfl, r2, hg2, hb⟩)
      replace q := q.step hb
      have n2y : g2 ≠ gy := by omega
      replace z := z.step hb
      clear hb hHeld
      have hHeld := q
      refine ⟨hHeld, ?_⟩
      try simp only [Act.put, List.setIfInBounds_toArray, List.set_cons_zero, List.set_cons_succ]
      refine wpAnyH_one (i := 5) (by kernel_rfl) rfl ?_
      have hgl : w.heap.size ≤ gy := hgy
      refine wpList_stF rfl rfl 27 _ _ rfl gy (msC h (some ⟨g2, 0, none⟩) n n) rfl rfl 27 _ z (by kernel_rfl) rfl (msC_one ..) ?_
      intro w8 f8 hb8 ho8 hs8
      have q8 : KX w h A n c xs h2 gx g1 w8 := ⟨⟨hg.below (q.kn.below.trans (hb8.mono hgl)), q.kn.below.trans (hb8.mono hgl)⟩, (ho8 _ nm).trans q.m, q.rd.below hb8 hgl, (ho8 _ nx).trans q.x, (ho8 _ n1y).trans q.r1⟩
      have r8 : Row w8 g2 xs := (ho8 _ n2y).trans r2
      clear hHeld hb8 ho8 hs8 z
      go_wp2
      refine ⟨q8, ?_⟩
      refine wpAnyH_done (by kernel_rfl) ?_ _
      go_wp2_with fail
      go_meet
      case rel => exact ⟨gy, g2, rfl, ⟨q8, f8, r8⟩⟩
  case rest =>
    obtain ⟨gy, g2, rfl, q⟩ := hcut
    obtain ⟨a0, a1, a2, a3, a4, a5, a6⟩ := q.k.m.cells
    go_wp2_with fail
    have p : KZ w h A n c xs h2 gx g1 gy g2 wc.heap.size (wc.alloc (.cells (msC ⟨h.ty, 0, 0, 0, 0, 0⟩ none 0 0) 27)) := ⟨q.step (alloc_below _ _), MsAt.new wc 27 ⟨h.ty, 0, 0, 0, 0, 0⟩ none 0 0⟩
    clear a0 a1 a2 a3 a4 a5 a6 q
    refine wp_region_held_drew (S := fun w' => KZ w h A n c xs h2 gx g1 gy g2 wc.heap.size w') (by kernel_rfl) (p.step (below_drew _)) (fun hHeld => ?_)
    replace p := p.step (below_drew _)
    change wpAnyH _ _ _ _ _ _ _ _ (World.drew _)
    generalize World.drew _ = V0 at *
    generalize wc.heap.size = gb at *
    refine wpAnyH_at (i := 0) (some 24) (v := ?v0z3) rfl rfl (by kernel_rfl) (by kernel_rfl) (by kernel_rfl) (fun _ _ _ h => h) (Or.inl ⟨by rfl, ?y0z3⟩) (by assumption) ?r0z3
    case y0z3 =>
      intro w9 hSw
      (obtain ⟨a0, a1, a2, a3, a4, a5, a6⟩ := (show KZ w h A n c xs h2 gx g1 gy g2 gb w9 from hSw).k.k.x.cells); clear hSw
      go_simp
      all_goals with_reducible rfl
    simp only [Act.put, List.setIfInBounds_toArray, List.set_cons_zero, List.set_cons_succ]
    refine wpAnyH_at (i := 2) (some 26) (v := ?v2z4) rfl rfl (by kernel_rfl) (by kernel_rfl) (by kernel_rfl) (fun _ _ _ h => h) (Or.inl ⟨by rfl, ?y2z4⟩) (by assumption) ?r2z4
    case y2z4 =>
      intro w9 hSw
      clear hSw
      go_simp
      all_goals with_reducible rfl
    simp only [Act.put, List.setIfInBounds_toArray, List.set_cons_zero, List.set_cons_succ]
    refine wpAnyH_one (i := 1) (by kernel_rfl) rfl ?_
    go_wp2_with (go_at_call 21; refine (c1.out _ _ _ _).mono ?_; rintro ev V1 ⟨rfl, hb⟩)
    replace p := p.step hb
    clear hb hHeld
    have hHeld := p
    refine ⟨hHeld, ?_⟩
    try simp only [Act.put, List.setIfInBounds_toArray, List.set_cons_zero, List.set_cons_succ]
    refine wpAnyH_at (i := 3) (some 27) (v := ?v3z5) rfl rfl (by kernel_rfl) (by kernel_rfl) (by kernel_rfl) (fun _ _ _ h => h) (Or.inl ⟨by rfl, ?y3z5⟩) (by assumption) ?r3z5
    case y3z5 =>
      intro w9 hSw
      clear hSw
      go_simp
      all_goals with_reducible rfl
    simp only [Act.put, List.setIfInBounds_toArray, List.set_cons_zero, List.set_cons_succ]
    refine wpAnyH_at (i := 4) (some 28) (v := ?v4z6) rfl rfl (by kernel_rfl) (by kernel_rfl) (by kernel_rfl) (fun _ _ _ h => h) (Or.inl ⟨by rfl, ?y4z6⟩) (by assumption) ?r4z6
    case y4z6 =>
      intro w9 hSw
      clear hSw
      go_simp
      all_goals with_reducible rfl
    simp only [Act.put, List.setIfInBounds_toArray, List.set_cons_zero, List.set_cons_succ]
    refine wpAnyH_at (i := 5) (some 29) (v := ?v5z7) rfl rfl (by kernel_rfl) (by kernel_rfl) (by kernel_rfl) (fun _ _ _ h => h) (Or.inl ⟨by rfl, ?y5z7⟩) (by assumption) ?r5z7
    case y5z7 =>
      intro w9 hSw
      (obtain ⟨a0, a1, a2, a3, a4, a5, a6⟩ := (show KZ w h A n c xs h2 gx g1 gy g2 gb w9 from hSw).k.y.cells); clear hSw
      go_simp
      all_goals with_reducible rfl
    simp only [Act.put, List.setIfInBounds_toArray, List.set_cons_zero, List.set_cons_succ]
    refine wpAnyH_at (i := 6) (some 30) (v := ?v6z8) rfl rfl (by kernel_rfl) (by kernel_rfl) (by kernel_rfl) (fun _ _ _ h => h) (Or.inl ⟨by rfl, ?y6z8⟩) (by assumption) ?r6z8
    case y6z8 =>
      intro w9 hSw
      (obtain ⟨a0, a1, a2, a3, a4, a5, a6⟩ := (show KZ w h A n c xs h2 gx g1 gy g2 gb w9 from hSw).k.k.m.cells); clear hSw
      go_simp
      all_goals with_reducible rfl
    simp only [Act.put, List.setIfInBounds_toArray, List.set_cons_zero, List.set_cons_succ]
    refine wpAnyH_one (i := 7) (by kernel_rfl) rfl ?_
    go_wp2_with (go_at_call 25; refine (cS.out _ _ _ _ _ _ _ (p.k.r2.rdW HL.out (by omega) Hw.out) (p.k.k.rd.more p.k.k.kn.below.size)).mono ?_; rintro ev V2 ⟨rfl, hb⟩)
    replace p := p.step hb
    clear hb hHeld
    have hHeld := p
    refine ⟨hHeld, ?_⟩
    try simp only [Act.put, List.setIfInBounds_toArray, List.set_cons_zero, List.set_cons_succ]
    refine wpAnyH_at (i := 8) (some 32) (v := ?v8z9) rfl rfl (by kernel_rfl) (by kernel_rfl) (by kernel_rfl) (fun _ _ _ h => h) (Or.inl ⟨by rfl, ?y8z9⟩) (by assumption) ?r8z9
    case y8z9 =>
      intro w9 hSw
      clear hSw
      go_simp
      all_goals with_reducible rfl
    simp only [Act.put, List.setIfInBounds_toArray, List.set_cons_zero, List.set_cons_succ]
    refine wpAnyH_at (i := 9) (some 33) (v := ?v9z10) rfl rfl (by kernel_rfl) (by kernel_rfl) (by kernel_rfl) (fun _ _ _ h => h) (Or.inl ⟨by rfl, ?y9z10⟩) (by assumption) ?r9z10
    case y9z10 =>
      intro w9 hSw
      clear hSw
      go_simp
      all_goals with_reducible rfl
    simp only [Act.put, List.setIfInBounds_toArray, List.set_cons_zero, List.set_cons_succ]
    refine wpAnyH_at (i := 10) (some 34) (v := ?v10z11) rfl rfl (by kernel_rfl) (by kernel_rfl) (by kernel_rfl) (fun _ _ _ h => h) (Or.inl ⟨by rfl, ?y10z11⟩) (by assumption) ?r10z11
    case y10z11 =>
      intro w9 hSw
      clear hSw
      go_simp
      all_goals with_reducible rfl
    simp only [Act.put, List.setIfInBounds_toArray, List.set_cons_zero, List.set_cons_succ]
    refine wpAnyH_at (i := 11) (some 35) (v := ?v11z12) rfl rfl (by kernel_rfl) (by kernel_rfl) (by kernel_rfl) (fun _ _ _ h => h) (Or.inl ⟨by rfl, ?y11z12⟩) (by assumption) ?r11z12
    case y11z12 =>
      intro w9 hSw
      (obtain ⟨a0, a1, a2, a3, a4, a5, a6⟩ := (show KZ w h A n c xs h2 gx g1 gy g2 gb w9 from hSw).k.k.x.cells); clear hSw
      go_simp
      all_goals with_reducible rfl
    simp only [Act.put, List.setIfInBounds_toArray, List.set_cons_zero, List.set_cons_succ]
    refine wpAnyH_at (i := 12) (some 36) (v := ?v12z13) rfl rfl (by kernel_rfl) (by kernel_rfl) (by kernel_rfl) (fun _ _ _ h => h) (Or.inl ⟨by rfl, ?y12z13⟩) (by assumption) ?r12z13
    case y12z13 =>
      intro w9 hSw
      clear hSw
      go_simp
      all_goals with_reducible rfl
    simp only [Act.put, List.setIfInBounds_toArray, List.set_cons_zero, List.set_cons_succ]
    refine wpAnyH_at (i := 13) (some 37) (v := ?v13z14) rfl rfl (by kernel_rfl) (by kernel_rfl) (by kernel_rfl) (fun _ _ _ h => h) (Or.inl ⟨by rfl, ?y13z14⟩) (by assumption) ?r13z14
    case y13z14 =>
      intro w9 hSw
      (obtain ⟨a0, a1, a2, a3, a4, a5, a6⟩ := (show KZ w h A n c xs h2 gx g1 gy g2 gb w9 from hSw).k.k.m.cells); clear hSw
      go_simp
      all_goals with_reducible rfl
    simp only [Act.put, List.setIfInBounds_toArray, List.set_cons_zero, List.set_cons_succ]
    refine wpAnyH_at (i := 14) (some 38) (v := ?v14z15) rfl rfl (by kernel_rfl) (by kernel_rfl) (by kernel_rfl) (fun _ _ _ h => h) (Or.inl ⟨by rfl, ?y14z15⟩) (by assumption) ?r14z15
    case y14z15 =>
      intro w9 hSw
      clear hSw
      go_simp
      all_goals with_reducible rfl
    simp only [Act.put, List.setIfInBounds_toArray, List.set_cons_zero, List.set_cons_succ]
    refine wpAnyH_at (i := 15) (some 39) (v := ?v15z16) rfl rfl (by kernel_rfl) (by kernel_rfl) (by kernel_rfl) (fun _ _ _ h => h) (Or.inl ⟨by rfl, ?y15z16⟩) (by assumption) ?r15z16
    case y15z16 =>
      intro w9 hSw
      clear hSw
      go_simp
      all_goals with_reducible rfl
    simp only [Act.put, List.setIfInBounds_toArray, List.set_cons_zero, List.set_cons_succ]
    refine wpAnyH_at (i := 16) (some 40) (v := ?v16z17) rfl rfl (by kernel_rfl) (by kernel_rfl) (by kernel_rfl) (fun _ _ _ h => h) (Or.inl ⟨by rfl, ?y16z17⟩) (by assumption) ?r16z17
    case y16z17 =>
      intro w9 hSw
      clear hSw
      go_simp
      all_goals with_reducible rfl
    simp only [Act.put, List.setIfInBounds_toArray, List.set_cons_zero, List.set_cons_succ]
    refine wpAnyH_at (i := 17) (some 41) (v := ?v17z18) rfl rfl (by kernel_rfl) (by kernel_rfl) (by kernel_rfl) (fun _ _ _ h => h) (Or.inl ⟨by rfl, ?y17z18⟩) (by assumption) ?r17z18
    case y17z18 =>
      intro w9 hSw
      clear hSw
      go_simp
      all_goals with_reducible rfl
    simp only [Act.put, List.setIfInBounds_toArray, List.set_cons_zero, List.set_cons_succ]
    refine wpAnyH_at (i := 18) (some 42) (v := ?v18z19) rfl rfl (by kernel_rfl) (by kernel_rfl) (by kernel_rfl) (fun _ _ _ h => h) (Or.inl ⟨by rfl, ?y18z19⟩) (by assumption) ?r18z19
    case y18z19 =>
      intro w9 hSw
      (obtain ⟨a0, a1, a2, a3, a4, a5, a6⟩ := (show KZ w h A n c xs h2 gx g1 gy g2 gb w9 from hSw).k.k.x.cells); clear hSw
      go_simp
      all_goals with_reducible rfl
    simp only [Act.put, List.setIfInBounds_toArray, List.set_cons_zero, List.set_cons_succ]
    refine wpAnyH_at (i := 19) (some 43) (v := ?v19z20) rfl rfl (by kernel_rfl) (by kernel_rfl) (by kernel_rfl) (fun _ _ _ h => h) (Or.inl ⟨by rfl, ?y19z20⟩) (by assumption) ?r19z20
    case y19z20 =>
      intro w9 hSw
      clear hSw
      go_simp
      all_goals with_reducible rfl
    simp only [Act.put, List.setIfInBounds_toArray, List.set_cons_zero, List.set_cons_succ]
    refine wpAnyH_at (i := 20) (some 44) (v := ?v20z21) rfl rfl (by kernel_rfl) (by kernel_rfl) (by kernel_rfl) (fun _ _ _ h => h) (Or.inl ⟨by rfl, ?y20z21⟩) (by assumption) ?r20z21
    case y20z21 =>
      intro w9 hSw
      (obtain ⟨a0, a1, a2, a3, a4, a5, a6⟩ := (show KZ w h A n c xs h2 gx g1 gy g2 gb w9 from hSw).k.k.m.cells); clear hSw
      go_simp
      all_goals with_reducible rfl
    simp only [Act.put, List.setIfInBounds_toArray, List.set_cons_zero, List.set_cons_succ]
    refine wpAnyH_at (i := 21) (some 45) (v := ?v21z22) rfl rfl (by kernel_rfl) (by kernel_rfl) (by kernel_rfl) (fun _ _ _ h => h) (Or.inl ⟨by rfl, ?y21z22⟩) (by assumption) ?r21z22
    case y21z22 =>
      intro w9 hSw
      clear hSw
      go_simp
      all_goals with_reducible rfl
    simp only [Act.put, List.setIfInBounds_toArray, List.set_cons_zero, List.set_cons_succ]
    refine wpAnyH_at (i := 22) (some 46) (v := ?v22z23) rfl rfl (by kernel_rfl) (by kernel_rfl) (by kernel_rfl) (fun _ _ _ h => h) (Or.inl ⟨by rfl, ?y22z23⟩) (by assumption) ?r22z23
    case y22z23 =>
      intro w9 hSw
      clear hSw
      go_simp
      all_goals with_reducible rfl
    simp only [Act.put, List.setIfInBounds_toArray, List.set_cons_zero, List.set_cons_succ]
    refine wpAnyH_at (i := 23) (some 47) (v := ?v23z24) rfl rfl (by kernel_rfl) (by kernel_rfl) (by kernel_rfl) (fun _ _ _ h => h) (Or.inl ⟨by rfl, ?y23z24⟩) (by assumption) ?r23z24
    case y23z24 =>
      intro w9 hSw
      clear hSw
      go_simp
      all_goals with_reducible rfl
    simp only [Act.put, List.setIfInBounds_toArray, List.set_cons_zero, List.set_cons_succ]
    refine wpAnyH_at (i := 24) (some 48) (v := ?v24z25) rfl rfl (by kernel_rfl) (by kernel_rfl) (by kernel_rfl) (fun _ _ _ h => h) (Or.inl ⟨by rfl, ?y24z25⟩) (by assumption) ?r24z25
    case y24z25 =>
      intro w9 hSw
      clear hSw
      go_simp
      all_goals with_reducible rfl
    simp only [Act.put, List.setIfInBounds_toArray, List.set_cons_zero, List.set_cons_succ]
    refine wpAnyH_at (i := 25) (some 49) (v := ?v25z26) rfl rfl (by kernel_rfl) (by kernel_rfl) (by kernel_rfl) (fun _ _ _ h => h) (Or.inl ⟨by rfl, ?y25z26⟩) (by assumption) ?r25z26
    case y25z26 =>
      intro w9 hSw
      clear hSw
      go_simp
      all_goals with_reducible rfl
    simp only [Act.put, List.setIfInBounds_toArray, List.set_cons_zero, List.set_cons_succ]
    refine wpAnyH_at (i := 26) (some 50) (v := ?v26z27) rfl rfl (by kernel_rfl) (by kernel_rfl) (by kernel_rfl) (fun _ _ _ h => h) (Or.inl ⟨by rfl, ?y26z27⟩) (by assumption) ?r26z27
    case y26z27 =>
      intro w9 hSw
      (obtain ⟨a0, a1, a2, a3, a4, a5, a6⟩ := (show KZ w h A n c xs h2 gx g1 gy g2 gb w9 from hSw).k.k.x.cells); clear hSw
      go_simp
      all_goals with_reducible rfl
    simp only [Act.put, List.setIfInBounds_toArray, List.set_cons_zero, List.set_cons_succ]
    refine wpAnyH_at (i := 27) (some 51) (v := ?v27z28) rfl rfl (by kernel_rfl) (by kernel_rfl) (by kernel_rfl) (fun _ _ _ h => h) (Or.inl ⟨by rfl, ?y27z28⟩) (by assumption) ?r27z28
    case y27z28 =>
      intro w9 hSw
      clear hSw
      go_simp
      all_goals with_reducible rfl
    simp only [Act.put, List.setIfInBounds_toArray, List.set_cons_zero, List.set_cons_succ]
    refine wpAnyH_at (i := 28) (some 52) (v := ?v28z29) rfl rfl (by kernel_rfl) (by kernel_rfl) (by kernel_rfl) (fun _ _ _ h => h) (Or.inl ⟨by rfl, ?y28z29⟩) (by assumption) ?r28z29
    case y28z29 =>
      intro w9 hSw
      clear hSw
      go_simp
      all_goals with_reducible rfl
    simp only [Act.put, List.setIfInBounds_toArray, List.set_cons_zero, List.set_cons_succ]
    refine wpAnyH_at (i := 29) (some 53) (v := ?v29z30) rfl rfl (by kernel_rfl) (by kernel_rfl) (by kernel_rfl) (fun _ _ _ h => h) (Or.inl ⟨by rfl, ?y29z30⟩) (by assumption) ?r29z30
    case y29z30 =>
      intro w9 hSw
      (obtain ⟨a0, a1, a2, a3, a4, a5, a6⟩ := (show KZ w h A n c xs h2 gx g1 gy g2 gb w9 from hSw).k.k.m.cells); clear hSw
      go_simp
      all_goals with_reducible rfl
    simp only [Act.put, List.setIfInBounds_toArray, List.set_cons_zero, List.set_cons_succ]
    refine wpAnyH_at (i := 30) (some 54) (v := ?v30z31) rfl rfl (by kernel_rfl) (by kernel_rfl) (by kernel_rfl) (fun _ _ _ h => h) (Or.inl ⟨by rfl, ?y30z31⟩) (by assumption) ?r30z31
    case y30z31 =>
      intro w9 hSw
      clear hSw
      go_simp
      all_goals with_reducible rfl
    simp only [Act.put, List.setIfInBounds_toArray, List.set_cons_zero, List.set_cons_succ]
    refine wpAnyH_at (i := 31) (some 55) (v := ?v31z32) rfl rfl (by kernel_rfl) (by kernel_rfl) (by kernel_rfl) (fun _ _ _ h => h) (Or.inl ⟨by rfl, ?y31z32⟩) (by assumption) ?r31z32
    case y31z32 =>
      intro w9 hSw
      clear hSw
      go_simp
      all_goals with_reducible rfl
    simp only [Act.put, List.setIfInBounds_toArray, List.set_cons_zero, List.set_cons_succ]
    refine wpAnyH_at (i := 32) (some 56) (v := ?v32z33) rfl rfl (by kernel_rfl) (by kernel_rfl) (by kernel_rfl) (fun _ _ _ h => h) (Or.inl ⟨by rfl, ?y32z33⟩) (by assumption) ?r32z33
    case y32z33 =>
      intro w9 hSw
      clear hSw
      go_simp
      all_goals with_reducible rfl
    simp only [Act.put, List.setIfInBounds_toArray, List.set_cons_zero, List.set_cons_succ]
    refine wpAnyH_at (i := 33) (some 57) (v := ?v33z34) rfl rfl (by kernel_rfl) (by kernel_rfl) (by kernel_rfl) (fun _ _ _ h => h) (Or.inl ⟨by rfl, ?y33z34⟩) (by assumption) ?r33z34
    case y33z34 =>
      intro w9 hSw
      clear hSw
      go_simp
      all_goals with_reducible rfl
    simp only [Act.put, List.setIfInBounds_toArray, List.set_cons_zero, List.set_cons_succ]
    refine wpAnyH_at (i := 34) (some 58) (v := ?v34z35) rfl rfl (by kernel_rfl) (by kernel_rfl) (by kernel_rfl) (fun _ _ _ h => h) (Or.inl ⟨by rfl, ?y34z35⟩) (by assumption) ?r34z35
    case y34z35 =>
      intro w9 hSw
      clear hSw
      go_simp
      all_goals with_reducible rfl
    simp only [Act.put, List.setIfInBounds_toArray, List.set_cons_zero, List.set_cons_succ]
    refine wpAnyH_at (i := 35) (some 59) (v := ?v35z36) rfl rfl (by kernel_rfl) (by kernel_rfl) (by kernel_rfl) (fun _ _ _ h => h) (Or.inl ⟨by rfl, ?y35z36⟩) (by assumption) ?r35z36
    case y35z36 =>
      intro w9 hSw
      (obtain ⟨a0, a1, a2, a3, a4, a5, a6⟩ := (show KZ w h A n c xs h2 gx g1 gy g2 gb w9 from hSw).k.k.x.cells); clear hSw
      go_simp
      all_goals with_reducible rfl
    simp only [Act.put, List.setIfInBounds_toArray, List.set_cons_zero, List.set_cons_succ]
    refine wpAnyH_at (i := 36) (some 60) (v := ?v36z37) rfl rfl (by kernel_rfl) (by kernel_rfl) (by kernel_rfl) (fun _ _ _ h => h) (Or.inl ⟨by rfl, ?y36z37⟩) (by assumption) ?r36z37
    case y36z37 =>
      intro w9 hSw
      clear hSw
      go_simp
      all_goals with_reducible rfl
    simp only [Act.put, List.setIfInBounds_toArray, List.set_cons_zero, List.set_cons_succ]
    refine wpAnyH_at (i := 37) (some 61) (v := ?v37z38) rfl rfl (by kernel_rfl) (by kernel_rfl) (by kernel_rfl) (fun _ _ _ h => h) (Or.inl ⟨by rfl, ?y37z38⟩) (by assumption) ?r37z38
    case y37z38 =>
      intro w9 hSw
      clear hSw
      go_simp
      all_goals with_reducible rfl
    simp only [Act.put, List.setIfInBounds_toArray, List.set_cons_zero, List.set_cons_succ]
    refine wpAnyH_at (i := 38) (some 62) (v := ?v38z39) rfl rfl (by kernel_rfl) (by kernel_rfl) (by kernel_rfl) (fun _ _ _ h => h) (Or.inl ⟨by rfl, ?y38z39⟩) (by assumption) ?r38z39
    case y38z39 =>
      intro w9 hSw
      (obtain ⟨a0, a1, a2, a3, a4, a5, a6⟩ := (show KZ w h A n c xs h2 gx g1 gy g2 gb w9 from hSw).k.k.m.cells); clear hSw
      go_simp
      all_goals with_reducible rfl
    simp only [Act.put, List.setIfInBounds_toArray, List.set_cons_zero, List.set_cons_succ]
    refine wpAnyH_at (i := 39) (some 63) (v := ?v39z40) rfl rfl (by kernel_rfl) (by kernel_rfl) (by kernel_rfl) (fun _ _ _ h => h) (Or.inl ⟨by rfl, ?y39z40⟩) (by assumption) ?r39z40
    case y39z40 =>
      intro w9 hSw
      clear hSw
      go_simp
      all_goals with_reducible rfl
    simp only [Act.put, List.setIfInBounds_toArray, List.set_cons_zero, List.set_cons_succ]
    refine wpAnyH_at (i := 40) (some 64) (v := ?v40z41) rfl rfl (by kernel_rfl) (by kernel_rfl) (by kernel_rfl) (fun _ _ _ h => h) (Or.inl ⟨by rfl, ?y40z41⟩) (by assumption) ?r40z41
    case y40z41 =>
      intro w9 hSw
      clear hSw
      go_simp
      all_goals with_reducible rfl
    simp only [Act.put, List.setIfInBounds_toArray, List.set_cons_zero, List.set_cons_succ]
    refine wpAnyH_at (i := 41) (some 65) (v := ?v41z42) rfl rfl (by kernel_rfl) (by kernel_rfl) (by kernel_rfl) (fun _ _ _ h => h) (Or.inl ⟨by rfl, ?y41z42⟩) (by assumption) ?r41z42
    case y41z42 =>
      intro w9 hSw
      clear hSw
      go_simp
      all_goals with_reducible rfl
    simp only [Act.put, List.setIfInBounds_toArray, List.set_cons_zero, List.set_cons_succ]
    refine wpAnyH_at (i := 42) (some 66) (v := ?v42z43) rfl rfl (by kernel_rfl) (by kernel_rfl) (by kernel_rfl) (fun _ _ _ h => h) (Or.inl ⟨by rfl, ?y42z43⟩) (by assumption) ?r42z43
    case y42z43 =>
      intro w9 hSw
      clear hSw
      go_simp
      all_goals with_reducible rfl
    simp only [Act.put, List.setIfInBounds_toArray, List.set_cons_zero, List.set_cons_succ]
    refine wpAnyH_at (i := 43) (some 67) (v := ?v43z44) rfl rfl (by kernel_rfl) (by kernel_rfl) (by kernel_rfl) (fun _ _ _ h => h) (Or.inl ⟨by rfl, ?y43z44⟩) (by assumption) ?r43z44
    case y43z44 =>
      intro w9 hSw
      (obtain ⟨a0, a1, a2, a3, a4, a5, a6⟩ := (show KZ w h A n c xs h2 gx g1 gy g2 gb w9 from hSw).k.k.x.cells); clear hSw
      go_simp
      all_goals with_reducible rfl
    simp only [Act.put, List.setIfInBounds_toArray, List.set_cons_zero, List.set_cons_succ]
    refine wpAnyH_at (i := 44) (some 68) (v := ?v44z45) rfl rfl (by kernel_rfl) (by kernel_rfl) (by kernel_rfl) (fun _ _ _ h => h) (Or.inl ⟨by rfl, ?y44z45⟩) (by assumption) ?r44z45
    case y44z45 =>
      intro w9 hSw
      clear hSw
      go_simp
      all_goals with_reducible rfl
    simp only [Act.put, List.setIfInBounds_toArray, List.set_cons_zero, List.set_cons_succ]
    refine wpAnyH_at (i := 45) (some 69) (v := ?v45z46) rfl rfl (by kernel_rfl) (by kernel_rfl) (by kernel_rfl) (fun _ _ _ h => h) (Or.inl ⟨by rfl, ?y45z46⟩) (by assumption) ?r45z46
    case y45z46 =>
      intro w9 hSw
      (obtain ⟨a0, a1, a2, a3, a4, a5, a6⟩ := (show KZ w h A n c xs h2 gx g1 gy g2 gb w9 from hSw).k.k.m.cells); clear hSw
      go_simp
      all_goals with_reducible rfl
    simp only [Act.put, List.setIfInBounds_toArray, List.set_cons_zero, List.set_cons_succ]
    refine wpAnyH_one (i := 46) (by kernel_rfl) rfl ?_
    go_wp2_with (go_at_call 15; refine (same_any _ _ _ _ _ _ xs _ _ _ (p.k.k.r1.rdW HL.out (by omega) Hw.out) p.k.k.rd).mono ?_; rintro ev V3 ⟨rfl, hb⟩)
    replace p := p.step hb
    clear hb hHeld
    have hHeld := p
    refine ⟨hHeld, ?_⟩
    try simp only [Act.put, List.setIfInBounds_toArray, List.set_cons_zero, List.set_cons_succ]
    refine wpAnyH_at (i := 47) (some 71) (v := ?v47z47) rfl rfl (by kernel_rfl) (by kernel_rfl) (by kernel_rfl) (fun _ _ _ h => h) (Or.inl ⟨by rfl, ?y47z47⟩) (by assumption) ?r47z47
    case y47z47 =>
      intro w9 hSw
      clear hSw
      go_simp
      all_goals with_reducible rfl
    simp only [Act.put, List.setIfInBounds_toArray, List.set_cons_zero, List.set_cons_succ]
    refine wpAnyH_at (i := 48) (some 72) (v := ?v48z48) rfl rfl (by kernel_rfl) (by kernel_rfl) (by kernel_rfl) (fun _ _ _ h => h) (Or.inl ⟨by rfl, ?y48z48⟩) (by assumption) ?r48z48
    case y48z48 =>
      intro w9 hSw
      clear hSw
      go_simp
      all_goals with_reducible rfl
    simp only [Act.put, List.setIfInBounds_toArray, List.set_cons_zero, List.set_cons_succ]
    refine wpAnyH_at (i := 49) (some 73) (v := ?v49z49) rfl rfl (by kernel_rfl) (by kernel_rfl) (by kernel_rfl) (fun _ _ _ h => h) (Or.inl ⟨by rfl, ?y49z49⟩) (by assumption) ?r49z49
    case y49z49 =>
      intro w9 hSw
      (obtain ⟨a0, a1, a2, a3, a4, a5, a6⟩ := (show KZ w h A n c xs h2 gx g1 gy g2 gb w9 from hSw).k.k.x.cells); clear hSw
      go_simp
      all_goals with_reducible rfl
    simp only [Act.put, List.setIfInBounds_toArray, List.set_cons_zero, List.set_cons_succ]
    refine wpAnyH_at (i := 51) (some 75) (v := ?v51z50) rfl rfl (by kernel_rfl) (by kernel_rfl) (by kernel_rfl) (fun _ _ _ h => h) (Or.inl ⟨by rfl, ?y51z50⟩) (by assumption) ?r51z50
    case y51z50 =>
      intro w9 hSw
      (obtain ⟨a0, a1, a2, a3, a4, a5, a6⟩ := (show KZ w h A n c xs h2 gx g1 gy g2 gb w9 from hSw).k.k.m.cells); clear hSw
      go_simp
      all_goals with_reducible rfl
    simp only [Act.put, List.setIfInBounds_toArray, List.set_cons_zero, List.set_cons_succ]
    refine wpAnyH_one (i := 50) (by kernel_rfl) rfl ?_
    go_wp2_with (go_at_call 19; refine (cC2.out _ _ _ _).mono ?_; rintro ev V4 ⟨rfl, hb⟩)
    replace p := p.step hb
    clear hb hHeld
    have hHeld := p
    refine ⟨hHeld, ?_⟩
    try simp only [Act.put, List.setIfInBounds_toArray, List.set_cons_zero, List.set_cons_succ]
    refine wpAnyH_one (i := 52) (by kernel_rfl) rfl ?_
    go_wp2_with (go_at_call 19; refine (cC.out _ _ _ _).mono ?_; rintro ev V5 ⟨rfl, hb⟩)
    replace p := p.step hb
    clear hb hHeld
    have hHeld := p
    refine ⟨hHeld, ?_⟩
    try simp only [Act.put, List.setIfInBounds_toArray, List.set_cons_zero, List.set_cons_succ]
    refine wpAnyH_at (i := 53) (some 77) (v := ?v53z51) rfl rfl (by kernel_rfl) (by kernel_rfl) (by kernel_rfl) (fun _ _ _ h => h) (Or.inl ⟨by rfl, ?y53z51⟩) (by assumption) ?r53z51
    case y53z51 =>
      intro w9 hSw
      clear hSw
      go_simp
      all_goals with_reducible rfl
    simp only [Act.put, List.setIfInBounds_toArray, List.set_cons_zero, List.set_cons_succ]
    refine wpAnyH_at (i := 54) (some 78) (v := ?v54z52) rfl rfl (by kernel_rfl) (by kernel_rfl) (by kernel_rfl) (fun _ _ _ h => h) (Or.inl ⟨by rfl, ?y54z52⟩) (by assumption) ?r54z52
    case y54z52 =>
      intro w9 hSw
      clear hSw
      go_simp
      all_goals with_reducible rfl
    simp only [Act.put, List.setIfInBounds_toArray, List.set_cons_zero, List.set_cons_succ]
    refine wpAnyH_at (i := 55) (some 79) (v := ?v55z53) rfl rfl (by kernel_rfl) (by kernel_rfl) (by kernel_rfl) (fun _ _ _ h => h) (Or.inl ⟨by rfl, ?y55z53⟩) (by assumption) ?r55z53
    case y55z53 =>
      intro w9 hSw
      clear hSw
      go_simp
      all_goals with_reducible rfl
    simp only [Act.put, List.setIfInBounds_toArray, List.set_cons_zero, List.set_cons_succ]
    refine wpAnyH_at (i := 56) (some 80) (v := ?v56z54) rfl rfl (by kernel_rfl) (by kernel_rfl) (by kernel_rfl) (fun _ _ _ h => h) (Or.inl ⟨by rfl, ?y56z54⟩) (by assumption) ?r56z54
    case y56z54 =>
      intro w9 hSw
      (obtain ⟨a0, a1, a2, a3, a4, a5, a6⟩ := (show KZ w h A n c xs h2 gx g1 gy g2 gb w9 from hSw).b.cells); clear hSw
      go_simp
      all_goals with_reducible rfl
    simp only [Act.put, List.setIfInBounds_toArray, List.set_cons_zero, List.set_cons_succ]
    refine wpAnyH_at (i := 58) (some 82) (v := ?v58z55) rfl rfl (by kernel_rfl) (by kernel_rfl) (by kernel_rfl) (fun _ _ _ h => h) (Or.inl ⟨by rfl, ?y58z55⟩) (by assumption) ?r58z55
    case y58z55 =>
      intro w9 hSw
      (obtain ⟨a0, a1, a2, a3, a4, a5, a6⟩ := (show KZ w h A n c xs h2 gx g1 gy g2 gb w9 from hSw).k.k.m.cells); clear hSw
      go_simp
      all_goals with_reducible rfl
    simp only [Act.put, List.setIfInBounds_toArray, List.set_cons_zero, List.set_cons_succ]
    refine wpAnyH_one (i := 57) (by kernel_rfl) rfl ?_
    go_wp2_with (go_at_call 19; refine (cC3.out _).mono ?_; rintro ev V6 ⟨rfl, hb⟩)
    replace p := p.step hb
    clear hb hHeld
    have hHeld := p
    refine ⟨hHeld, ?_⟩
    try simp only [Act.put, List.setIfInBounds_toArray, List.set_cons_zero, List.set_cons_succ]
    refine wpAnyH_one (i := 59) (by kernel_rfl) rfl ?_
    go_wp2_with (go_at_call 19; refine (cC.out _ _ _ _).mono ?_; rintro ev V7 ⟨rfl, hb⟩)
    replace p := p.step hb
    clear hb hHeld
    have hHeld := p
    refine ⟨hHeld, ?_⟩
    try simp only [Act.put, List.setIfInBounds_toArray, List.set_cons_zero, List.set_cons_succ]
    refine wpAnyH_at (i := 60) (some 84) (v := ?v60z56) rfl rfl (by kernel_rfl) (by kernel_rfl) (by kernel_rfl) (fun _ _ _ h => h) (Or.inl ⟨by rfl, ?y60z56⟩) (by assumption) ?r60z56
    case y60z56 =>
      intro w9 hSw
      clear hSw
      go_simp
      all_goals with_reducible rfl
    simp only [Act.put, List.setIfInBounds_toArray, List.set_cons_zero, List.set_cons_succ]
    refine wpAnyH_at (i := 61) (some 85) (v := ?v61z57) rfl rfl (by kernel_rfl) (by kernel_rfl) (by kernel_rfl) (fun _ _ _ h => h) (Or.inl ⟨by rfl, ?y61z57⟩) (by assumption) ?r61z57
    case y61z57 =>
      intro w9 hSw
      clear hSw
      go_simp
      all_goals with_reducible rfl
    simp only [Act.put, List.setIfInBounds_toArray, List.set_cons_zero, List.set_cons_succ]
    refine wpAnyH_at (i := 62) (some 4) (v := ?v62z58) rfl rfl (by kernel_rfl) (by kernel_rfl) (by kernel_rfl) (fun _ _ _ h => h) (Or.inl ⟨by rfl, ?y62z58⟩) (by assumption) ?r62z58
    case y62z58 =>
      intro w9 hSw
      clear hSw
      go_simp
      all_goals with_reducible rfl
    simp only [Act.put, List.setIfInBounds_toArray, List.set_cons_zero, List.set_cons_succ]
    refine wpAnyH_done (by kernel_rfl) ?_ _
    go_wp2
    go_ret
    exact ⟨rfl, p.k.k.kn.below⟩
theorem marks_law (h : Ms) (A : Option Addr) (n c : Nat) (xs : List Int) (k : Int) (w : World) (hg : Laid w) (hk : h.ok) (hr : Rd .u8 w w.heap.size A n c xs) (hkb : 0 ≤ k ∧ k ≤ 65535) : Calls Tryd.prog 7 #[msV h A n c, .int .u16 k] w fun e w' => e = .returned (.bool true) ∧ Below w.heap.size w w' := by
  by_cases hn : 3000 < n
  · exact marks_far h A n c k w hg hn (Nat.le_trans hr.cap hr.max)
  · exact marks_near h A n c xs k w hg hk hr hkb (by omega)
end Go.Proofs.YtbefoapnlehdmaaDoor
