/-
  The law EtherParses, where Parse answers a frame; the law.
-/
import Derived.Test.YteddpmjjahfmiaaDoorLParsesE
namespace Go.Proofs.YteddpmjjahfmiaaDoor
open Go.RowKit
set_option linter.unusedVariables false

/-- The frame's body, and what lies apart from it. -/
structure KQ (w : World) (A' : Option Addr) (g1 gf : Nat) (ys : List Int) (W : World) : Prop where
  row : Row W g1 ys
  far : A' = none ∨ ∃ ad, A' = some ad ∧ ad.block ≠ g1
  ng : w.heap.size < g1
  nf : gf ≠ g1
  nl : w.heap.size < gf
theorem KQ.step {w : World} {A' : Option Addr} {g1 gf : Nat} {ys : List Int} {W V : World} (h : KQ w A' g1 gf ys W) (hb : Below W.heap.size W V) : KQ w A' g1 gf ys V := ⟨h.row.below hb h.row.lt, h.far, h.ng, h.nf, h.nl⟩
theorem Out.lt {k : IntKind} {e : TypeId} {w : World} {base : Nat} {A : Option Addr} {n c : Nat} {xs : List Int} (h : Out k e w base A n c xs) {g : Nat} (hg : w.heap.size ≤ g) : A = none ∨ ∃ ad, A = some ad ∧ ad.block ≠ g := by
  rcases h.form with ⟨rfl, _⟩ | ⟨q, cur, rfl, _, hh, _⟩
  · exact .inl rfl
  · have := (Array.getElem?_eq_some_iff.1 hh).1
    exact .inr ⟨_, rfl, fun (e : q = g) => by omega⟩
set_option maxRecDepth 100000 in
set_option maxHeartbeats 8000000 in
theorem parses_good (A : Option Addr) (n c : Nat) (xs : List Int) (m t f : Mac6) (k : Int) (ys : List Int) (w : World) (hg : Laid w) (hr : Rd .u8 w w.heap.size A n c xs) (h14 : 14 ≤ n) (hmx : n ≤ 1514)
    (hx : Hid (hdr t f k ys = xs)) (hly : ys.length = n - 14) (hwy : ∀ y ∈ ys, (Lit.int .u8 y).wf = true) (ht : t.ok) (hf : f.ok) (hk : 0 ≤ k ∧ k ≤ 65535)
    (cp : ∀ (W : World) (A' : Option Addr) (c' : Nat), Rd .u8 W W.heap.size A' n c' xs → Calls Tryd.prog 9 #[.slice A' n c'] W fun ev w' => ∃ g, ev = .returned (.tuple #[frV t f k (some ⟨g, 0, none⟩) (n - 14) (n - 14), .nilIface]) ∧ Row w' g ys ∧ W.heap.size ≤ g ∧ Below W.heap.size W w')
    (cr : ∀ (W : World), Rd .u8 W W.heap.size A n c xs → Calls Tryd.prog 10 #[.slice A n c] W fun ev w' => ∃ A2 n2 c2, ev = .returned (.tuple #[frV t f k A2 n2 c2, .agg #[.slice none 0 0, .int .i64 0]]) ∧ Out .u8 5 w' W.heap.size A2 n2 c2 ys ∧ Below W.heap.size W w') :
    Calls Tryd.prog 3 #[.slice A n c, m.v] w fun ev w' => ev = .returned (.bool true) ∧ Below w.heap.size w w' := by
  have mc0 := McAt.new w 24 m
  have kn0 := (Kn.start hg).alloc (.cells #[.int .u8 m.a, .int .u8 m.b, .int .u8 m.c, .int .u8 m.d, .int .u8 m.e, .int .u8 m.f] 24)
  have rd0 : Rd .u8 (w.alloc (.cells #[.int .u8 m.a, .int .u8 m.b, .int .u8 m.c, .int .u8 m.d, .int .u8 m.e, .int .u8 m.f] 24)) w.heap.size A n c xs := hr.below (alloc_below _ _) (Nat.le_refl _)
  have sz0 : w.heap.size + 1 ≤ (w.alloc (.cells #[.int .u8 m.a, .int .u8 m.b, .int .u8 m.c, .int .u8 m.d, .int .u8 m.e, .int .u8 m.f] 24)).heap.size := by simp
  have hcap := hr.cap
  have hmax := hr.max
  have q1 := eql24
  have HL := Lib.hid hr.len
  clear hg hr
  go_enter Tryd.func3, Tryd.ntmps3
  go_wp2_with fail
  refine (alive_any _ kn0.laid).mono ?_
  rintro ev w1 ⟨rfl, hb⟩
  replace mc0 := mc0.step hb
  replace kn0 := kn0.step hb
  replace rd0 := rd0.below hb (by omega)
  replace sz0 := Nat.le_trans sz0 hb.size
  clear hb
  go_wp2_with fail
  refine (own_any A n c w.heap.size xs _ rd0 (by omega) (by omega)).mono ?_
  rintro ev w2 ⟨A', n', c', rfl, ho, hb⟩
  obtain rfl : n = n' := by rw [← ho.len]; exact HL.out.symm
  have kp : KP w A n c A' c' xs w2 := ⟨rd0.below hb (by omega), ho.rebase (by omega), Nat.le_trans sz0 hb.size⟩
  replace mc0 := mc0.step hb
  replace kn0 := kn0.step hb
  clear hb ho rd0 sz0
  go_wp2_with fail
  refine (cp _ A' c' (kp.own.rd)).mono ?_
  rintro ev w3 ⟨g1, rfl, r1, hg1, hb⟩
  have kq : KQ w A' g1 w3.heap.size ys w3 := ⟨r1, kp.own.lt hg1, by have := kp.sz; omega, by have := r1.lt; omega, by have := kp.sz; have := hb.size; omega⟩
  replace mc0 := mc0.step hb
  replace kn0 := kn0.step hb
  replace kp := kp.step hb
  clear hb r1 hg1
  replace mc0 := mc0.step (alloc_below w3 (.cells (frC t f k (some ⟨g1, 0, none⟩) (n - 14) (n - 14)) 29))
  replace kn0 := kn0.alloc (.cells (frC t f k (some ⟨g1, 0, none⟩) (n - 14) (n - 14)) 29)
  replace kp := kp.step (alloc_below w3 (.cells (frC t f k (some ⟨g1, 0, none⟩) (n - 14) (n - 14)) 29))
  replace kq := kq.step (alloc_below w3 (.cells (frC t f k (some ⟨g1, 0, none⟩) (n - 14) (n - 14)) 29))
  have fx := FrAt.new w3 29 t f k (some ⟨g1, 0, none⟩) (n - 14) (n - 14)
  go_wp2_with fail
  refine (cr _ (kp.rd.more (by have := kp.sz; omega))).mono ?_
  rintro ev w4 ⟨A2, n2, c2, rfl, o2, hb⟩
  have b2 : Below w4.heap.size w4 ((w4.alloc (.cells (frC t f k A2 n2 c2) 35)).alloc (.cells (flC none 0 0 0) 39)) := (alloc_below w4 _).alloc (by simp) _
  replace kq := (kq.step hb).step b2
  have k8 : K8 w m t f k (some ⟨g1, 0, none⟩) (n - 14) (n - 14) A2 n2 c2 none 0 0 0 w3.heap.size w4.heap.size (w4.heap.size + 1) ys [] ((w4.alloc (.cells (frC t f k A2 n2 c2) 35)).alloc (.cells (flC none 0 0 0) 39)) :=
    ⟨(fx.step hb).step b2, (FrAt.new w4 35 t f k A2 n2 c2).step (alloc_below _ _), by simpa using heap_alloc_new (w4.alloc (.cells (frC t f k A2 n2 c2) 35)) (.cells (flC none 0 0 0) 39), (mc0.step hb).step b2, kq.row.rdAll hly (by omega) hwy, (o2.rd.below b2 (Nat.le_refl _)).more b2.size, Rd.nil, (kn0.step hb).step b2⟩
  replace kp := (kp.step hb).step b2
  clear hb fx mc0 kn0 o2 b2
  go_wp2_with fail
  generalize w3.heap.size = gf at *
  replace k8 := k8.step (below_drew _)
  replace kp := kp.step (below_drew _)
  replace kq := kq.step (below_drew _)
  go_cut [56] from 30 to 56 (fun x wc => x = .bool false ∧ K8 w m t f k (some ⟨g1, 0, none⟩) (n - 14) (n - 14) A2 n2 c2 none 0 0 0 gf w4.heap.size (w4.heap.size + 1) ys [] wc ∧ KP w A n c A' c' xs wc ∧ KQ w A' g1 gf ys wc)
  case first =>
    refine wp_region_held_drew (S := fun w' => K8 w m t f k (some ⟨g1, 0, none⟩) (n - 14) (n - 14) A2 n2 c2 none 0 0 0 gf w4.heap.size (w4.heap.size + 1) ys [] w' ∧ KP w A n c A' c' xs w' ∧ KQ w A' g1 gf ys w') (by kernel_rfl) ⟨k8, kp, kq⟩ (fun hHeld => ?_)
    change wpAnyH _ _ _ _ _ _ _ _ ((w4.alloc (.cells (frC t f k A2 n2 c2) 35)).alloc (.cells (flC none 0 0 0) 39)).drew
    clear hHeld
    generalize ((w4.alloc (.cells (frC t f k A2 n2 c2) 35)).alloc (.cells (flC none 0 0 0) 39)).drew = W5 at *
    generalize w4.heap.size = gg at *
    have hHeld := And.intro k8 (And.intro kp kq)
    refine wpAnyH_at (i := 0) (some 30) (v := ?v0z29) rfl rfl (by kernel_rfl) (by kernel_rfl) (by kernel_rfl) (fun _ _ _ h => h) (Or.inl ⟨by rfl, ?y0z29⟩) (by assumption) ?r0z29
    case y0z29 =>
      intro w9 hSw
      clear hSw
      go_simp
      all_goals with_reducible rfl
    simp only [Act.put, List.setIfInBounds_toArray, List.set_cons_zero, List.set_cons_succ]
    refine wpAnyH_at (i := 1) (some 31) (v := ?v1z30) rfl rfl (by kernel_rfl) (by kernel_rfl) (by kernel_rfl) (fun _ _ _ h => h) (Or.inl ⟨by rfl, ?y1z30⟩) (by assumption) ?r1z30
    case y1z30 =>
      intro w9 hSw
      (obtain ⟨h0, h1⟩ := hSw.1.fault); clear hSw
      go_simp
      all_goals with_reducible rfl
    simp only [Act.put, List.setIfInBounds_toArray, List.set_cons_zero, List.set_cons_succ]
    refine wpAnyH_one (i := 2) (by kernel_rfl) rfl ?_
    go_wp2_with (go_at_call 11; refine (is_nil none 0 0 _).mono ?_; rintro ev y6 ⟨rfl, hb⟩)
    replace k8 := k8.step hb
    replace kp := kp.step hb
    replace kq := kq.step hb
    clear hb
    replace hHeld := And.intro k8 (And.intro kp kq)
    refine ⟨hHeld, ?_⟩
    refine wpAnyH_at (i := 3) (some 33) (v := ?v3z31) rfl rfl (by kernel_rfl) (by kernel_rfl) (by kernel_rfl) (fun _ _ _ h => h) (Or.inl ⟨by rfl, ?y3z31⟩) (by assumption) ?r3z31
    case y3z31 =>
      intro w9 hSw
      clear hSw
      go_simp
      all_goals with_reducible rfl
    simp only [Act.put, List.setIfInBounds_toArray, List.set_cons_zero, List.set_cons_succ]
    refine wpAnyH_at (i := 4) (some 34) (v := ?v4z32) rfl rfl (by kernel_rfl) (by kernel_rfl) (by kernel_rfl) (fun _ _ _ h => h) (Or.inl ⟨by rfl, ?y4z32⟩) (by assumption) ?r4z32
    case y4z32 =>
      intro w9 hSw
      clear hSw
      go_simp
      all_goals with_reducible rfl
    simp only [Act.put, List.setIfInBounds_toArray, List.set_cons_zero, List.set_cons_succ]
    refine wpAnyH_at (i := 5) (some 35) (v := ?v5z33) rfl rfl (by kernel_rfl) (by kernel_rfl) (by kernel_rfl) (fun _ _ _ h => h) (Or.inl ⟨by rfl, ?y5z33⟩) (by assumption) ?r5z33
    case y5z33 =>
      intro w9 hSw
      (obtain ⟨a0, a1, a2, a3, a4, a5, a6, a7, a8, a9, a10, a11, a12, a13⟩ := hSw.1.fx.cells); clear hSw
      go_simp
      all_goals with_reducible rfl
    simp only [Act.put, List.setIfInBounds_toArray, List.set_cons_zero, List.set_cons_succ]
    refine wpAnyH_at (i := 7) (some 37) (v := ?v7z34) rfl rfl (by kernel_rfl) (by kernel_rfl) (by kernel_rfl) (fun _ _ _ h => h) (Or.inl ⟨by rfl, ?y7z34⟩) (by assumption) ?r7z34
    case y7z34 =>
      intro w9 hSw
      (obtain ⟨a0, a1, a2, a3, a4, a5, a6, a7, a8, a9, a10, a11, a12, a13⟩ := hSw.1.gx.cells); clear hSw
      go_simp
      all_goals with_reducible rfl
    simp only [Act.put, List.setIfInBounds_toArray, List.set_cons_zero, List.set_cons_succ]
    refine wpAnyH_one (i := 6) (by kernel_rfl) rfl ?_
    go_wp2_with (go_at_call 13; refine (of_frame (t) (f) (k) (some ⟨g1, 0, none⟩) (n - 14) (n - 14) (ys) _ k8.r1 (by omega)).mono ?_; rintro ev y7 ⟨Ao, no, co, rfl, ho, hb⟩)
    replace k8 := k8.step hb
    replace kp := kp.step hb
    replace kq := kq.step hb
    clear hb
    replace hHeld := And.intro k8 (And.intro kp kq)
    refine ⟨hHeld, ?_⟩
    refine wpAnyH_one (i := 8) (by kernel_rfl) rfl ?_
    go_wp2_with (go_at_call 12; refine (refSame_self (t) (f) (k) Ao no co (A2) (n2) (c2) (ys) _ ho.rd k8.r2).mono ?_; rintro ev y8 ⟨rfl, hb⟩)
    replace k8 := k8.step hb
    replace kp := kp.step hb
    replace kq := kq.step hb
    clear hb
    replace hHeld := And.intro k8 (And.intro kp kq)
    refine ⟨hHeld, ?_⟩
    clear ho
    refine wpAnyH_at (i := 9) (some 39) (v := ?v9z35) rfl rfl (by kernel_rfl) (by kernel_rfl) (by kernel_rfl) (fun _ _ _ h => h) (Or.inl ⟨by rfl, ?y9z35⟩) (by assumption) ?r9z35
    case y9z35 =>
      intro w9 hSw
      clear hSw
      go_simp
      all_goals with_reducible rfl
    simp only [Act.put, List.setIfInBounds_toArray, List.set_cons_zero, List.set_cons_succ]
    refine wpAnyH_at (i := 10) (some 40) (v := ?v10z36) rfl rfl (by kernel_rfl) (by kernel_rfl) (by kernel_rfl) (fun _ _ _ h => h) (Or.inl ⟨by rfl, ?y10z36⟩) (by assumption) ?r10z36
    case y10z36 =>
      intro w9 hSw
      clear hSw
      go_simp
      all_goals with_reducible rfl
    simp only [Act.put, List.setIfInBounds_toArray, List.set_cons_zero, List.set_cons_succ]
    refine wpAnyH_at (i := 11) (some 41) (v := ?v11z37) rfl rfl (by kernel_rfl) (by kernel_rfl) (by kernel_rfl) (fun _ _ _ h => h) (Or.inl ⟨by rfl, ?y11z37⟩) (by assumption) ?r11z37
    case y11z37 =>
      intro w9 hSw
      clear hSw
      go_simp
      all_goals with_reducible rfl
    simp only [Act.put, List.setIfInBounds_toArray, List.set_cons_zero, List.set_cons_succ]
    refine wpAnyH_at (i := 12) (some 42) (v := ?v12z38) rfl rfl (by kernel_rfl) (by kernel_rfl) (by kernel_rfl) (fun _ _ _ h => h) (Or.inl ⟨by rfl, ?y12z38⟩) (by assumption) ?r12z38
    case y12z38 =>
      intro w9 hSw
      (obtain ⟨a0, a1, a2, a3, a4, a5, a6, a7, a8, a9, a10, a11, a12, a13⟩ := hSw.1.fx.cells); clear hSw
      go_simp
      all_goals with_reducible rfl
    simp only [Act.put, List.setIfInBounds_toArray, List.set_cons_zero, List.set_cons_succ]
    refine wpAnyH_at (i := 13) (some 43) (v := ?v13z39) rfl rfl (by kernel_rfl) (by kernel_rfl) (by kernel_rfl) (fun _ _ _ h => h) (Or.inl ⟨by rfl, ?y13z39⟩) (by assumption) ?r13z39
    case y13z39 =>
      intro w9 hSw
      (obtain ⟨b0, b1, b2, b3, b4, b5⟩ := hSw.1.mc.cells); clear hSw
      go_simp
      all_goals with_reducible rfl
    simp only [Act.put, List.setIfInBounds_toArray, List.set_cons_zero, List.set_cons_succ]
    refine wpAnyH_at (i := 15) (some 45) (v := ?v15z40) rfl rfl (by kernel_rfl) (by kernel_rfl) (by kernel_rfl) (fun _ _ _ h => h) (Or.inl ⟨by rfl, ?y15z40⟩) (by assumption) ?r15z40
    case y15z40 =>
      intro w9 hSw
      clear hSw
      go_simp
      all_goals with_reducible rfl
    simp only [Act.put, List.setIfInBounds_toArray, List.set_cons_zero, List.set_cons_succ]
    refine wpAnyH_at (i := 16) (some 46) (v := ?v16z41) rfl rfl (by kernel_rfl) (by kernel_rfl) (by kernel_rfl) (fun _ _ _ h => h) (Or.inl ⟨by rfl, ?y16z41⟩) (by assumption) ?r16z41
    case y16z41 =>
      intro w9 hSw
      (obtain ⟨a0, a1, a2, a3, a4, a5, a6, a7, a8, a9, a10, a11, a12, a13⟩ := hSw.1.fx.cells); clear hSw
      go_simp
      all_goals with_reducible rfl
    simp only [Act.put, List.setIfInBounds_toArray, List.set_cons_zero, List.set_cons_succ]
    refine wpAnyH_at (i := 17) (some 47) (v := ?v17z42) rfl rfl (by kernel_rfl) (by kernel_rfl) (by kernel_rfl) (fun _ _ _ h => h) (Or.inl ⟨by rfl, ?y17z42⟩) (by assumption) ?r17z42
    case y17z42 =>
      intro w9 hSw
      (obtain ⟨b0, b1, b2, b3, b4, b5⟩ := hSw.1.mc.cells); clear hSw
      go_simp
      all_goals with_reducible rfl
    simp only [Act.put, List.setIfInBounds_toArray, List.set_cons_zero, List.set_cons_succ]
    by_cases hm : mEq (t) m = true
    · have hb1 : mB t.a t.b t.c t.d t.e t.f m.a m.b m.c m.d m.e m.f = true := hm
      have hv := forV_eq hm
      refine wpAnyH_at (i := 18) (some 48) (v := ?v18z43) rfl rfl (by kernel_rfl) (by kernel_rfl) (by kernel_rfl) (fun _ _ _ h => h) (Or.inl ⟨by rfl, ?y18z43⟩) (by assumption) ?r18z43
      case y18z43 =>
        intro w9 hSw
        clear hSw
        go_simp
        all_goals with_reducible rfl
      simp only [Act.put, List.setIfInBounds_toArray, List.set_cons_zero, List.set_cons_succ]
      refine wpAnyH_one (i := 14) (by kernel_rfl) rfl ?_
      go_wp2_with (go_at_call 14; refine (for_any t f k (some ⟨g1, 0, none⟩) (n - 14) (n - 14) m _).mono ?_; rintro ev y9 ⟨rfl, hb⟩)
      replace k8 := k8.step hb
      replace kp := kp.step hb
      replace kq := kq.step hb
      clear hb
      replace hHeld := And.intro k8 (And.intro kp kq)
      refine ⟨hHeld, ?_⟩
      refine wpAnyH_at (i := 19) (some 49) (v := ?v19z44) rfl rfl (by kernel_rfl) (by kernel_rfl) (by kernel_rfl) (fun _ _ _ h => h) (Or.inl ⟨by rfl, ?y19z44⟩) (by assumption) ?r19z44
      case y19z44 =>
        intro w9 hSw
        clear hSw
        go_simp
        all_goals with_reducible rfl
      simp only [Act.put, List.setIfInBounds_toArray, List.set_cons_zero, List.set_cons_succ]
      refine wpAnyH_at (i := 20) (some 50) (v := undef) rfl rfl (by kernel_rfl) (by kernel_rfl) (by kernel_rfl) (fun _ _ _ h => h) (Or.inr ⟨by rfl, rfl⟩) (by assumption) ?_
      simp only [Act.put, List.setIfInBounds_toArray, List.set_cons_zero, List.set_cons_succ]
      refine wpAnyH_at (i := 21) (some 51) (v := undef) rfl rfl (by kernel_rfl) (by kernel_rfl) (by kernel_rfl) (fun _ _ _ h => h) (Or.inr ⟨by rfl, rfl⟩) (by assumption) ?_
      simp only [Act.put, List.setIfInBounds_toArray, List.set_cons_zero, List.set_cons_succ]
      refine wpAnyH_at (i := 22) (some 52) (v := undef) rfl rfl (by kernel_rfl) (by kernel_rfl) (by kernel_rfl) (fun _ _ _ h => h) (Or.inr ⟨by rfl, rfl⟩) (by assumption) ?_
      simp only [Act.put, List.setIfInBounds_toArray, List.set_cons_zero, List.set_cons_succ]
      refine wpAnyH_at (i := 23) (some 53) (v := undef) rfl rfl (by kernel_rfl) (by kernel_rfl) (by kernel_rfl) (fun _ _ _ h => h) (Or.inr ⟨by rfl, rfl⟩) (by assumption) ?_
      simp only [Act.put, List.setIfInBounds_toArray, List.set_cons_zero, List.set_cons_succ]
      refine wpAnyH_at (i := 24) (some 54) (v := ?v24z51) rfl rfl (by kernel_rfl) (by kernel_rfl) (by kernel_rfl) (fun _ _ _ h => h) (Or.inl ⟨by rfl, ?y24z51⟩) (by assumption) ?r24z51
      case y24z51 =>
        intro w9 hSw
        clear hSw
        go_simp
        all_goals with_reducible rfl
      simp only [Act.put, List.setIfInBounds_toArray, List.set_cons_zero, List.set_cons_succ]
      refine wpAnyH_at (i := 25) (some 55) (v := ?v25z52) rfl rfl (by kernel_rfl) (by kernel_rfl) (by kernel_rfl) (fun _ _ _ h => h) (Or.inl ⟨by rfl, ?y25z52⟩) (by assumption) ?r25z52
      case y25z52 =>
        intro w9 hSw
        clear hSw
        go_simp
        all_goals with_reducible rfl
      simp only [Act.put, List.setIfInBounds_toArray, List.set_cons_zero, List.set_cons_succ]
      refine wpAnyH_at (i := 26) (some 56) (v := ?v26z53) rfl rfl (by kernel_rfl) (by kernel_rfl) (by kernel_rfl) (fun _ _ _ h => h) (Or.inl ⟨by rfl, ?y26z53⟩) (by assumption) ?r26z53
      case y26z53 =>
        intro w9 hSw
        clear hSw
        go_simp
        all_goals with_reducible rfl
      simp only [Act.put, List.setIfInBounds_toArray, List.set_cons_zero, List.set_cons_succ]
      refine wpAnyH_done (by kernel_rfl) ?_ _
      go_wp2_with fail
      go_meet
      case rel => exact ⟨rfl, k8, kp, kq⟩
    · have hm : mEq (t) m = false := by simpa using hm
      have hb1 : mB t.a t.b t.c t.d t.e t.f m.a m.b m.c m.d m.e m.f = false := hm
      have hv := forV_ne hm
      have hv2 : mEq (t) all6 = mB t.a t.b t.c t.d t.e t.f 255 255 255 255 255 255 := rfl
      rw [hv2] at hv
      refine wpAnyH_at (i := 18) (some 48) (v := ?v18z45) rfl rfl (by kernel_rfl) (by kernel_rfl) (by kernel_rfl) (fun _ _ _ h => h) (Or.inl ⟨by rfl, ?y18z45⟩) (by assumption) ?r18z45
      case y18z45 =>
        intro w9 hSw
        clear hSw
        go_simp
        all_goals with_reducible rfl
      simp only [Act.put, List.setIfInBounds_toArray, List.set_cons_zero, List.set_cons_succ]
      refine wpAnyH_one (i := 14) (by kernel_rfl) rfl ?_
      go_wp2_with (go_at_call 14; refine (for_any t f k (some ⟨g1, 0, none⟩) (n - 14) (n - 14) m _).mono ?_; rintro ev y10 ⟨rfl, hb⟩)
      replace k8 := k8.step hb
      replace kp := kp.step hb
      replace kq := kq.step hb
      clear hb
      replace hHeld := And.intro k8 (And.intro kp kq)
      refine ⟨hHeld, ?_⟩
      refine wpAnyH_at (i := 19) (some 49) (v := ?v19z46) rfl rfl (by kernel_rfl) (by kernel_rfl) (by kernel_rfl) (fun _ _ _ h => h) (Or.inl ⟨by rfl, ?y19z46⟩) (by assumption) ?r19z46
      case y19z46 =>
        intro w9 hSw
        clear hSw
        go_simp
        all_goals with_reducible rfl
      simp only [Act.put, List.setIfInBounds_toArray, List.set_cons_zero, List.set_cons_succ]
      refine wpAnyH_at (i := 20) (some 50) (v := ?v20z47) rfl rfl (by kernel_rfl) (by kernel_rfl) (by kernel_rfl) (fun _ _ _ h => h) (Or.inl ⟨by rfl, ?y20z47⟩) (by assumption) ?r20z47
      case y20z47 =>
        intro w9 hSw
        clear hSw
        go_simp
        all_goals with_reducible rfl
      simp only [Act.put, List.setIfInBounds_toArray, List.set_cons_zero, List.set_cons_succ]
      refine wpAnyH_at (i := 21) (some 51) (v := ?v21z48) rfl rfl (by kernel_rfl) (by kernel_rfl) (by kernel_rfl) (fun _ _ _ h => h) (Or.inl ⟨by rfl, ?y21z48⟩) (by assumption) ?r21z48
      case y21z48 =>
        intro w9 hSw
        (obtain ⟨a0, a1, a2, a3, a4, a5, a6, a7, a8, a9, a10, a11, a12, a13⟩ := hSw.1.fx.cells); clear hSw
        go_simp
        all_goals with_reducible rfl
      simp only [Act.put, List.setIfInBounds_toArray, List.set_cons_zero, List.set_cons_succ]
      refine wpAnyH_at (i := 22) (some 52) (v := ?v22z49) rfl rfl (by kernel_rfl) (by kernel_rfl) (by kernel_rfl) (fun _ _ _ h => h) (Or.inl ⟨by rfl, ?y22z49⟩) (by assumption) ?r22z49
      case y22z49 =>
        intro w9 hSw
        clear hSw
        go_simp
        all_goals with_reducible rfl
      simp only [Act.put, List.setIfInBounds_toArray, List.set_cons_zero, List.set_cons_succ]
      refine wpAnyH_at (i := 23) (some 53) (v := ?v23z50) rfl rfl (by kernel_rfl) (by kernel_rfl) (by kernel_rfl) (fun _ _ _ h => h) (Or.inl ⟨by rfl, ?y23z50⟩) (by assumption) ?r23z50
      case y23z50 =>
        intro w9 hSw
        clear hSw
        go_simp
        all_goals with_reducible rfl
      simp only [Act.put, List.setIfInBounds_toArray, List.set_cons_zero, List.set_cons_succ]
      refine wpAnyH_at (i := 24) (some 54) (v := ?v24z54) rfl rfl (by kernel_rfl) (by kernel_rfl) (by kernel_rfl) (fun _ _ _ h => h) (Or.inl ⟨by rfl, ?y24z54⟩) (by assumption) ?r24z54
      case y24z54 =>
        intro w9 hSw
        clear hSw
        go_simp
        all_goals with_reducible rfl
      simp only [Act.put, List.setIfInBounds_toArray, List.set_cons_zero, List.set_cons_succ]
      refine wpAnyH_at (i := 25) (some 55) (v := ?v25z55) rfl rfl (by kernel_rfl) (by kernel_rfl) (by kernel_rfl) (fun _ _ _ h => h) (Or.inl ⟨by rfl, ?y25z55⟩) (by assumption) ?r25z55
      case y25z55 =>
        intro w9 hSw
        clear hSw
        go_simp
        all_goals with_reducible rfl
      simp only [Act.put, List.setIfInBounds_toArray, List.set_cons_zero, List.set_cons_succ]
      refine wpAnyH_at (i := 26) (some 56) (v := ?v26z56) rfl rfl (by kernel_rfl) (by kernel_rfl) (by kernel_rfl) (fun _ _ _ h => h) (Or.inl ⟨by rfl, ?y26z56⟩) (by assumption) ?r26z56
      case y26z56 =>
        intro w9 hSw
        clear hSw
        go_simp
        all_goals with_reducible rfl
      simp only [Act.put, List.setIfInBounds_toArray, List.set_cons_zero, List.set_cons_succ]
      refine wpAnyH_done (by kernel_rfl) ?_ _
      go_wp2_with fail
      go_meet
      case rel => exact ⟨rfl, k8, kp, kq⟩
  case rest =>
    obtain ⟨rfl, k8, kp, kq⟩ := hcut
    generalize w4.heap.size = gg at *
    have c13 : ∀ W, Only g1 wc W → W.cell? ⟨gf, 13, none⟩ = some (.slice (some ⟨g1, 0, none⟩) (n - 14) (n - 14)) := fun W h => (h.cell (a := ⟨gf, 13, none⟩) kq.nf).trans k8.fx.cells.2.2.2.2.2.2.2.2.2.2.2.2.2
    have Hc := Lib.hid c13
    clear c13
    have hne : ¬ gf = g1 := kq.nf
    go_wp2_with fail
    go_loopw [10] (fun i wr => ∃ (j : Nat) (zs : List Int), i = .int .i64 j ∧ j ≤ n - 14 ∧ Row wr g1 zs ∧ zs.length = n - 14 ∧ Only g1 wc wr) (fun i _ => (n - 14) - (intOf i).toNat)
    case atStart => exact ⟨0, ys, rfl, Nat.zero_le _, kq.row, hly, Only.refl _ _⟩
    case round =>
      obtain ⟨j, zs, rfl, hj, hrow, hzl, ho⟩ := hrel
      have cc := Hc.out wr ho
      by_cases hlt : j < n - 14
      · have cj := hrow.cell (i := j) (by omega)
        have zj := hrow.frozen j
        have l1 : (j : Int) < ((n - 14 : Nat) : Int) := by omega
        have l2 : (0 : Int) ≤ (j : Int) := by omega
        have hset := fun z => hrow.set j z
        have Hs := Lib.hid hset
        have Ho := Lib.hid ho
        clear hset ho hrow
        generalize zs.getD j 0 = x at cj
        go_wp2
        go_roundw
        case rel => exact ⟨j + 1, _, by go_num, by omega, Hs.out _, by simp [hzl], Ho.out.trans (Only.setCell _ _ _ _)⟩
        case measure => simp [intOf]; omega
      · obtain rfl : j = n - 14 := by omega
        have fx : FrAt wr gf 29 t f k (some ⟨g1, 0, none⟩) (n - 14) (n - 14) := (ho.other gf kq.nf).trans k8.fx
        have rdb : Rd .u8 wr w.heap.size A n c xs := ho.rd kp.rd (Nat.le_of_lt kq.ng)
        have own : Out .u8 5 wr (w.heap.size + 1) A' n c' xs := kp.own.only ho.other kq.far
        have bel : Below w.heap.size w wr := k8.kn.below.trans (ho.below.mono (Nat.le_of_lt kq.ng))
        have gfl : w.heap.size < gf := kq.nl
        clear k8 kp kq hrow ho Hc
        go_wp2_with fail
        refine (same_any _ _ _ _ _ _ xs _ _ _ own.rd rdb).mono ?_
        rintro ev w6 ⟨rfl, hb⟩
        replace fx := fx.step hb
        replace rdb := rdb.below hb bel.size
        replace own := own.below hb (Nat.le_refl _)
        replace bel := bel.trans (hb.mono bel.size)
        clear hb cc
        go_wp2_with fail
        refine (cp _ A' c' own.rd).mono ?_
        rintro ev w7 ⟨g3, rfl, r3, hg3, hb⟩
        have ng3 : g3 ≠ gf := by have := fx.lt; omega
        replace fx := fx.step hb
        replace rdb := rdb.below hb bel.size
        replace bel := bel.trans (hb.mono bel.size)
        have fin : ∀ w8, w8.heap[gf]? = some (.cells (frC t f k (some ⟨g3, 0, none⟩) (n - 14) (n - 14)) 29 (0, 0)) → Only gf w7 w8 → FrAt w8 gf 29 t f k (some ⟨g3, 0, none⟩) (n - 14) (n - 14) ∧ Row w8 g3 ys ∧ Rd .u8 w8 w.heap.size A n c xs ∧ Below w.heap.size w w8 := fun w8 h1 ho =>
          ⟨h1, (ho.other g3 ng3).trans r3, ho.rd rdb (Nat.le_of_lt gfl), bel.trans (ho.below.mono (Nat.le_of_lt gfl))⟩
        clear hb own hg3
        go_wp2_with (first
          | (refine wpList_stF rfl rfl 29 _ _ rfl gf (frC t f k (some ⟨g3, 0, none⟩) (n - 14) (n - 14)) rfl rfl 29 _ fx (by kernel_rfl) rfl (frC_one _ _ _ _ _ _) ?_; intro w8 f8 hb8 ho8 hs8; obtain ⟨fx8, r8, rd8, bel8⟩ := fin w8 f8 ⟨hb8, ho8, hs8⟩; clear fin f8 hb8 ho8 hs8 fx r3 rdb bel; obtain ⟨a0, a1, a2, a3, a4, a5, a6, a7, a8, a9, a10, a11, a12, a13⟩ := fx8.cells))
        refine (bytes_ok t f k (some ⟨g3, 0, none⟩) (n - 14) (n - 14) ys _ (r8.rdAll hly (by omega) hwy) (by omega) ht hf hk).mono ?_
        rintro ev w9 ⟨gb, rfl, rb, -, hb⟩
        rw [hx.out] at rb
        replace rd8 := rd8.below hb bel8.size
        replace bel8 := bel8.trans (hb.mono bel8.size)
        clear hb r8 fx8 a0 a1 a2 a3 a4 a5 a6 a7 a8 a9 a10 a11 a12 a13
        go_wp2_with fail
        refine (same_any _ _ _ _ _ _ xs _ _ _ (rb.rdAll HL.out (by omega) rd8.2.2.2.1) rd8).mono ?_
        rintro ev w10 ⟨rfl, hb⟩
        replace bel8 := bel8.trans (hb.mono bel8.size)
        go_wp2
        go_ret
        exact ⟨rfl, bel8⟩
theorem parses_law (A : Option Addr) (n c : Nat) (xs : List Int) (m : Mac6) (w : World) (hg : Laid w) (hr : Rd .u8 w w.heap.size A n c xs) :
    Calls Tryd.prog 3 #[.slice A n c, m.v] w fun ev w' => ev = .returned (.bool true) ∧ Below w.heap.size w w' := by
  have hl := hr.len
  have hw := hr.2.2.2.1
  by_cases h0 : 3000 < n
  · exact parses_far A n c xs m w hg hr h0
  · by_cases h1 : n < 14
    · exact parses_err A n c xs m 12 w hg hr (by omega) (by decide) (fun W A' c' _ => parse_short A' n c' W h1) (fun W _ => refParse_short A n c W h1)
    · by_cases h2 : 1514 < n
      · exact parses_err A n c xs m 11 w hg hr (by omega) (by decide) (fun W A' c' _ => parse_long A' n c' W h2) (fun W _ => refParse_long A n c W h2)
      · by_cases h3 : grpV (six (xs.drop 6)) = true
        · refine parses_err A n c xs m 10 w hg hr (by omega) (by decide) (fun W A' c' h => (parse_ok A' n c' xs W h (by omega) (by omega)).mono ?_) (fun W h => refParse_group A n c W xs h (by omega) (by omega) h3)
          rintro ev w' ⟨hb, ⟨_, rfl⟩ | ⟨h4, _⟩⟩
          · exact ⟨rfl, hb⟩
          · rw [h3] at h4; cases h4
        · have h3 : grpV (six (xs.drop 6)) = false := by simpa using h3
          refine parses_good A n c xs m (six xs) (six (xs.drop 6)) (kOf xs) (xs.drop 14) w hg hr (by omega) (by omega) (Lib.hid (hdr_back xs (by omega) hw)) (by simp; omega) (fun y hy => hw y (List.mem_of_mem_drop hy)) (six_ok (by omega) hw) (six_ok (by simp; omega) (fun y hy => hw y (List.mem_of_mem_drop hy))) (kOf_bd (by omega) hw)
            (fun W A' c' h => (parse_ok A' n c' xs W h (by omega) (by omega)).mono ?_) (fun W h => refParse_ok A n c xs W h (by omega) (by omega) h3)
          rintro ev w' ⟨hb, ⟨h4, _⟩ | ⟨_, g, rfl, hrow, hge⟩⟩
          · rw [h3] at h4; cases h4
          · exact ⟨g, rfl, hrow, hge, hb⟩
end Go.Proofs.YteddpmjjahfmiaaDoor
