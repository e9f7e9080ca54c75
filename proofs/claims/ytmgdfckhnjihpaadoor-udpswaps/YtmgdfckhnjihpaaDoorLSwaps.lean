/-
  The law UdpSwaps: with its ports, or its Ips, changed about a datagram has the same sum; a bare one's bytes don't hang on the Ips.
-/
import Derived.Test.YtmgdfckhnjihpaaDoorUAlive
import Derived.Test.YtmgdfckhnjihpaaDoorUSum
namespace Go.Proofs.YtmgdfckhnjihpaaDoor
open Go.RowKit
set_option linter.unusedVariables false

/-- What the walk knows: the datagram, the other one, five rows of bytes. -/
structure KS (w : World) (h k : Hd) (A : Option Addr) (n c : Nat) (xs : List Int) (go ga gb gc gx gy : Nat) (Ya Yb Yx : List Int) (W : World) : Prop where
  kn : Kn w W
  d : PkAt W w.heap.size 28 h A n c
  o : PkAt W go 28 k A n c
  rd : Rd .u8 W w.heap.size A n c xs
  a : Row W ga Ya
  b : Row W gb Yb
  c : Row W gc Ya
  x : Row W gx Yx
  y : Row W gy Yx
theorem KS.step {w W V : World} {h k : Hd} {A : Option Addr} {n c : Nat} {xs : List Int} {go ga gb gc gx gy : Nat} {Ya Yb Yx : List Int} (q : KS w h k A n c xs go ga gb gc gx gy Ya Yb Yx W) (hb : Below W.heap.size W V) : KS w h k A n c xs go ga gb gc gx gy Ya Yb Yx V :=
  ⟨q.kn.step hb, q.d.step hb, q.o.step hb, q.rd.below hb q.kn.below.size, q.a.below hb q.a.lt, q.b.below hb q.b.lt, q.c.below hb q.c.lt, q.x.below hb q.x.lt, q.y.below hb q.y.lt⟩

set_option maxRecDepth 100000 in
set_option maxHeartbeats 4000000 in
theorem swaps_far (h : Hd) (A : Option Addr) (n c : Nat) (xs : List Int) (f t : Int) (w : World) (hg : Laid w) (hk : h.ok) (hr : Rd .u8 w w.heap.size A n c xs) (hf : Ip f) (ht : Ip t) (hn : 1472 < n) : Calls Tryd.prog 6 #[pkV h A n c, .int .u32 f, .int .u32 t] w fun e w' => e = .returned (.bool true) ∧ Below w.heap.size w w' := by
  have k := (Kn.start hg).alloc (.cells (pkC h A n c) 28)
  have d := PkAt.new w 28 h A n c
  have hmax := Nat.le_trans hr.cap hr.max
  have n1 : (1472 : Int) < (n : Int) := by omega
  clear hg hr
  go_enter Tryd.func6, Tryd.ntmps6
  go_wp2_with fail
  refine (alive_any _ k.laid).mono ?_
  rintro ev w1 ⟨rfl, hb⟩
  replace k := k.step hb
  replace d := d.step hb
  clear hb
  obtain ⟨a0, a1, a2, a3⟩ := d.cells
  go_wp2
  go_ret
  exact ⟨rfl, k.below⟩
set_option maxRecDepth 100000 in
set_option maxHeartbeats 4000000 in
theorem swaps_near (h : Hd) (A : Option Addr) (n c : Nat) (xs : List Int) (f t : Int) (w : World) (hg : Laid w) (hk : h.ok) (hr : Rd .u8 w w.heap.size A n c xs) (hf : Ip f) (ht : Ip t) (hn : n ≤ 1472) (m : Nat) (hm : 8 + n = m) : Calls Tryd.prog 6 #[pkV h A n c, .int .u32 f, .int .u32 t] w fun e w' => e = .returned (.bool true) ∧ Below w.heap.size w w' := by
  have hxl := hr.len
  have hwf := hr.2.2.2.1
  have hl : 8 + xs.length ≤ 65535 := by omega
  have k7 : Ip 7 := ip_of (by omega)
  have k9 : Ip 9 := ip_of (by omega)
  have hko : Hd.ok ⟨h.dst, h.src, h.bare⟩ := ⟨hk.dst, hk.src⟩
  have hkx : Hd.ok ⟨h.src, h.dst, true⟩ := ⟨hk.src, hk.dst⟩
  have ca := Lib.hid (fun W (q : Rd .u8 W W.heap.size A n c xs) => bytes_ok h A n c xs f t W hk q hf ht hn)
  have cb := Lib.hid (fun W (q : Rd .u8 W W.heap.size A n c xs) => bytes_ok ⟨h.dst, h.src, h.bare⟩ A n c xs f t W hko q hf ht hn)
  have cc := Lib.hid (fun W (q : Rd .u8 W W.heap.size A n c xs) => bytes_ok h A n c xs t f W hk q ht hf hn)
  have cx := Lib.hid (fun W (q : Rd .u8 W W.heap.size A n c xs) => bytes_ok ⟨h.src, h.dst, true⟩ A n c xs f t W hkx q hf ht hn)
  have cy := Lib.hid (fun W (q : Rd .u8 W W.heap.size A n c xs) => bytes_ok ⟨h.src, h.dst, true⟩ A n c xs 7 9 W hkx q k7 k9 hn)
  have eac : byR h t f xs = byR h f t xs := by
    unfold byR
    rw [sum_eq (f := t) (t := f) (f' := f) (t' := t) hk hk ht hf hf ht hwf hl rfl (by omega)]
  have eab : (byR h f t xs).drop 6 = (byR ⟨h.dst, h.src, h.bare⟩ f t xs).drop 6 := by
    rw [byR_drop6, byR_drop6, sum_eq (k := ⟨h.dst, h.src, h.bare⟩) (f' := f) (t' := t) hk hko hf ht hf ht hwf hl rfl (by dsimp only; omega)]
  have exy : byR ⟨h.src, h.dst, true⟩ 7 9 xs = byR ⟨h.src, h.dst, true⟩ f t xs := by rw [byR_bare rfl, byR_bare rfl]
  have e6 : (byR h f t xs).take 6 = (byR ⟨h.src, h.dst, true⟩ f t xs).take 6 := rfl
  have e8 : (byR h f t xs).drop 8 = (byR ⟨h.src, h.dst, true⟩ f t xs).drop 8 := rfl
  rw [eac, hm] at cc
  rw [exy, hm] at cy
  rw [hm] at ca cb cx
  have La := Lib.hid (byR_len h f t xs)
  have Lb := Lib.hid (byR_len ⟨h.dst, h.src, h.bare⟩ f t xs)
  have Lx := Lib.hid (byR_len ⟨h.src, h.dst, true⟩ f t xs)
  have Wa := Lib.hid (byR_wf hk hf ht hwf hl)
  have Wb := Lib.hid (byR_wf hko hf ht hwf hl)
  have Wx := Lib.hid (byR_wf hkx hf ht hwf hl)
  rw [hxl, hm] at La Lb Lx
  replace eab := Lib.hid eab
  replace e6 := Lib.hid e6
  replace e8 := Lib.hid e8
  generalize byR h f t xs = Ya at *
  generalize byR ⟨h.dst, h.src, h.bare⟩ f t xs = Yb at *
  generalize byR ⟨h.src, h.dst, true⟩ f t xs = Yx at *
  have n1 : ¬ (1472 : Int) < (n : Int) := by omega
  have m8 : ¬ (m : Int) < 8 := by omega
  have m6 : (6 : Int) ≤ (m : Int) := by omega
  have m8' : (8 : Int) ≤ (m : Int) := by omega
  have k6 : ¬ m = 6 := by omega
  have mb : m ≤ 1480 := by omega
  have mb8 : 8 ≤ m := by omega
  have k := (Kn.start hg).alloc (.cells (pkC h A n c) 28)
  have r0 := hr.below (alloc_below w (.cells (pkC h A n c) 28)) (Nat.le_refl _)
  have d := PkAt.new w 28 h A n c
  clear hr hxl hwf hl k7 k9 hko hkx eac exy hf ht hk hm
  go_enter Tryd.func6, Tryd.ntmps6
  go_wp2_with fail
  refine (alive_any _ k.laid).mono ?_
  rintro ev w1 ⟨rfl, hb⟩
  replace r0 := r0.below hb k.below.size
  replace k := k.step hb
  replace d := d.step hb
  clear hb
  obtain ⟨a0, a1, a2, a3⟩ := d.cells
  have ba := alloc_below w1 (.cells (pkC ⟨h.dst, h.src, h.bare⟩ A n c) 28)
  have o := PkAt.new w1 28 ⟨h.dst, h.src, h.bare⟩ A n c
  replace r0 := r0.below ba k.below.size
  replace k := k.step ba
  replace d := d.step ba
  obtain ⟨b0, b1, b2, b3⟩ := d.cells
  go_wp2_with fail
  refine (ca.out _ (r0.more k.below.size)).mono ?_
  rintro ev w2 ⟨ga, rfl, ra, -, hb⟩
  replace r0 := r0.below hb k.below.size
  replace k := k.step hb
  replace d := d.step hb
  replace o := o.step hb
  clear a0 a1 a2 a3 b0 b1 b2 b3 hb ba
  generalize w1.heap.size = go at o ⊢
  obtain ⟨a0, a1, a2, a3⟩ := o.cells
  go_wp2_with fail
  refine (cb.out _ (r0.more k.below.size)).mono ?_
  rintro ev w3 ⟨gb, rfl, rb, -, hb⟩
  replace r0 := r0.below hb k.below.size
  replace k := k.step hb
  replace d := d.step hb
  replace o := o.step hb
  replace ra := ra.below hb ra.lt
  clear a0 a1 a2 a3 hb
  obtain ⟨a0, a1, a2, a3⟩ := d.cells
  go_wp2_with fail
  refine (cc.out _ (r0.more k.below.size)).mono ?_
  rintro ev w4 ⟨gc, rfl, rc, -, hb⟩
  replace r0 := r0.below hb k.below.size
  replace k := k.step hb
  replace d := d.step hb
  replace o := o.step hb
  replace ra := ra.below hb ra.lt
  replace rb := rb.below hb rb.lt
  clear a0 a1 a2 a3 hb
  obtain ⟨a0, a1, a2, a3⟩ := d.cells
  go_wp2_with fail
  refine (cx.out _ (r0.more k.below.size)).mono ?_
  rintro ev w5 ⟨gx, rfl, rx, -, hb⟩
  replace r0 := r0.below hb k.below.size
  replace k := k.step hb
  replace d := d.step hb
  replace o := o.step hb
  replace ra := ra.below hb ra.lt
  replace rb := rb.below hb rb.lt
  replace rc := rc.below hb rc.lt
  clear a0 a1 a2 a3 hb
  obtain ⟨a0, a1, a2, a3⟩ := d.cells
  go_wp2_with fail
  refine (cy.out _ (r0.more k.below.size)).mono ?_
  rintro ev w6 ⟨gy, rfl, ry, -, hb⟩
  have q : KS w h ⟨h.dst, h.src, h.bare⟩ A n c xs go ga gb gc gx gy Ya Yb Yx w6 := ⟨k.step hb, d.step hb, o.step hb, r0.below hb k.below.size, ra.below hb ra.lt, rb.below hb rb.lt, rc.below hb rc.lt, rx.below hb rx.lt, ry⟩
  clear hb a0 a1 a2 a3 r0 k d o ra rb rc rx ry ca cb cc cx cy
  go_wp2_with fail
  refine wp_region_held_drew (S := fun w' => KS w h ⟨h.dst, h.src, h.bare⟩ A n c xs go ga gb gc gx gy Ya Yb Yx w') (by kernel_rfl) (q.step (below_drew _)) (fun hHeld => ?_)
  replace q := q.step (below_drew _)
  change wpAnyH _ _ _ _ _ _ _ _ (World.drew _)
  generalize World.drew _ = W7 at *
  refine wpAnyH_at (i := 0) (some 111) (v := ?v0z1) rfl rfl (by kernel_rfl) (by kernel_rfl) (by kernel_rfl) (fun _ _ _ h => h) (Or.inl ⟨by rfl, ?y0z1⟩) (by assumption) ?r0z1
  case y0z1 =>
    intro w9 hSw
    clear hSw
    go_simp
    all_goals with_reducible rfl
  simp only [Act.put, List.setIfInBounds_toArray, List.set_cons_zero, List.set_cons_succ]
  refine wpAnyH_at (i := 1) (some 112) (v := ?v1z2) rfl rfl (by kernel_rfl) (by kernel_rfl) (by kernel_rfl) (fun _ _ _ h => h) (Or.inl ⟨by rfl, ?y1z2⟩) (by assumption) ?r1z2
  case y1z2 =>
    intro w9 hSw
    clear hSw
    go_simp
    all_goals with_reducible rfl
  simp only [Act.put, List.setIfInBounds_toArray, List.set_cons_zero, List.set_cons_succ]
  refine wpAnyH_at (i := 2) (some 113) (v := ?v2z3) rfl rfl (by kernel_rfl) (by kernel_rfl) (by kernel_rfl) (fun _ _ _ h => h) (Or.inl ⟨by rfl, ?y2z3⟩) (by assumption) ?r2z3
  case y2z3 =>
    intro w9 hSw
    clear hSw
    go_simp
    all_goals with_reducible rfl
  simp only [Act.put, List.setIfInBounds_toArray, List.set_cons_zero, List.set_cons_succ]
  refine wpAnyH_at (i := 3) (some 114) (v := ?v3z4) rfl rfl (by kernel_rfl) (by kernel_rfl) (by kernel_rfl) (fun _ _ _ h => h) (Or.inl ⟨by rfl, ?y3z4⟩) (by assumption) ?r3z4
  case y3z4 =>
    intro w9 hSw
    clear hSw
    go_simp
    all_goals with_reducible rfl
  simp only [Act.put, List.setIfInBounds_toArray, List.set_cons_zero, List.set_cons_succ]
  refine wpAnyH_one (i := 4) (by kernel_rfl) rfl ?_
  have c4 := same_gen _ _ _ _ _ _ (Ya.drop 6) (Yb.drop 6) _ _ W7 ((q.a.rdW (n := m) La.out (by omega) Wa.out).cutS 6 (by omega) k6) ((q.b.rdW (n := m) Lb.out (by omega) Wb.out).cutS 6 (by omega) k6)
  rw [eab.out, bEq_self] at c4
  go_wp2_with (go_at_call 14; refine (c4).mono ?_; rintro ev V1 ⟨rfl, hb⟩)
  replace q := q.step hb
  clear hb hHeld
  have hHeld := q
  refine ⟨hHeld, ?_⟩
  try simp only [Act.put, List.setIfInBounds_toArray, List.set_cons_zero, List.set_cons_succ]
  refine wpAnyH_at (i := 5) (some 116) (v := ?v5z5) rfl rfl (by kernel_rfl) (by kernel_rfl) (by kernel_rfl) (fun _ _ _ h => h) (Or.inl ⟨by rfl, ?y5z5⟩) (by assumption) ?r5z5
  case y5z5 =>
    intro w9 hSw
    clear hSw
    go_simp
    all_goals with_reducible rfl
  simp only [Act.put, List.setIfInBounds_toArray, List.set_cons_zero, List.set_cons_succ]
  refine wpAnyH_at (i := 6) (some 117) (v := ?v6z6) rfl rfl (by kernel_rfl) (by kernel_rfl) (by kernel_rfl) (fun _ _ _ h => h) (Or.inl ⟨by rfl, ?y6z6⟩) (by assumption) ?r6z6
  case y6z6 =>
    intro w9 hSw
    clear hSw
    go_simp
    all_goals with_reducible rfl
  simp only [Act.put, List.setIfInBounds_toArray, List.set_cons_zero, List.set_cons_succ]
  refine wpAnyH_at (i := 7) (some 118) (v := ?v7z7) rfl rfl (by kernel_rfl) (by kernel_rfl) (by kernel_rfl) (fun _ _ _ h => h) (Or.inl ⟨by rfl, ?y7z7⟩) (by assumption) ?r7z7
  case y7z7 =>
    intro w9 hSw
    clear hSw
    go_simp
    all_goals with_reducible rfl
  simp only [Act.put, List.setIfInBounds_toArray, List.set_cons_zero, List.set_cons_succ]
  refine wpAnyH_one (i := 8) (by kernel_rfl) rfl ?_
  go_wp2_with (go_at_call 14; refine (same_any _ _ _ _ _ _ Ya _ _ _ (q.a.rdW (n := m) La.out (by omega) Wa.out) (q.c.rdW (n := m) La.out (by omega) Wa.out)).mono ?_; rintro ev V2 ⟨rfl, hb⟩)
  replace q := q.step hb
  clear hb hHeld
  have hHeld := q
  refine ⟨hHeld, ?_⟩
  try simp only [Act.put, List.setIfInBounds_toArray, List.set_cons_zero, List.set_cons_succ]
  refine wpAnyH_at (i := 9) (some 120) (v := ?v9z8) rfl rfl (by kernel_rfl) (by kernel_rfl) (by kernel_rfl) (fun _ _ _ h => h) (Or.inl ⟨by rfl, ?y9z8⟩) (by assumption) ?r9z8
  case y9z8 =>
    intro w9 hSw
    clear hSw
    go_simp
    all_goals with_reducible rfl
  simp only [Act.put, List.setIfInBounds_toArray, List.set_cons_zero, List.set_cons_succ]
  refine wpAnyH_at (i := 10) (some 121) (v := ?v10z9) rfl rfl (by kernel_rfl) (by kernel_rfl) (by kernel_rfl) (fun _ _ _ h => h) (Or.inl ⟨by rfl, ?y10z9⟩) (by assumption) ?r10z9
  case y10z9 =>
    intro w9 hSw
    clear hSw
    go_simp
    all_goals with_reducible rfl
  simp only [Act.put, List.setIfInBounds_toArray, List.set_cons_zero, List.set_cons_succ]
  refine wpAnyH_at (i := 11) (some 122) (v := ?v11z10) rfl rfl (by kernel_rfl) (by kernel_rfl) (by kernel_rfl) (fun _ _ _ h => h) (Or.inl ⟨by rfl, ?y11z10⟩) (by assumption) ?r11z10
  case y11z10 =>
    intro w9 hSw
    clear hSw
    go_simp
    all_goals with_reducible rfl
  simp only [Act.put, List.setIfInBounds_toArray, List.set_cons_zero, List.set_cons_succ]
  refine wpAnyH_at (i := 12) (some 123) (v := ?v12z11) rfl rfl (by kernel_rfl) (by kernel_rfl) (by kernel_rfl) (fun _ _ _ h => h) (Or.inl ⟨by rfl, ?y12z11⟩) (by assumption) ?r12z11
  case y12z11 =>
    intro w9 hSw
    clear hSw
    go_simp
    all_goals with_reducible rfl
  simp only [Act.put, List.setIfInBounds_toArray, List.set_cons_zero, List.set_cons_succ]
  refine wpAnyH_one (i := 13) (by kernel_rfl) rfl ?_
  go_wp2_with (go_at_call 14; refine (same_any _ _ _ _ _ _ Yx _ _ _ (q.x.rdW (n := m) Lx.out (by omega) Wx.out) (q.y.rdW (n := m) Lx.out (by omega) Wx.out)).mono ?_; rintro ev V3 ⟨rfl, hb⟩)
  replace q := q.step hb
  clear hb hHeld
  have hHeld := q
  refine ⟨hHeld, ?_⟩
  try simp only [Act.put, List.setIfInBounds_toArray, List.set_cons_zero, List.set_cons_succ]
  refine wpAnyH_at (i := 14) (some 125) (v := ?v14z12) rfl rfl (by kernel_rfl) (by kernel_rfl) (by kernel_rfl) (fun _ _ _ h => h) (Or.inl ⟨by rfl, ?y14z12⟩) (by assumption) ?r14z12
  case y14z12 =>
    intro w9 hSw
    clear hSw
    go_simp
    all_goals with_reducible rfl
  simp only [Act.put, List.setIfInBounds_toArray, List.set_cons_zero, List.set_cons_succ]
  refine wpAnyH_at (i := 15) (some 126) (v := ?v15z13) rfl rfl (by kernel_rfl) (by kernel_rfl) (by kernel_rfl) (fun _ _ _ h => h) (Or.inl ⟨by rfl, ?y15z13⟩) (by assumption) ?r15z13
  case y15z13 =>
    intro w9 hSw
    clear hSw
    go_simp
    all_goals with_reducible rfl
  simp only [Act.put, List.setIfInBounds_toArray, List.set_cons_zero, List.set_cons_succ]
  refine wpAnyH_at (i := 16) (some 127) (v := ?v16z14) rfl rfl (by kernel_rfl) (by kernel_rfl) (by kernel_rfl) (fun _ _ _ h => h) (Or.inl ⟨by rfl, ?y16z14⟩) (by assumption) ?r16z14
  case y16z14 =>
    intro w9 hSw
    clear hSw
    go_simp
    all_goals with_reducible rfl
  simp only [Act.put, List.setIfInBounds_toArray, List.set_cons_zero, List.set_cons_succ]
  refine wpAnyH_at (i := 17) (some 128) (v := ?v17z15) rfl rfl (by kernel_rfl) (by kernel_rfl) (by kernel_rfl) (fun _ _ _ h => h) (Or.inl ⟨by rfl, ?y17z15⟩) (by assumption) ?r17z15
  case y17z15 =>
    intro w9 hSw
    clear hSw
    go_simp
    all_goals with_reducible rfl
  simp only [Act.put, List.setIfInBounds_toArray, List.set_cons_zero, List.set_cons_succ]
  refine wpAnyH_at (i := 18) (some 129) (v := ?v18z16) rfl rfl (by kernel_rfl) (by kernel_rfl) (by kernel_rfl) (fun _ _ _ h => h) (Or.inl ⟨by rfl, ?y18z16⟩) (by assumption) ?r18z16
  case y18z16 =>
    intro w9 hSw
    clear hSw
    go_simp
    all_goals with_reducible rfl
  simp only [Act.put, List.setIfInBounds_toArray, List.set_cons_zero, List.set_cons_succ]
  refine wpAnyH_at (i := 19) (some 130) (v := ?v19z17) rfl rfl (by kernel_rfl) (by kernel_rfl) (by kernel_rfl) (fun _ _ _ h => h) (Or.inl ⟨by rfl, ?y19z17⟩) (by assumption) ?r19z17
  case y19z17 =>
    intro w9 hSw
    clear hSw
    go_simp
    all_goals with_reducible rfl
  simp only [Act.put, List.setIfInBounds_toArray, List.set_cons_zero, List.set_cons_succ]
  refine wpAnyH_one (i := 20) (by kernel_rfl) rfl ?_
  have c20 := same_gen _ _ _ _ _ _ (Ya.take 6) (Yx.take 6) _ _ V3 ((q.a.rdW (n := m) La.out (by omega) Wa.out).cutTo 6 (by omega)) ((q.x.rdW (n := m) Lx.out (by omega) Wx.out).cutTo 6 (by omega))
  rw [e6.out, bEq_self] at c20
  go_wp2_with (go_at_call 14; refine (c20).mono ?_; rintro ev V4 ⟨rfl, hb⟩)
  replace q := q.step hb
  clear hb hHeld
  have hHeld := q
  refine ⟨hHeld, ?_⟩
  try simp only [Act.put, List.setIfInBounds_toArray, List.set_cons_zero, List.set_cons_succ]
  refine wpAnyH_at (i := 21) (some 132) (v := ?v21z18) rfl rfl (by kernel_rfl) (by kernel_rfl) (by kernel_rfl) (fun _ _ _ h => h) (Or.inl ⟨by rfl, ?y21z18⟩) (by assumption) ?r21z18
  case y21z18 =>
    intro w9 hSw
    clear hSw
    go_simp
    all_goals with_reducible rfl
  simp only [Act.put, List.setIfInBounds_toArray, List.set_cons_zero, List.set_cons_succ]
  refine wpAnyH_at (i := 22) (some 133) (v := ?v22z19) rfl rfl (by kernel_rfl) (by kernel_rfl) (by kernel_rfl) (fun _ _ _ h => h) (Or.inl ⟨by rfl, ?y22z19⟩) (by assumption) ?r22z19
  case y22z19 =>
    intro w9 hSw
    clear hSw
    go_simp
    all_goals with_reducible rfl
  simp only [Act.put, List.setIfInBounds_toArray, List.set_cons_zero, List.set_cons_succ]
  refine wpAnyH_at (i := 23) (some 134) (v := ?v23z20) rfl rfl (by kernel_rfl) (by kernel_rfl) (by kernel_rfl) (fun _ _ _ h => h) (Or.inl ⟨by rfl, ?y23z20⟩) (by assumption) ?r23z20
  case y23z20 =>
    intro w9 hSw
    clear hSw
    go_simp
    all_goals with_reducible rfl
  simp only [Act.put, List.setIfInBounds_toArray, List.set_cons_zero, List.set_cons_succ]
  refine wpAnyH_at (i := 24) (some 135) (v := .slice (cutA (some ⟨ga, 0, none⟩) m 8) (m - 8) (m - 8)) rfl rfl (by kernel_rfl) (by kernel_rfl) (by kernel_rfl) (fun _ _ _ h => h) (Or.inl ⟨by rfl, ?y24z21⟩) (by assumption) ?r24z21
  case y24z21 =>
    intro w9 hSw
    clear hSw
    by_cases hq : m = 8
    · rw [cutA_eq (A := (some ⟨ga, 0, none⟩)) hq]
      subst hq
      go_simp
    · rw [cutA_ne (A := (some ⟨ga, 0, none⟩)) hq]
      go_simp
  simp only [Act.put, List.setIfInBounds_toArray, List.set_cons_zero, List.set_cons_succ]
  refine wpAnyH_at (i := 25) (some 136) (v := ?v25z22) rfl rfl (by kernel_rfl) (by kernel_rfl) (by kernel_rfl) (fun _ _ _ h => h) (Or.inl ⟨by rfl, ?y25z22⟩) (by assumption) ?r25z22
  case y25z22 =>
    intro w9 hSw
    clear hSw
    go_simp
    all_goals with_reducible rfl
  simp only [Act.put, List.setIfInBounds_toArray, List.set_cons_zero, List.set_cons_succ]
  refine wpAnyH_at (i := 26) (some 137) (v := .slice (cutA (some ⟨gx, 0, none⟩) m 8) (m - 8) (m - 8)) rfl rfl (by kernel_rfl) (by kernel_rfl) (by kernel_rfl) (fun _ _ _ h => h) (Or.inl ⟨by rfl, ?y26z23⟩) (by assumption) ?r26z23
  case y26z23 =>
    intro w9 hSw
    clear hSw
    by_cases hq : m = 8
    · rw [cutA_eq (A := (some ⟨gx, 0, none⟩)) hq]
      subst hq
      go_simp
    · rw [cutA_ne (A := (some ⟨gx, 0, none⟩)) hq]
      go_simp
  simp only [Act.put, List.setIfInBounds_toArray, List.set_cons_zero, List.set_cons_succ]
  refine wpAnyH_one (i := 27) (by kernel_rfl) rfl ?_
  have c27 := same_gen _ _ _ _ _ _ (Ya.drop 8) (Yx.drop 8) _ _ V4 ((q.a.rdW (n := m) La.out (by omega) Wa.out).cutFrom 8 (by omega)) ((q.x.rdW (n := m) Lx.out (by omega) Wx.out).cutFrom 8 (by omega))
  rw [e8.out, bEq_self] at c27
  go_wp2_with (go_at_call 14; refine (c27).mono ?_; rintro ev V5 ⟨rfl, hb⟩)
  replace q := q.step hb
  clear hb hHeld
  have hHeld := q
  refine ⟨hHeld, ?_⟩
  try simp only [Act.put, List.setIfInBounds_toArray, List.set_cons_zero, List.set_cons_succ]
  refine wpAnyH_at (i := 28) (some 139) (v := ?v28z24) rfl rfl (by kernel_rfl) (by kernel_rfl) (by kernel_rfl) (fun _ _ _ h => h) (Or.inl ⟨by rfl, ?y28z24⟩) (by assumption) ?r28z24
  case y28z24 =>
    intro w9 hSw
    clear hSw
    go_simp
    all_goals with_reducible rfl
  simp only [Act.put, List.setIfInBounds_toArray, List.set_cons_zero, List.set_cons_succ]
  refine wpAnyH_at (i := 29) (some 6) (v := ?v29z25) rfl rfl (by kernel_rfl) (by kernel_rfl) (by kernel_rfl) (fun _ _ _ h => h) (Or.inl ⟨by rfl, ?y29z25⟩) (by assumption) ?r29z25
  case y29z25 =>
    intro w9 hSw
    clear hSw
    go_simp
    all_goals with_reducible rfl
  simp only [Act.put, List.setIfInBounds_toArray, List.set_cons_zero, List.set_cons_succ]
  refine wpAnyH_done (by kernel_rfl) ?_ _
  clear hHeld
  go_wp2
  go_ret
  exact ⟨rfl, q.kn.below⟩
theorem swaps_law (h : Hd) (A : Option Addr) (n c : Nat) (xs : List Int) (f t : Int) (w : World) (hg : Laid w) (hk : h.ok) (hr : Rd .u8 w w.heap.size A n c xs) (hf : Ip f) (ht : Ip t) : Calls Tryd.prog 6 #[pkV h A n c, .int .u32 f, .int .u32 t] w fun e w' => e = .returned (.bool true) ∧ Below w.heap.size w w' := by
  by_cases hn : 1472 < n
  · exact swaps_far h A n c xs f t w hg hk hr hf ht hn
  · exact swaps_near h A n c xs f t w hg hk hr hf ht (by omega) _ rfl
end Go.Proofs.YtmgdfckhnjihpaaDoor
