/-
  The law InetWrites: every Head, Bytes and Same answers what the document says; what is written is parsed as it was, whatever stands behind it.
-/
import Derived.Test.YthgdgjpckgfmbaaDoorLSpoilt
import Derived.Test.YthgdgjpckgfmbaaDoorRBytes
namespace Go.Proofs.YthgdgjpckgfmbaaDoor
open Go.RowKit

/-- What is written, with anything behind it. -/
theorem zz {h : Hd} {n : Nat} {xs : List Int} (zs : List Int) (b : Bool) (hk : h.ok) (hn : n ≤ 65515) (hx : xs.length = n) : (pE b ((hdR h n ++ xs) ++ zs)).2 = 0 ∧ hdOf ((hdR h n ++ xs) ++ zs) = h ∧ bodyOf ((hdR h n ++ xs) ++ zs) = xs := by
  rw [List.append_assoc]
  have hr := hdR_right (n := n) hk hn
  have hT : ((hdR h n) ++ (xs ++ zs)).take 20 = hdR h n := List.take_left' (hdR_len h n)
  have hlen : (hdR h n ++ (xs ++ zs)).length = 20 + n + zs.length := by rw [List.length_append, List.length_append, hx, hdR_len]; omega
  unfold hdR at *
  have e : bE b (hdP h n (hdS h n / 256) (hdS h n % 256) ++ (xs ++ zs)) = (0, 0) := by
    unfold bE
    rw [if_neg (by rw [hlen]; omega), if_neg (by rw [z_first]; decide), if_neg (by rw [z_hdL]; omega), if_neg (by
      rw [hlen, z_told, z_hdL]
      rintro (q | q)
      · omega
      · omega), if_neg (by rw [z_told, z_hdL]; omega)]
  refine ⟨?_, z_hd _ _ _ _ _, ?_⟩
  · rw [pE_read (by rw [e]) (fun _ => by rw [z_hdL, hT]; exact hr), z_hdL, z_rE]
  · unfold bodyOf
    rw [z_told, List.drop_take, List.drop_append]
    show (xs ++ zs).take (20 + n - 20) = xs
    rw [show 20 + n - 20 = n by omega, ← hx, List.take_left]
/-- What the walk knows: the arguments. -/
structure KW (w : World) (h : Hd) (A : Option Addr) (n c : Nat) (xs : List Int) (h2 : Hd) (A2 : Option Addr) (n2 c2 : Nat) (ys : List Int) (Ab : Option Addr) (nb cb : Nat) (zs : List Int) (W : World) : Prop where
  kn : Kn w W
  p : PkAt W w.heap.size 28 h A n c
  o : PkAt W (w.heap.size + 1) 28 h2 A2 n2 c2
  rp : Rd .u8 W w.heap.size A n c xs
  ro : Rd .u8 W w.heap.size A2 n2 c2 ys
  rb : Rd .u8 W w.heap.size Ab nb cb zs
/-- And behind the bytes: theirs, the document's, and its fault. -/
structure KF (w : World) (h : Hd) (A : Option Addr) (n c : Nat) (xs : List Int) (h2 : Hd) (A2 : Option Addr) (n2 c2 : Nat) (ys : List Int) (Ab : Option Addr) (nb cb : Nat) (zs : List Int) (gf : Nat) (Af : Option Addr) (nf cf : Nat) (ef : Int) (rs : List Int) (B : Option Addr) (m mc : Nat) (D : Option Addr) (nd cd : Nat) (bs : List Int) (W : World) : Prop where
  k : KW w h A n c xs h2 A2 n2 c2 ys Ab nb cb zs W
  f : W.heap[gf]? = some (.cells (flC Af nf cf ef) 37 (0, 0))
  r : Rd .i64 W W.heap.size Af nf cf rs
  b : Rd .u8 W W.heap.size B m mc bs
  d : Rd .u8 W W.heap.size D nd cd bs
section
variable {w W V : World} {h : Hd} {A : Option Addr} {n c : Nat} {xs : List Int} {h2 : Hd} {A2 : Option Addr} {n2 c2 : Nat} {ys : List Int} {Ab : Option Addr} {nb cb : Nat} {zs : List Int} {gf : Nat} {Af : Option Addr} {nf cf : Nat} {ef : Int} {rs : List Int} {B : Option Addr} {m mc : Nat} {D : Option Addr} {nd cd : Nat} {bs : List Int}
theorem KW.step (q : KW w h A n c xs h2 A2 n2 c2 ys Ab nb cb zs W) (hb : Below W.heap.size W V) : KW w h A n c xs h2 A2 n2 c2 ys Ab nb cb zs V := ⟨q.kn.step hb, q.p.step hb, q.o.step hb, q.rp.below hb q.kn.below.size, q.ro.below hb q.kn.below.size, q.rb.below hb q.kn.below.size⟩
theorem KW.rp' (q : KW w h A n c xs h2 A2 n2 c2 ys Ab nb cb zs W) : Rd .u8 W W.heap.size A n c xs := q.rp.more q.kn.below.size
theorem KW.ro' (q : KW w h A n c xs h2 A2 n2 c2 ys Ab nb cb zs W) : Rd .u8 W W.heap.size A2 n2 c2 ys := q.ro.more q.kn.below.size
theorem KF.step (q : KF w h A n c xs h2 A2 n2 c2 ys Ab nb cb zs gf Af nf cf ef rs B m mc D nd cd bs W) (hb : Below W.heap.size W V) : KF w h A n c xs h2 A2 n2 c2 ys Ab nb cb zs gf Af nf cf ef rs B m mc D nd cd bs V :=
  ⟨q.k.step hb, (hb.block _ (blk_lt q.f)).trans q.f, (q.r.below hb (Nat.le_refl _)).more hb.size, (q.b.below hb (Nat.le_refl _)).more hb.size, (q.d.below hb (Nat.le_refl _)).more hb.size⟩
theorem KF.fault (q : KF w h A n c xs h2 A2 n2 c2 ys Ab nb cb zs gf Af nf cf ef rs B m mc D nd cd bs W) : W.cell? ⟨gf, 0, none⟩ = some (.slice Af nf cf) ∧ W.cell? ⟨gf, 1, none⟩ = some (.int .i64 ef) := ⟨blk_cell q.f rfl, blk_cell q.f rfl⟩
end
theorem KW.start (h : Hd) (A : Option Addr) (n c : Nat) (xs : List Int) (h2 : Hd) (A2 : Option Addr) (n2 c2 : Nat) (ys : List Int) (Ab : Option Addr) (nb cb : Nat) (zs : List Int) (w : World) (hg : Laid w) (hr : Rd .u8 w w.heap.size A n c xs) (hr2 : Rd .u8 w w.heap.size A2 n2 c2 ys) (hrb : Rd .u8 w w.heap.size Ab nb cb zs) : KW w h A n c xs h2 A2 n2 c2 ys Ab nb cb zs ((w.alloc (.cells (pkC h A n c) 28)).alloc (.cells (pkC h2 A2 n2 c2) 28)) := by
  have b1 := alloc_below w (.cells (pkC h A n c) 28)
  have s1 : (w.alloc (.cells (pkC h A n c) 28)).heap.size = w.heap.size + 1 := by simp
  have p1 := PkAt.new w 28 h A n c
  have k1 := (Kn.start hg).alloc (.cells (pkC h A n c) 28)
  generalize w.alloc (.cells (pkC h A n c) 28) = W1 at *
  have b2 := alloc_below W1 (.cells (pkC h2 A2 n2 c2) 28)
  have p2 := PkAt.new W1 28 h2 A2 n2 c2
  rw [s1] at p2
  exact ⟨k1.alloc _, p1.step b2, p2, (hr.below b1 (Nat.le_refl _)).below b2 (by omega), (hr2.below b1 (Nat.le_refl _)).below b2 (by omega), (hrb.below b1 (Nat.le_refl _)).below b2 (by omega)⟩

set_option maxRecDepth 100000 in
set_option maxHeartbeats 4000000 in
theorem writes_far (h : Hd) (A : Option Addr) (n c : Nat) (xs : List Int) (h2 : Hd) (A2 : Option Addr) (n2 c2 : Nat) (ys : List Int) (Ab : Option Addr) (nb cb : Nat) (zs : List Int) (w : World) (hg : Laid w) (hr : Rd .u8 w w.heap.size A n c xs) (hr2 : Rd .u8 w w.heap.size A2 n2 c2 ys) (hrb : Rd .u8 w w.heap.size Ab nb cb zs) (hn : 3000 < n ∨ 3000 < n2 ∨ 300 < nb) : Calls Tryd.prog 4 #[pkV h A n c, pkV h2 A2 n2 c2, .slice Ab nb cb] w fun e w' => e = .returned (.bool true) ∧ Below w.heap.size w w' := by
  have k := KW.start h A n c xs h2 A2 n2 c2 ys Ab nb cb zs w hg hr hr2 hrb
  have m1 := Nat.le_trans hr.cap hr.max
  have m2 := Nat.le_trans hr2.cap hr2.max
  have m3 := Nat.le_trans hrb.cap hrb.max
  clear hg hr hr2 hrb
  go_enter Tryd.func4, Tryd.ntmps4
  go_wp2_with fail
  refine (alive_any _ k.kn.laid).mono ?_
  rintro ev w1 ⟨rfl, hb⟩
  replace k := k.step hb
  clear hb
  obtain ⟨x0, x1, x2, x3, x4, x5, x6, x7⟩ := k.p.cells
  obtain ⟨y0, y1, y2, y3, y4, y5, y6, y7⟩ := k.o.cells
  by_cases h1 : (3000 : Int) < (n : Int)
  · go_wp2
    go_ret
    exact ⟨rfl, k.kn.below⟩
  by_cases h2 : (3000 : Int) < (n2 : Int)
  · go_wp2
    go_ret
    exact ⟨rfl, k.kn.below⟩
  have h3 : (300 : Int) < (nb : Int) := by omega
  go_wp2
  go_ret
  exact ⟨rfl, k.kn.below⟩

set_option maxRecDepth 100000 in
set_option maxHeartbeats 4000000 in
theorem writes_big (h : Hd) (A : Option Addr) (n c : Nat) (xs : List Int) (h2 : Hd) (A2 : Option Addr) (n2 c2 : Nat) (ys : List Int) (Ab : Option Addr) (nb cb : Nat) (zs : List Int) (w : World) (hg : Laid w) (hk : h.ok) (hr : Rd .u8 w w.heap.size A n c xs) (hr2 : Rd .u8 w w.heap.size A2 n2 c2 ys) (hrb : Rd .u8 w w.heap.size Ab nb cb zs) (hn : n ≤ 3000) (hn2 : n2 ≤ 3000) (hnb : nb ≤ 300) (hbig : 1480 < n) : Calls Tryd.prog 4 #[pkV h A n c, pkV h2 A2 n2 c2, .slice Ab nb cb] w fun e w' => e = .returned (.bool true) ∧ Below w.heap.size w w' := by
  have k0 := KW.start h A n c xs h2 A2 n2 c2 ys Ab nb cb zs w hg hr hr2 hrb
  have HX := Lib.hid hr.len
  have HW := Lib.hid hr.2.2.2.1
  have c21 := Lib.hid (fun W => head_any h A n c W hk (by omega))
  have c22 := Lib.hid (fun A c W => refHead_any h A n c W hk (by omega))
  have HY : Hid ((hdR h n).length = 20) := Lib.hid rfl
  have WY := Lib.hid (hdR_wf (n := n) hk (by omega))
  generalize hdR h n = Y at *
  have q1 : ¬ (3000 : Int) < (n : Int) := by omega
  have q2 : ¬ (3000 : Int) < (n2 : Int) := by omega
  have q3 : ¬ (300 : Int) < (nb : Int) := by omega
  have q4 := Nat.le_trans hr.cap hr.max
  clear hr hr2 hrb hk
  go_enter Tryd.func4, Tryd.ntmps4
  go_wp2_with fail
  refine (alive_any _ k0.kn.laid).mono ?_
  rintro ev w1 ⟨rfl, hb⟩
  replace k0 := k0.step hb
  clear hb
  obtain ⟨x0, x1, x2, x3, x4, x5, x6, x7⟩ := k0.p.cells
  obtain ⟨y0, y1, y2, y3, y4, y5, y6, y7⟩ := k0.o.cells
  go_wp2_with fail
  refine (bytes_far h A n c _ hbig q4).mono ?_
  rintro ev w2 ⟨rfl, hb⟩
  replace k0 := k0.step hb
  clear x0 x1 x2 x3 x4 x5 x6 x7
  clear y0 y1 y2 y3 y4 y5 y6 y7
  clear hb
  obtain ⟨x0, x1, x2, x3, x4, x5, x6, x7⟩ := k0.p.cells
  go_wp2_with fail
  refine (of_pk h A n c xs _ k0.rp' (by omega)).mono ?_
  rintro ev w3 ⟨A3, n3, c3, rfl, o3, hb⟩
  obtain rfl : n = n3 := HX.out.symm.trans o3.len
  replace k0 := k0.step hb

  clear x0 x1 x2 x3 x4 x5 x6 x7
  clear hb
  go_wp2_with fail
  refine (refBytes_far h A3 n c3 xs _ o3.rd hbig).mono ?_
  rintro ev w4 ⟨Af, nf, cf, rfl, rf, hb⟩
  have ba := alloc_below w4 (.cells (flC Af nf cf 11) 37)
  have k : KF w h A n c xs h2 A2 n2 c2 ys Ab nb cb zs w4.heap.size Af nf cf 11 [1] none 0 0 none 0 0 [] (w4.alloc (.cells (flC Af nf cf 11) 37)) :=
    ⟨(k0.step hb).step ba, heap_alloc_new w4 _, (rf.below ba (Nat.le_refl _)).more ba.size, Rd.nil, Rd.nil⟩
  clear hb ba k0 o3 rf
  go_wp2_with fail
  generalize w4.heap.size = gf at *
  replace k := k.step (below_drew _)
  refine wp_region_held_drew (S := fun w' => KF w h A n c xs h2 A2 n2 c2 ys Ab nb cb zs gf Af nf cf 11 [1] none 0 0 none 0 0 [] w') (by kernel_rfl) k (fun hHeld => ?_)
  clear hHeld
  change wpAnyH _ _ _ _ _ _ _ _ (World.drew _)
  generalize World.drew _ = W4 at *
  have hHeld := k
  refine wpAnyH_at (i := 0) (some 43) (v := ?v0z1) rfl rfl (by kernel_rfl) (by kernel_rfl) (by kernel_rfl) (fun _ _ _ h => h) (Or.inl ⟨by rfl, ?y0z1⟩) (by assumption) ?r0z1
  case y0z1 =>
    intro w9 hSw
    clear hSw
    go_simp
    all_goals with_reducible rfl
  simp only [Act.put, List.setIfInBounds_toArray, List.set_cons_zero, List.set_cons_succ]
  refine wpAnyH_at (i := 1) (some 44) (v := ?v1z2) rfl rfl (by kernel_rfl) (by kernel_rfl) (by kernel_rfl) (fun _ _ _ h => h) (Or.inl ⟨by rfl, ?y1z2⟩) (by assumption) ?r1z2
  case y1z2 =>
    intro w9 hSw
    (obtain ⟨a0, a1⟩ := (show KF w h A n c xs h2 A2 n2 c2 ys Ab nb cb zs gf Af nf cf 11 [1] none 0 0 none 0 0 [] w9 from hSw).fault); clear hSw
    go_simp
    all_goals with_reducible rfl
  simp only [Act.put, List.setIfInBounds_toArray, List.set_cons_zero, List.set_cons_succ]
  refine wpAnyH_one (i := 2) (by kernel_rfl) rfl ?_
  go_wp2_with (go_at_call 15; refine (is_err Af nf cf 1 11 _ k.k.kn.laid k.r (by decide)).mono ?_; rintro ev V1 ⟨rfl, hb⟩)
  replace k := k.step hb
  clear hb hHeld
  have hHeld := k
  refine ⟨hHeld, ?_⟩
  try simp only [Act.put, List.setIfInBounds_toArray, List.set_cons_zero, List.set_cons_succ]
  refine wpAnyH_at (i := 3) (some 46) (v := ?v3z3) rfl rfl (by kernel_rfl) (by kernel_rfl) (by kernel_rfl) (fun _ _ _ h => h) (Or.inl ⟨by rfl, ?y3z3⟩) (by assumption) ?r3z3
  case y3z3 =>
    intro w9 hSw
    clear hSw
    go_simp
    all_goals with_reducible rfl
  simp only [Act.put, List.setIfInBounds_toArray, List.set_cons_zero, List.set_cons_succ]
  refine wpAnyH_at (i := 4) (some 47) (v := ?v4z4) rfl rfl (by kernel_rfl) (by kernel_rfl) (by kernel_rfl) (fun _ _ _ h => h) (Or.inl ⟨by rfl, ?y4z4⟩) (by assumption) ?r4z4
  case y4z4 =>
    intro w9 hSw
    clear hSw
    go_simp
    all_goals with_reducible rfl
  simp only [Act.put, List.setIfInBounds_toArray, List.set_cons_zero, List.set_cons_succ]
  refine wpAnyH_at (i := 5) (some 48) (v := ?v5z5) rfl rfl (by kernel_rfl) (by kernel_rfl) (by kernel_rfl) (fun _ _ _ h => h) (Or.inl ⟨by rfl, ?y5z5⟩) (by assumption) ?r5z5
  case y5z5 =>
    intro w9 hSw
    clear hSw
    go_simp
    all_goals with_reducible rfl
  simp only [Act.put, List.setIfInBounds_toArray, List.set_cons_zero, List.set_cons_succ]
  refine wpAnyH_at (i := 6) (some 49) (v := ?v6z6) rfl rfl (by kernel_rfl) (by kernel_rfl) (by kernel_rfl) (fun _ _ _ h => h) (Or.inl ⟨by rfl, ?y6z6⟩) (by assumption) ?r6z6
  case y6z6 =>
    intro w9 hSw
    clear hSw
    go_simp
    all_goals with_reducible rfl
  simp only [Act.put, List.setIfInBounds_toArray, List.set_cons_zero, List.set_cons_succ]
  refine wpAnyH_one (i := 7) (by kernel_rfl) rfl ?_
  go_wp2_with (go_at_call 18; refine (same_any _ _ _ _ _ _ _ _ _ _ k.b k.d).mono ?_; rintro ev V2 ⟨rfl, hb⟩)
  replace k := k.step hb
  clear hb hHeld
  have hHeld := k
  refine ⟨hHeld, ?_⟩
  try simp only [Act.put, List.setIfInBounds_toArray, List.set_cons_zero, List.set_cons_succ]
  refine wpAnyH_at (i := 8) (some 51) (v := ?v8z7) rfl rfl (by kernel_rfl) (by kernel_rfl) (by kernel_rfl) (fun _ _ _ h => h) (Or.inl ⟨by rfl, ?y8z7⟩) (by assumption) ?r8z7
  case y8z7 =>
    intro w9 hSw
    clear hSw
    go_simp
    all_goals with_reducible rfl
  simp only [Act.put, List.setIfInBounds_toArray, List.set_cons_zero, List.set_cons_succ]
  refine wpAnyH_at (i := 9) (some 52) (v := ?v9z8) rfl rfl (by kernel_rfl) (by kernel_rfl) (by kernel_rfl) (fun _ _ _ h => h) (Or.inl ⟨by rfl, ?y9z8⟩) (by assumption) ?r9z8
  case y9z8 =>
    intro w9 hSw
    clear hSw
    go_simp
    all_goals with_reducible rfl
  simp only [Act.put, List.setIfInBounds_toArray, List.set_cons_zero, List.set_cons_succ]
  refine wpAnyH_at (i := 10) (some 53) (v := ?v10z9) rfl rfl (by kernel_rfl) (by kernel_rfl) (by kernel_rfl) (fun _ _ _ h => h) (Or.inl ⟨by rfl, ?y10z9⟩) (by assumption) ?r10z9
  case y10z9 =>
    intro w9 hSw
    clear hSw
    go_simp
    all_goals with_reducible rfl
  simp only [Act.put, List.setIfInBounds_toArray, List.set_cons_zero, List.set_cons_succ]
  refine wpAnyH_at (i := 11) (some 54) (v := ?v11z10) rfl rfl (by kernel_rfl) (by kernel_rfl) (by kernel_rfl) (fun _ _ _ h => h) (Or.inl ⟨by rfl, ?y11z10⟩) (by assumption) ?r11z10
  case y11z10 =>
    intro w9 hSw
    (obtain ⟨a0, a1, a2, a3, a4, a5, a6, a7⟩ := (show KF w h A n c xs h2 A2 n2 c2 ys Ab nb cb zs gf Af nf cf 11 [1] none 0 0 none 0 0 [] w9 from hSw).k.p.cells); clear hSw
    go_simp
    all_goals with_reducible rfl
  simp only [Act.put, List.setIfInBounds_toArray, List.set_cons_zero, List.set_cons_succ]
  refine wpAnyH_at (i := 13) (some 56) (v := ?v13z11) rfl rfl (by kernel_rfl) (by kernel_rfl) (by kernel_rfl) (fun _ _ _ h => h) (Or.inl ⟨by rfl, ?y13z11⟩) (by assumption) ?r13z11
  case y13z11 =>
    intro w9 hSw
    (obtain ⟨a0, a1, a2, a3, a4, a5, a6, a7⟩ := (show KF w h A n c xs h2 A2 n2 c2 ys Ab nb cb zs gf Af nf cf 11 [1] none 0 0 none 0 0 [] w9 from hSw).k.p.cells); clear hSw
    go_simp
    all_goals with_reducible rfl
  simp only [Act.put, List.setIfInBounds_toArray, List.set_cons_zero, List.set_cons_succ]
  refine wpAnyH_one (i := 12) (by kernel_rfl) rfl ?_
  go_wp2_with (go_at_call 21; refine (c21.out _).mono ?_; rintro ev V3 ⟨g3, rfl, row3, -, hb⟩)
  replace k := k.step hb
  clear hb hHeld
  have hHeld := k
  refine ⟨hHeld, ?_⟩
  try simp only [Act.put, List.setIfInBounds_toArray, List.set_cons_zero, List.set_cons_succ]
  refine wpAnyH_one (i := 14) (by kernel_rfl) rfl ?_
  go_wp2_with (go_at_call 17; refine (of_pk h A n c xs _ k.k.rp' (by omega)).mono ?_; rintro ev V4 ⟨A4, n4, c4, rfl, o4, hb⟩)
  replace k := k.step hb
  replace row3 := row3.below hb row3.lt
  obtain rfl : n = n4 := HX.out.symm.trans o4.len
  clear hb hHeld
  have hHeld := k
  refine ⟨hHeld, ?_⟩
  try simp only [Act.put, List.setIfInBounds_toArray, List.set_cons_zero, List.set_cons_succ]
  refine wpAnyH_one (i := 15) (by kernel_rfl) rfl ?_
  go_wp2_with (go_at_call 22; refine (c22.out A4 c4 _).mono ?_; rintro ev V5 ⟨A5, n5, c5, rfl, o5, hb⟩)
  replace k := k.step hb
  replace row3 := row3.below hb row3.lt
  clear hb hHeld
  have hHeld := k
  refine ⟨hHeld, ?_⟩
  try simp only [Act.put, List.setIfInBounds_toArray, List.set_cons_zero, List.set_cons_succ]
  refine wpAnyH_one (i := 16) (by kernel_rfl) rfl ?_
  go_wp2_with (go_at_call 18; refine (same_any _ _ _ _ _ _ Y _ _ _ (row3.rdW HY.out (by omega) WY.out) o5.rd).mono ?_; rintro ev V6 ⟨rfl, hb⟩)
  replace k := k.step hb
  clear row3 o5 o4
  clear hb hHeld
  have hHeld := k
  refine ⟨hHeld, ?_⟩
  try simp only [Act.put, List.setIfInBounds_toArray, List.set_cons_zero, List.set_cons_succ]
  refine wpAnyH_at (i := 17) (some 60) (v := ?v17z12) rfl rfl (by kernel_rfl) (by kernel_rfl) (by kernel_rfl) (fun _ _ _ h => h) (Or.inl ⟨by rfl, ?y17z12⟩) (by assumption) ?r17z12
  case y17z12 =>
    intro w9 hSw
    clear hSw
    go_simp
    all_goals with_reducible rfl
  simp only [Act.put, List.setIfInBounds_toArray, List.set_cons_zero, List.set_cons_succ]
  refine wpAnyH_at (i := 18) (some 61) (v := ?v18z13) rfl rfl (by kernel_rfl) (by kernel_rfl) (by kernel_rfl) (fun _ _ _ h => h) (Or.inl ⟨by rfl, ?y18z13⟩) (by assumption) ?r18z13
  case y18z13 =>
    intro w9 hSw
    clear hSw
    go_simp
    all_goals with_reducible rfl
  simp only [Act.put, List.setIfInBounds_toArray, List.set_cons_zero, List.set_cons_succ]
  refine wpAnyH_at (i := 19) (some 62) (v := ?v19z14) rfl rfl (by kernel_rfl) (by kernel_rfl) (by kernel_rfl) (fun _ _ _ h => h) (Or.inl ⟨by rfl, ?y19z14⟩) (by assumption) ?r19z14
  case y19z14 =>
    intro w9 hSw
    clear hSw
    go_simp
    all_goals with_reducible rfl
  simp only [Act.put, List.setIfInBounds_toArray, List.set_cons_zero, List.set_cons_succ]
  refine wpAnyH_at (i := 20) (some 63) (v := ?v20z15) rfl rfl (by kernel_rfl) (by kernel_rfl) (by kernel_rfl) (fun _ _ _ h => h) (Or.inl ⟨by rfl, ?y20z15⟩) (by assumption) ?r20z15
  case y20z15 =>
    intro w9 hSw
    (obtain ⟨a0, a1, a2, a3, a4, a5, a6, a7⟩ := (show KF w h A n c xs h2 A2 n2 c2 ys Ab nb cb zs gf Af nf cf 11 [1] none 0 0 none 0 0 [] w9 from hSw).k.p.cells); clear hSw
    go_simp
    all_goals with_reducible rfl
  simp only [Act.put, List.setIfInBounds_toArray, List.set_cons_zero, List.set_cons_succ]
  refine wpAnyH_at (i := 21) (some 64) (v := ?v21z16) rfl rfl (by kernel_rfl) (by kernel_rfl) (by kernel_rfl) (fun _ _ _ h => h) (Or.inl ⟨by rfl, ?y21z16⟩) (by assumption) ?r21z16
  case y21z16 =>
    intro w9 hSw
    (obtain ⟨a0, a1, a2, a3, a4, a5, a6, a7⟩ := (show KF w h A n c xs h2 A2 n2 c2 ys Ab nb cb zs gf Af nf cf 11 [1] none 0 0 none 0 0 [] w9 from hSw).k.o.cells); clear hSw
    go_simp
    all_goals with_reducible rfl
  simp only [Act.put, List.setIfInBounds_toArray, List.set_cons_zero, List.set_cons_succ]
  refine wpAnyH_at (i := 23) (some 66) (v := ?v23z17) rfl rfl (by kernel_rfl) (by kernel_rfl) (by kernel_rfl) (fun _ _ _ h => h) (Or.inl ⟨by rfl, ?y23z17⟩) (by assumption) ?r23z17
  case y23z17 =>
    intro w9 hSw
    (obtain ⟨a0, a1, a2, a3, a4, a5, a6, a7⟩ := (show KF w h A n c xs h2 A2 n2 c2 ys Ab nb cb zs gf Af nf cf 11 [1] none 0 0 none 0 0 [] w9 from hSw).k.p.cells); clear hSw
    go_simp
    all_goals with_reducible rfl
  simp only [Act.put, List.setIfInBounds_toArray, List.set_cons_zero, List.set_cons_succ]
  refine wpAnyH_at (i := 25) (some 68) (v := ?v25z18) rfl rfl (by kernel_rfl) (by kernel_rfl) (by kernel_rfl) (fun _ _ _ h => h) (Or.inl ⟨by rfl, ?y25z18⟩) (by assumption) ?r25z18
  case y25z18 =>
    intro w9 hSw
    (obtain ⟨a0, a1, a2, a3, a4, a5, a6, a7⟩ := (show KF w h A n c xs h2 A2 n2 c2 ys Ab nb cb zs gf Af nf cf 11 [1] none 0 0 none 0 0 [] w9 from hSw).k.o.cells); clear hSw
    go_simp
    all_goals with_reducible rfl
  simp only [Act.put, List.setIfInBounds_toArray, List.set_cons_zero, List.set_cons_succ]
  refine wpAnyH_one (i := 22) (by kernel_rfl) rfl ?_
  go_wp2_with (go_at_call 23; refine (same_pk h h2 _ _ _ _ _ _ xs ys _ k.k.rp' k.k.ro').mono ?_; rintro ev V7 ⟨rfl, hb⟩)
  replace k := k.step hb
  clear hb hHeld
  have hHeld := k
  refine ⟨hHeld, ?_⟩
  try simp only [Act.put, List.setIfInBounds_toArray, List.set_cons_zero, List.set_cons_succ]
  refine wpAnyH_one (i := 24) (by kernel_rfl) rfl ?_
  go_wp2_with (go_at_call 17; refine (of_pk h A n c xs _ k.k.rp' (by omega)).mono ?_; rintro ev V8 ⟨A8, n8, c8, rfl, o8, hb⟩)
  replace k := k.step hb
  clear hb hHeld
  have hHeld := k
  refine ⟨hHeld, ?_⟩
  try simp only [Act.put, List.setIfInBounds_toArray, List.set_cons_zero, List.set_cons_succ]
  refine wpAnyH_one (i := 26) (by kernel_rfl) rfl ?_
  go_wp2_with (go_at_call 17; refine (of_pk h2 A2 n2 c2 ys _ k.k.ro' (by omega)).mono ?_; rintro ev V9 ⟨A9, n9, c9, rfl, o9, hb⟩)
  replace k := k.step hb
  replace o8 := o8.below hb (Nat.le_refl _)
  clear hb hHeld
  have hHeld := k
  refine ⟨hHeld, ?_⟩
  try simp only [Act.put, List.setIfInBounds_toArray, List.set_cons_zero, List.set_cons_succ]
  refine wpAnyH_one (i := 27) (by kernel_rfl) rfl ?_
  go_wp2_with (go_at_call 16; refine (refSame_pk h h2 _ _ _ _ _ _ xs ys _ o8.rd o9.rd).mono ?_; rintro ev V10 ⟨rfl, hb⟩)
  replace k := k.step hb
  clear o8 o9
  clear hb hHeld
  have hHeld := k
  refine ⟨hHeld, ?_⟩
  try simp only [Act.put, List.setIfInBounds_toArray, List.set_cons_zero, List.set_cons_succ]
  refine wpAnyH_at (i := 28) (some 71) (v := ?v28z19) rfl rfl (by kernel_rfl) (by kernel_rfl) (by kernel_rfl) (fun _ _ _ h => h) (Or.inl ⟨by rfl, ?y28z19⟩) (by assumption) ?r28z19
  case y28z19 =>
    intro w9 hSw
    clear hSw
    go_simp
    all_goals with_reducible rfl
  simp only [Act.put, List.setIfInBounds_toArray, List.set_cons_zero, List.set_cons_succ]
  refine wpAnyH_at (i := 29) (some 72) (v := ?v29z20) rfl rfl (by kernel_rfl) (by kernel_rfl) (by kernel_rfl) (fun _ _ _ h => h) (Or.inl ⟨by rfl, ?y29z20⟩) (by assumption) ?r29z20
  case y29z20 =>
    intro w9 hSw
    clear hSw
    go_simp
    all_goals with_reducible rfl
  simp only [Act.put, List.setIfInBounds_toArray, List.set_cons_zero, List.set_cons_succ]
  refine wpAnyH_done (by kernel_rfl) ?_ _
  clear hHeld
  go_wp2
  go_ret
  exact ⟨rfl, k.k.kn.below⟩

set_option maxRecDepth 100000 in
set_option maxHeartbeats 4000000 in
theorem writes_near (h : Hd) (A : Option Addr) (n c : Nat) (xs : List Int) (h2 : Hd) (A2 : Option Addr) (n2 c2 : Nat) (ys : List Int) (Ab : Option Addr) (nb cb : Nat) (zs : List Int) (w : World) (hg : Laid w) (hk : h.ok) (hr : Rd .u8 w w.heap.size A n c xs) (hr2 : Rd .u8 w w.heap.size A2 n2 c2 ys) (hrb : Rd .u8 w w.heap.size Ab nb cb zs) (hn : n ≤ 3000) (hn2 : n2 ≤ 3000) (hnb : nb ≤ 300) (hsm : n ≤ 1480) (m : Nat) (hm : m = 20 + n) : Calls Tryd.prog 4 #[pkV h A n c, pkV h2 A2 n2 c2, .slice Ab nb cb] w fun e w' => e = .returned (.bool true) ∧ Below w.heap.size w w' := by
  have k0 := KW.start h A n c xs h2 A2 n2 c2 ys Ab nb cb zs w hg hr hr2 hrb
  have HX := Lib.hid hr.len
  have HW := Lib.hid hr.2.2.2.1
  have c21 := Lib.hid (fun W => head_any h A n c W hk (by omega))
  have c22 := Lib.hid (fun A c W => refHead_any h A n c W hk (by omega))
  have HY : Hid ((hdR h n).length = 20) := Lib.hid rfl
  have WY := Lib.hid (hdR_wf (n := n) hk (by omega))
  have c19 := Lib.hid (fun W (q : Rd .u8 W W.heap.size A n c xs) => bytes_ok h A n c xs W hk q hsm)
  rw [← hm] at c19
  have c20 := Lib.hid (fun A c W (q : Rd .u8 W W.heap.size A n c xs) => refBytes_near h A n c xs W hk q hsm)
  have zP := Lib.hid (zz zs true hk (show n ≤ 65515 by omega) HX.out)
  have zQ := Lib.hid (zz [] false hk (show n ≤ 65515 by omega) HX.out)
  rw [List.append_nil] at zQ
  have HR := Lib.hid (hdR_right (n := n) hk (by omega))
  have Hbl : Hid ((hdR h n ++ xs).length = m) := Lib.hid (by rw [List.length_append, HX.out, hm]; rfl)
  have Hbw : Hid (∀ x ∈ hdR h n ++ xs, (Lit.int .u8 x).wf = true) := Lib.hid (fun x hx => (List.mem_append.1 hx).elim (WY.out x) (HW.out x))
  have hm1 : 20 + n ≤ m := by omega
  have hm2 : m ≤ 20 + n := by omega
  generalize hdR h n ++ xs = bs at *
  generalize hdR h n = Y at *
  have q1 : ¬ (3000 : Int) < (n : Int) := by omega
  have q2 : ¬ (3000 : Int) < (n2 : Int) := by omega
  have q3 : ¬ (300 : Int) < (nb : Int) := by omega
  have q4 := Nat.le_trans hr.cap hr.max
  clear hr hr2 hrb hk hm
  go_enter Tryd.func4, Tryd.ntmps4
  go_wp2_with fail
  refine (alive_any _ k0.kn.laid).mono ?_
  rintro ev w1 ⟨rfl, hb⟩
  replace k0 := k0.step hb
  clear hb
  obtain ⟨x0, x1, x2, x3, x4, x5, x6, x7⟩ := k0.p.cells
  obtain ⟨y0, y1, y2, y3, y4, y5, y6, y7⟩ := k0.o.cells
  go_wp2_with fail
  refine (c19.out _ k0.rp').mono ?_
  rintro ev w2 ⟨g, rfl, row, -, hb⟩
  replace k0 := k0.step hb
  clear x0 x1 x2 x3 x4 x5 x6 x7
  clear y0 y1 y2 y3 y4 y5 y6 y7
  clear hb
  obtain ⟨x0, x1, x2, x3, x4, x5, x6, x7⟩ := k0.p.cells
  go_wp2_with fail
  refine (of_pk h A n c xs _ k0.rp' (by omega)).mono ?_
  rintro ev w3 ⟨A3, n3, c3, rfl, o3, hb⟩
  obtain rfl : n = n3 := HX.out.symm.trans o3.len
  replace k0 := k0.step hb
  replace row := row.below hb row.lt
  clear x0 x1 x2 x3 x4 x5 x6 x7
  clear hb
  go_wp2_with fail
  refine (c20.out A3 c3 _ o3.rd).mono ?_
  rintro ev w4 ⟨D, nd, cd, rfl, od, hb⟩
  have ba := alloc_below w4 (.cells (flC none 0 0 0) 37)
  have bb := hb.trans (ba.mono hb.size)
  have row4 := row.below bb row.lt
  have k : KF w h A n c xs h2 A2 n2 c2 ys Ab nb cb zs w4.heap.size none 0 0 0 [] (some ⟨g, 0, none⟩) m m D nd cd bs (w4.alloc (.cells (flC none 0 0 0) 37)) :=
    ⟨k0.step bb, heap_alloc_new w4 _, Rd.nil, row4.rdW Hbl.out (by omega) Hbw.out, (od.rd.below ba (Nat.le_refl _)).more ba.size⟩
  clear hb ba k0 o3 od bb row row4 c19 c20
  go_wp2_with fail
  generalize w4.heap.size = gf at *
  replace k := k.step (below_drew _)
  refine wp_region_held_drew (S := fun w' => KF w h A n c xs h2 A2 n2 c2 ys Ab nb cb zs gf none 0 0 0 [] (some ⟨g, 0, none⟩) m m D nd cd bs w') (by kernel_rfl) k (fun hHeld => ?_)
  clear hHeld
  change wpAnyH _ _ _ _ _ _ _ _ (World.drew _)
  generalize World.drew _ = W4 at *
  have hHeld := k
  refine wpAnyH_at (i := 0) (some 43) (v := ?v0z21) rfl rfl (by kernel_rfl) (by kernel_rfl) (by kernel_rfl) (fun _ _ _ h => h) (Or.inl ⟨by rfl, ?y0z21⟩) (by assumption) ?r0z21
  case y0z21 =>
    intro w9 hSw
    clear hSw
    go_simp
    all_goals with_reducible rfl
  simp only [Act.put, List.setIfInBounds_toArray, List.set_cons_zero, List.set_cons_succ]
  refine wpAnyH_at (i := 1) (some 44) (v := ?v1z22) rfl rfl (by kernel_rfl) (by kernel_rfl) (by kernel_rfl) (fun _ _ _ h => h) (Or.inl ⟨by rfl, ?y1z22⟩) (by assumption) ?r1z22
  case y1z22 =>
    intro w9 hSw
    (obtain ⟨a0, a1⟩ := (show KF w h A n c xs h2 A2 n2 c2 ys Ab nb cb zs gf none 0 0 0 [] (some ⟨g, 0, none⟩) m m D nd cd bs w9 from hSw).fault); clear hSw
    go_simp
    all_goals with_reducible rfl
  simp only [Act.put, List.setIfInBounds_toArray, List.set_cons_zero, List.set_cons_succ]
  refine wpAnyH_one (i := 2) (by kernel_rfl) rfl ?_
  go_wp2_with (go_at_call 15; refine (is_nil none 0 0 _).mono ?_; rintro ev V1 ⟨rfl, hb⟩)
  replace k := k.step hb
  clear hb hHeld
  have hHeld := k
  refine ⟨hHeld, ?_⟩
  try simp only [Act.put, List.setIfInBounds_toArray, List.set_cons_zero, List.set_cons_succ]
  refine wpAnyH_at (i := 3) (some 46) (v := ?v3z23) rfl rfl (by kernel_rfl) (by kernel_rfl) (by kernel_rfl) (fun _ _ _ h => h) (Or.inl ⟨by rfl, ?y3z23⟩) (by assumption) ?r3z23
  case y3z23 =>
    intro w9 hSw
    clear hSw
    go_simp
    all_goals with_reducible rfl
  simp only [Act.put, List.setIfInBounds_toArray, List.set_cons_zero, List.set_cons_succ]
  refine wpAnyH_at (i := 4) (some 47) (v := ?v4z24) rfl rfl (by kernel_rfl) (by kernel_rfl) (by kernel_rfl) (fun _ _ _ h => h) (Or.inl ⟨by rfl, ?y4z24⟩) (by assumption) ?r4z24
  case y4z24 =>
    intro w9 hSw
    clear hSw
    go_simp
    all_goals with_reducible rfl
  simp only [Act.put, List.setIfInBounds_toArray, List.set_cons_zero, List.set_cons_succ]
  refine wpAnyH_at (i := 5) (some 48) (v := ?v5z25) rfl rfl (by kernel_rfl) (by kernel_rfl) (by kernel_rfl) (fun _ _ _ h => h) (Or.inl ⟨by rfl, ?y5z25⟩) (by assumption) ?r5z25
  case y5z25 =>
    intro w9 hSw
    clear hSw
    go_simp
    all_goals with_reducible rfl
  simp only [Act.put, List.setIfInBounds_toArray, List.set_cons_zero, List.set_cons_succ]
  refine wpAnyH_at (i := 6) (some 49) (v := ?v6z26) rfl rfl (by kernel_rfl) (by kernel_rfl) (by kernel_rfl) (fun _ _ _ h => h) (Or.inl ⟨by rfl, ?y6z26⟩) (by assumption) ?r6z26
  case y6z26 =>
    intro w9 hSw
    clear hSw
    go_simp
    all_goals with_reducible rfl
  simp only [Act.put, List.setIfInBounds_toArray, List.set_cons_zero, List.set_cons_succ]
  refine wpAnyH_one (i := 7) (by kernel_rfl) rfl ?_
  go_wp2_with (go_at_call 18; refine (same_any _ _ _ _ _ _ _ _ _ _ k.b k.d).mono ?_; rintro ev V2 ⟨rfl, hb⟩)
  replace k := k.step hb
  clear hb hHeld
  have hHeld := k
  refine ⟨hHeld, ?_⟩
  try simp only [Act.put, List.setIfInBounds_toArray, List.set_cons_zero, List.set_cons_succ]
  refine wpAnyH_at (i := 8) (some 51) (v := ?v8z27) rfl rfl (by kernel_rfl) (by kernel_rfl) (by kernel_rfl) (fun _ _ _ h => h) (Or.inl ⟨by rfl, ?y8z27⟩) (by assumption) ?r8z27
  case y8z27 =>
    intro w9 hSw
    clear hSw
    go_simp
    all_goals with_reducible rfl
  simp only [Act.put, List.setIfInBounds_toArray, List.set_cons_zero, List.set_cons_succ]
  refine wpAnyH_at (i := 9) (some 52) (v := ?v9z28) rfl rfl (by kernel_rfl) (by kernel_rfl) (by kernel_rfl) (fun _ _ _ h => h) (Or.inl ⟨by rfl, ?y9z28⟩) (by assumption) ?r9z28
  case y9z28 =>
    intro w9 hSw
    clear hSw
    go_simp
    all_goals with_reducible rfl
  simp only [Act.put, List.setIfInBounds_toArray, List.set_cons_zero, List.set_cons_succ]
  refine wpAnyH_at (i := 10) (some 53) (v := ?v10z29) rfl rfl (by kernel_rfl) (by kernel_rfl) (by kernel_rfl) (fun _ _ _ h => h) (Or.inl ⟨by rfl, ?y10z29⟩) (by assumption) ?r10z29
  case y10z29 =>
    intro w9 hSw
    clear hSw
    go_simp
    all_goals with_reducible rfl
  simp only [Act.put, List.setIfInBounds_toArray, List.set_cons_zero, List.set_cons_succ]
  refine wpAnyH_at (i := 11) (some 54) (v := ?v11z30) rfl rfl (by kernel_rfl) (by kernel_rfl) (by kernel_rfl) (fun _ _ _ h => h) (Or.inl ⟨by rfl, ?y11z30⟩) (by assumption) ?r11z30
  case y11z30 =>
    intro w9 hSw
    (obtain ⟨a0, a1, a2, a3, a4, a5, a6, a7⟩ := (show KF w h A n c xs h2 A2 n2 c2 ys Ab nb cb zs gf none 0 0 0 [] (some ⟨g, 0, none⟩) m m D nd cd bs w9 from hSw).k.p.cells); clear hSw
    go_simp
    all_goals with_reducible rfl
  simp only [Act.put, List.setIfInBounds_toArray, List.set_cons_zero, List.set_cons_succ]
  refine wpAnyH_at (i := 13) (some 56) (v := ?v13z31) rfl rfl (by kernel_rfl) (by kernel_rfl) (by kernel_rfl) (fun _ _ _ h => h) (Or.inl ⟨by rfl, ?y13z31⟩) (by assumption) ?r13z31
  case y13z31 =>
    intro w9 hSw
    (obtain ⟨a0, a1, a2, a3, a4, a5, a6, a7⟩ := (show KF w h A n c xs h2 A2 n2 c2 ys Ab nb cb zs gf none 0 0 0 [] (some ⟨g, 0, none⟩) m m D nd cd bs w9 from hSw).k.p.cells); clear hSw
    go_simp
    all_goals with_reducible rfl
  simp only [Act.put, List.setIfInBounds_toArray, List.set_cons_zero, List.set_cons_succ]
  refine wpAnyH_one (i := 12) (by kernel_rfl) rfl ?_
  go_wp2_with (go_at_call 21; refine (c21.out _).mono ?_; rintro ev V3 ⟨g3, rfl, row3, -, hb⟩)
  replace k := k.step hb
  clear hb hHeld
  have hHeld := k
  refine ⟨hHeld, ?_⟩
  try simp only [Act.put, List.setIfInBounds_toArray, List.set_cons_zero, List.set_cons_succ]
  refine wpAnyH_one (i := 14) (by kernel_rfl) rfl ?_
  go_wp2_with (go_at_call 17; refine (of_pk h A n c xs _ k.k.rp' (by omega)).mono ?_; rintro ev V4 ⟨A4, n4, c4, rfl, o4, hb⟩)
  replace k := k.step hb
  replace row3 := row3.below hb row3.lt
  obtain rfl : n = n4 := HX.out.symm.trans o4.len
  clear hb hHeld
  have hHeld := k
  refine ⟨hHeld, ?_⟩
  try simp only [Act.put, List.setIfInBounds_toArray, List.set_cons_zero, List.set_cons_succ]
  refine wpAnyH_one (i := 15) (by kernel_rfl) rfl ?_
  go_wp2_with (go_at_call 22; refine (c22.out A4 c4 _).mono ?_; rintro ev V5 ⟨A5, n5, c5, rfl, o5, hb⟩)
  replace k := k.step hb
  replace row3 := row3.below hb row3.lt
  clear hb hHeld
  have hHeld := k
  refine ⟨hHeld, ?_⟩
  try simp only [Act.put, List.setIfInBounds_toArray, List.set_cons_zero, List.set_cons_succ]
  refine wpAnyH_one (i := 16) (by kernel_rfl) rfl ?_
  go_wp2_with (go_at_call 18; refine (same_any _ _ _ _ _ _ Y _ _ _ (row3.rdW HY.out (by omega) WY.out) o5.rd).mono ?_; rintro ev V6 ⟨rfl, hb⟩)
  replace k := k.step hb
  clear row3 o5 o4
  clear hb hHeld
  have hHeld := k
  refine ⟨hHeld, ?_⟩
  try simp only [Act.put, List.setIfInBounds_toArray, List.set_cons_zero, List.set_cons_succ]
  refine wpAnyH_at (i := 17) (some 60) (v := ?v17z32) rfl rfl (by kernel_rfl) (by kernel_rfl) (by kernel_rfl) (fun _ _ _ h => h) (Or.inl ⟨by rfl, ?y17z32⟩) (by assumption) ?r17z32
  case y17z32 =>
    intro w9 hSw
    clear hSw
    go_simp
    all_goals with_reducible rfl
  simp only [Act.put, List.setIfInBounds_toArray, List.set_cons_zero, List.set_cons_succ]
  refine wpAnyH_at (i := 18) (some 61) (v := ?v18z33) rfl rfl (by kernel_rfl) (by kernel_rfl) (by kernel_rfl) (fun _ _ _ h => h) (Or.inl ⟨by rfl, ?y18z33⟩) (by assumption) ?r18z33
  case y18z33 =>
    intro w9 hSw
    clear hSw
    go_simp
    all_goals with_reducible rfl
  simp only [Act.put, List.setIfInBounds_toArray, List.set_cons_zero, List.set_cons_succ]
  refine wpAnyH_at (i := 19) (some 62) (v := ?v19z34) rfl rfl (by kernel_rfl) (by kernel_rfl) (by kernel_rfl) (fun _ _ _ h => h) (Or.inl ⟨by rfl, ?y19z34⟩) (by assumption) ?r19z34
  case y19z34 =>
    intro w9 hSw
    clear hSw
    go_simp
    all_goals with_reducible rfl
  simp only [Act.put, List.setIfInBounds_toArray, List.set_cons_zero, List.set_cons_succ]
  refine wpAnyH_at (i := 20) (some 63) (v := ?v20z35) rfl rfl (by kernel_rfl) (by kernel_rfl) (by kernel_rfl) (fun _ _ _ h => h) (Or.inl ⟨by rfl, ?y20z35⟩) (by assumption) ?r20z35
  case y20z35 =>
    intro w9 hSw
    (obtain ⟨a0, a1, a2, a3, a4, a5, a6, a7⟩ := (show KF w h A n c xs h2 A2 n2 c2 ys Ab nb cb zs gf none 0 0 0 [] (some ⟨g, 0, none⟩) m m D nd cd bs w9 from hSw).k.p.cells); clear hSw
    go_simp
    all_goals with_reducible rfl
  simp only [Act.put, List.setIfInBounds_toArray, List.set_cons_zero, List.set_cons_succ]
  refine wpAnyH_at (i := 21) (some 64) (v := ?v21z36) rfl rfl (by kernel_rfl) (by kernel_rfl) (by kernel_rfl) (fun _ _ _ h => h) (Or.inl ⟨by rfl, ?y21z36⟩) (by assumption) ?r21z36
  case y21z36 =>
    intro w9 hSw
    (obtain ⟨a0, a1, a2, a3, a4, a5, a6, a7⟩ := (show KF w h A n c xs h2 A2 n2 c2 ys Ab nb cb zs gf none 0 0 0 [] (some ⟨g, 0, none⟩) m m D nd cd bs w9 from hSw).k.o.cells); clear hSw
    go_simp
    all_goals with_reducible rfl
  simp only [Act.put, List.setIfInBounds_toArray, List.set_cons_zero, List.set_cons_succ]
  refine wpAnyH_at (i := 23) (some 66) (v := ?v23z37) rfl rfl (by kernel_rfl) (by kernel_rfl) (by kernel_rfl) (fun _ _ _ h => h) (Or.inl ⟨by rfl, ?y23z37⟩) (by assumption) ?r23z37
  case y23z37 =>
    intro w9 hSw
    (obtain ⟨a0, a1, a2, a3, a4, a5, a6, a7⟩ := (show KF w h A n c xs h2 A2 n2 c2 ys Ab nb cb zs gf none 0 0 0 [] (some ⟨g, 0, none⟩) m m D nd cd bs w9 from hSw).k.p.cells); clear hSw
    go_simp
    all_goals with_reducible rfl
  simp only [Act.put, List.setIfInBounds_toArray, List.set_cons_zero, List.set_cons_succ]
  refine wpAnyH_at (i := 25) (some 68) (v := ?v25z38) rfl rfl (by kernel_rfl) (by kernel_rfl) (by kernel_rfl) (fun _ _ _ h => h) (Or.inl ⟨by rfl, ?y25z38⟩) (by assumption) ?r25z38
  case y25z38 =>
    intro w9 hSw
    (obtain ⟨a0, a1, a2, a3, a4, a5, a6, a7⟩ := (show KF w h A n c xs h2 A2 n2 c2 ys Ab nb cb zs gf none 0 0 0 [] (some ⟨g, 0, none⟩) m m D nd cd bs w9 from hSw).k.o.cells); clear hSw
    go_simp
    all_goals with_reducible rfl
  simp only [Act.put, List.setIfInBounds_toArray, List.set_cons_zero, List.set_cons_succ]
  refine wpAnyH_one (i := 22) (by kernel_rfl) rfl ?_
  go_wp2_with (go_at_call 23; refine (same_pk h h2 _ _ _ _ _ _ xs ys _ k.k.rp' k.k.ro').mono ?_; rintro ev V7 ⟨rfl, hb⟩)
  replace k := k.step hb
  clear hb hHeld
  have hHeld := k
  refine ⟨hHeld, ?_⟩
  try simp only [Act.put, List.setIfInBounds_toArray, List.set_cons_zero, List.set_cons_succ]
  refine wpAnyH_one (i := 24) (by kernel_rfl) rfl ?_
  go_wp2_with (go_at_call 17; refine (of_pk h A n c xs _ k.k.rp' (by omega)).mono ?_; rintro ev V8 ⟨A8, n8, c8, rfl, o8, hb⟩)
  replace k := k.step hb
  clear hb hHeld
  have hHeld := k
  refine ⟨hHeld, ?_⟩
  try simp only [Act.put, List.setIfInBounds_toArray, List.set_cons_zero, List.set_cons_succ]
  refine wpAnyH_one (i := 26) (by kernel_rfl) rfl ?_
  go_wp2_with (go_at_call 17; refine (of_pk h2 A2 n2 c2 ys _ k.k.ro' (by omega)).mono ?_; rintro ev V9 ⟨A9, n9, c9, rfl, o9, hb⟩)
  replace k := k.step hb
  replace o8 := o8.below hb (Nat.le_refl _)
  clear hb hHeld
  have hHeld := k
  refine ⟨hHeld, ?_⟩
  try simp only [Act.put, List.setIfInBounds_toArray, List.set_cons_zero, List.set_cons_succ]
  refine wpAnyH_one (i := 27) (by kernel_rfl) rfl ?_
  go_wp2_with (go_at_call 16; refine (refSame_pk h h2 _ _ _ _ _ _ xs ys _ o8.rd o9.rd).mono ?_; rintro ev V10 ⟨rfl, hb⟩)
  replace k := k.step hb
  clear o8 o9
  clear hb hHeld
  have hHeld := k
  refine ⟨hHeld, ?_⟩
  try simp only [Act.put, List.setIfInBounds_toArray, List.set_cons_zero, List.set_cons_succ]
  refine wpAnyH_at (i := 28) (some 71) (v := ?v28z39) rfl rfl (by kernel_rfl) (by kernel_rfl) (by kernel_rfl) (fun _ _ _ h => h) (Or.inl ⟨by rfl, ?y28z39⟩) (by assumption) ?r28z39
  case y28z39 =>
    intro w9 hSw
    clear hSw
    go_simp
    all_goals with_reducible rfl
  simp only [Act.put, List.setIfInBounds_toArray, List.set_cons_zero, List.set_cons_succ]
  refine wpAnyH_at (i := 29) (some 72) (v := ?v29z40) rfl rfl (by kernel_rfl) (by kernel_rfl) (by kernel_rfl) (fun _ _ _ h => h) (Or.inl ⟨by rfl, ?y29z40⟩) (by assumption) ?r29z40
  case y29z40 =>
    intro w9 hSw
    clear hSw
    go_simp
    all_goals with_reducible rfl
  simp only [Act.put, List.setIfInBounds_toArray, List.set_cons_zero, List.set_cons_succ]
  refine wpAnyH_done (by kernel_rfl) ?_ _
  clear hHeld
  go_wp2_with fail
  have hs := Nat.le_refl V10.heap.size
  refine (own_any (some ⟨g, 0, none⟩) m m V10.heap.size bs _ k.b (Nat.le_refl _) (by omega)).mono ?_
  rintro ev w5 ⟨A5, n5, c5, rfl, o5, hb⟩
  obtain rfl : m = n5 := Hbl.out.symm.trans o5.len
  have b5 := hb.size
  have rb5 := k.k.rb.below hb k.k.kn.below.size
  go_wp2_with (at_builtin; refine wpList_app rfl (.tmp 80) (.tmp 81) 22 rfl V10.heap.size Tryd.underlying22 info5 (by omega) A5 m c5 bs rfl o5 Ab nb cb w.heap.size zs rfl rb5 (by omega) b5 ?_; intro A6 n6 c6 w6 o6 hgr)
  replace k := k.step (hb.trans (grown_low o5 hgr b5))
  clear hb hgr o5 rb5 b5 hs
  refine (parse_yes o6.rd zP.out.1 zP.out.2.1 zP.out.2.2 HX.out).mono ?_
  rintro ev w7 ⟨g7, rfl, row7, -, hb⟩
  replace hb := hb.trans ((alloc_below w7 (.cells (pkC h (some ⟨g7, 0, none⟩) n n) 28)).mono hb.size)
  replace k := k.step hb
  replace row7 := row7.below (alloc_below w7 (.cells (pkC h (some ⟨g7, 0, none⟩) n n) 28)) row7.lt
  have p7 := PkAt.new w7 28 h (some ⟨g7, 0, none⟩) n n
  clear hb o6
  go_wp2_with fail
  refine (peek_yes k.b zQ.out.1 zQ.out.2.1 zQ.out.2.2 HX.out).mono ?_
  rintro ev w8 ⟨g8, rfl, row8, -, hb⟩
  replace hb := hb.trans ((alloc_below w8 (.cells (pkC h (some ⟨g8, 0, none⟩) n n) 28)).mono hb.size)
  replace k := k.step hb
  replace row7 := row7.below hb row7.lt
  replace p7 := p7.step hb
  replace row8 := row8.below (alloc_below w8 (.cells (pkC h (some ⟨g8, 0, none⟩) n n) 28)) row8.lt
  have p8 := PkAt.new w8 28 h (some ⟨g8, 0, none⟩) n n
  clear hb
  generalize w7.heap.size = gx at *
  obtain ⟨x0, x1, x2, x3, x4, x5, x6, x7⟩ := k.k.p.cells
  obtain ⟨y0, y1, y2, y3, y4, y5, y6, y7⟩ := p7.cells
  go_wp2_with fail
  have sm := same_pk h h _ _ _ _ _ _ xs xs _ (row7.rdW HX.out (by omega) HW.out) k.k.rp'
  rw [smB_self] at sm
  refine sm.mono ?_
  rintro ev w9 ⟨rfl, hb⟩
  replace k := k.step hb
  replace row8 := row8.below hb row8.lt
  replace p8 := p8.step hb
  clear x0 x1 x2 x3 x4 x5 x6 x7
  clear y0 y1 y2 y3 y4 y5 y6 y7
  clear hb sm row7 p7
  generalize w8.heap.size = gy at *
  obtain ⟨x0, x1, x2, x3, x4, x5, x6, x7⟩ := k.k.p.cells
  obtain ⟨y0, y1, y2, y3, y4, y5, y6, y7⟩ := p8.cells
  go_wp2_with fail
  have sm := same_pk h h _ _ _ _ _ _ xs xs _ (row8.rdW HX.out (by omega) HW.out) k.k.rp'
  rw [smB_self] at sm
  refine sm.mono ?_
  rintro ev w10 ⟨rfl, hb⟩
  replace k := k.step hb
  clear x0 x1 x2 x3 x4 x5 x6 x7
  clear y0 y1 y2 y3 y4 y5 y6 y7
  clear hb sm row8 p8
  obtain ⟨x0, x1, x2, x3, x4, x5, x6, x7⟩ := k.k.p.cells
  go_wp2_with fail
  refine (c21.out _).mono ?_
  rintro ev w11 ⟨g11, rfl, row11, -, hb⟩
  replace k := k.step hb
  clear x0 x1 x2 x3 x4 x5 x6 x7
  clear hb
  have R0 := right_any _ 1 1 _ _ (rows_one (row11.rdW HY.out (by omega) WY.out))
  rw [show [Y].flatten = Y from by rw [List.flatten_cons, List.flatten_nil, List.append_nil], HR.out] at R0
  go_wp2_with fail
  refine R0.mono ?_
  rintro ev w12 ⟨rfl, hb⟩
  replace k := (k.step (alloc_below w11 (.cells #[.slice (some ⟨g11, 0, none⟩) 20 20] 22))).step hb
  clear hb R0 row11
  go_wp2
  go_ret
  exact ⟨rfl, k.k.kn.below⟩
theorem writes_law (h : Hd) (A : Option Addr) (n c : Nat) (xs : List Int) (h2 : Hd) (A2 : Option Addr) (n2 c2 : Nat) (ys : List Int) (Ab : Option Addr) (nb cb : Nat) (zs : List Int) (w : World) (hg : Laid w) (hk : h.ok) (hr : Rd .u8 w w.heap.size A n c xs) (_hk2 : h2.ok) (hr2 : Rd .u8 w w.heap.size A2 n2 c2 ys) (hrb : Rd .u8 w w.heap.size Ab nb cb zs) : Calls Tryd.prog 4 #[pkV h A n c, pkV h2 A2 n2 c2, .slice Ab nb cb] w fun e w' => e = .returned (.bool true) ∧ Below w.heap.size w w' := by
  by_cases hn : 3000 < n ∨ 3000 < n2 ∨ 300 < nb
  · exact writes_far h A n c xs h2 A2 n2 c2 ys Ab nb cb zs w hg hr hr2 hrb hn
  · by_cases hb : 1480 < n
    · exact writes_big h A n c xs h2 A2 n2 c2 ys Ab nb cb zs w hg hk hr hr2 hrb (by omega) (by omega) (by omega) hb
    · exact writes_near h A n c xs h2 A2 n2 c2 ys Ab nb cb zs w hg hk hr hr2 hrb (by omega) (by omega) (by omega) (by omega) (20 + n) rfl
end Go.Proofs.YthgdgjpckgfmbaaDoor
