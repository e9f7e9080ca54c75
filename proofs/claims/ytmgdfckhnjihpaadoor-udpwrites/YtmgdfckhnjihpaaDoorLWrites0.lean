/-
  The law UdpWrites: every Bytes and Same answers what the document says; what is written is parsed as it was. What is known of the walk.
-/
import Derived.Test.YtmgdfckhnjihpaaDoorUSpo
import Derived.Test.YtmgdfckhnjihpaaDoorUW
import Derived.Test.YtmgdfckhnjihpaaDoorRBytes
namespace Go.Proofs.YtmgdfckhnjihpaaDoor
open Go.RowKit
set_option linter.unusedVariables false

/-- What is written, with anything behind it. -/
theorem zz {h : Hd} {f t : Int} {xs : List Int} (zs : List Int) (hk : h.ok) (hf : Ip f) (ht : Ip t) (hx : ∀ x ∈ xs, (Lit.int .u8 x).wf = true) (hl : xs.length ≤ 1472) : (pE f t (byR h f t xs ++ zs)).2 = 0 ∧ hdOf (byR h f t xs ++ zs) = h ∧ bodyOf (byR h f t xs ++ zs) = xs := by
  have eT : told (byR h f t xs ++ zs) = 8 + xs.length := by
    show ((8 + (xs.length : Int)) / 256 * 256 + (8 + (xs.length : Int)) % 256).toNat = 8 + xs.length
    omega
  have e6 : num2 ((byR h f t xs ++ zs).drop 6) = sumV h f t xs := by
    show sumV h f t xs / 256 * 256 + sumV h f t xs % 256 = sumV h f t xs
    omega
  have eK : (byR h f t xs ++ zs).take (8 + xs.length) = byR h f t xs := List.take_left' (byR_len h f t xs)
  have eB : (bE (byR h f t xs ++ zs)) = (0, 0) := bE_good (by omega) (by rw [eT, List.length_append, byR_len]; omega) (by omega)
  have ec : ((8 + xs.length : Nat) : Int) = (8 : Int) + (xs.length : Int) := by omega
  refine ⟨?_, hd_eq ?_ ?_ ?_, ?_⟩
  · rw [pE_yes (by rw [eB])]
    cases hb : h.bare
    · right
      rw [eT, eK, ec]
      exact byR_right hk hf ht hx (by omega) hb
    · left
      rw [e6, sumV_bare hb]
  · show h.src / 256 * 256 + h.src % 256 = h.src
    omega
  · show h.dst / 256 * 256 + h.dst % 256 = h.dst
    omega
  · show (num2 ((byR h f t xs ++ zs).drop 6) == 0) = h.bare
    rw [e6]
    cases hb : h.bare
    · have := (sumV_bd hk hf ht hx (by omega) hb).2.2
      simpa using this
    · rw [sumV_bare hb]
      rfl
  · unfold bodyOf
    rw [eT, eK, byR_drop8]
/-- With its Ips changed about. -/
theorem byR_swap {h : Hd} {f t : Int} {xs : List Int} (hk : h.ok) (hf : Ip f) (ht : Ip t) (hx : ∀ x ∈ xs, (Lit.int .u8 x).wf = true) (hl : xs.length ≤ 1472) : byR h t f xs = byR h f t xs := by
  unfold byR
  rw [sum_eq (f := t) (t := f) (f' := f) (t' := t) hk hk ht hf hf ht hx (by omega) rfl (by omega)]
/-- The two bytes of the sum. -/
theorem sum_two {h : Hd} {f t : Int} {xs : List Int} (hk : h.ok) (hf : Ip f) (ht : Ip t) (hx : ∀ x ∈ xs, (Lit.int .u8 x).wf = true) (hl : xs.length ≤ 1472) : ((byR h f t xs).getD 6 0 = 0 → ((byR h f t xs).getD 7 0 == 0) = h.bare) ∧ (¬ (byR h f t xs).getD 6 0 = 0 → h.bare = false) := by
  have e6 : (byR h f t xs).getD 6 0 = sumV h f t xs / 256 := rfl
  have e7 : (byR h f t xs).getD 7 0 = sumV h f t xs % 256 := rfl
  rw [e6, e7]
  cases hb : h.bare
  · have := sumV_bd hk hf ht hx (by omega) hb
    refine ⟨fun q => ?_, fun _ => rfl⟩
    have : ¬ sumV h f t xs % 256 = 0 := by omega
    simpa using this
  · rw [sumV_bare hb]
    exact ⟨fun _ => by decide, fun q => absurd (by decide) q⟩
/-- What the walk knows: the arguments. -/
structure KW (w : World) (h : Hd) (A : Option Addr) (n c : Nat) (xs : List Int) (h2 : Hd) (A2 : Option Addr) (n2 c2 : Nat) (ys : List Int) (Ab : Option Addr) (nb cb : Nat) (zs : List Int) (W : World) : Prop where
  kn : Kn w W
  p : PkAt W w.heap.size 28 h A n c
  o : PkAt W (w.heap.size + 1) 28 h2 A2 n2 c2
  rp : Rd .u8 W w.heap.size A n c xs
  ro : Rd .u8 W w.heap.size A2 n2 c2 ys
  rb : Rd .u8 W w.heap.size Ab nb cb zs
/-- And behind the bytes: theirs, the document's, and its fault. -/
structure KF (w : World) (h : Hd) (A : Option Addr) (n c : Nat) (xs : List Int) (h2 : Hd) (A2 : Option Addr) (n2 c2 : Nat) (ys : List Int) (Ab : Option Addr) (nb cb : Nat) (zs : List Int) (gf : Nat) (Af : Option Addr) (nf cf : Nat) (ef : Int) (rs : List Int) (B : Option Addr) (m mc : Nat) (D : Option Addr) (nd cd : Nat) (bs : List Int) (W : World) : Prop where
  k : KW w h A n c xs h2 A2 n2 c2 ys Ab nb cb zs W
  f : W.heap[gf]? = some (.cells (flC Af nf cf ef) 37 (0, 0))
  r : Rd .i64 W W.heap.size Af nf cf rs
  b : Rd .u8 W W.heap.size B m mc bs
  d : Rd .u8 W W.heap.size D nd cd bs
/-- And behind Parse, twice. -/
structure KX (w : World) (h : Hd) (A : Option Addr) (n c : Nat) (xs : List Int) (g gx g1 gy g2 : Nat) (bs : List Int) (W : World) : Prop where
  kn : Kn w W
  p : PkAt W w.heap.size 28 h A n c
  rp : Rd .u8 W w.heap.size A n c xs
  b : Row W g bs
  x : PkAt W gx 28 h (some ⟨g1, 0, none⟩) n n
  r1 : Row W g1 xs
  y : PkAt W gy 28 h (some ⟨g2, 0, none⟩) n n
  r2 : Row W g2 xs
section
variable {w W V : World} {h : Hd} {A : Option Addr} {n c : Nat} {xs : List Int} {h2 : Hd} {A2 : Option Addr} {n2 c2 : Nat} {ys : List Int} {Ab : Option Addr} {nb cb : Nat} {zs : List Int} {gf : Nat} {Af : Option Addr} {nf cf : Nat} {ef : Int} {rs : List Int} {B : Option Addr} {m mc : Nat} {D : Option Addr} {nd cd : Nat} {bs : List Int} {g gx g1 gy g2 : Nat}
theorem KW.step (q : KW w h A n c xs h2 A2 n2 c2 ys Ab nb cb zs W) (hb : Below W.heap.size W V) : KW w h A n c xs h2 A2 n2 c2 ys Ab nb cb zs V := ⟨q.kn.step hb, q.p.step hb, q.o.step hb, q.rp.below hb q.kn.below.size, q.ro.below hb q.kn.below.size, q.rb.below hb q.kn.below.size⟩
theorem KW.rp' (q : KW w h A n c xs h2 A2 n2 c2 ys Ab nb cb zs W) : Rd .u8 W W.heap.size A n c xs := q.rp.more q.kn.below.size
theorem KW.ro' (q : KW w h A n c xs h2 A2 n2 c2 ys Ab nb cb zs W) : Rd .u8 W W.heap.size A2 n2 c2 ys := q.ro.more q.kn.below.size
theorem KF.step (q : KF w h A n c xs h2 A2 n2 c2 ys Ab nb cb zs gf Af nf cf ef rs B m mc D nd cd bs W) (hb : Below W.heap.size W V) : KF w h A n c xs h2 A2 n2 c2 ys Ab nb cb zs gf Af nf cf ef rs B m mc D nd cd bs V :=
  ⟨q.k.step hb, (hb.block _ (blk_lt q.f)).trans q.f, (q.r.below hb (Nat.le_refl _)).more hb.size, (q.b.below hb (Nat.le_refl _)).more hb.size, (q.d.below hb (Nat.le_refl _)).more hb.size⟩
theorem KF.fault (q : KF w h A n c xs h2 A2 n2 c2 ys Ab nb cb zs gf Af nf cf ef rs B m mc D nd cd bs W) : W.cell? ⟨gf, 0, none⟩ = some (.slice Af nf cf) ∧ W.cell? ⟨gf, 1, none⟩ = some (.int .i64 ef) := ⟨blk_cell q.f rfl, blk_cell q.f rfl⟩
theorem KX.step (q : KX w h A n c xs g gx g1 gy g2 bs W) (hb : Below W.heap.size W V) : KX w h A n c xs g gx g1 gy g2 bs V :=
  ⟨q.kn.step hb, q.p.step hb, q.rp.below hb q.kn.below.size, q.b.below hb q.b.lt, q.x.step hb, q.r1.below hb q.r1.lt, q.y.step hb, q.r2.below hb q.r2.lt⟩
end
theorem KW.start (h : Hd) (A : Option Addr) (n c : Nat) (xs : List Int) (h2 : Hd) (A2 : Option Addr) (n2 c2 : Nat) (ys : List Int) (Ab : Option Addr) (nb cb : Nat) (zs : List Int) (w : World) (hg : Laid w) (hr : Rd .u8 w w.heap.size A n c xs) (hr2 : Rd .u8 w w.heap.size A2 n2 c2 ys) (hrb : Rd .u8 w w.heap.size Ab nb cb zs) : KW w h A n c xs h2 A2 n2 c2 ys Ab nb cb zs ((w.alloc (.cells (pkC h A n c) 28)).alloc (.cells (pkC h2 A2 n2 c2) 28)) := by
  have b1 := alloc_below w (.cells (pkC h A n c) 28)
  have s1 : (w.alloc (.cells (pkC h A n c) 28)).heap.size = w.heap.size + 1 := by simp
  have p1 := PkAt.new w 28 h A n c
  have k1 := (Kn.start hg).alloc (.cells (pkC h A n c) 28)
  generalize w.alloc (.cells (pkC h A n c) 28) = W1 at *
  have b2 := alloc_below W1 (.cells (pkC h2 A2 n2 c2) 28)
  have p2 := PkAt.new W1 28 h2 A2 n2 c2
  rw [s1] at p2
  exact ⟨k1.alloc _, p1.step b2, p2, (hr.below b1 (Nat.le_refl _)).below b2 (by omega), (hr2.below b1 (Nat.le_refl _)).below b2 (by omega), (hrb.below b1 (Nat.le_refl _)).below b2 (by omega)⟩

set_option maxRecDepth 100000 in
set_option maxHeartbeats 8000000 in
theorem writes_far (h : Hd) (A : Option Addr) (n c : Nat) (xs : List Int) (h2 : Hd) (A2 : Option Addr) (n2 c2 : Nat) (ys : List Int) (Ab : Option Addr) (nb cb : Nat) (zs : List Int) (f t : Int) (w : World) (hg : Laid w) (hr : Rd .u8 w w.heap.size A n c xs) (hr2 : Rd .u8 w w.heap.size A2 n2 c2 ys) (hrb : Rd .u8 w w.heap.size Ab nb cb zs) (hn : 3000 < n ∨ 3000 < n2 ∨ 300 < nb) : Calls Tryd.prog 4 #[pkV h A n c, pkV h2 A2 n2 c2, .int .u32 f, .int .u32 t, .slice Ab nb cb] w fun e w' => e = .returned (.bool true) ∧ Below w.heap.size w w' := by
  have k := KW.start h A n c xs h2 A2 n2 c2 ys Ab nb cb zs w hg hr hr2 hrb
  have m1 := Nat.le_trans hr.cap hr.max
  have m2 := Nat.le_trans hr2.cap hr2.max
  have m3 := Nat.le_trans hrb.cap hrb.max
  clear hg hr hr2 hrb
  go_enter Tryd.func4, Tryd.ntmps4
  go_wp2_with fail
  refine (alive_any _ k.kn.laid).mono ?_
  rintro ev w1 ⟨rfl, hb⟩
  replace k := k.step hb
  clear hb
  obtain ⟨x0, x1, x2, x3⟩ := k.p.cells
  obtain ⟨y0, y1, y2, y3⟩ := k.o.cells
  by_cases h1 : (3000 : Int) < (n : Int)
  · go_wp2
    go_ret
    exact ⟨rfl, k.kn.below⟩
  by_cases h2 : (3000 : Int) < (n2 : Int)
  · go_wp2
    go_ret
    exact ⟨rfl, k.kn.below⟩
  have h3 : (300 : Int) < (nb : Int) := by omega
  go_wp2
  go_ret
  exact ⟨rfl, k.kn.below⟩

set_option maxRecDepth 100000 in
set_option maxHeartbeats 8000000 in
theorem writes_big (h : Hd) (A : Option Addr) (n c : Nat) (xs : List Int) (h2 : Hd) (A2 : Option Addr) (n2 c2 : Nat) (ys : List Int) (Ab : Option Addr) (nb cb : Nat) (zs : List Int) (f t : Int) (w : World) (hg : Laid w) (hr : Rd .u8 w w.heap.size A n c xs) (hr2 : Rd .u8 w w.heap.size A2 n2 c2 ys) (hrb : Rd .u8 w w.heap.size Ab nb cb zs) (hk : h.ok) (hf : Ip f) (ht : Ip t) (hn : n ≤ 3000) (hn2 : n2 ≤ 3000) (hnb : nb ≤ 300) (hbig : 1472 < n) : Calls Tryd.prog 4 #[pkV h A n c, pkV h2 A2 n2 c2, .int .u32 f, .int .u32 t, .slice Ab nb cb] w fun e w' => e = .returned (.bool true) ∧ Below w.heap.size w w' := by
  have k0 := KW.start h A n c xs h2 A2 n2 c2 ys Ab nb cb zs w hg hr hr2 hrb
  have HX := Lib.hid hr.len
  have HW := Lib.hid hr.2.2.2.1
  have q1 : ¬ (3000 : Int) < (n : Int) := by omega
  have q2 : ¬ (3000 : Int) < (n2 : Int) := by omega
  have q3 : ¬ (300 : Int) < (nb : Int) := by omega
  have q4 := Nat.le_trans hr.cap hr.max
  clear hr hr2 hrb hk hf ht
  go_enter Tryd.func4, Tryd.ntmps4
  go_wp2_with fail
  refine (alive_any _ k0.kn.laid).mono ?_
  rintro ev w1 ⟨rfl, hb⟩
  replace k0 := k0.step hb
  clear hb
  obtain ⟨x0, x1, x2, x3⟩ := k0.p.cells
  obtain ⟨y0, y1, y2, y3⟩ := k0.o.cells
  go_wp2_with fail
  refine (bytes_far h A n c f t _ hbig q4).mono ?_
  rintro ev w2 ⟨rfl, hb⟩
  replace k0 := k0.step hb
  clear x0 x1 x2 x3
  clear y0 y1 y2 y3
  clear hb
  obtain ⟨x0, x1, x2, x3⟩ := k0.p.cells
  go_wp2_with fail
  refine (of_pk h A n c xs _ k0.rp' (by omega)).mono ?_
  rintro ev w3 ⟨A3, n3, c3, rfl, o3, hb⟩
  obtain rfl : n = n3 := HX.out.symm.trans o3.len
  replace k0 := k0.step hb

  clear x0 x1 x2 x3
  clear hb
  go_wp2_with fail
  refine (refBytes_far h A3 n c3 xs f t _ o3.rd hbig).mono ?_
  rintro ev w4 ⟨Af, nf, cf, rfl, rf, hb⟩
  have ba := alloc_below w4 (.cells (flC Af nf cf 11) 37)
  have k : KF w h A n c xs h2 A2 n2 c2 ys Ab nb cb zs w4.heap.size Af nf cf 11 [1] none 0 0 none 0 0 [] (w4.alloc (.cells (flC Af nf cf 11) 37)) :=
    ⟨(k0.step hb).step ba, heap_alloc_new w4 _, (rf.below ba (Nat.le_refl _)).more ba.size, Rd.nil, Rd.nil⟩
  clear hb ba k0 o3 rf
  go_wp2_with fail
  generalize w4.heap.size = gf at *
  replace k := k.step (below_drew _)

  refine wp_region_held_drew (S := fun w' => KF w h A n c xs h2 A2 n2 c2 ys Ab nb cb zs gf Af nf cf 11 [1] none 0 0 none 0 0 [] w') (by kernel_rfl) k (fun hHeld => ?_)
  clear hHeld
  change wpAnyH _ _ _ _ _ _ _ _ (World.drew _)
  generalize World.drew _ = W4 at *
  have hHeld := k
  refine wpAnyH_at (i := 0) (some 51) (v := ?v0z1) rfl rfl (by kernel_rfl) (by kernel_rfl) (by kernel_rfl) (fun _ _ _ h => h) (Or.inl ⟨by rfl, ?y0z1⟩) (by assumption) ?r0z1
  case y0z1 =>
    intro w9 hSw
    clear hSw
    go_simp
    all_goals with_reducible rfl
  simp only [Act.put, List.setIfInBounds_toArray, List.set_cons_zero, List.set_cons_succ]
  refine wpAnyH_at (i := 1) (some 52) (v := ?v1z2) rfl rfl (by kernel_rfl) (by kernel_rfl) (by kernel_rfl) (fun _ _ _ h => h) (Or.inl ⟨by rfl, ?y1z2⟩) (by assumption) ?r1z2
  case y1z2 =>
    intro w9 hSw
    (obtain ⟨a0, a1⟩ := (show KF w h A n c xs h2 A2 n2 c2 ys Ab nb cb zs gf Af nf cf 11 [1] none 0 0 none 0 0 [] w9 from hSw).fault); clear hSw
    go_simp
    all_goals with_reducible rfl
  simp only [Act.put, List.setIfInBounds_toArray, List.set_cons_zero, List.set_cons_succ]
  refine wpAnyH_one (i := 2) (by kernel_rfl) rfl ?_
  go_wp2_with (go_at_call 11; refine (is_err Af nf cf 1 11 _ k.k.kn.laid k.r (by decide)).mono ?_; rintro ev V1 ⟨rfl, hb⟩)
  replace k := k.step hb
  clear hb hHeld
  have hHeld := k
  refine ⟨hHeld, ?_⟩
  try simp only [Act.put, List.setIfInBounds_toArray, List.set_cons_zero, List.set_cons_succ]
  refine wpAnyH_at (i := 3) (some 54) (v := ?v3z3) rfl rfl (by kernel_rfl) (by kernel_rfl) (by kernel_rfl) (fun _ _ _ h => h) (Or.inl ⟨by rfl, ?y3z3⟩) (by assumption) ?r3z3
  case y3z3 =>
    intro w9 hSw
    clear hSw
    go_simp
    all_goals with_reducible rfl
  simp only [Act.put, List.setIfInBounds_toArray, List.set_cons_zero, List.set_cons_succ]
  refine wpAnyH_at (i := 4) (some 55) (v := ?v4z4) rfl rfl (by kernel_rfl) (by kernel_rfl) (by kernel_rfl) (fun _ _ _ h => h) (Or.inl ⟨by rfl, ?y4z4⟩) (by assumption) ?r4z4
  case y4z4 =>
    intro w9 hSw
    clear hSw
    go_simp
    all_goals with_reducible rfl
  simp only [Act.put, List.setIfInBounds_toArray, List.set_cons_zero, List.set_cons_succ]
  refine wpAnyH_at (i := 5) (some 56) (v := ?v5z5) rfl rfl (by kernel_rfl) (by kernel_rfl) (by kernel_rfl) (fun _ _ _ h => h) (Or.inl ⟨by rfl, ?y5z5⟩) (by assumption) ?r5z5
  case y5z5 =>
    intro w9 hSw
    clear hSw
    go_simp
    all_goals with_reducible rfl
  simp only [Act.put, List.setIfInBounds_toArray, List.set_cons_zero, List.set_cons_succ]
  refine wpAnyH_at (i := 6) (some 57) (v := ?v6z6) rfl rfl (by kernel_rfl) (by kernel_rfl) (by kernel_rfl) (fun _ _ _ h => h) (Or.inl ⟨by rfl, ?y6z6⟩) (by assumption) ?r6z6
  case y6z6 =>
    intro w9 hSw
    clear hSw
    go_simp
    all_goals with_reducible rfl
  simp only [Act.put, List.setIfInBounds_toArray, List.set_cons_zero, List.set_cons_succ]
  refine wpAnyH_one (i := 7) (by kernel_rfl) rfl ?_
  go_wp2_with (go_at_call 14; refine (same_any _ _ _ _ _ _ _ _ _ _ k.b k.d).mono ?_; rintro ev V2 ⟨rfl, hb⟩)
  replace k := k.step hb
  clear hb hHeld
  have hHeld := k
  refine ⟨hHeld, ?_⟩
  try simp only [Act.put, List.setIfInBounds_toArray, List.set_cons_zero, List.set_cons_succ]
  refine wpAnyH_at (i := 8) (some 59) (v := ?v8z7) rfl rfl (by kernel_rfl) (by kernel_rfl) (by kernel_rfl) (fun _ _ _ h => h) (Or.inl ⟨by rfl, ?y8z7⟩) (by assumption) ?r8z7
  case y8z7 =>
    intro w9 hSw
    clear hSw
    go_simp
    all_goals with_reducible rfl
  simp only [Act.put, List.setIfInBounds_toArray, List.set_cons_zero, List.set_cons_succ]
  refine wpAnyH_at (i := 9) (some 60) (v := ?v9z8) rfl rfl (by kernel_rfl) (by kernel_rfl) (by kernel_rfl) (fun _ _ _ h => h) (Or.inl ⟨by rfl, ?y9z8⟩) (by assumption) ?r9z8
  case y9z8 =>
    intro w9 hSw
    clear hSw
    go_simp
    all_goals with_reducible rfl
  simp only [Act.put, List.setIfInBounds_toArray, List.set_cons_zero, List.set_cons_succ]
  refine wpAnyH_at (i := 10) (some 61) (v := ?v10z9) rfl rfl (by kernel_rfl) (by kernel_rfl) (by kernel_rfl) (fun _ _ _ h => h) (Or.inl ⟨by rfl, ?y10z9⟩) (by assumption) ?r10z9
  case y10z9 =>
    intro w9 hSw
    clear hSw
    go_simp
    all_goals with_reducible rfl
  simp only [Act.put, List.setIfInBounds_toArray, List.set_cons_zero, List.set_cons_succ]
  refine wpAnyH_at (i := 11) (some 62) (v := ?v11z10) rfl rfl (by kernel_rfl) (by kernel_rfl) (by kernel_rfl) (fun _ _ _ h => h) (Or.inl ⟨by rfl, ?y11z10⟩) (by assumption) ?r11z10
  case y11z10 =>
    intro w9 hSw
    (obtain ⟨a0, a1, a2, a3⟩ := (show KF w h A n c xs h2 A2 n2 c2 ys Ab nb cb zs gf Af nf cf 11 [1] none 0 0 none 0 0 [] w9 from hSw).k.p.cells); clear hSw
    go_simp
    all_goals with_reducible rfl
  simp only [Act.put, List.setIfInBounds_toArray, List.set_cons_zero, List.set_cons_succ]
  refine wpAnyH_at (i := 12) (some 63) (v := ?v12z11) rfl rfl (by kernel_rfl) (by kernel_rfl) (by kernel_rfl) (fun _ _ _ h => h) (Or.inl ⟨by rfl, ?y12z11⟩) (by assumption) ?r12z11
  case y12z11 =>
    intro w9 hSw
    (obtain ⟨a0, a1, a2, a3⟩ := (show KF w h A n c xs h2 A2 n2 c2 ys Ab nb cb zs gf Af nf cf 11 [1] none 0 0 none 0 0 [] w9 from hSw).k.o.cells); clear hSw
    go_simp
    all_goals with_reducible rfl
  simp only [Act.put, List.setIfInBounds_toArray, List.set_cons_zero, List.set_cons_succ]
  refine wpAnyH_at (i := 14) (some 65) (v := ?v14z12) rfl rfl (by kernel_rfl) (by kernel_rfl) (by kernel_rfl) (fun _ _ _ h => h) (Or.inl ⟨by rfl, ?y14z12⟩) (by assumption) ?r14z12
  case y14z12 =>
    intro w9 hSw
    (obtain ⟨a0, a1, a2, a3⟩ := (show KF w h A n c xs h2 A2 n2 c2 ys Ab nb cb zs gf Af nf cf 11 [1] none 0 0 none 0 0 [] w9 from hSw).k.p.cells); clear hSw
    go_simp
    all_goals with_reducible rfl
  simp only [Act.put, List.setIfInBounds_toArray, List.set_cons_zero, List.set_cons_succ]
  refine wpAnyH_at (i := 16) (some 67) (v := ?v16z13) rfl rfl (by kernel_rfl) (by kernel_rfl) (by kernel_rfl) (fun _ _ _ h => h) (Or.inl ⟨by rfl, ?y16z13⟩) (by assumption) ?r16z13
  case y16z13 =>
    intro w9 hSw
    (obtain ⟨a0, a1, a2, a3⟩ := (show KF w h A n c xs h2 A2 n2 c2 ys Ab nb cb zs gf Af nf cf 11 [1] none 0 0 none 0 0 [] w9 from hSw).k.o.cells); clear hSw
    go_simp
    all_goals with_reducible rfl
  simp only [Act.put, List.setIfInBounds_toArray, List.set_cons_zero, List.set_cons_succ]
  refine wpAnyH_one (i := 13) (by kernel_rfl) rfl ?_
  go_wp2_with (go_at_call 17; refine (same_pk h h2 _ _ _ _ _ _ xs ys _ k.k.rp' k.k.ro').mono ?_; rintro ev V7 ⟨rfl, hb⟩)
  replace k := k.step hb
  clear hb hHeld
  have hHeld := k
  refine ⟨hHeld, ?_⟩
  try simp only [Act.put, List.setIfInBounds_toArray, List.set_cons_zero, List.set_cons_succ]
  refine wpAnyH_one (i := 15) (by kernel_rfl) rfl ?_
  go_wp2_with (go_at_call 13; refine (of_pk h A n c xs _ k.k.rp' (by omega)).mono ?_; rintro ev V8 ⟨A8, n8, c8, rfl, o8, hb⟩)
  replace k := k.step hb
  clear hb hHeld
  have hHeld := k
  refine ⟨hHeld, ?_⟩
  try simp only [Act.put, List.setIfInBounds_toArray, List.set_cons_zero, List.set_cons_succ]
  refine wpAnyH_one (i := 17) (by kernel_rfl) rfl ?_
  go_wp2_with (go_at_call 13; refine (of_pk h2 A2 n2 c2 ys _ k.k.ro' (by omega)).mono ?_; rintro ev V9 ⟨A9, n9, c9, rfl, o9, hb⟩)
  replace k := k.step hb
  replace o8 := o8.below hb (Nat.le_refl _)
  clear hb hHeld
  have hHeld := k
  refine ⟨hHeld, ?_⟩
  try simp only [Act.put, List.setIfInBounds_toArray, List.set_cons_zero, List.set_cons_succ]
  refine wpAnyH_one (i := 18) (by kernel_rfl) rfl ?_
  go_wp2_with (go_at_call 12; refine (refSame_pk h h2 _ _ _ _ _ _ xs ys _ o8.rd o9.rd).mono ?_; rintro ev V10 ⟨rfl, hb⟩)
  replace k := k.step hb
  clear o8 o9
  clear hb hHeld
  have hHeld := k
  refine ⟨hHeld, ?_⟩
  try simp only [Act.put, List.setIfInBounds_toArray, List.set_cons_zero, List.set_cons_succ]
  refine wpAnyH_at (i := 19) (some 70) (v := ?v19z14) rfl rfl (by kernel_rfl) (by kernel_rfl) (by kernel_rfl) (fun _ _ _ h => h) (Or.inl ⟨by rfl, ?y19z14⟩) (by assumption) ?r19z14
  case y19z14 =>
    intro w9 hSw
    clear hSw
    go_simp
    all_goals with_reducible rfl
  simp only [Act.put, List.setIfInBounds_toArray, List.set_cons_zero, List.set_cons_succ]
  refine wpAnyH_at (i := 20) (some 71) (v := ?v20z15) rfl rfl (by kernel_rfl) (by kernel_rfl) (by kernel_rfl) (fun _ _ _ h => h) (Or.inl ⟨by rfl, ?y20z15⟩) (by assumption) ?r20z15
  case y20z15 =>
    intro w9 hSw
    clear hSw
    go_simp
    all_goals with_reducible rfl
  simp only [Act.put, List.setIfInBounds_toArray, List.set_cons_zero, List.set_cons_succ]
  refine wpAnyH_done (by kernel_rfl) ?_ _
  clear hHeld
  go_wp2
  go_ret
  exact ⟨rfl, k.k.kn.below⟩
end Go.Proofs.YtmgdfckhnjihpaaDoor
