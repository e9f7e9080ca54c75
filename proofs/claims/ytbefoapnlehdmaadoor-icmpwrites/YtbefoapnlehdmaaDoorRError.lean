/-
  Contract of Error.
-/
import Derived.Test.YtbefoapnlehdmaaDoorRInner
namespace Go.Proofs.YtbefoapnlehdmaaDoor
open Go.RowKit
set_option linter.unusedVariables false

theorem min8_run (pos : String) (aft) (w : World) (n k : Nat) (tm : Array Value) (d) (h16 : tm[16]? = some (.int .i64 (n : Int))) (hk : k = min n 8) :
    Sem.run Tryd.prog (execOp ({ tmps := tm, defers := d } : Act).eval ⟨some 17, Op.call { callee := .builtin .min, args := #[.tmp 16, .const (.int .i64 8)], argTypes := #[3, 3] }, 3, pos, aft, none⟩) w = .ok (.value (.int .i64 (k : Int))) w := by
  subst hk
  by_cases q : n < 8
  · rw [Nat.min_eq_left (by omega)]
    have q1 : (n : Int) < 8 := by omega
    have q2 : ¬ (8 : Int) < (n : Int) := by omega
    go_simp
  · rw [Nat.min_eq_right (by omega)]
    by_cases q3 : n = 8
    · subst q3
      go_simp
    · have q2 : (8 : Int) < (n : Int) := by omega
      have q1 : ¬ (n : Int) < 8 := by omega
      go_simp
theorem cut8_run (pos : String) (aft) (w : World) (A : Option Addr) (n c k : Nat) (tm : Array Value) (d) (h13 : tm[13]? = some (.slice A n c)) (h17 : tm[17]? = some (.int .i64 (k : Int))) (hkc : k ≤ c) :
    Sem.run Tryd.prog (execOp ({ tmps := tm, defers := d } : Act).eval ⟨some 18, Op.slice 22 (.tmp 13) none (some (.tmp 17)) none, 22, pos, aft, none⟩) w = .ok (.value (.slice A k c)) w := by
  have q1 : (k : Int) ≤ (c : Int) := by omega
  go_simp
/-- What the walk of Error knows: the packet's box, the answer's block, the head. -/
structure KE (w : World) (h : Hd) (A : Option Addr) (n c : Nat) (xs : List Int) (gH : Nat) (Y : List Int) (W : World) : Prop where
  pk : PkAt W w.heap.size 60 h A n c
  z : MsAt W (w.heap.size + 1) 27 zeroS none 0 0
  hd : Row W gH Y
  rd : Rd .u8 W w.heap.size A n c xs
  below : Below w.heap.size w W
  l : w.heap.size + 1 < gH
section
variable {w W V : World} {h : Hd} {A : Option Addr} {n c gH gB : Nat} {xs Y ys zs : List Int}
theorem KE.step (q : KE w h A n c xs gH Y W) (hb : Below W.heap.size W V) : KE w h A n c xs gH Y V := ⟨q.pk.step hb, q.z.step hb, q.hd.below hb q.hd.lt, q.rd.below hb q.below.size, q.below.trans (hb.mono q.below.size), q.l⟩
theorem KE.only (q : KE w h A n c xs gH Y W) (hl : gH < gB) (ho : Only gB W V) : KE w h A n c xs gH Y V := by
  have := q.l
  exact ⟨q.pk.below ho.below (by omega), q.z.below ho.below (by omega), q.hd.below ho.below hl, ho.rd q.rd (by omega), q.below.trans (ho.below.mono (by omega)), q.l⟩
end
theorem KE.start {w w1 : World} {h : Hd} {A : Option Addr} {n c gH : Nat} {xs Y : List Int} (hr : Rd .u8 w w.heap.size A n c xs) (row : Row w1 gH Y) (hg : ((w.alloc (.cells (pkC h A n c) 60)).alloc (.cells (msC zeroS none 0 0) 27)).heap.size ≤ gH) (hb : Below ((w.alloc (.cells (pkC h A n c) 60)).alloc (.cells (msC zeroS none 0 0) 27)).heap.size ((w.alloc (.cells (pkC h A n c) 60)).alloc (.cells (msC zeroS none 0 0) 27)) w1) : KE w h A n c xs gH Y w1 := by
  have b0 : Below w.heap.size w ((w.alloc (.cells (pkC h A n c) 60)).alloc (.cells (msC zeroS none 0 0) 27)) := (alloc_below w _).alloc (by simp) _
  have s0 : ((w.alloc (.cells (pkC h A n c) 60)).alloc (.cells (msC zeroS none 0 0) 27)).heap.size = w.heap.size + 1 + 1 := by simp
  have z0 : MsAt ((w.alloc (.cells (pkC h A n c) 60)).alloc (.cells (msC zeroS none 0 0) 27)) (w.heap.size + 1) 27 zeroS none 0 0 := by simpa using MsAt.new (w.alloc (.cells (pkC h A n c) 60)) 27 zeroS none 0 0
  have p0 := (PkAt.new w 60 h A n c).step (alloc_below _ (.cells (msC zeroS none 0 0) 27))
  have bl := b0.trans (hb.mono b0.size)
  exact ⟨p0.step hb, z0.step hb, row, hr.below bl (Nat.le_refl _), bl, by omega⟩
theorem cut20_run (pos : String) (aft) (w : World) (g m : Nat) (tm : Array Value) (d) (h28 : tm[28]? = some (.slice (some ⟨g, 0, none⟩) m m)) (h30 : tm[30]? = some (.int .i64 20)) (m2 : 20 ≤ m) :
    Sem.run Tryd.prog (execOp ({ tmps := tm, defers := d } : Act).eval ⟨some 31, Op.slice 22 (.tmp 28) (some (.tmp 30)) none none, 22, pos, aft, none⟩) w = .ok (.value (.slice (cutA (some ⟨g, 0, none⟩) m 20) (m - 20) (m - 20))) w := by
  have k1 : (20 : Int) ≤ (m : Int) := by omega
  by_cases hq : m = 20
  · rw [cutA_eq hq]
    subst hq
    go_simp
  · rw [cutA_ne hq]
    go_simp
theorem esplice (m : Nat) (Y ys : List Int) (hm : Y.length + ys.length = m) : splice (splice (List.replicate m (0 : Int)) 0 Y) Y.length ys = Y ++ ys := splice_two m Y ys hm
set_option maxRecDepth 100000 in
set_option maxHeartbeats 4000000 in
theorem merror_any (kd cd : Int) (h : Hd) (A : Option Addr) (n c k m : Nat) (xs : List Int) (w : World) (hk : h.ok) (hr : Rd .u8 w w.heap.size A n c xs) (hn : n ≤ 65515) (hkn : k = min n 8) (hm : (20 : Int) + (k : Int) = (m : Int)) :
    Calls Tryd.prog 30 #[.int .u8 kd, .int .u8 cd, pkV h A n c] w (GivesK w ⟨kd, cd, 0, 0, 0, 0⟩ (hdR h n ++ xs.take 8) m) := by
  have hcap := hr.cap
  have hl := hr.len
  have kn : k ≤ n := by rw [hkn]; exact Nat.min_le_left _ _
  have k8 : k ≤ 8 := by rw [hkn]; exact Nat.min_le_right _ _
  have kc : k ≤ c := by omega
  have m1 : m ≤ 28 := by omega
  have m2 : 20 ≤ m := by omega
  have m4 : (20 : Int) ≤ (m : Int) := by omega
  have e1 : IntKind.i64.wrap (m : Int) = (m : Int) := by rw [IntKind.wrap_i64]; omega
  have ET : Hid (xs.take 8 = xs.take k) := Lib.hid (by rw [hkn, ← hl, List.take_eq_take_min, Nat.min_comm])
  have HL : Hid ((xs.take k).length = k) := Lib.hid (by rw [List.length_take, hl]; omega)
  have start := fun w1 gH Y row hg hb => KE.start (w := w) (w1 := w1) (h := h) (A := A) (n := n) (c := c) (xs := xs) (gH := gH) (Y := Y) hr row hg hb
  have hh := Lib.hid (fun W => head_any h A n c W hk hn)
  have Hw : Hid (∀ x ∈ hdR h n, (Lit.int .u8 x).wf = true) := Lib.hid (hdR_wf hk hn)
  have HY : Hid ((hdR h n).length = 20) := Lib.hid rfl
  have Hkn := Lib.hid hkn
  have HM := Lib.hid (show 20 + k = m by omega)
  have EL : Hid ((splice (List.replicate m (0 : Int)) 0 (hdR h n)).length = m) := Lib.hid (by rw [splice_len _ _ _ (by rw [List.length_replicate]; show 0 + 20 ≤ m; omega), List.length_replicate])
  have EZ : Hid (splice (splice (List.replicate m (0 : Int)) 0 (hdR h n)) 20 (xs.take k) = hdR h n ++ xs.take k) := Lib.hid (splice_two m (hdR h n) (xs.take k) (by rw [HL.out]; show 20 + k = m; omega))
  have M3 := Lib.hid (show m - 20 = k by omega)
  rw [ET.out]
  clear hr hk hkn hl
  generalize hdR h n = Y at *
  obtain ⟨a0, a1, a2, a3, a4, a5, a6, a7⟩ := (PkAt.new w 60 h A n c).cells
  go_enter Tryd.func30, Tryd.ntmps30
  go_wp2_with (first
    | (go_at_call 52; refine (hh.out _).mono ?_; rintro e w1 ⟨gH, rfl, row, hg, hb⟩; have q := start w1 gH Y row hg hb; clear a0 a1 a2 a3 a4 a5 a6 a7 row hg hb start hh; obtain ⟨a0, a1, a2, a3, a4, a5, a6, a7⟩ := q.pk.cells)
    | (refine wpList_run (dd := some 17) (v := .int .i64 (k : Int)) rfl rfl ?_ ?_; (exact min8_run _ _ _ n k _ _ rfl Hkn.out))
    | (refine wpList_run (dd := some 18) (v := .slice A k c) rfl rfl ?_ ?_; (exact cut8_run _ _ _ A n c k _ _ rfl rfl kc))
    | (at_make; refine wpList_mk (some 24) rfl rfl _ _ 22 rfl Tryd.underlying22 info5 m _ _ rfl rfl rfl rfl (by omega) ?_; intro w2 row2 hs2 hb2; have hgl := q.hd.lt; have bB := q.below.size; have q2 := q.step hb2; clear a0 a1 a2 a3 a4 a5 a6 a7)
    | (refine wpList_cpRow (some 27) rfl rfl (.tmp 25) (.tmp 26) 22 22 rfl Tryd.underlying22 sz5 w1.heap.size 0 (List.replicate m 0) row2 (some ⟨w1.heap.size, 0, none⟩) m m rfl (some ⟨gH, 0, none⟩) 20 20 _ Y rfl (q2.hd.rdW HY.out (by omega) Hw.out) (by rw [List.length_replicate]; omega) m2 (fun _ => rfl) ?_; intro w4 r4 ho4; have q4 := q2.only hgl ho4; clear ho4 row2 q2)
    | (refine wpList_run (dd := some 31) (v := .slice (cutA (some ⟨w1.heap.size, 0, none⟩) m 20) (m - 20) (m - 20)) rfl rfl ?_ ?_; (exact cut20_run _ _ _ _ m _ _ rfl rfl m2))
    | (refine wpList_cpRow (some 33) rfl rfl (.tmp 31) (.tmp 32) 22 22 rfl Tryd.underlying22 sz5 w1.heap.size 20 _ r4 (cutA (some ⟨w1.heap.size, 0, none⟩) m 20) (m - 20) (m - 20) rfl A k c w.heap.size (xs.take k) rfl (q4.rd.cutTo k kn) (by rw [EL.out]; omega) (by omega) (fun h0 => by rw [cutA_ne (by omega)]; rfl) ?_; intro w6 r6 ho6; have q6 := q4.only hgl ho6; clear ho6 r4 q4; rw [EZ.out] at r6; have bB2 := q6.z)
    | (refine wpList_stF rfl rfl 27 _ _ rfl (w.heap.size + 1) (msC ⟨kd, cd, 0, 0, 0, 0⟩ (some ⟨w1.heap.size, 0, none⟩) m m) rfl rfl 27 _ bB2 (by kernel_rfl) rfl (msC_one ..) ?_; intro w7 h7 hb7 ho7 hs7))
  have hgl2 : w.heap.size + 1 < w1.heap.size := Nat.lt_trans q6.l hgl
  have h7' : MsAt w7 (w.heap.size + 1) 27 ⟨kd, cd, 0, 0, 0, 0⟩ (some ⟨w1.heap.size, 0, none⟩) m m := h7
  obtain ⟨c0, c1, c2, c3, c4, c5, c6⟩ := h7'.cells
  exact bodyPost_ret (v := msV ⟨kd, cd, 0, 0, 0, 0⟩ (some ⟨w1.heap.size, 0, none⟩) m m) (by simp [results, Tryd.results30, go_sem, c0, c1, c2, c3, c4, c5, c6]) rfl ⟨w1.heap.size, rfl, (ho7 _ (Nat.ne_of_gt hgl2)).trans r6, bB, q6.below.trans (hb7.mono (Nat.le_succ _))⟩
theorem merror_ok (kd cd : Int) (h : Hd) (A : Option Addr) (n c : Nat) (xs : List Int) (w : World) (hk : h.ok) (hr : Rd .u8 w w.heap.size A n c xs) (hn : n ≤ 65515) :
    Calls Tryd.prog 30 #[.int .u8 kd, .int .u8 cd, pkV h A n c] w (GivesK w ⟨kd, cd, 0, 0, 0, 0⟩ (hdR h n ++ xs.take 8) (20 + min n 8)) :=
  merror_any kd cd h A n c (min n 8) (20 + min n 8) xs w hk hr hn rfl (by omega)
end Go.Proofs.YtbefoapnlehdmaaDoor

namespace Go.Proofs.YtbefoapnlehdmaaDoor
open Go.RowKit
set_option linter.unusedVariables false

theorem min8_runR (pos : String) (aft) (w : World) (n k : Nat) (tm : Array Value) (d) (h16 : tm[14]? = some (.int .i64 (n : Int))) (hk : k = min n 8) :
    Sem.run Tryd.prog (execOp ({ tmps := tm, defers := d } : Act).eval ⟨some 15, Op.call { callee := .builtin .min, args := #[.tmp 14, .const (.int .i64 8)], argTypes := #[3, 3] }, 3, pos, aft, none⟩) w = .ok (.value (.int .i64 (k : Int))) w := by
  subst hk
  by_cases q : n < 8
  · rw [Nat.min_eq_left (by omega)]
    have q1 : (n : Int) < 8 := by omega
    have q2 : ¬ (8 : Int) < (n : Int) := by omega
    go_simp
  · rw [Nat.min_eq_right (by omega)]
    by_cases q3 : n = 8
    · subst q3
      go_simp
    · have q2 : (8 : Int) < (n : Int) := by omega
      have q1 : ¬ (n : Int) < 8 := by omega
      go_simp
theorem cut8_runR (pos : String) (aft) (w : World) (A : Option Addr) (n c k : Nat) (tm : Array Value) (d) (h13 : tm[11]? = some (.slice A n c)) (h17 : tm[15]? = some (.int .i64 (k : Int))) (hkc : k ≤ c) :
    Sem.run Tryd.prog (execOp ({ tmps := tm, defers := d } : Act).eval ⟨some 16, Op.slice 22 (.tmp 11) none (some (.tmp 15)) none, 22, pos, aft, none⟩) w = .ok (.value (.slice A k c)) w := by
  have q1 : (k : Int) ≤ (c : Int) := by omega
  go_simp
/-- What the walk knows: the packet's box, the answer's block. -/
structure KRe (w : World) (h : Hd) (A : Option Addr) (n c : Nat) (xs : List Int) (W : World) : Prop where
  pk : PkAt W w.heap.size 63 h A n c
  z : MsAt W (w.heap.size + 1) 32 zeroS none 0 0
  rd : Rd .u8 W w.heap.size A n c xs
  below : Below w.heap.size w W
section
variable {w W V : World} {h : Hd} {A : Option Addr} {n c B : Nat} {xs : List Int}
theorem KRe.sz (q : KRe w h A n c xs W) : w.heap.size + 2 ≤ W.heap.size := q.z.lt
theorem KRe.low (q : KRe w h A n c xs W) (hB : w.heap.size + 2 ≤ B) (hb : Below B W V) : KRe w h A n c xs V := ⟨q.pk.below hb (by omega), q.z.below hb (by omega), q.rd.below hb (by omega), q.below.trans (hb.mono (by omega))⟩
theorem KRe.step (q : KRe w h A n c xs W) (hb : Below W.heap.size W V) : KRe w h A n c xs V := q.low q.sz hb
theorem KRe.start (hr : Rd .u8 w w.heap.size A n c xs) : KRe w h A n c xs ((w.alloc (.cells (pkC h A n c) 63)).alloc (.cells (msC zeroS none 0 0) 32)) := by
  have b0 : Below w.heap.size w ((w.alloc (.cells (pkC h A n c) 63)).alloc (.cells (msC zeroS none 0 0) 32)) := (alloc_below w _).alloc (by simp) _
  exact ⟨(PkAt.new w 63 h A n c).step (alloc_below _ _), by simpa using MsAt.new (w.alloc (.cells (pkC h A n c) 63)) 32 zeroS none 0 0, hr.below b0 (Nat.le_refl _), b0⟩
end
set_option maxRecDepth 100000 in
set_option maxHeartbeats 4000000 in
theorem refError_any (kd cd : Int) (h : Hd) (A : Option Addr) (n c k : Nat) (xs : List Int) (w : World) (hk : h.ok) (hr : Rd .u8 w w.heap.size A n c xs) (hn : n ≤ 65515) (hkn : k = min n 8) :
    Calls Tryd.prog 31 #[.int .u8 kd, .int .u8 cd, pkV h A n c] w (GivesMs w ⟨kd, cd, 0, 0, 0, 0⟩ (hdR h n ++ xs.take 8)) := by
  have hcap := hr.cap
  have hl := hr.len
  have kn : k ≤ n := by rw [hkn]; exact Nat.min_le_left _ _
  have k8 : k ≤ 8 := by rw [hkn]; exact Nat.min_le_right _ _
  have kc : k ≤ c := by omega
  have ET : Hid (xs.take 8 = xs.take k) := Lib.hid (by rw [hkn, ← hl, List.take_eq_take_min, Nat.min_comm])
  have st : KRe w h A n c xs _ := KRe.start hr
  have hh := Lib.hid (fun W => refHead_any h A n c W hk hn)
  have HY : Hid ((hdR h n).length = 20) := Lib.hid rfl
  have Hkn := Lib.hid hkn
  rw [ET.out]
  clear hr hk hkn hl
  generalize hdR h n = Y at *
  go_enter Tryd.func31, Tryd.ntmps31
  go_wp2_with fail
  revert st
  change KRe w h A n c xs ((w.alloc (.cells (pkC h A n c) 63)).alloc (.cells (msC zeroS none 0 0) 32)) → Code.wp _ _ _ _ ((w.alloc (.cells (pkC h A n c) 63)).alloc (.cells (msC zeroS none 0 0) 32))
  generalize ((w.alloc (.cells (pkC h A n c) 63)).alloc (.cells (msC zeroS none 0 0) 32)) = W0
  intro st
  refine wp_region_held_drew (S := fun w' => KRe w h A n c xs w') (by kernel_rfl) (st.step (below_drew _)) (fun hHeld => ?_)
  replace st := st.step (below_drew _)
  generalize W0.drew = W1 at *
  refine wpAnyH_at (i := 0) (some 8) (v := ?v0z1) rfl rfl (by kernel_rfl) (by kernel_rfl) (by kernel_rfl) (fun _ _ _ h => h) (Or.inl ⟨by rfl, ?y0z1⟩) (by assumption) ?r0z1
  case y0z1 =>
    intro w9 hSw
    (obtain ⟨a0, a1, a2, a3, a4, a5, a6, a7⟩ := (show KRe w h A n c xs w9 from hSw).pk.cells); clear hSw
    go_simp
    all_goals with_reducible rfl
  simp only [Act.put, List.setIfInBounds_toArray, List.set_cons_zero, List.set_cons_succ]
  refine wpAnyH_at (i := 2) (some 10) (v := ?v2z2) rfl rfl (by kernel_rfl) (by kernel_rfl) (by kernel_rfl) (fun _ _ _ h => h) (Or.inl ⟨by rfl, ?y2z2⟩) (by assumption) ?r2z2
  case y2z2 =>
    intro w9 hSw
    clear hSw
    go_simp
    all_goals with_reducible rfl
  simp only [Act.put, List.setIfInBounds_toArray, List.set_cons_zero, List.set_cons_succ]
  refine wpAnyH_at (i := 3) (some 11) (v := ?v3z3) rfl rfl (by kernel_rfl) (by kernel_rfl) (by kernel_rfl) (fun _ _ _ h => h) (Or.inl ⟨by rfl, ?y3z3⟩) (by assumption) ?r3z3
  case y3z3 =>
    intro w9 hSw
    (obtain ⟨a0, a1, a2, a3, a4, a5, a6, a7⟩ := (show KRe w h A n c xs w9 from hSw).pk.cells); clear hSw
    go_simp
    all_goals with_reducible rfl
  simp only [Act.put, List.setIfInBounds_toArray, List.set_cons_zero, List.set_cons_succ]
  refine wpAnyH_at (i := 4) (some 12) (v := ?v4z4) rfl rfl (by kernel_rfl) (by kernel_rfl) (by kernel_rfl) (fun _ _ _ h => h) (Or.inl ⟨by rfl, ?y4z4⟩) (by assumption) ?r4z4
  case y4z4 =>
    intro w9 hSw
    clear hSw
    go_simp
    all_goals with_reducible rfl
  simp only [Act.put, List.setIfInBounds_toArray, List.set_cons_zero, List.set_cons_succ]
  refine wpAnyH_at (i := 5) (some 13) (v := ?v5z5) rfl rfl (by kernel_rfl) (by kernel_rfl) (by kernel_rfl) (fun _ _ _ h => h) (Or.inl ⟨by rfl, ?y5z5⟩) (by assumption) ?r5z5
  case y5z5 =>
    intro w9 hSw
    (obtain ⟨a0, a1, a2, a3, a4, a5, a6, a7⟩ := (show KRe w h A n c xs w9 from hSw).pk.cells); clear hSw
    go_simp
    all_goals with_reducible rfl
  simp only [Act.put, List.setIfInBounds_toArray, List.set_cons_zero, List.set_cons_succ]
  refine wpAnyH_at (i := 6) (some 14) (v := ?v6z6) rfl rfl (by kernel_rfl) (by kernel_rfl) (by kernel_rfl) (fun _ _ _ h => h) (Or.inl ⟨by rfl, ?y6z6⟩) (by assumption) ?r6z6
  case y6z6 =>
    intro w9 hSw
    clear hSw
    go_simp
    all_goals with_reducible rfl
  simp only [Act.put, List.setIfInBounds_toArray, List.set_cons_zero, List.set_cons_succ]
  refine wpAnyH_at (i := 7) (some 15) (v := .int .i64 (k : Int)) rfl rfl (by kernel_rfl) (by kernel_rfl) (by kernel_rfl) (fun _ _ _ h => h) (Or.inl ⟨by rfl, fun w9 _ => min8_runR _ _ _ n k _ _ rfl Hkn.out⟩) (by assumption) ?_
  simp only [Act.put, List.setIfInBounds_toArray, List.set_cons_zero, List.set_cons_succ]
  refine wpAnyH_at (i := 8) (some 16) (v := .slice A k c) rfl rfl (by kernel_rfl) (by kernel_rfl) (by kernel_rfl) (fun _ _ _ h => h) (Or.inl ⟨by rfl, fun w9 _ => cut8_runR _ _ _ A n c k _ _ rfl rfl kc⟩) (by assumption) ?_
  simp only [Act.put, List.setIfInBounds_toArray, List.set_cons_zero, List.set_cons_succ]
  refine wpAnyH_one (i := 1) (by kernel_rfl) rfl ?_
  go_wp2_with (go_at_call 53; refine (hh.out _).mono ?_; rintro e W2 ⟨A1, n1, c1, rfl, o1, hb⟩)
  replace o1 := o1.rebase st.sz
  replace st := st.step hb
  obtain rfl : n1 = 20 := o1.len.symm.trans HY.out
  clear hb hHeld
  have hHeld := st
  refine ⟨hHeld, ?_⟩
  try simp only [Act.put, List.setIfInBounds_toArray, List.set_cons_zero, List.set_cons_succ]
  refine wpAnyH_one (i := 9) (by kernel_rfl) rfl ?_
  refine wpList_appD (some 17) rfl rfl (.tmp 9) (.tmp 16) 22 rfl (w.heap.size + 2) Tryd.underlying22 info5 (by omega) A1 20 c1 Y rfl o1 A k c w.heap.size (xs.take k) rfl (st.rd.cutTo k kn) (by omega) st.sz ?_
  intro A2 n2 c2 W3 o2 hgr
  replace st := st.low (Nat.le_refl _) (grown_low o1 hgr st.sz)
  clear hgr o1 hHeld
  have hHeld := st
  go_wp2
  refine ⟨hHeld, ?_⟩
  try simp only [Act.put, List.setIfInBounds_toArray, List.set_cons_zero, List.set_cons_succ]
  refine wpAnyH_at (i := 10) (some 7) (v := ?v10z7) rfl rfl (by kernel_rfl) (by kernel_rfl) (by kernel_rfl) (fun _ _ _ h => h) (Or.inl ⟨by rfl, ?y10z7⟩) (by assumption) ?r10z7
  case y10z7 =>
    intro w9 hSw
    clear hSw
    go_simp
    all_goals with_reducible rfl
  simp only [Act.put, List.setIfInBounds_toArray, List.set_cons_zero, List.set_cons_succ]
  refine wpAnyH_done (by kernel_rfl) ?_ _
  clear hHeld
  have z2 := st.z
  go_wp2_with (refine wpList_stF rfl rfl 32 _ _ rfl (w.heap.size + 1) (msC ⟨kd, cd, 0, 0, 0, 0⟩ A2 n2 c2) rfl rfl 32 _ z2 (by kernel_rfl) rfl (msC_one ..) ?_; intro w7 h7 hb7 ho7 hs7)
  have h7' : MsAt w7 (w.heap.size + 1) 32 ⟨kd, cd, 0, 0, 0, 0⟩ A2 n2 c2 := h7
  obtain ⟨d0, d1, d2, d3, d4, d5, d6⟩ := h7'.cells
  exact bodyPost_ret (v := msV ⟨kd, cd, 0, 0, 0, 0⟩ A2 n2 c2) (by simp [results, Tryd.results31, go_sem, d0, d1, d2, d3, d4, d5, d6]) rfl ⟨A2, n2, c2, rfl, (o2.other (fun j hj => ho7 j (by omega))).rebase (by omega), st.below.trans (hb7.mono (by omega))⟩
end Go.Proofs.YtbefoapnlehdmaaDoor
