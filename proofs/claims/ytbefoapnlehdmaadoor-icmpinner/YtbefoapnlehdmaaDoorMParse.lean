/-
  Contracts of Marked, and of the document's.
-/
import Derived.Test.YtbefoapnlehdmaaDoorMSame
import Derived.Test.YtbefoapnlehdmaaDoorRApp
namespace Go.Proofs.YtbefoapnlehdmaaDoor
open Go.RowKit

/-- What the walks know: the message's box, the answer's block. -/
structure KMk (w : World) (T : TypeId) (h : Ms) (A : Option Addr) (n c : Nat) (xs : List Int) (W : World) : Prop where
  ms : MsAt W w.heap.size T h A n c
  z : ∃ cs, cs.size = 7 ∧ W.heap[w.heap.size + 1]? = some (.cells cs T (0, 0))
  rd : Rd .u8 W w.heap.size A n c xs
  below : Below w.heap.size w W
section
variable {w W V : World} {T : TypeId} {h h' : Ms} {A : Option Addr} {n c : Nat} {xs : List Int}
theorem KMk.step (q : KMk w T h A n c xs W) (hb : Below W.heap.size W V) : KMk w T h A n c xs V := ⟨q.ms.step hb, (by obtain ⟨cs, h1, h2⟩ := q.z; exact ⟨cs, h1, (hb.block _ (blk_lt h2)).trans h2⟩), q.rd.below hb q.below.size, q.below.trans (hb.mono q.below.size)⟩
theorem KMk.only (q : KMk w T h A n c xs W) (ho : Only w.heap.size W V) (hm : MsAt V w.heap.size T h' A n c) : KMk w T h' A n c xs V := ⟨hm, (by obtain ⟨cs, h1, h2⟩ := q.z; exact ⟨cs, h1, (ho.other _ (by omega)).trans h2⟩), ho.rd q.rd (Nat.le_refl _), q.below.trans ho.below⟩
theorem KMk.start (hr : Rd .u8 w w.heap.size A n c xs) : KMk w T h A n c xs ((w.alloc (.cells (msC h A n c) T)).alloc (.cells (msC zeroS none 0 0) T)) := by
  have hb0 : Below w.heap.size w ((w.alloc (.cells (msC h A n c) T)).alloc (.cells (msC zeroS none 0 0) T)) := (alloc_below w _).alloc (by simp) _
  exact ⟨(MsAt.new w T h A n c).step (alloc_below _ _), ⟨msC zeroS none 0 0, rfl, by simpa using heap_alloc_new (w.alloc (.cells (msC h A n c) T)) (.cells (msC zeroS none 0 0) T)⟩, hr.below hb0 (Nat.le_refl _), hb0⟩
theorem KMk.lt (q : KMk w T h A n c xs W) : w.heap.size + 1 < W.heap.size := by
  obtain ⟨cs, _, h2⟩ := q.z
  exact blk_lt h2
end
/-- What Marked answers: a body of the call's own, known whole. -/
def GivesK (w : World) (h : Ms) (xs : List Int) (n : Nat) (ev : Ending) (w' : World) : Prop :=
  ∃ g, ev = .returned (msV h (some ⟨g, 0, none⟩) n n) ∧ Row w' g xs ∧ w.heap.size ≤ g ∧ Below w.heap.size w w'
set_option maxRecDepth 100000 in
set_option maxHeartbeats 4000000 in
theorem marked_any (h : Ms) (A : Option Addr) (n c : Nat) (xs : List Int) (k : Int) (w : World) (hr : Rd .u8 w w.heap.size A n c xs) (hn : n ≤ 100000) (hb : 0 ≤ k ∧ k ≤ 65535) :
    Calls Tryd.prog 23 #[msV h A n c, .int .u16 k] w (GivesK w (mkS h k) xs n) := by
  have q : KMk w 27 h A n c xs _ := KMk.start hr
  clear hr
  go_enter Tryd.func23, Tryd.ntmps23
  go_wp2_with fail
  refine (mlayMark_any w.heap.size h A n c k _ q.ms hb).mono ?_
  rintro e w1 ⟨rfl, hm, ho⟩
  replace q := q.only ho hm
  clear hm ho
  obtain ⟨a0, a1, a2, a3, a4, a5, a6⟩ := q.ms.cells
  go_wp2_with fail
  refine (mcp_any A n c xs _ (q.rd.more q.below.size) hn).mono ?_
  rintro e w2 ⟨g, rfl, row, hg, hb2⟩
  have s1 := q.below.size
  have s2 := q.lt
  replace q := q.step hb2
  clear a0 a1 a2 a3 a4 a5 a6 hb2
  have z6 := q.ms.frozen 6
  obtain ⟨a0, a1, a2, a3, a4, a5, a6⟩ := q.ms.cells
  have hM : MsAt (w2.setCell ⟨w.heap.size, 6, none⟩ (.slice (some ⟨g, 0, none⟩) n n)) w.heap.size 27 (mkS h k) (some ⟨g, 0, none⟩) n n := heap_setCell q.ms _
  have ho := Only.setCell w.heap.size 6 w2 (.slice (some ⟨g, 0, none⟩) n n)
  obtain ⟨b0, b1, b2, b3, b4, b5, b6⟩ := hM.cells
  obtain ⟨cs, hcs, hz⟩ := q.z
  have hz' := (ho.other (w.heap.size + 1) (by omega)).trans hz
  go_wp2_with (refine wpList_stF rfl rfl 27 _ _ rfl (w.heap.size + 1) (msC (mkS h k) (some ⟨g, 0, none⟩) n n) rfl rfl 27 cs hz' (by kernel_rfl) hcs (msC_one ..) ?_; intro w7 h7 hb7 ho7 hs7)
  have h7' : MsAt w7 (w.heap.size + 1) 27 (mkS h k) (some ⟨g, 0, none⟩) n n := h7
  obtain ⟨d0, d1, d2, d3, d4, d5, d6⟩ := h7'.cells
  refine bodyPost_ret (v := msV (mkS h k) (some ⟨g, 0, none⟩) n n) (by simp [results, Tryd.results23, go_sem, d0, d1, d2, d3, d4, d5, d6]) rfl ⟨g, rfl, ?_, by omega, q.below.trans (ho.below.trans (hb7.mono (by omega)))⟩
  exact (ho7 g (by omega)).trans ((ho.other g (by omega)).trans row)
theorem KMk.low {w W V : World} {T : TypeId} {h : Ms} {A : Option Addr} {n c B : Nat} {xs : List Int} (q : KMk w T h A n c xs W) (hB : w.heap.size + 2 ≤ B) (hb : Below B W V) : KMk w T h A n c xs V := ⟨q.ms.below hb (by omega), (by obtain ⟨cs, h1, h2⟩ := q.z; exact ⟨cs, h1, (hb.block _ (by omega)).trans h2⟩), q.rd.below hb (by omega), q.below.trans (hb.mono (by omega))⟩
set_option maxRecDepth 100000 in
set_option maxHeartbeats 4000000 in
theorem refMarked_any (h : Ms) (A : Option Addr) (n c : Nat) (xs : List Int) (k : Int) (w : World) (hr : Rd .u8 w w.heap.size A n c xs) (hn : n ≤ 100000) (hb : 0 ≤ k ∧ k ≤ 65535) :
    Calls Tryd.prog 24 #[msV h A n c, .int .u16 k] w (GivesMs w (mkS h k) xs) := by
  have q0 : KMk w 32 (mkS h k) A n c xs (((w.alloc (.cells (msC (mkS h k) A n c) 32)).alloc (.cells (msC zeroS none 0 0) 32)).alloc (.cells #[] 5)) := (KMk.start hr).step (alloc_below _ _)
  have o0 : Out .u8 5 (((w.alloc (.cells (msC (mkS h k) A n c) 32)).alloc (.cells (msC zeroS none 0 0) 32)).alloc (.cells #[] 5)) (w.heap.size + 2) (some ⟨w.heap.size + 1 + 1, 0, none⟩) 0 0 [] := by
    have := Out.lit0 .u8 5 ((w.alloc (.cells (msC (mkS h k) A n c) 32)).alloc (.cells (msC zeroS none 0 0) 32)) (w.heap.size + 2) (by simp)
    simpa using this
  clear hr
  have e1 : IntKind.u8.wrap (k / 256) = k / 256 := by rw [IntKind.wrap_u8]; omega
  have e2 : IntKind.u8.wrap (k % 256) = k % 256 := by rw [IntKind.wrap_u8]; omega
  have q1 : k.tdiv 256 = k / 256 := by rw [Int.tdiv_eq_ediv_of_nonneg (by omega)]
  have q2 : k.tmod 256 = k % 256 := by rw [Int.tmod_eq_emod_of_nonneg (by omega)]
  have v1 : IntKind.u16.wrap (k / 256) = k / 256 := by rw [IntKind.wrap_u16]; omega
  have v2 : IntKind.u16.wrap (k % 256) = k % 256 := by rw [IntKind.wrap_u16]; omega
  go_enter Tryd.func24, Tryd.ntmps24
  go_wp2_with (first
    | (at_builtin; refine wpList_app rfl (.tmp 15) (.tmp 17) 22 rfl (w.heap.size + 2) Tryd.underlying22 info5 (by omega) (some ⟨w.heap.size + 1 + 1, 0, none⟩) 0 0 [] rfl o0 A n c w.heap.size xs rfl q0.rd (by omega) q0.lt ?_; intro A1 n1 c1 w3 o3 hgr; have q3 := q0.low (Nat.le_refl _) (grown_low o0 hgr q0.lt); rw [List.nil_append] at o3; clear q0 o0 hgr; have z6 := q3.ms.frozen 6; obtain ⟨a0, a1, a2, a3, a4, a5, a6⟩ := q3.ms.cells; have hM : MsAt (w3.setCell ⟨w.heap.size, 6, none⟩ (.slice A1 n1 c1)) w.heap.size 32 (mkS h k) A1 n1 c1 := heap_setCell q3.ms _; have ho := Only.setCell w.heap.size 6 w3 (.slice A1 n1 c1); obtain ⟨b0, b1, b2, b3, b4, b5, b6⟩ := hM.cells; obtain ⟨cs, hcs, hz⟩ := q3.z; have hz' := (ho.other (w.heap.size + 1) (by omega)).trans hz)
    | (refine wpList_stF rfl rfl 32 _ _ rfl (w.heap.size + 1) (msC (mkS h k) A1 n1 c1) rfl rfl 32 cs hz' (by kernel_rfl) hcs (msC_one ..) ?_; intro w7 h7 hb7 ho7 hs7))
  have h7' : MsAt w7 (w.heap.size + 1) 32 (mkS h k) A1 n1 c1 := h7
  obtain ⟨d0, d1, d2, d3, d4, d5, d6⟩ := h7'.cells
  refine bodyPost_ret (v := msV (mkS h k) A1 n1 c1) (by simp [results, Tryd.results24, go_sem, d0, d1, d2, d3, d4, d5, d6]) rfl ⟨A1, n1, c1, rfl, ?_, q3.below.trans (ho.below.trans (hb7.mono (by omega)))⟩
  exact ((o3.other (fun j hj => ho.other j (by omega))).other (fun j hj => ho7 j (by omega))).rebase (by omega)
end Go.Proofs.YtbefoapnlehdmaaDoor

namespace Go.Proofs.YtbefoapnlehdmaaDoor
open Go.RowKit

theorem mbytes_far (h : Ms) (A : Option Addr) (n c : Nat) (w : World) (hn : 1472 < n) (hmax : n ≤ 9223372036854775807) :
    Calls Tryd.prog 16 #[msV h A n c] w fun ev w' => ev = .returned (.tuple #[.slice none 0 0, errV 1 11]) ∧ Below w.heap.size w w' := by
  have n1 : (1472 : Int) < (n : Int) := by omega
  obtain ⟨a0, a1, a2, a3, a4, a5, a6⟩ := (MsAt.new w 27 h A n c).cells
  go_enter Tryd.func16, Tryd.ntmps16
  go_wp2_with (go_at_call 35; refine (mwrong_any 11 _ (by decide)).mono ?_; rintro e w1 ⟨rfl, rfl⟩)
  go_ret2
  exact ⟨rfl, alloc_below _ _⟩
/-- What the walk knows: the message's box, what stands ahead, the row. -/
structure KMb (w : World) (h : Ms) (A : Option Addr) (n c : Nat) (xs : List Int) (gH gB : Nat) (ys : List Int) (W : World) : Prop where
  ms : MsAt W w.heap.size 27 h A n c
  ah : AhAt W gH 83 h
  row : Row W gB ys
  rd : Rd .u8 W w.heap.size A n c xs
  below : Below w.heap.size w W
  l1 : w.heap.size < gH
  l2 : gH < gB
section
variable {w W V : World} {h : Ms} {A : Option Addr} {n c gH gB : Nat} {xs ys zs : List Int}
theorem KMb.step (q : KMb w h A n c xs gH gB ys W) (hb : Below W.heap.size W V) : KMb w h A n c xs gH gB ys V := ⟨q.ms.step hb, (hb.block _ (blk_lt q.ah)).trans q.ah, q.row.below hb q.row.lt, q.rd.below hb q.below.size, q.below.trans (hb.mono q.below.size), q.l1, q.l2⟩
theorem KMb.only (q : KMb w h A n c xs gH gB ys W) (ho : Only gB W V) (hr : Row V gB zs) : KMb w h A n c xs gH gB zs V :=
  ⟨q.ms.below ho.below (Nat.lt_trans q.l1 q.l2), (ho.other _ (Nat.ne_of_lt q.l2)).trans q.ah, hr, ho.rd q.rd (Nat.le_of_lt (Nat.lt_trans q.l1 q.l2)), q.below.trans (ho.below.mono (Nat.le_of_lt (Nat.lt_trans q.l1 q.l2))), q.l1, q.l2⟩
end
theorem KMb.start {w w1 w2 : World} {h : Ms} {A : Option Addr} {n c : Nat} {xs ys : List Int} (hr : Rd .u8 w w.heap.size A n c xs) (hb1 : Below (w.alloc (.cells (msC h A n c) 27)).heap.size (w.alloc (.cells (msC h A n c) 27)) w1)
    (row : Row w2 (w1.alloc (.cells (ahC h) 83)).heap.size ys) (hb2 : Below (w1.alloc (.cells (ahC h) 83)).heap.size (w1.alloc (.cells (ahC h) 83)) w2) : KMb w h A n c xs w1.heap.size (w1.heap.size + 1) ys w2 := by
  have b0 := alloc_below w (.cells (msC h A n c) 27)
  have s0 : (w.alloc (.cells (msC h A n c) 27)).heap.size = w.heap.size + 1 := by simp
  have m0 := MsAt.new w 27 h A n c
  generalize w.alloc (.cells (msC h A n c) 27) = W0 at *
  have b1 := alloc_below w1 (.cells (ahC h) 83)
  have s1 : (w1.alloc (.cells (ahC h) 83)).heap.size = w1.heap.size + 1 := by simp
  have m1 := heap_alloc_new w1 (.cells (ahC h) 83)
  generalize w1.alloc (.cells (ahC h) 83) = W1 at *
  have c1 := hb1.size
  have c2 := b0.size
  have bb : Below w.heap.size w w2 := (b0.trans (hb1.mono c2)).trans ((b1.mono (by omega)).trans (hb2.mono (by omega)))
  exact ⟨((m0.step hb1).step b1).step hb2, (hb2.block _ (by omega)).trans m1, by rw [← s1]; exact row, hr.below bb (Nat.le_refl _), bb, by omega, by omega⟩
/-- A message's bytes: a row of the call's own, known whole, and no error. -/
def GivesMB (w : World) (zs : List Int) (m : Nat) (ev : Ending) (w' : World) : Prop :=
  ∃ g, ev = .returned (.tuple #[.slice (some ⟨g, 0, none⟩) m m, .nilIface]) ∧ Row w' g zs ∧ w.heap.size ≤ g ∧ Below w.heap.size w w'
theorem mlay_sum (h : Ms) (s : Int) (xs : List Int) : splice (ahL h ++ xs) 2 (two2 s) = mhP h s ++ xs := by simp [splice, two2, ahL, mhP]
set_option maxRecDepth 100000 in
set_option maxHeartbeats 4000000 in
theorem mbytes_near (h : Ms) (A : Option Addr) (n c m : Nat) (xs : List Int) (w : World) (hk : h.ok) (hr : Rd .u8 w w.heap.size A n c xs) (hn : n ≤ 1472) (hm : (8 : Int) + (n : Int) = (m : Int)) :
    Calls Tryd.prog 16 #[msV h A n c] w (GivesMB w (mR h xs) m) := by
  have n1 : ¬ (1472 : Int) < (n : Int) := by omega
  have e1 : IntKind.i64.wrap (m : Int) = (m : Int) := by rw [IntKind.wrap_i64]; omega
  have m1 : m ≤ 1480 := by omega
  have m2 : 8 ≤ m := by omega
  have m4 : (8 : Int) ≤ (m : Int) := by omega
  have m5 : (2 : Int) ≤ (m : Int) := by omega
  have k2 : ¬ m = 2 := by omega
  have hl := hr.len
  have hwx := hr.2.2.2.1
  have start := fun w1 w2 ys hb1 row hb2 => KMb.start (w := w) (w1 := w1) (w2 := w2) (h := h) (ys := ys) hr hb1 row hb2
  have Hs := Lib.hid (show 65535 - totV (ahL h ++ xs) = mS h xs from rfl)
  have hsb := mS_bd hk hwx
  have Hw : Hid (∀ x ∈ ahL h ++ xs, (Lit.int .u8 x).wf = true) := Lib.hid (fun x q => (List.mem_append.1 q).elim (ahL_wf hk x) (hwx x))
  have Hz : Hid ((ahL h ++ xs).length = m) := Lib.hid (by rw [List.length_append, ahL_len]; omega)
  have Hr : Hid (splice (ahL h ++ xs) 2 (two2 (mS h xs)) = mR h xs) := Lib.hid (mlay_sum h _ xs)
  have H0 : Hid (splice (splice (List.replicate m (0 : Int)) 0 (ahL h)) 8 xs = ahL h ++ xs) := Lib.hid (splice_two m (ahL h) xs (by rw [ahL_len]; omega))
  have L1 : Hid ((splice (List.replicate m (0 : Int)) 0 (ahL h)).length = m) := Lib.hid (by rw [splice_len _ _ _ (by rw [ahL_len, List.length_replicate]; omega), List.length_replicate])
  have Hk := Lib.hid hk
  have HL := Lib.hid hl
  have hx8 := Lib.hid (show n + 8 = m by omega)
  have M3 : Hid (m - 8 = n) := Lib.hid (by omega)
  clear hwx hr hl hk
  generalize mS h xs = sm at *
  obtain ⟨a0, a1, a2, a3, a4, a5, a6⟩ := (MsAt.new w 27 h A n c).cells
  go_enter Tryd.func16, Tryd.ntmps16
  go_wp2_with (first
    | (go_at_call 42; refine (aheadOf_any h A n c _ Hk.out).mono ?_; rintro e w1 ⟨rfl, hb1⟩; clear a0 a1 a2 a3 a4 a5 a6; obtain ⟨a0, a1, a2, a3, a4, a5, a6⟩ := (((MsAt.new w 27 h A n c).step hb1).step (alloc_below w1 (.cells (ahC h) 83))).cells)
    | (at_make; refine wpList_mk (some 17) rfl rfl _ _ 22 rfl Tryd.underlying22 info5 m _ _ rfl rfl rfl rfl (by omega) ?_; intro w2 row2 hs2 hb2; have q := start w1 w2 _ hb1 row2 hb2; clear start row2 hs2 hb2 hb1 a0 a1 a2 a3 a4 a5 a6)
    | (refine wpList_cpRow (some 20) rfl rfl (.tmp 18) (.tmp 19) 22 22 rfl Tryd.underlying22 sz5 (w1.heap.size + 1) 0 (List.replicate m 0) q.row (some ⟨w1.heap.size + 1, 0, none⟩) m m rfl (some ⟨w1.heap.size, 0, none⟩) 8 8 _ (ahL h) rfl (AhAt.rd q.ah Hk.out) (by rw [List.length_replicate]; omega) m2 (fun _ => rfl) ?_; intro w4 r4 ho4; replace q := q.only ho4 r4; clear r4 ho4))
  refine wp_region_held_drew (S := fun w' => ∃ ys, KMb w h A n c xs w1.heap.size (w1.heap.size + 1) ys w') (by kernel_rfl) ⟨_, q.step (below_drew _)⟩ (fun hHeld => ?_)
  replace q := q.step (below_drew _)
  generalize w4.drew = W4 at *
  refine wpAnyH_at (i := 0) (some 21) (v := ?v0z1) rfl rfl (by kernel_rfl) (by kernel_rfl) (by kernel_rfl) (fun _ _ _ h => h) (Or.inl ⟨by rfl, ?y0z1⟩) (by assumption) ?r0z1
  case y0z1 =>
    intro w9 hSw
    clear hSw
    go_simp
    all_goals with_reducible rfl
  simp only [Act.put, List.setIfInBounds_toArray, List.set_cons_zero, List.set_cons_succ]
  refine wpAnyH_at (i := 1) (some 22) (v := .slice (cutA (some ⟨w1.heap.size + 1, 0, none⟩) m 8) (m - 8) (m - 8)) rfl rfl (by kernel_rfl) (by kernel_rfl) (by kernel_rfl) (fun _ _ _ h => h) (Or.inl ⟨by rfl, ?y1z2⟩) (by assumption) ?r1z2
  case y1z2 =>
    intro w9 hSw
    clear hSw
    by_cases hq : m = 8
    · rw [cutA_eq hq]
      subst hq
      go_simp
    · rw [cutA_ne hq]
      go_simp
  simp only [Act.put, List.setIfInBounds_toArray, List.set_cons_zero, List.set_cons_succ]
  refine wpAnyH_at (i := 2) (some 23) (v := ?v2z3) rfl rfl (by kernel_rfl) (by kernel_rfl) (by kernel_rfl) (fun _ _ _ h => h) (Or.inl ⟨by rfl, ?y2z3⟩) (by assumption) ?r2z3
  case y2z3 =>
    intro w9 hSw
    clear hSw
    go_simp
    all_goals with_reducible rfl
  simp only [Act.put, List.setIfInBounds_toArray, List.set_cons_zero, List.set_cons_succ]
  refine wpAnyH_at (i := 3) (some 24) (v := ?v3z4) rfl rfl (by kernel_rfl) (by kernel_rfl) (by kernel_rfl) (fun _ _ _ h => h) (Or.inl ⟨by rfl, ?y3z4⟩) (by assumption) ?r3z4
  case y3z4 =>
    intro w9 hSw
    (obtain ⟨yy, qq⟩ := hSw; obtain ⟨a0, a1, a2, a3, a4, a5, a6⟩ := qq.ms.cells; clear qq)
    go_simp
    all_goals with_reducible rfl
  simp only [Act.put, List.setIfInBounds_toArray, List.set_cons_zero, List.set_cons_succ]
  refine wpAnyH_one (i := 4) (by kernel_rfl) rfl ?_
  refine wpList_cpRow (some 25) rfl rfl (.tmp 22) (.tmp 24) 22 22 rfl Tryd.underlying22 sz5 (w1.heap.size + 1) 8 _ q.row (cutA (some ⟨w1.heap.size + 1, 0, none⟩) m 8) (m - 8) (m - 8) rfl A n c w.heap.size xs rfl q.rd (by rw [L1.out]; have := hx8.out; omega) (by rw [M3.out]; omega) (fun h0 => by have := hx8.out; rw [cutA_ne (by omega)]; rfl) ?_
  intro w6 r6 ho6
  rw [H0.out] at r6
  replace q := q.only ho6 r6
  clear r6 ho6 hHeld
  go_wp2
  refine ⟨⟨_, q⟩, ?_⟩
  refine wpAnyH_done (by kernel_rfl) ?_ _
  go_wp2_with fail
  refine wp_region_held_drew (S := fun w' => ∃ ys, KMb w h A n c xs w1.heap.size (w1.heap.size + 1) ys w') (by kernel_rfl) ⟨_, q.step (below_drew _)⟩ (fun hHeld => ?_)
  replace q := q.step (below_drew _)
  generalize w6.drew = W6 at *
  refine wpAnyH_at (i := 0) (some 26) (v := ?v0z5) rfl rfl (by kernel_rfl) (by kernel_rfl) (by kernel_rfl) (fun _ _ _ h => h) (Or.inl ⟨by rfl, ?y0z5⟩) (by assumption) ?r0z5
  case y0z5 =>
    intro w9 hSw
    clear hSw
    go_simp
    all_goals with_reducible rfl
  simp only [Act.put, List.setIfInBounds_toArray, List.set_cons_zero, List.set_cons_succ]
  refine wpAnyH_at (i := 1) (some 27) (v := ?v1z6) rfl rfl (by kernel_rfl) (by kernel_rfl) (by kernel_rfl) (fun _ _ _ h => h) (Or.inl ⟨by rfl, ?y1z6⟩) (by assumption) ?r1z6
  case y1z6 =>
    intro w9 hSw
    clear hSw
    go_simp
    all_goals with_reducible rfl
  simp only [Act.put, List.setIfInBounds_toArray, List.set_cons_zero, List.set_cons_succ]
  refine wpAnyH_at (i := 2) (some 28) (v := ?v2z7) rfl rfl (by kernel_rfl) (by kernel_rfl) (by kernel_rfl) (fun _ _ _ h => h) (Or.inl ⟨by rfl, ?y2z7⟩) (by assumption) ?r2z7
  case y2z7 =>
    intro w9 hSw
    clear hSw
    go_simp
    all_goals with_reducible rfl
  simp only [Act.put, List.setIfInBounds_toArray, List.set_cons_zero, List.set_cons_succ]
  refine wpAnyH_one (i := 3) (by kernel_rfl) rfl ?_
  have cs1 := sumOf_any _ 1 1 [ahL h ++ xs] _ (rows_one (q.row.rdW (n := m) Hz.out (by omega) Hw.out))
  rw [List.flatten_singleton, Hs.out] at cs1
  have q1 := q.step (alloc_below W6 (.cells #[.slice (some ⟨w1.heap.size + 1, 0, none⟩) m m] 22))
  go_wp2
  clear hHeld
  refine ⟨⟨_, q1⟩, ?_⟩
  have hHeld : ∃ ys, KMb w h A n c xs w1.heap.size (w1.heap.size + 1) ys _ := ⟨_, q1⟩
  refine wpAnyH_one (i := 4) (by kernel_rfl) rfl ?_
  go_wp2_with (go_at_call 44; refine cs1.mono ?_; rintro ev W7 ⟨rfl, hb⟩)
  replace q := q1.step hb
  clear hHeld hb cs1 q1
  refine ⟨⟨_, q⟩, ?_⟩
  have hHeld : ∃ ys, KMb w h A n c xs w1.heap.size (w1.heap.size + 1) ys W7 := ⟨_, q⟩
  refine wpAnyH_one (i := 5) (by kernel_rfl) rfl ?_
  go_wp2_with (go_at_call 43; with_reducible refine (mlayTwo_any (w1.heap.size + 1) 2 (m - 2) (m - 2) (ahL h ++ xs) sm _ q.row (by rw [Hz.out]; omega) (by omega) hsb).mono ?_; rintro ev W8 ⟨rfl, r8, ho⟩)
  rw [Hr.out] at r8
  replace q := q.only ho r8
  clear hHeld r8 ho
  refine ⟨⟨_, q⟩, ?_⟩
  refine wpAnyH_done (by kernel_rfl) ?_ _
  go_wp2
  go_ret2
  exact ⟨_, rfl, q.row, Nat.le_of_lt (Nat.lt_succ_of_lt q.l1), q.below⟩
theorem mbytes_ok (h : Ms) (A : Option Addr) (n c : Nat) (xs : List Int) (w : World) (hk : h.ok) (hr : Rd .u8 w w.heap.size A n c xs) (hn : n ≤ 1472) : Calls Tryd.prog 16 #[msV h A n c] w (GivesMB w (mR h xs) (8 + n)) :=
  mbytes_near h A n c (8 + n) xs w hk hr hn (by omega)
end Go.Proofs.YtbefoapnlehdmaaDoor

namespace Go.Proofs.YtbefoapnlehdmaaDoor
open Go.RowKit

/-- What Parse answers. -/
def GivesMP (w : World) (xs : List Int) (n : Nat) (ev : Ending) (w' : World) : Prop :=
  Below w.heap.size w w' ∧ ((¬ (mE xs).2 = 0 ∧ ev = .returned (.tuple #[zeroMV, errV (mE xs).1 (mE xs).2])) ∨
    ((mE xs).2 = 0 ∧ ∃ g, ev = .returned (.tuple #[msV (mOf xs) (some ⟨g, 0, none⟩) (n - 8) (n - 8), .nilIface]) ∧ Row w' g (xs.drop 8) ∧ w.heap.size ≤ g))
/-- What the walk knows: the answer's block, the bytes. -/
structure KMp (w : World) (A : Option Addr) (n c : Nat) (xs : List Int) (W : World) : Prop where
  z : MsAt W w.heap.size 27 zeroS none 0 0
  rd : Rd .u8 W w.heap.size A n c xs
  below : Below w.heap.size w W
/-- And behind it: the message's block, its body's. -/
structure PMp (w : World) (A : Option Addr) (n c : Nat) (xs : List Int) (gM g : Nat) (h : Ms) (m : Nat) (ys : List Int) (W : World) : Prop where
  k : KMp w A n c xs W
  pk : MsAt W gM 27 h (some ⟨g, 0, none⟩) m m
  row : Row W g ys
  n1 : w.heap.size < g
  n2 : w.heap.size < gM
  ne : g ≠ gM
section
variable {w W V : World} {A : Option Addr} {n c gM g m : Nat} {xs ys : List Int} {h h' : Ms}
theorem KMp.step (q : KMp w A n c xs W) (hb : Below W.heap.size W V) : KMp w A n c xs V := ⟨q.z.step hb, q.rd.below hb q.below.size, q.below.trans (hb.mono q.below.size)⟩
theorem PMp.step (q : PMp w A n c xs gM g h m ys W) (hb : Below W.heap.size W V) : PMp w A n c xs gM g h m ys V := ⟨q.k.step hb, q.pk.step hb, q.row.below hb q.row.lt, q.n1, q.n2, q.ne⟩
theorem PMp.only (q : PMp w A n c xs gM g h m ys W) (ho : Only gM W V) (hm : MsAt V gM 27 h' (some ⟨g, 0, none⟩) m m) : PMp w A n c xs gM g h' m ys V :=
  ⟨⟨q.k.z.below ho.below q.n2, ho.rd q.k.rd (Nat.le_of_lt q.n2), q.k.below.trans (ho.below.mono (Nat.le_of_lt q.n2))⟩, hm, (ho.other _ q.ne).trans q.row, q.n1, q.n2, q.ne⟩
theorem KMp.start (hr : Rd .u8 w w.heap.size A n c xs) : KMp w A n c xs (w.alloc (.cells (msC zeroS none 0 0) 27)) := ⟨MsAt.new w 27 zeroS none 0 0, hr.below (alloc_below _ _) (Nat.le_refl _), alloc_below _ _⟩
end
theorem rd48 {w : World} {B b o n c : Nat} {xs : List Int} (h : Rd .u8 w B (some ⟨b, o, none⟩) n c xs) (hn : 8 ≤ n) : Rd .u8 w B (some ⟨b, o + 4, none⟩) 4 (c - 4) [xs.getD 4 0, xs.getD 5 0, xs.getD 6 0, xs.getD 7 0] := by
  have hc := h.cap
  have hmx := h.max
  have hB : b < B := by
    obtain ⟨b', o', e, hb, -⟩ := h.at_ (i := 0) (by omega)
    injection e with e
    injection e with e1 e2
    omega
  refine ⟨rfl, by omega, ⟨by unfold maxLen; omega, fun e => by cases e⟩, bytes_of4 (u8_bd (h.wf (by omega))) (u8_bd (h.wf (by omega))) (u8_bd (h.wf (by omega))) (u8_bd (h.wf (by omega))), fun i hi => ⟨b, o + 4, rfl, hB, ?_⟩⟩
  have hcell := h.cellAt (i := 4 + i) (by omega)
  rw [← Nat.add_assoc] at hcell
  have : i = 0 ∨ i = 1 ∨ i = 2 ∨ i = 3 := by omega
  rcases this with rfl | rfl | rfl | rfl <;> exact hcell
set_option maxRecDepth 100000 in
set_option maxHeartbeats 4000000 in
theorem mparse_short (A : Option Addr) (n c : Nat) (xs : List Int) (w : World) (hr : Rd .u8 w w.heap.size A n c xs) (hn : n < 8) :
    Calls Tryd.prog 10 #[.slice A n c] w fun ev w' => Below w.heap.size w w' ∧ ev = .returned (.tuple #[zeroMV, errV 1 12]) := by
  have kk := KMp.start hr
  have n1 : (n : Int) < 8 := by omega
  clear hr
  go_enter Tryd.func10, Tryd.ntmps10
  go_wp2_with fail
  refine (mwrong_any 12 _ (by decide)).mono ?_
  rintro e w1 ⟨rfl, rfl⟩
  go_wp2_with (refine wpList_stF rfl rfl 27 _ _ rfl w.heap.size (msC zeroS none 0 0) rfl rfl 27 _ kk.z (by kernel_rfl) rfl (msC_one ..) ?_; intro w7 h7 hb7 ho7 hs7)
  have h7' : MsAt w7 w.heap.size 27 zeroS none 0 0 := h7
  have b7 : Below w.heap.size w w7 := kk.below.trans hb7
  obtain ⟨c0, c1, c2, c3, c4, c5, c6⟩ := h7'.cells
  exact bodyPost_ret (v := .tuple #[zeroMV, errV 1 12]) (by simp [results, Tryd.results10, go_sem, c0, c1, c2, c3, c4, c5, c6]) rfl ⟨b7, rfl⟩
set_option maxRecDepth 100000 in
set_option maxHeartbeats 4000000 in
theorem mparse_far (A : Option Addr) (n c : Nat) (xs : List Int) (w : World) (hr : Rd .u8 w w.heap.size A n c xs) (hn : 1480 < n) (hmax : n ≤ 9223372036854775807) :
    Calls Tryd.prog 10 #[.slice A n c] w fun ev w' => Below w.heap.size w w' ∧ ev = .returned (.tuple #[zeroMV, errV 1 11]) := by
  have kk := KMp.start hr
  have n1 : ¬ (n : Int) < 8 := by omega
  have n2 : (1480 : Int) < (n : Int) := by omega
  clear hr
  go_enter Tryd.func10, Tryd.ntmps10
  go_wp2_with fail
  refine (mwrong_any 11 _ (by decide)).mono ?_
  rintro e w1 ⟨rfl, rfl⟩
  go_wp2_with (refine wpList_stF rfl rfl 27 _ _ rfl w.heap.size (msC zeroS none 0 0) rfl rfl 27 _ kk.z (by kernel_rfl) rfl (msC_one ..) ?_; intro w7 h7 hb7 ho7 hs7)
  have h7' : MsAt w7 w.heap.size 27 zeroS none 0 0 := h7
  have b7 : Below w.heap.size w w7 := kk.below.trans hb7
  obtain ⟨c0, c1, c2, c3, c4, c5, c6⟩ := h7'.cells
  exact bodyPost_ret (v := .tuple #[zeroMV, errV 1 11]) (by simp [results, Tryd.results10, go_sem, c0, c1, c2, c3, c4, c5, c6]) rfl ⟨b7, rfl⟩
set_option maxRecDepth 100000 in
set_option maxHeartbeats 4000000 in
theorem mparse_sum (A : Option Addr) (n c : Nat) (xs : List Int) (w : World) (hr : Rd .u8 w w.heap.size A n c xs) (h8 : 8 ≤ n) (hn : n ≤ 1480) (hs : (totV xs == 65535) = false) :
    Calls Tryd.prog 10 #[.slice A n c] w fun ev w' => Below w.heap.size w w' ∧ ev = .returned (.tuple #[zeroMV, errV 2 13]) := by
  have k0 := KMp.start hr
  have n1 : ¬ (n : Int) < 8 := by omega
  have n2 : ¬ (1480 : Int) < (n : Int) := by omega
  have k1 := k0.step (alloc_below _ (.cells #[.slice A n c] 22))
  have cs1 := right_any _ 1 1 [xs] _ (rows_one (k0.rd.more k0.below.size))
  rw [List.flatten_singleton, hs, show (w.alloc (.cells (msC zeroS none 0 0) 27)).heap.size = w.heap.size + 1 by simp] at cs1
  replace cs1 := Lib.hid cs1
  clear hs
  clear hr k0
  go_enter Tryd.func10, Tryd.ntmps10
  go_wp2_with fail
  refine cs1.out.mono ?_
  rintro ev w2 ⟨rfl, hb⟩
  have kk := k1.step hb
  clear k1 hb cs1
  go_wp2_with (first
    | (go_at_call 36; refine (fault_any 2 13 _ (by decide) (by decide)).mono ?_; rintro e w1 ⟨rfl, rfl⟩)
    | (refine wpList_stF rfl rfl 27 _ _ rfl w.heap.size (msC zeroS none 0 0) rfl rfl 27 _ kk.z (by kernel_rfl) rfl (msC_one ..) ?_; intro w7 h7 hb7 ho7 hs7))
  have h7' : MsAt w7 w.heap.size 27 zeroS none 0 0 := h7
  have b7 : Below w.heap.size w w7 := kk.below.trans hb7
  obtain ⟨c0, c1, c2, c3, c4, c5, c6⟩ := h7'.cells
  exact bodyPost_ret (v := .tuple #[zeroMV, errV 2 13]) (by simp [results, Tryd.results10, go_sem, c0, c1, c2, c3, c4, c5, c6]) rfl ⟨b7, rfl⟩
set_option maxRecDepth 100000 in
set_option maxHeartbeats 4000000 in
theorem mparse_good (b o n c : Nat) (xs : List Int) (w : World) (hr : Rd .u8 w w.heap.size (some ⟨b, o, none⟩) n c xs) (h8 : 8 ≤ n) (hn : n ≤ 1480) (hs : (totV xs == 65535) = true) :
    Calls Tryd.prog 10 #[.slice (some ⟨b, o, none⟩) n c] w fun ev w' => Below w.heap.size w w' ∧ ∃ g, ev = .returned (.tuple #[msV (mOf xs) (some ⟨g, 0, none⟩) (n - 8) (n - 8), .nilIface]) ∧ Row w' g (xs.drop 8) ∧ w.heap.size ≤ g := by
  have hcap := hr.cap
  have hmax := hr.max
  have k0 := KMp.start hr
  have n1 : ¬ (n : Int) < 8 := by omega
  have n2 : ¬ (1480 : Int) < (n : Int) := by omega
  have k1 := k0.step (alloc_below _ (.cells #[.slice (some ⟨b, o, none⟩) n c] 22))
  have cs1 := right_any _ 1 1 [xs] _ (rows_one (k0.rd.more k0.below.size))
  rw [List.flatten_singleton, hs, show (w.alloc (.cells (msC zeroS none 0 0) 27)).heap.size = w.heap.size + 1 by simp] at cs1
  replace cs1 := Lib.hid cs1
  clear hs
  have i0 : 0 < n := by omega
  have i1 : (1 : Int) < (n : Int) := by omega
  have j8 : (8 : Int) ≤ (n : Int) := by omega
  have j8c : (8 : Int) ≤ (c : Int) := by omega
  have k4 : ¬ c = 4 := by omega
  have t0 : ∀ W, KMp w (some ⟨b, o, none⟩) n c xs W → W.cell? ⟨b, o, none⟩ = some (.int .u8 (xs.getD 0 0)) := fun W k => k.rd.cellAt (i := 0) (by omega)
  have t1 : ∀ W, KMp w (some ⟨b, o, none⟩) n c xs W → W.cell? ⟨b, o + 1, none⟩ = some (.int .u8 (xs.getD 1 0)) := fun W k => k.rd.cellAt (i := 1) (by omega)
  have t4 : ∀ W, KMp w (some ⟨b, o, none⟩) n c xs W → Rd .u8 W w.heap.size (some ⟨b, o + 4, none⟩) 4 (c - 4) [(mOf xs).r0, (mOf xs).r1, (mOf xs).r2, (mOf xs).r3] := fun W k => rd48 k.rd h8
  have hd : mOf xs = ⟨xs.getD 0 0, xs.getD 1 0, (mOf xs).r0, (mOf xs).r1, (mOf xs).r2, (mOf xs).r3⟩ := rfl
  have cp : ∀ W, KMp w (some ⟨b, o, none⟩) n c xs W → Calls Tryd.prog 37 #[.slice (cutA (some ⟨b, o, none⟩) c 8) (n - 8) (c - 8)] W (GivesRow W (xs.drop 8) (n - 8)) := fun W k => mcp_any _ (n - 8) (c - 8) (xs.drop 8) W ((k.rd.cutFrom 8 h8).more k.below.size) (by omega)
  rw [hd]
  generalize mOf xs = mo at *
  obtain ⟨u0, u1, r0, r1, r2, r3⟩ := mo
  dsimp only at t4 hd ⊢
  replace cp := Lib.hid cp
  replace t4 := Lib.hid t4
  generalize xs.getD 0 0 = x0 at *
  generalize xs.getD 1 0 = x1 at *
  clear hr k0 hd hcap hmax
  go_enter Tryd.func10, Tryd.ntmps10
  go_wp2_with fail
  refine cs1.out.mono ?_
  rintro ev w2 ⟨rfl, hb⟩
  have st := k1.step hb
  clear k1 hb cs1
  go_wp2_with fail
  refine wp_region_held_drew (S := fun w' => KMp w (some ⟨b, o, none⟩) n c xs w') (by kernel_rfl) (st.step (below_drew _)) (fun hHeld => ?_)
  replace st := st.step (below_drew _)
  generalize w2.drew = W1 at *
  refine wpAnyH_at (i := 0) (some 21) (v := ?v0z1) rfl rfl (by kernel_rfl) (by kernel_rfl) (by kernel_rfl) (fun _ _ _ h => h) (Or.inl ⟨by rfl, ?y0z1⟩) (by assumption) ?r0z1
  case y0z1 =>
    intro w9 hSw
    clear hSw
    go_simp
    all_goals with_reducible rfl
  simp only [Act.put, List.setIfInBounds_toArray, List.set_cons_zero, List.set_cons_succ]
  refine wpAnyH_at (i := 1) (some 22) (v := ?v1z2) rfl rfl (by kernel_rfl) (by kernel_rfl) (by kernel_rfl) (fun _ _ _ h => h) (Or.inl ⟨by rfl, ?y1z2⟩) (by assumption) ?r1z2
  case y1z2 =>
    intro w9 hSw
    clear hSw
    go_simp
    all_goals with_reducible rfl
  simp only [Act.put, List.setIfInBounds_toArray, List.set_cons_zero, List.set_cons_succ]
  refine wpAnyH_at (i := 2) (some 23) (v := ?v2z3) rfl rfl (by kernel_rfl) (by kernel_rfl) (by kernel_rfl) (fun _ _ _ h => h) (Or.inl ⟨by rfl, ?y2z3⟩) (by assumption) ?r2z3
  case y2z3 =>
    intro w9 hSw
    have c0 := t0 _ hSw; clear hSw
    go_simp
    all_goals with_reducible rfl
  simp only [Act.put, List.setIfInBounds_toArray, List.set_cons_zero, List.set_cons_succ]
  refine wpAnyH_at (i := 3) (some 24) (v := ?v3z4) rfl rfl (by kernel_rfl) (by kernel_rfl) (by kernel_rfl) (fun _ _ _ h => h) (Or.inl ⟨by rfl, ?y3z4⟩) (by assumption) ?r3z4
  case y3z4 =>
    intro w9 hSw
    clear hSw
    go_simp
    all_goals with_reducible rfl
  simp only [Act.put, List.setIfInBounds_toArray, List.set_cons_zero, List.set_cons_succ]
  refine wpAnyH_at (i := 4) (some 25) (v := ?v4z5) rfl rfl (by kernel_rfl) (by kernel_rfl) (by kernel_rfl) (fun _ _ _ h => h) (Or.inl ⟨by rfl, ?y4z5⟩) (by assumption) ?r4z5
  case y4z5 =>
    intro w9 hSw
    clear hSw
    go_simp
    all_goals with_reducible rfl
  simp only [Act.put, List.setIfInBounds_toArray, List.set_cons_zero, List.set_cons_succ]
  refine wpAnyH_at (i := 5) (some 26) (v := ?v5z6) rfl rfl (by kernel_rfl) (by kernel_rfl) (by kernel_rfl) (fun _ _ _ h => h) (Or.inl ⟨by rfl, ?y5z6⟩) (by assumption) ?r5z6
  case y5z6 =>
    intro w9 hSw
    have c1 := t1 _ hSw; clear hSw
    go_simp
    all_goals with_reducible rfl
  simp only [Act.put, List.setIfInBounds_toArray, List.set_cons_zero, List.set_cons_succ]
  refine wpAnyH_at (i := 6) (some 27) (v := ?v6z7) rfl rfl (by kernel_rfl) (by kernel_rfl) (by kernel_rfl) (fun _ _ _ h => h) (Or.inl ⟨by rfl, ?y6z7⟩) (by assumption) ?r6z7
  case y6z7 =>
    intro w9 hSw
    clear hSw
    go_simp
    all_goals with_reducible rfl
  simp only [Act.put, List.setIfInBounds_toArray, List.set_cons_zero, List.set_cons_succ]
  refine wpAnyH_at (i := 7) (some 28) (v := .slice (cutA (some ⟨b, o, none⟩) c 8) (n - 8) (c - 8)) rfl rfl (by kernel_rfl) (by kernel_rfl) (by kernel_rfl) (fun _ _ _ h => h) (Or.inl ⟨by rfl, ?y7z8⟩) (by assumption) ?r7z8
  case y7z8 =>
    intro w9 hSw
    clear hSw
    by_cases hq : c = 8
    · rw [cutA_eq hq]
      subst hq
      go_simp
    · rw [cutA_ne hq]
      go_simp
  simp only [Act.put, List.setIfInBounds_toArray, List.set_cons_zero, List.set_cons_succ]
  refine wpAnyH_two (i := 8) (j := 10) (by kernel_rfl) rfl rfl ?_ ?_
  · as_aux_lemma =>
      go_wp2_with (go_at_call 37; refine (cp.out _ st).mono ?_; rintro e W2 ⟨g, rfl, row, hg, hb⟩)
      have gl := Nat.lt_of_lt_of_le st.z.lt hg
      replace st := st.step hb
      clear hb hHeld
      have hHeld := st
      refine ⟨hHeld, ?_⟩
      try simp only [Act.put, List.setIfInBounds_toArray, List.set_cons_zero, List.set_cons_succ]
      refine wpAnyH_at (i := 9) (some 30) (v := msV ⟨x0, x1, 0, 0, 0, 0⟩ (some ⟨g, 0, none⟩) (n - 8) (n - 8)) rfl rfl (by kernel_rfl) (by kernel_rfl) (by kernel_rfl) (fun _ _ _ h => h) (Or.inl ⟨by rfl, fun w9 _ => ?_⟩) (by assumption) ?_
      · go_simp
      simp only [Act.put, List.setIfInBounds_toArray, List.set_cons_zero, List.set_cons_succ]
      refine wpAnyH_one (i := 10) (by kernel_rfl) rfl ?_
      have hz := MsAt.new W2 27 zeroS none 0 0
      have bz := alloc_below W2 (.cells (msC zeroS none 0 0) 27)
      have gz := st.z.lt
      replace st := st.step bz
      have ne : g ≠ W2.heap.size := Nat.ne_of_lt row.lt
      replace row := row.below bz row.lt
      clear hHeld
      have hHeld := st
      go_wp2
      refine ⟨hHeld, ?_⟩
      change wpAnyH _ _ _ _ _ _ _ _ (W2.alloc (.cells (msC zeroS none 0 0) 27))
      generalize W2.alloc (.cells (msC zeroS none 0 0) 27) = W3 at *
      generalize W2.heap.size = gM at *
      try simp only [Act.put, List.setIfInBounds_toArray, List.set_cons_zero, List.set_cons_succ]
      refine wpAnyH_one (i := 11) (by kernel_rfl) rfl ?_
      refine wpList_stF rfl rfl 27 _ _ rfl gM (msC ⟨x0, x1, 0, 0, 0, 0⟩ (some ⟨g, 0, none⟩) (n - 8) (n - 8)) rfl rfl 27 _ hz (by kernel_rfl) rfl (msC_one ..) ?_
      intro wA fA hbA hoA hsA
      have P0 : PMp w (some ⟨b, o, none⟩) n c xs gM g ⟨x0, x1, 0, 0, 0, 0⟩ (n - 8) (xs.drop 8) wA := ⟨⟨st.z.below hbA gz, st.rd.below hbA (Nat.le_of_lt gz), st.below.trans (hbA.mono (Nat.le_of_lt gz))⟩, fA, (hoA g ne).trans row, gl, gz, ne⟩
      clear hz row st hHeld fA hbA hoA hsA
      have hHeld := P0.k
      go_wp2
      refine ⟨hHeld, ?_⟩
      refine wpAnyH_done (by kernel_rfl) ?_ _
      go_wp2_with fail
      refine wp_region_held_drew (S := fun w' => ∃ h, PMp w (some ⟨b, o, none⟩) n c xs gM g h (n - 8) (xs.drop 8) w') (by kernel_rfl) ⟨_, P0.step (below_drew _)⟩ (fun hHeld => ?_)
      replace P0 := P0.step (below_drew _)
      generalize wA.drew = WB at *
      refine wpAnyH_at (i := 0) (some 31) (v := ?v0z9) rfl rfl (by kernel_rfl) (by kernel_rfl) (by kernel_rfl) (fun _ _ _ h => h) (Or.inl ⟨by rfl, ?y0z9⟩) (by assumption) ?r0z9
      case y0z9 =>
        intro w9 hSw
        clear hSw
        go_simp
        all_goals with_reducible rfl
      simp only [Act.put, List.setIfInBounds_toArray, List.set_cons_zero, List.set_cons_succ]
      refine wpAnyH_at (i := 1) (some 32) (v := ?v1z10) rfl rfl (by kernel_rfl) (by kernel_rfl) (by kernel_rfl) (fun _ _ _ h => h) (Or.inl ⟨by rfl, ?y1z10⟩) (by assumption) ?r1z10
      case y1z10 =>
        intro w9 hSw
        clear hSw
        go_simp
        all_goals with_reducible rfl
      simp only [Act.put, List.setIfInBounds_toArray, List.set_cons_zero, List.set_cons_succ]
      refine wpAnyH_at (i := 2) (some 33) (v := ?v2z11) rfl rfl (by kernel_rfl) (by kernel_rfl) (by kernel_rfl) (fun _ _ _ h => h) (Or.inl ⟨by rfl, ?y2z11⟩) (by assumption) ?r2z11
      case y2z11 =>
        intro w9 hSw
        clear hSw
        go_simp
        all_goals with_reducible rfl
      simp only [Act.put, List.setIfInBounds_toArray, List.set_cons_zero, List.set_cons_succ]
      refine wpAnyH_at (i := 3) (some 34) (v := ?v3z12) rfl rfl (by kernel_rfl) (by kernel_rfl) (by kernel_rfl) (fun _ _ _ h => h) (Or.inl ⟨by rfl, ?y3z12⟩) (by assumption) ?r3z12
      case y3z12 =>
        intro w9 hSw
        clear hSw
        go_simp
        all_goals with_reducible rfl
      simp only [Act.put, List.setIfInBounds_toArray, List.set_cons_zero, List.set_cons_succ]
      refine wpAnyH_one (i := 4) (by kernel_rfl) rfl ?_
      refine wpList_cpT (some 35) rfl rfl (.tmp 32) (.tmp 34) 22 22 rfl Tryd.underlying22 sz5 gM 2 27 (msC ⟨x0, x1, 0, 0, 0, 0⟩ (some ⟨g, 0, none⟩) (n - 8) (n - 8)) (msC ⟨x0, x1, r0, r1, r2, r3⟩ (some ⟨g, 0, none⟩) (n - 8) (n - 8)) P0.pk 4 4 rfl _ 4 (c - 4) w.heap.size [r0, r1, r2, r3] rfl (t4.out _ P0.k) (by decide) (by simp) (by decide) rfl ?_
      intro W2 y2 ho
      replace P0 := P0.only ho y2
      clear hHeld ho y2
      go_wp2
      refine ⟨⟨_, P0⟩, ?_⟩
      refine wpAnyH_done (by kernel_rfl) ?_ _
      obtain ⟨a0, a1, a2, a3, a4, a5, a6⟩ := P0.pk.cells
      have z2 := P0.k.z
      go_wp2_with (refine wpList_stF rfl rfl 27 _ _ rfl w.heap.size (msC ⟨x0, x1, r0, r1, r2, r3⟩ (some ⟨g, 0, none⟩) (n - 8) (n - 8)) rfl rfl 27 _ z2 (by kernel_rfl) rfl (msC_one ..) ?_; intro w7 h7 hb7 ho7 hs7)
      have h7' : MsAt w7 w.heap.size 27 ⟨x0, x1, r0, r1, r2, r3⟩ (some ⟨g, 0, none⟩) (n - 8) (n - 8) := h7
      obtain ⟨c0, c1, c2, c3, c4, c5, c6⟩ := h7'.cells
      exact bodyPost_ret (v := .tuple #[msV ⟨x0, x1, r0, r1, r2, r3⟩ (some ⟨g, 0, none⟩) (n - 8) (n - 8), .nilIface]) (by simp [results, Tryd.results10, go_sem, c0, c1, c2, c3, c4, c5, c6]) rfl ⟨P0.k.below.trans hb7, g, rfl, (ho7 g (Nat.ne_of_gt P0.n1)).trans P0.row, Nat.le_of_lt P0.n1⟩
  · as_aux_lemma =>
      have hz := MsAt.new W1 27 zeroS none 0 0
      have bz := alloc_below W1 (.cells (msC zeroS none 0 0) 27)
      have gz := st.z.lt
      replace st := st.step bz
      clear hHeld
      have hHeld := st
      go_wp2
      refine ⟨hHeld, ?_⟩
      change wpAnyH _ _ _ _ _ _ _ _ (W1.alloc (.cells (msC zeroS none 0 0) 27))
      generalize W1.alloc (.cells (msC zeroS none 0 0) 27) = W2 at *
      have hz0 := hz.lt
      generalize W1.heap.size = gM at *
      try simp only [Act.put, List.setIfInBounds_toArray, List.set_cons_zero, List.set_cons_succ]
      refine wpAnyH_one (i := 8) (by kernel_rfl) rfl ?_
      go_wp2_with (go_at_call 37; refine (cp.out _ st).mono ?_; rintro e W3 ⟨g, rfl, row, hg, hb⟩)
      have gl := Nat.lt_of_lt_of_le st.z.lt hg
      replace st := st.step hb
      have ne : g ≠ gM := by omega
      replace hz := hz.step hb
      clear hb hHeld
      have hHeld := st
      refine ⟨hHeld, ?_⟩
      try simp only [Act.put, List.setIfInBounds_toArray, List.set_cons_zero, List.set_cons_succ]
      refine wpAnyH_at (i := 9) (some 30) (v := msV ⟨x0, x1, 0, 0, 0, 0⟩ (some ⟨g, 0, none⟩) (n - 8) (n - 8)) rfl rfl (by kernel_rfl) (by kernel_rfl) (by kernel_rfl) (fun _ _ _ h => h) (Or.inl ⟨by rfl, fun w9 _ => ?_⟩) (by assumption) ?_
      · go_simp
      simp only [Act.put, List.setIfInBounds_toArray, List.set_cons_zero, List.set_cons_succ]
      refine wpAnyH_one (i := 11) (by kernel_rfl) rfl ?_
      refine wpList_stF rfl rfl 27 _ _ rfl gM (msC ⟨x0, x1, 0, 0, 0, 0⟩ (some ⟨g, 0, none⟩) (n - 8) (n - 8)) rfl rfl 27 _ hz (by kernel_rfl) rfl (msC_one ..) ?_
      intro wA fA hbA hoA hsA
      have P0 : PMp w (some ⟨b, o, none⟩) n c xs gM g ⟨x0, x1, 0, 0, 0, 0⟩ (n - 8) (xs.drop 8) wA := ⟨⟨st.z.below hbA gz, st.rd.below hbA (Nat.le_of_lt gz), st.below.trans (hbA.mono (Nat.le_of_lt gz))⟩, fA, (hoA g ne).trans row, gl, gz, ne⟩
      clear hz row st hHeld fA hbA hoA hsA
      have hHeld := P0.k
      go_wp2
      refine ⟨hHeld, ?_⟩
      refine wpAnyH_done (by kernel_rfl) ?_ _
      go_wp2_with fail
      refine wp_region_held_drew (S := fun w' => ∃ h, PMp w (some ⟨b, o, none⟩) n c xs gM g h (n - 8) (xs.drop 8) w') (by kernel_rfl) ⟨_, P0.step (below_drew _)⟩ (fun hHeld => ?_)
      replace P0 := P0.step (below_drew _)
      generalize wA.drew = WB at *
      refine wpAnyH_at (i := 0) (some 31) (v := ?v0z13) rfl rfl (by kernel_rfl) (by kernel_rfl) (by kernel_rfl) (fun _ _ _ h => h) (Or.inl ⟨by rfl, ?y0z13⟩) (by assumption) ?r0z13
      case y0z13 =>
        intro w9 hSw
        clear hSw
        go_simp
        all_goals with_reducible rfl
      simp only [Act.put, List.setIfInBounds_toArray, List.set_cons_zero, List.set_cons_succ]
      refine wpAnyH_at (i := 1) (some 32) (v := ?v1z14) rfl rfl (by kernel_rfl) (by kernel_rfl) (by kernel_rfl) (fun _ _ _ h => h) (Or.inl ⟨by rfl, ?y1z14⟩) (by assumption) ?r1z14
      case y1z14 =>
        intro w9 hSw
        clear hSw
        go_simp
        all_goals with_reducible rfl
      simp only [Act.put, List.setIfInBounds_toArray, List.set_cons_zero, List.set_cons_succ]
      refine wpAnyH_at (i := 2) (some 33) (v := ?v2z15) rfl rfl (by kernel_rfl) (by kernel_rfl) (by kernel_rfl) (fun _ _ _ h => h) (Or.inl ⟨by rfl, ?y2z15⟩) (by assumption) ?r2z15
      case y2z15 =>
        intro w9 hSw
        clear hSw
        go_simp
        all_goals with_reducible rfl
      simp only [Act.put, List.setIfInBounds_toArray, List.set_cons_zero, List.set_cons_succ]
      refine wpAnyH_at (i := 3) (some 34) (v := ?v3z16) rfl rfl (by kernel_rfl) (by kernel_rfl) (by kernel_rfl) (fun _ _ _ h => h) (Or.inl ⟨by rfl, ?y3z16⟩) (by assumption) ?r3z16
      case y3z16 =>
        intro w9 hSw
        clear hSw
        go_simp
        all_goals with_reducible rfl
      simp only [Act.put, List.setIfInBounds_toArray, List.set_cons_zero, List.set_cons_succ]
      refine wpAnyH_one (i := 4) (by kernel_rfl) rfl ?_
      refine wpList_cpT (some 35) rfl rfl (.tmp 32) (.tmp 34) 22 22 rfl Tryd.underlying22 sz5 gM 2 27 (msC ⟨x0, x1, 0, 0, 0, 0⟩ (some ⟨g, 0, none⟩) (n - 8) (n - 8)) (msC ⟨x0, x1, r0, r1, r2, r3⟩ (some ⟨g, 0, none⟩) (n - 8) (n - 8)) P0.pk 4 4 rfl _ 4 (c - 4) w.heap.size [r0, r1, r2, r3] rfl (t4.out _ P0.k) (by decide) (by simp) (by decide) rfl ?_
      intro W2 y2 ho
      replace P0 := P0.only ho y2
      clear hHeld ho y2
      go_wp2
      refine ⟨⟨_, P0⟩, ?_⟩
      refine wpAnyH_done (by kernel_rfl) ?_ _
      obtain ⟨a0, a1, a2, a3, a4, a5, a6⟩ := P0.pk.cells
      have z2 := P0.k.z
      go_wp2_with (refine wpList_stF rfl rfl 27 _ _ rfl w.heap.size (msC ⟨x0, x1, r0, r1, r2, r3⟩ (some ⟨g, 0, none⟩) (n - 8) (n - 8)) rfl rfl 27 _ z2 (by kernel_rfl) rfl (msC_one ..) ?_; intro w7 h7 hb7 ho7 hs7)
      have h7' : MsAt w7 w.heap.size 27 ⟨x0, x1, r0, r1, r2, r3⟩ (some ⟨g, 0, none⟩) (n - 8) (n - 8) := h7
      obtain ⟨c0, c1, c2, c3, c4, c5, c6⟩ := h7'.cells
      exact bodyPost_ret (v := .tuple #[msV ⟨x0, x1, r0, r1, r2, r3⟩ (some ⟨g, 0, none⟩) (n - 8) (n - 8), .nilIface]) (by simp [results, Tryd.results10, go_sem, c0, c1, c2, c3, c4, c5, c6]) rfl ⟨P0.k.below.trans hb7, g, rfl, (ho7 g (Nat.ne_of_gt P0.n1)).trans P0.row, Nat.le_of_lt P0.n1⟩
theorem mparse_any (A : Option Addr) (n c : Nat) (xs : List Int) (w : World) (hr : Rd .u8 w w.heap.size A n c xs) : Calls Tryd.prog 10 #[.slice A n c] w (GivesMP w xs n) := by
  have hl := hr.len
  have hmx := Nat.le_trans hr.cap hr.max
  rcases mE_cases xs with ⟨h1, e⟩ | ⟨h1, h2, e⟩ | ⟨h1, h2, h3, e⟩ | ⟨h1, h2, h3, e⟩
  · unfold GivesMP
    rw [e]
    exact (mparse_short A n c xs w hr (by omega)).mono fun ev w' ⟨q1, q2⟩ => ⟨q1, .inl ⟨by decide, q2⟩⟩
  · unfold GivesMP
    rw [e]
    exact (mparse_far A n c xs w hr (by omega) hmx).mono fun ev w' ⟨q1, q2⟩ => ⟨q1, .inl ⟨by decide, q2⟩⟩
  · unfold GivesMP
    rw [e]
    exact (mparse_sum A n c xs w hr (by omega) (by omega) (by simpa using h3)).mono fun ev w' ⟨q1, q2⟩ => ⟨q1, .inl ⟨by decide, q2⟩⟩
  · obtain ⟨b, o, rfl, -, -⟩ := hr.at_ (i := 0) (by omega)
    unfold GivesMP
    rw [e]
    exact (mparse_good b o n c xs w hr (by omega) (by omega) (by simpa using h3)).mono fun ev w' ⟨q1, q2⟩ => ⟨q1, .inr ⟨rfl, q2⟩⟩
end Go.Proofs.YtbefoapnlehdmaaDoor
