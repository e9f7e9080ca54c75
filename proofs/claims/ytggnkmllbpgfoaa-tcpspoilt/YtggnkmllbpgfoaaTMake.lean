/-
  Contract of Make.
-/
import Derived.Test.YtggnkmllbpgfoaaTProg
namespace Go.Proofs.Ytggnkmllbpgfoaa
open Go.RowKit

/-- What the walk knows: the answer's block, the segment's row. -/
structure HK (w : World) (A : Option Addr) (n c : Nat) (xs ys : List Int) (W : World) : Prop where
  z : ∃ h A' n' c', PkAt W w.heap.size 27 h A' n' c'
  row : Row W (w.heap.size + 1) ys
  rd : Rd .u8 W w.heap.size A n c xs
  below : Below w.heap.size w W
section
variable {w W V : World} {A : Option Addr} {n c : Nat} {xs ys zs : List Int}
theorem HK.step (q : HK w A n c xs ys W) (hb : Below W.heap.size W V) : HK w A n c xs ys V := ⟨(by obtain ⟨h, a, n, c, z⟩ := q.z; exact ⟨h, a, n, c, z.step hb⟩), q.row.below hb q.row.lt, q.rd.below hb q.below.size, q.below.trans (hb.mono q.below.size)⟩
theorem HK.only (q : HK w A n c xs ys W) (ho : Only (w.heap.size + 1) W V) (hr : Row V (w.heap.size + 1) zs) : HK w A n c xs zs V :=
  ⟨(by obtain ⟨h, a, n, c, z⟩ := q.z; exact ⟨h, a, n, c, z.below ho.below (Nat.lt_succ_self _)⟩), hr, ho.rd q.rd (Nat.le_succ _), q.below.trans (ho.below.mono (Nat.le_succ _))⟩
end
theorem HK.start (A : Option Addr) (n c : Nat) (xs : List Int) (w : World) (hr : Rd .u8 w w.heap.size A n c xs) (W : World) (ys : List Int) (row : Row W (w.alloc (.cells (pkC zeroH none 0 0) 27)).heap.size ys) (hb : Below (w.alloc (.cells (pkC zeroH none 0 0) 27)).heap.size (w.alloc (.cells (pkC zeroH none 0 0) 27)) W) : HK w A n c xs ys W := by
  have b0 := alloc_below w (.cells (pkC zeroH none 0 0) 27)
  have s1 : (w.alloc (.cells (pkC zeroH none 0 0) 27)).heap.size = w.heap.size + 1 := by simp
  refine ⟨⟨_, _, _, _, (PkAt.new w 27 zeroH none 0 0).step hb⟩, ?_, (hr.below b0 (Nat.le_refl _)).below hb b0.size, b0.trans (hb.mono b0.size)⟩
  rw [← s1]
  exact row

theorem rep20 (n : Nat) : List.replicate (20 + n) (0 : Int) = [0, 0, 0, 0, 0, 0, 0, 0, 0, 0, 0, 0, 0, 0, 0, 0, 0, 0, 0, 0] ++ List.replicate n 0 := by rw [Nat.add_comm]; rfl
theorem lay_all (n : Nat) (h : Hd) (xs : List Int) (hx : xs.length = n) : splice (((splice (splice (List.replicate (20 + n) (0 : Int)) 0 (two2 h.src)) 2 (two2 h.dst)).set 12 80).set 13 h.flags) 20 xs = hdM h 0 ++ xs := by
  subst hx
  rw [rep20]
  simp [splice, two2, hdM]
  omega
theorem lay_sum (h : Hd) (s : Int) (xs : List Int) : splice (hdM h 0 ++ xs) 16 (two2 s) = hdM h s ++ xs := by simp [splice, two2, hdM]
theorem mkR_len (h : Hd) (f t : Int) (xs : List Int) : (mkR h f t xs).length = 20 + xs.length := by unfold mkR; rw [List.length_append, hdM_len]

/-- What Make answers: a segment over a row of the call's own, known whole, and no error. -/
def GivesM (w : World) (h : Hd) (zs : List Int) (m : Nat) (ev : Ending) (w' : World) : Prop :=
  ∃ g, ev = .returned (.tuple #[pkV h (some ⟨g, 0, none⟩) m m, .nilIface]) ∧ Row w' g zs ∧ w.heap.size ≤ g ∧ Below w.heap.size w w'
set_option maxRecDepth 100000 in
set_option maxHeartbeats 4000000 in
theorem make_far (h : Hd) (A : Option Addr) (n c : Nat) (f t : Int) (w : World) (hn : 1460 < n) (hmax : n ≤ 9223372036854775807) :
    Calls Try.prog 10 #[.int .u16 h.src, .int .u16 h.dst, .int .u8 h.flags, .slice A n c, .int .u32 f, .int .u32 t] w fun ev w' => ev = .returned (.tuple #[zeroP, errV 1 11]) ∧ Below w.heap.size w w' := by
  have n1 : (1460 : Int) < (n : Int) := by omega
  have hz := PkAt.new w 27 zeroH none 0 0
  have b0 : Below w.heap.size w (w.alloc (.cells (pkC zeroH none 0 0) 27)) := alloc_below w _
  go_enter Try.func10, Try.ntmps10
  go_wp2_with fail
  generalize w.alloc (.cells (pkC zeroH none 0 0) 27) = W0 at *
  go_wp2_with (first
    | (go_at_call 19; refine (wrong_any 11 _ (by decide)).mono ?_; rintro e w1 ⟨rfl, rfl⟩)
    | (refine wpList_stF rfl rfl 27 _ _ rfl w.heap.size (pkC zeroH none 0 0) rfl rfl 27 _ hz (by kernel_rfl) rfl (pkC_one ..) ?_; intro w7 h7 hb7 ho7 hs7))
  have h7' : PkAt w7 w.heap.size 27 zeroH none 0 0 := h7
  obtain ⟨c0, c1, c2, c3⟩ := h7'.cells
  refine bodyPost_ret (v := .tuple #[zeroP, errV 1 11]) (by simp [results, Try.results10, go_sem, c0, c1, c2, c3]) rfl ⟨rfl, b0.trans hb7⟩

set_option maxRecDepth 100000 in
set_option maxHeartbeats 4000000 in
theorem make_none (h : Hd) (A : Option Addr) (n c m : Nat) (xs : List Int) (f t : Int) (w : World) (hk : h.ok) (hr : Rd .u8 w w.heap.size A n c xs) (hn : n ≤ 1460) (hm : 20 + n = m) (h0n : n = 0) (hf : Ip f) (ht : Ip t) (s : Int) (hs : 65535 - totV (epR f t m ++ (hdM h 0 ++ xs)) = s) :
    Calls Try.prog 10 #[.int .u16 h.src, .int .u16 h.dst, .int .u8 h.flags, .slice A n c, .int .u32 f, .int .u32 t] w (GivesM w h (hdM h s ++ xs) m) := by
  subst h0n
  obtain rfl : xs = [] := List.eq_nil_of_length_eq_zero hr.len
  obtain rfl : m = 20 := by omega
  replace hs : 65535 - totV (epR f t 20 ++ (hdM h 0 ++ [])) = s := hs
  have hxl := hr.len
  have hwf := hr.2.2.2.1
  have start := HK.start A 0 c [] w hr
  obtain ⟨Y0, h0⟩ : ∃ Y, List.replicate 20 (0 : Int) = Y := ⟨_, rfl⟩
  obtain ⟨Y1, h1⟩ : ∃ Y, splice Y0 0 (two2 h.src) = Y := ⟨_, rfl⟩
  obtain ⟨Y2, h2⟩ : ∃ Y, splice Y1 2 (two2 h.dst) = Y := ⟨_, rfl⟩
  obtain ⟨Y3, h3⟩ : ∃ Y, (Y2.set 12 80).set 13 h.flags = Y := ⟨_, rfl⟩
  obtain ⟨Y4, h4⟩ : ∃ Y, splice Y3 20 [] = Y := ⟨_, rfl⟩
  have l0 : Y0.length = 20 := by rw [← h0, List.length_replicate]
  have l1 : Y1.length = 20 := by rw [← h1, splice_len _ _ _ (by simp [two2]; omega), l0]
  have l2 : Y2.length = 20 := by rw [← h2, splice_len _ _ _ (by simp [two2]; omega), l1]
  have l3 : Y3.length = 20 := by rw [← h3, List.length_set, List.length_set, l2]
  have l4 : Y4.length = 20 := by rw [← h4, splice_len _ _ _ (by omega), l3]
  have E4 : Y4 = hdM h 0 ++ [] := by
    rw [← h4, ← h3, ← h2, ← h1, ← h0]
    exact lay_all 0 h [] hxl
  have WY : ∀ x ∈ Y4, (Lit.int .u8 x).wf = true := by
    rw [E4]
    exact fun x hx => (List.mem_append.1 hx).elim (hdM_wf hk (by omega) x) (hwf x)
  have E5 : splice Y4 16 (two2 s) = hdM h s ++ [] := by rw [E4, lay_sum]
  have wf := epR_wf hf ht (n := 20) (by omega)
  have ca : ∀ W, Calls Try.prog 18 #[.int .u32 f, .int .u32 t, .int .i64 20] W (GivesRow W (epR f t 20) 12) := fun W => ahead_any f t 20 W hf ht (by omega)
  have cs : ∀ W g, Row W g (epR f t 20) → Row W (w.heap.size + 1) Y4 → Calls Try.prog 21 #[.slice (some ⟨W.heap.size, 0, none⟩) 2 2] (W.alloc (.cells #[.slice (some ⟨g, 0, none⟩) 12 12, .slice (some ⟨w.heap.size + 1, 0, none⟩) 20 20] 22)) fun e w' => e = .returned (.int .u16 s) ∧ Below W.heap.size W w' := fun W g q1 q2 => by
    have := sumOf_two (q1.rdW (n := 12) rfl (by omega) wf) (q2.rdW (n := 20) l4 (by omega) WY)
    rw [E4, hs] at this
    exact this
  have sb : 0 ≤ s ∧ s ≤ 65535 := by
    have hb := totV_bd (byts_of (fun x hx => (List.mem_append.1 hx).elim (wf x) (fun q => WY x (by rw [E4]; exact q))))
    unfold W16 at hb
    omega
  replace E5 := Lib.hid E5
  replace cs := Lib.hid cs
  replace ca := Lib.hid ca
  have EL : Hid ((epR f t 20).length = 12) := Lib.hid rfl
  have ks := hk.src
  have kd := hk.dst
  clear hs WY hf ht wf
  generalize epR f t 20 = EE at *
  replace h0 := Lib.hid h0
  replace h1 := Lib.hid h1
  replace h2 := Lib.hid h2
  replace h3 := Lib.hid h3
  replace h4 := Lib.hid h4
  replace l0 := Lib.hid l0
  replace l1 := Lib.hid l1
  replace l2 := Lib.hid l2
  replace l3 := Lib.hid l3
  replace l4 := Lib.hid l4
  have HX := Lib.hid hxl
  clear hr E4 hxl hwf hk hm
  go_enter Try.func10, Try.ntmps10
  go_wp2_with (at_make; refine wpList_mk (some 23) rfl rfl _ _ 22 rfl Try.underlying22 info5 20 _ _ rfl rfl rfl rfl (by omega) ?_; intro w2 row2 hs2 hb2; rw [h0.out] at row2; have q := start w2 _ row2 hb2; clear start row2 hs2 hb2)
  with_reducible refine (layTwo_any (w.heap.size + 1) 0 20 20 Y0 h.src _ q.row (by rw [l0.out]; omega) (by omega) ks).mono ?_
  rintro ev w3 ⟨rfl, r3, ho⟩
  rw [h1.out] at r3
  replace q := q.only ho r3
  clear r3 ho
  go_wp2_with fail
  with_reducible refine (layTwo_any (w.heap.size + 1) 2 (20 - 2) (20 - 2) Y1 h.dst _ q.row (by rw [l1.out]; omega) (by omega) kd).mono ?_
  rintro ev w4 ⟨rfl, r4, ho⟩
  rw [h2.out] at r4
  replace q := q.only ho r4
  clear r4 ho
  have c12 := q.row.cell (i := 12) (by rw [l2.out]; omega)
  have c13 := q.row.cell (i := 13) (by rw [l2.out]; omega)
  have z12 := q.row.frozen 12
  have z13 := q.row.frozen 13
  have q1 := (q.only (Only.setCell _ 12 _ _) (q.row.set 12 80))
  have q2 := (q1.only (Only.setCell _ 13 _ _) (q1.row.set 13 h.flags))
  rw [h3.out] at q2
  clear q1 q
  go_wp2_with (with_reducible refine wpList_cpRow (some 39) rfl rfl (.tmp 37) (.tmp 38) 22 22 rfl Try.underlying22 sz5 (w.heap.size + 1) 20 _ q2.row (some ⟨w.heap.size + 1, 0, none⟩) (20 - 20) (20 - 20) rfl A 0 c w.heap.size [] rfl q2.rd (by rw [l3.out]; omega) (by omega) (fun h0 => absurd h0 (by omega)) ?_; intro w8 r8 ho8; rw [h4.out] at r8; have q := q2.only ho8 r8; clear r8 ho8 q2 c12 c13 z12 z13)
  refine wp_region_held_drew (S := fun w' => ∃ Y, HK w A 0 c [] Y w') (by kernel_rfl) ⟨_, q.step (below_drew _)⟩ (fun hHeld => ?_)
  replace q := q.step (below_drew _)
  change wpAnyH _ _ _ _ _ _ _ _ (World.drew _)
  generalize World.drew _ = W9 at *
  refine wpAnyH_at (i := 0) (some 40) (v := ?v0z1) rfl rfl (by kernel_rfl) (by kernel_rfl) (by kernel_rfl) (fun _ _ _ h => h) (Or.inl ⟨by rfl, ?y0z1⟩) (by assumption) ?r0z1
  case y0z1 =>
    intro w9 hSw
    clear hSw
    go_simp
    all_goals with_reducible rfl
  simp only [Act.put, List.setIfInBounds_toArray, List.set_cons_zero, List.set_cons_succ]
  refine wpAnyH_at (i := 1) (some 41) (v := ?v1z2) rfl rfl (by kernel_rfl) (by kernel_rfl) (by kernel_rfl) (fun _ _ _ h => h) (Or.inl ⟨by rfl, ?y1z2⟩) (by assumption) ?r1z2
  case y1z2 =>
    intro w9 hSw
    clear hSw
    go_simp
    all_goals with_reducible rfl
  simp only [Act.put, List.setIfInBounds_toArray, List.set_cons_zero, List.set_cons_succ]
  refine wpAnyH_at (i := 2) (some 42) (v := ?v2z3) rfl rfl (by kernel_rfl) (by kernel_rfl) (by kernel_rfl) (fun _ _ _ h => h) (Or.inl ⟨by rfl, ?y2z3⟩) (by assumption) ?r2z3
  case y2z3 =>
    intro w9 hSw
    clear hSw
    go_simp
    all_goals with_reducible rfl
  simp only [Act.put, List.setIfInBounds_toArray, List.set_cons_zero, List.set_cons_succ]
  refine wpAnyH_at (i := 3) (some 43) (v := ?v3z4) rfl rfl (by kernel_rfl) (by kernel_rfl) (by kernel_rfl) (fun _ _ _ h => h) (Or.inl ⟨by rfl, ?y3z4⟩) (by assumption) ?r3z4
  case y3z4 =>
    intro w9 hSw
    clear hSw
    go_simp
    all_goals with_reducible rfl
  simp only [Act.put, List.setIfInBounds_toArray, List.set_cons_zero, List.set_cons_succ]
  refine wpAnyH_at (i := 4) (some 44) (v := ?v4z5) rfl rfl (by kernel_rfl) (by kernel_rfl) (by kernel_rfl) (fun _ _ _ h => h) (Or.inl ⟨by rfl, ?y4z5⟩) (by assumption) ?r4z5
  case y4z5 =>
    intro w9 hSw
    clear hSw
    go_simp
    all_goals with_reducible rfl
  simp only [Act.put, List.setIfInBounds_toArray, List.set_cons_zero, List.set_cons_succ]
  refine wpAnyH_at (i := 5) (some 45) (v := ?v5z6) rfl rfl (by kernel_rfl) (by kernel_rfl) (by kernel_rfl) (fun _ _ _ h => h) (Or.inl ⟨by rfl, ?y5z6⟩) (by assumption) ?r5z6
  case y5z6 =>
    intro w9 hSw
    clear hSw
    go_simp
    all_goals with_reducible rfl
  simp only [Act.put, List.setIfInBounds_toArray, List.set_cons_zero, List.set_cons_succ]
  refine wpAnyH_at (i := 7) (some 47) (v := ?v7z7) rfl rfl (by kernel_rfl) (by kernel_rfl) (by kernel_rfl) (fun _ _ _ h => h) (Or.inl ⟨by rfl, ?y7z7⟩) (by assumption) ?r7z7
  case y7z7 =>
    intro w9 hSw
    clear hSw
    go_simp
    all_goals with_reducible rfl
  simp only [Act.put, List.setIfInBounds_toArray, List.set_cons_zero, List.set_cons_succ]
  refine wpAnyH_one (i := 6) (by kernel_rfl) rfl ?_
  go_wp2_with (go_at_call 18; refine (ca.out _).mono ?_; rintro ev W10 ⟨g, rfl, rowE, hg, hb⟩)
  replace q := q.step hb
  clear hHeld hb ca
  refine ⟨⟨_, q⟩, ?_⟩
  have hHeld : ∃ Y, HK w A 0 c [] Y W10 := ⟨_, q⟩
  refine wpAnyH_one (i := 8) (by kernel_rfl) rfl ?_
  have cs1 := cs.out _ _ rowE q.row
  have qa := q.step (alloc_below W10 (.cells #[.slice (some ⟨g, 0, none⟩) 12 12, .slice (some ⟨w.heap.size + 1, 0, none⟩) 20 20] 22))
  have qb := alloc_below W10 (.cells #[.slice (some ⟨g, 0, none⟩) 12 12, .slice (some ⟨w.heap.size + 1, 0, none⟩) 20 20] 22)
  go_wp2
  clear cs hHeld rowE
  refine ⟨⟨_, qa⟩, ?_⟩
  have hHeld : ∃ Y, HK w A 0 c [] Y (W10.alloc (.cells #[.slice (some ⟨g, 0, none⟩) 12 12, .slice (some ⟨w.heap.size + 1, 0, none⟩) 20 20] 22)) := ⟨_, qa⟩
  refine wpAnyH_one (i := 9) (by kernel_rfl) rfl ?_
  go_wp2_with (go_at_call 21; refine cs1.mono ?_; rintro ev W11 ⟨rfl, hb⟩)
  replace q := q.step hb
  clear hHeld hb cs1 qa qb
  refine ⟨⟨_, q⟩, ?_⟩
  have hHeld : ∃ Y, HK w A 0 c [] Y W11 := ⟨_, q⟩
  refine wpAnyH_one (i := 10) (by kernel_rfl) rfl ?_
  go_wp2_with (go_at_call 20; with_reducible refine (layTwo_any (w.heap.size + 1) 16 (20 - 16) (20 - 16) Y4 s _ q.row (by rw [l4.out]; omega) (by omega) sb).mono ?_; rintro ev W12 ⟨rfl, r12, ho⟩)
  rw [E5.out] at r12
  replace q := q.only ho r12
  clear hHeld r12 ho
  refine ⟨⟨_, q⟩, ?_⟩
  refine wpAnyH_done (by kernel_rfl) ?_ _
  obtain ⟨hz0, A0, n0, c0, hz⟩ := q.z
  go_wp2_with (refine wpList_stF rfl rfl 27 _ _ rfl w.heap.size (pkC h (some ⟨w.heap.size + 1, 0, none⟩) 20 20) rfl rfl 27 _ hz (by kernel_rfl) rfl (pkC_one ..) ?_; intro w7 h7 hb7 ho7 hs7)
  have h7' : PkAt w7 w.heap.size 27 h (some ⟨w.heap.size + 1, 0, none⟩) 20 20 := h7
  have r7 : Row w7 (w.heap.size + 1) (hdM h s ++ []) := (ho7 _ (by omega)).trans q.row
  have b7 : Below w.heap.size w w7 := q.below.trans hb7
  obtain ⟨a0, a1, a2, a3⟩ := h7'.cells
  clear h7 hz
  refine bodyPost_ret (v := .tuple #[pkV h (some ⟨w.heap.size + 1, 0, none⟩) 20 20, .nilIface]) (by simp [results, Try.results10, go_sem, a0, a1, a2, a3]) rfl ⟨_, rfl, r7, Nat.le_succ _, b7⟩

set_option maxRecDepth 100000 in
set_option maxHeartbeats 4000000 in
theorem make_some (h : Hd) (A : Option Addr) (n c m : Nat) (xs : List Int) (f t : Int) (w : World) (hk : h.ok) (hr : Rd .u8 w w.heap.size A n c xs) (hn : n ≤ 1460) (hm : 20 + n = m) (h0n : 0 < n) (hf : Ip f) (ht : Ip t) (s : Int) (hs : 65535 - totV (epR f t m ++ (hdM h 0 ++ xs)) = s) :
    Calls Try.prog 10 #[.int .u16 h.src, .int .u16 h.dst, .int .u8 h.flags, .slice A n c, .int .u32 f, .int .u32 t] w (GivesM w h (hdM h s ++ xs) m) := by
  have hxl := hr.len
  have hwf := hr.2.2.2.1
  have start := HK.start A n c xs w hr
  have n1 : ¬ (1460 : Int) < (n : Int) := by omega
  have hm' : (20 : Int) + (n : Int) = (m : Int) := by omega
  have e1 : IntKind.i64.wrap (m : Int) = (m : Int) := by rw [IntKind.wrap_i64]; omega
  have k2 : ¬ m = 2 := by omega
  have j2 : (2 : Int) ≤ (m : Int) := by omega
  have k16 : ¬ m = 16 := by omega
  have j16 : (16 : Int) ≤ (m : Int) := by omega
  have k20 : ¬ m = 20 := by omega
  have j20 : (20 : Int) ≤ (m : Int) := by omega
  have i12 : (12 : Int) < (m : Int) := by omega
  have i13 : (13 : Int) < (m : Int) := by omega
  have m1 : m ≤ 1480 := by omega
  have m2 : 20 ≤ m := by omega
  obtain ⟨Y0, h0⟩ : ∃ Y, List.replicate m (0 : Int) = Y := ⟨_, rfl⟩
  obtain ⟨Y1, h1⟩ : ∃ Y, splice Y0 0 (two2 h.src) = Y := ⟨_, rfl⟩
  obtain ⟨Y2, h2⟩ : ∃ Y, splice Y1 2 (two2 h.dst) = Y := ⟨_, rfl⟩
  obtain ⟨Y3, h3⟩ : ∃ Y, (Y2.set 12 80).set 13 h.flags = Y := ⟨_, rfl⟩
  obtain ⟨Y4, h4⟩ : ∃ Y, splice Y3 20 xs = Y := ⟨_, rfl⟩
  have l0 : Y0.length = m := by rw [← h0, List.length_replicate]
  have l1 : Y1.length = m := by rw [← h1, splice_len _ _ _ (by simp [two2]; omega), l0]
  have l2 : Y2.length = m := by rw [← h2, splice_len _ _ _ (by simp [two2]; omega), l1]
  have l3 : Y3.length = m := by rw [← h3, List.length_set, List.length_set, l2]
  have l4 : Y4.length = m := by rw [← h4, splice_len _ _ _ (by omega), l3]
  have E4 : Y4 = hdM h 0 ++ xs := by
    rw [← h4, ← h3, ← h2, ← h1, ← h0, ← hm]
    exact lay_all n h xs hxl
  have WY : ∀ x ∈ Y4, (Lit.int .u8 x).wf = true := by
    rw [E4]
    exact fun x hx => (List.mem_append.1 hx).elim (hdM_wf hk (by omega) x) (hwf x)
  have E5 : splice Y4 16 (two2 s) = hdM h s ++ xs := by rw [E4, lay_sum]
  have wf := epR_wf hf ht (n := m) (by omega)
  have ca : ∀ W, Calls Try.prog 18 #[.int .u32 f, .int .u32 t, .int .i64 m] W (GivesRow W (epR f t m) 12) := fun W => ahead_any f t m W hf ht (by omega)
  have cs : ∀ W g, Row W g (epR f t m) → Row W (w.heap.size + 1) Y4 → Calls Try.prog 21 #[.slice (some ⟨W.heap.size, 0, none⟩) 2 2] (W.alloc (.cells #[.slice (some ⟨g, 0, none⟩) 12 12, .slice (some ⟨w.heap.size + 1, 0, none⟩) m m] 22)) fun e w' => e = .returned (.int .u16 s) ∧ Below W.heap.size W w' := fun W g q1 q2 => by
    have := sumOf_two (q1.rdW (n := 12) rfl (by omega) wf) (q2.rdW (n := m) l4 (by omega) WY)
    rw [E4, hs] at this
    exact this
  have sb : 0 ≤ s ∧ s ≤ 65535 := by
    have hb := totV_bd (byts_of (fun x hx => (List.mem_append.1 hx).elim (wf x) (fun q => WY x (by rw [E4]; exact q))))
    unfold W16 at hb
    omega
  replace E5 := Lib.hid E5
  replace cs := Lib.hid cs
  replace ca := Lib.hid ca
  have EL : Hid ((epR f t m).length = 12) := Lib.hid rfl
  have ks := hk.src
  have kd := hk.dst
  clear hs WY hf ht wf
  generalize epR f t m = EE at *
  replace h0 := Lib.hid h0
  replace h1 := Lib.hid h1
  replace h2 := Lib.hid h2
  replace h3 := Lib.hid h3
  replace h4 := Lib.hid h4
  replace l0 := Lib.hid l0
  replace l1 := Lib.hid l1
  replace l2 := Lib.hid l2
  replace l3 := Lib.hid l3
  replace l4 := Lib.hid l4
  have HX := Lib.hid hxl
  clear hr E4 hxl hwf hk hm
  go_enter Try.func10, Try.ntmps10
  go_wp2_with (at_make; refine wpList_mk (some 23) rfl rfl _ _ 22 rfl Try.underlying22 info5 m _ _ rfl rfl rfl rfl (by omega) ?_; intro w2 row2 hs2 hb2; rw [h0.out] at row2; have q := start w2 _ row2 hb2; clear start row2 hs2 hb2)
  with_reducible refine (layTwo_any (w.heap.size + 1) 0 m m Y0 h.src _ q.row (by rw [l0.out]; omega) (by omega) ks).mono ?_
  rintro ev w3 ⟨rfl, r3, ho⟩
  rw [h1.out] at r3
  replace q := q.only ho r3
  clear r3 ho
  go_wp2_with fail
  with_reducible refine (layTwo_any (w.heap.size + 1) 2 (m - 2) (m - 2) Y1 h.dst _ q.row (by rw [l1.out]; omega) (by omega) kd).mono ?_
  rintro ev w4 ⟨rfl, r4, ho⟩
  rw [h2.out] at r4
  replace q := q.only ho r4
  clear r4 ho
  have c12 := q.row.cell (i := 12) (by rw [l2.out]; omega)
  have c13 := q.row.cell (i := 13) (by rw [l2.out]; omega)
  have z12 := q.row.frozen 12
  have z13 := q.row.frozen 13
  have q1 := (q.only (Only.setCell _ 12 _ _) (q.row.set 12 80))
  have q2 := (q1.only (Only.setCell _ 13 _ _) (q1.row.set 13 h.flags))
  rw [h3.out] at q2
  clear q1 q
  go_wp2_with (with_reducible refine wpList_cpRow (some 39) rfl rfl (.tmp 37) (.tmp 38) 22 22 rfl Try.underlying22 sz5 (w.heap.size + 1) 20 _ q2.row (some ⟨w.heap.size + 1, 20, none⟩) (m - 20) (m - 20) rfl A n c w.heap.size xs rfl q2.rd (by rw [l3.out]; omega) (by omega) (fun _ => rfl) ?_; intro w8 r8 ho8; rw [h4.out] at r8; have q := q2.only ho8 r8; clear r8 ho8 q2 c12 c13 z12 z13)
  refine wp_region_held_drew (S := fun w' => ∃ Y, HK w A n c xs Y w') (by kernel_rfl) ⟨_, q.step (below_drew _)⟩ (fun hHeld => ?_)
  replace q := q.step (below_drew _)
  change wpAnyH _ _ _ _ _ _ _ _ (World.drew _)
  generalize World.drew _ = W9 at *
  refine wpAnyH_at (i := 0) (some 40) (v := ?v0z8) rfl rfl (by kernel_rfl) (by kernel_rfl) (by kernel_rfl) (fun _ _ _ h => h) (Or.inl ⟨by rfl, ?y0z8⟩) (by assumption) ?r0z8
  case y0z8 =>
    intro w9 hSw
    clear hSw
    go_simp
    all_goals with_reducible rfl
  simp only [Act.put, List.setIfInBounds_toArray, List.set_cons_zero, List.set_cons_succ]
  refine wpAnyH_at (i := 1) (some 41) (v := ?v1z9) rfl rfl (by kernel_rfl) (by kernel_rfl) (by kernel_rfl) (fun _ _ _ h => h) (Or.inl ⟨by rfl, ?y1z9⟩) (by assumption) ?r1z9
  case y1z9 =>
    intro w9 hSw
    clear hSw
    go_simp
    all_goals with_reducible rfl
  simp only [Act.put, List.setIfInBounds_toArray, List.set_cons_zero, List.set_cons_succ]
  refine wpAnyH_at (i := 2) (some 42) (v := ?v2z10) rfl rfl (by kernel_rfl) (by kernel_rfl) (by kernel_rfl) (fun _ _ _ h => h) (Or.inl ⟨by rfl, ?y2z10⟩) (by assumption) ?r2z10
  case y2z10 =>
    intro w9 hSw
    clear hSw
    go_simp
    all_goals with_reducible rfl
  simp only [Act.put, List.setIfInBounds_toArray, List.set_cons_zero, List.set_cons_succ]
  refine wpAnyH_at (i := 3) (some 43) (v := ?v3z11) rfl rfl (by kernel_rfl) (by kernel_rfl) (by kernel_rfl) (fun _ _ _ h => h) (Or.inl ⟨by rfl, ?y3z11⟩) (by assumption) ?r3z11
  case y3z11 =>
    intro w9 hSw
    clear hSw
    go_simp
    all_goals with_reducible rfl
  simp only [Act.put, List.setIfInBounds_toArray, List.set_cons_zero, List.set_cons_succ]
  refine wpAnyH_at (i := 4) (some 44) (v := ?v4z12) rfl rfl (by kernel_rfl) (by kernel_rfl) (by kernel_rfl) (fun _ _ _ h => h) (Or.inl ⟨by rfl, ?y4z12⟩) (by assumption) ?r4z12
  case y4z12 =>
    intro w9 hSw
    clear hSw
    go_simp
    all_goals with_reducible rfl
  simp only [Act.put, List.setIfInBounds_toArray, List.set_cons_zero, List.set_cons_succ]
  refine wpAnyH_at (i := 5) (some 45) (v := ?v5z13) rfl rfl (by kernel_rfl) (by kernel_rfl) (by kernel_rfl) (fun _ _ _ h => h) (Or.inl ⟨by rfl, ?y5z13⟩) (by assumption) ?r5z13
  case y5z13 =>
    intro w9 hSw
    clear hSw
    go_simp
    all_goals with_reducible rfl
  simp only [Act.put, List.setIfInBounds_toArray, List.set_cons_zero, List.set_cons_succ]
  refine wpAnyH_at (i := 7) (some 47) (v := ?v7z14) rfl rfl (by kernel_rfl) (by kernel_rfl) (by kernel_rfl) (fun _ _ _ h => h) (Or.inl ⟨by rfl, ?y7z14⟩) (by assumption) ?r7z14
  case y7z14 =>
    intro w9 hSw
    clear hSw
    go_simp
    all_goals with_reducible rfl
  simp only [Act.put, List.setIfInBounds_toArray, List.set_cons_zero, List.set_cons_succ]
  refine wpAnyH_one (i := 6) (by kernel_rfl) rfl ?_
  go_wp2_with (go_at_call 18; refine (ca.out _).mono ?_; rintro ev W10 ⟨g, rfl, rowE, hg, hb⟩)
  replace q := q.step hb
  clear hHeld hb ca
  refine ⟨⟨_, q⟩, ?_⟩
  have hHeld : ∃ Y, HK w A n c xs Y W10 := ⟨_, q⟩
  refine wpAnyH_one (i := 8) (by kernel_rfl) rfl ?_
  have cs1 := cs.out _ _ rowE q.row
  have qa := q.step (alloc_below W10 (.cells #[.slice (some ⟨g, 0, none⟩) 12 12, .slice (some ⟨w.heap.size + 1, 0, none⟩) m m] 22))
  have qb := alloc_below W10 (.cells #[.slice (some ⟨g, 0, none⟩) 12 12, .slice (some ⟨w.heap.size + 1, 0, none⟩) m m] 22)
  go_wp2
  clear cs hHeld rowE
  refine ⟨⟨_, qa⟩, ?_⟩
  have hHeld : ∃ Y, HK w A n c xs Y (W10.alloc (.cells #[.slice (some ⟨g, 0, none⟩) 12 12, .slice (some ⟨w.heap.size + 1, 0, none⟩) m m] 22)) := ⟨_, qa⟩
  refine wpAnyH_one (i := 9) (by kernel_rfl) rfl ?_
  go_wp2_with (go_at_call 21; refine cs1.mono ?_; rintro ev W11 ⟨rfl, hb⟩)
  replace q := q.step hb
  clear hHeld hb cs1 qa qb
  refine ⟨⟨_, q⟩, ?_⟩
  have hHeld : ∃ Y, HK w A n c xs Y W11 := ⟨_, q⟩
  refine wpAnyH_one (i := 10) (by kernel_rfl) rfl ?_
  go_wp2_with (go_at_call 20; with_reducible refine (layTwo_any (w.heap.size + 1) 16 (m - 16) (m - 16) Y4 s _ q.row (by rw [l4.out]; omega) (by omega) sb).mono ?_; rintro ev W12 ⟨rfl, r12, ho⟩)
  rw [E5.out] at r12
  replace q := q.only ho r12
  clear hHeld r12 ho
  refine ⟨⟨_, q⟩, ?_⟩
  refine wpAnyH_done (by kernel_rfl) ?_ _
  obtain ⟨hz0, A0, n0, c0, hz⟩ := q.z
  go_wp2_with (refine wpList_stF rfl rfl 27 _ _ rfl w.heap.size (pkC h (some ⟨w.heap.size + 1, 0, none⟩) m m) rfl rfl 27 _ hz (by kernel_rfl) rfl (pkC_one ..) ?_; intro w7 h7 hb7 ho7 hs7)
  have h7' : PkAt w7 w.heap.size 27 h (some ⟨w.heap.size + 1, 0, none⟩) m m := h7
  have r7 : Row w7 (w.heap.size + 1) (hdM h s ++ xs) := (ho7 _ (by omega)).trans q.row
  have b7 : Below w.heap.size w w7 := q.below.trans hb7
  obtain ⟨a0, a1, a2, a3⟩ := h7'.cells
  clear h7 hz
  refine bodyPost_ret (v := .tuple #[pkV h (some ⟨w.heap.size + 1, 0, none⟩) m m, .nilIface]) (by simp [results, Try.results10, go_sem, a0, a1, a2, a3]) rfl ⟨_, rfl, r7, Nat.le_succ _, b7⟩

theorem make_ok (h : Hd) (A : Option Addr) (n c : Nat) (xs : List Int) (f t : Int) (w : World) (hk : h.ok) (hr : Rd .u8 w w.heap.size A n c xs) (hf : Ip f) (ht : Ip t) (hn : n ≤ 1460) :
    Calls Try.prog 10 #[.int .u16 h.src, .int .u16 h.dst, .int .u8 h.flags, .slice A n c, .int .u32 f, .int .u32 t] w (GivesM w h (mkR h f t xs) (20 + n)) := by
  have hl := hr.len
  have e : (20 : Int) + (xs.length : Int) = ((20 + n : Nat) : Int) := by omega
  unfold mkR sumM
  rw [e]
  rcases Nat.eq_zero_or_pos n with h0 | h0
  · exact make_none h A n c (20 + n) xs f t w hk hr hn rfl h0 hf ht _ rfl
  · exact make_some h A n c (20 + n) xs f t w hk hr hn rfl h0 hf ht _ rfl
end Go.Proofs.Ytggnkmllbpgfoaa
