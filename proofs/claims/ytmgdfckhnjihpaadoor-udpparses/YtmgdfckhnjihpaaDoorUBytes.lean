/-
  Contract of Bytes.
-/
import Derived.Test.YtmgdfckhnjihpaaDoorUCut
import Derived.Test.YtmgdfckhnjihpaaDoorForce
import Derived.Deep.CutRange
namespace Go.Proofs.YtmgdfckhnjihpaaDoor
open Go.RowKit

/-- A datagram's bytes: a row of the call's own, known whole, and no error. -/
def GivesBy (w : World) (xs : List Int) (n : Nat) (ev : Ending) (w' : World) : Prop :=
  ∃ g, ev = .returned (.tuple #[.slice (some ⟨g, 0, none⟩) n n, .nilIface]) ∧ Row w' g xs ∧ w.heap.size ≤ g ∧ Below w.heap.size w w'
/-- What the walk knows: the datagram's box, the answer's row. -/
structure HK (w : World) (h : Hd) (A : Option Addr) (n c : Nat) (xs ys : List Int) (W : World) : Prop where
  pk : PkAt W w.heap.size 28 h A n c
  row : Row W (w.heap.size + 1) ys
  rd : Rd .u8 W w.heap.size A n c xs
  below : Below w.heap.size w W
section
variable {w W V : World} {h : Hd} {A : Option Addr} {n c : Nat} {xs ys zs : List Int}
theorem HK.step (q : HK w h A n c xs ys W) (hb : Below W.heap.size W V) : HK w h A n c xs ys V := ⟨q.pk.step hb, q.row.below hb q.row.lt, q.rd.below hb q.below.size, q.below.trans (hb.mono q.below.size)⟩
theorem HK.only (q : HK w h A n c xs ys W) (ho : Only (w.heap.size + 1) W V) (hr : Row V (w.heap.size + 1) zs) : HK w h A n c xs zs V :=
  ⟨q.pk.below ho.below (Nat.lt_succ_self _), hr, ho.rd q.rd (Nat.le_succ _), q.below.trans (ho.below.mono (Nat.le_succ _))⟩
end
theorem HK.start (h : Hd) (A : Option Addr) (n c : Nat) (xs : List Int) (w : World) (hr : Rd .u8 w w.heap.size A n c xs) (W : World) (ys : List Int) (row : Row W (w.alloc (.cells (pkC h A n c) 28)).heap.size ys) (hb : Below (w.alloc (.cells (pkC h A n c) 28)).heap.size (w.alloc (.cells (pkC h A n c) 28)) W) : HK w h A n c xs ys W := by
  have b0 := alloc_below w (.cells (pkC h A n c) 28)
  have s1 : (w.alloc (.cells (pkC h A n c) 28)).heap.size = w.heap.size + 1 := by simp
  refine ⟨(PkAt.new w 28 h A n c).step hb, ?_, (hr.below b0 (Nat.le_refl _)).below hb b0.size, b0.trans (hb.mono b0.size)⟩
  rw [← s1]
  exact row

theorem rep8 (n : Nat) : List.replicate (8 + n) (0 : Int) = [0, 0, 0, 0, 0, 0, 0, 0] ++ List.replicate n 0 := by rw [Nat.add_comm]; rfl
theorem lay0 (n : Nat) (a : Int) : splice (List.replicate (8 + n) (0 : Int)) 0 (two2 a) = (two2 a ++ [0, 0, 0, 0, 0, 0]) ++ List.replicate n 0 := by rw [rep8]; simp [splice, two2]
theorem lay2 (n : Nat) (a b : Int) : splice ((two2 a ++ [0, 0, 0, 0, 0, 0]) ++ List.replicate n (0 : Int)) 2 (two2 b) = ((two2 a ++ two2 b) ++ [0, 0, 0, 0]) ++ List.replicate n 0 := by simp [splice, two2]
theorem lay4 (n : Nat) (a b k : Int) : splice (((two2 a ++ two2 b) ++ [0, 0, 0, 0]) ++ List.replicate n (0 : Int)) 4 (two2 k) = (((two2 a ++ two2 b) ++ two2 k) ++ [0, 0]) ++ List.replicate n 0 := by simp [splice, two2]
theorem lay8 (n : Nat) (h : Hd) (k : Int) (xs : List Int) (hx : xs.length = n) : splice ((((two2 h.src ++ two2 h.dst) ++ two2 k) ++ [0, 0]) ++ List.replicate n (0 : Int)) 8 xs = hdS h k 0 ++ xs := by
  subst hx
  simp [splice, two2, hdS]
  omega
theorem lay6 (h : Hd) (k s : Int) (xs : List Int) : splice (hdS h k 0 ++ xs) 6 (two2 s) = hdS h k s ++ xs := by simp [splice, two2, hdS]
theorem byR_bare {h : Hd} (hb : h.bare = true) (f t : Int) (xs : List Int) : byR h f t xs = hdS h (8 + (xs.length : Int)) 0 ++ xs := by unfold byR sumV; rw [if_pos hb]
theorem byR_sum {h : Hd} (hb : h.bare = false) (f t : Int) (xs : List Int) : byR h f t xs = hdS h (8 + (xs.length : Int)) (fullV (65535 - totV (epR f t (8 + (xs.length : Int)) ++ (hdS h (8 + (xs.length : Int)) 0 ++ xs)))) ++ xs := by unfold byR sumV; rw [if_neg (by simp [hb])]
theorem byR_len (h : Hd) (f t : Int) (xs : List Int) : (byR h f t xs).length = 8 + xs.length := by unfold byR; rw [List.length_append, hdS_len]

theorem bytes_far (h : Hd) (A : Option Addr) (n c : Nat) (f t : Int) (w : World) (hn : 1472 < n) (hmax : n ≤ 9223372036854775807) :
    Calls Tryd.prog 15 #[pkV h A n c, .int .u32 f, .int .u32 t] w fun ev w' => ev = .returned (.tuple #[.slice none 0 0, errV 1 11]) ∧ Below w.heap.size w w' := by
  have n1 : (1472 : Int) < (n : Int) := by omega
  obtain ⟨a0, a1, a2, a3⟩ := (PkAt.new w 28 h A n c).cells
  go_enter Tryd.func15, Tryd.ntmps15
  go_wp2_with (go_at_call 31; refine (wrong_any 11 _ (by decide)).mono ?_; rintro e w1 ⟨rfl, rfl⟩)
  go_ret2
  exact ⟨rfl, alloc_below _ _⟩

set_option maxRecDepth 100000 in
set_option maxHeartbeats 4000000 in
theorem bytes_bare (h : Hd) (A : Option Addr) (n c m : Nat) (xs : List Int) (f t : Int) (w : World) (hk : h.ok) (hr : Rd .u8 w w.heap.size A n c xs) (hn : n ≤ 1472) (hm : 8 + n = m) (hbare : h.bare = true) :
    Calls Tryd.prog 15 #[pkV h A n c, .int .u32 f, .int .u32 t] w (GivesBy w (hdS h (m : Int) 0 ++ xs) m) := by
  have hxl := hr.len
  have hwf := hr.2.2.2.1
  have start := HK.start h A n c xs w hr
  have n1 : ¬ (1472 : Int) < (n : Int) := by omega
  have hm' : (8 : Int) + (n : Int) = (m : Int) := by omega
  have e1 : IntKind.i64.wrap (m : Int) = (m : Int) := by rw [IntKind.wrap_i64]; omega
  have e2 : IntKind.u16.wrap (m : Int) = (m : Int) := by rw [IntKind.wrap_u16]; omega
  have k2 : ¬ m = 2 := by omega
  have j2 : (2 : Int) ≤ (m : Int) := by omega
  have k4 : ¬ m = 4 := by omega
  have j4 : (4 : Int) ≤ (m : Int) := by omega
  have k6 : ¬ m = 6 := by omega
  have j6 : (6 : Int) ≤ (m : Int) := by omega
  have j8 : (8 : Int) ≤ (m : Int) := by omega
  have m3 : m - 8 = n := by omega
  have m1 : m ≤ 1480 := by omega
  have m2 : 8 ≤ m := by omega
  obtain ⟨Y0, h0⟩ : ∃ Y, List.replicate m (0 : Int) = Y := ⟨_, rfl⟩
  obtain ⟨Y1, h1⟩ : ∃ Y, splice Y0 0 (two2 h.src) = Y := ⟨_, rfl⟩
  obtain ⟨Y2, h2⟩ : ∃ Y, splice Y1 2 (two2 h.dst) = Y := ⟨_, rfl⟩
  obtain ⟨Y3, h3⟩ : ∃ Y, splice Y2 4 (two2 (m : Int)) = Y := ⟨_, rfl⟩
  obtain ⟨Y4, h4⟩ : ∃ Y, splice Y3 8 xs = Y := ⟨_, rfl⟩
  have l0 : Y0.length = m := by rw [← h0, List.length_replicate]
  have l1 : Y1.length = m := by rw [← h1, splice_len _ _ _ (by simp [two2]; omega), l0]
  have l2 : Y2.length = m := by rw [← h2, splice_len _ _ _ (by simp [two2]; omega), l1]
  have l3 : Y3.length = m := by rw [← h3, splice_len _ _ _ (by simp [two2]; omega), l2]
  have l4 : Y4.length = m := by rw [← h4, splice_len _ _ _ (by omega), l3]
  have E4 : Y4 = hdS h m 0 ++ xs := by
    rw [← h4, ← h3, ← h2, ← h1, ← h0, ← hm, lay0, lay2, lay4, lay8 _ _ _ _ hxl]
  rw [← E4]
  replace hbare := Lib.hid hbare
  have ks := hk.src
  have kd := hk.dst
  replace h0 := Lib.hid h0
  replace h1 := Lib.hid h1
  replace h2 := Lib.hid h2
  replace h3 := Lib.hid h3
  replace h4 := Lib.hid h4
  replace l0 := Lib.hid l0
  replace l1 := Lib.hid l1
  replace l2 := Lib.hid l2
  replace l3 := Lib.hid l3
  replace l4 := Lib.hid l4
  have HX := Lib.hid hxl
  clear hr E4 hxl hwf hk hm
  obtain ⟨a0, a1, a2, a3⟩ := (PkAt.new w 28 h A n c).cells
  go_enter Tryd.func15, Tryd.ntmps15
  go_wp2_with (at_make; refine wpList_mk (some 18) rfl rfl _ _ 22 rfl Tryd.underlying22 info5 m _ _ rfl rfl rfl rfl (by omega) ?_; intro w2 row2 hs2 hb2; rw [h0.out] at row2; have q := start w2 _ row2 hb2; clear start row2 hs2 hb2 a0 a1 a2 a3; obtain ⟨a0, a1, a2, a3⟩ := q.pk.cells)
  with_reducible refine (layTwo_any (w.heap.size + 1) 0 m m Y0 h.src _ q.row (by rw [l0.out]; omega) (by omega) ks).mono ?_
  rintro ev w3 ⟨rfl, r3, ho⟩
  rw [h1.out] at r3
  replace q := q.only ho r3
  clear r3 ho a0 a1 a2 a3
  go_wp2_with fail
  refine wp_region_held_drew (S := fun w' => ∃ Y, HK w h A n c xs Y w') (by kernel_rfl) ⟨_, q.step (below_drew _)⟩ (fun hHeld => ?_)
  replace q := q.step (below_drew _)
  change wpAnyH _ _ _ _ _ _ _ _ (World.drew _)
  generalize World.drew _ = W4 at *
  refine wpAnyH_at (i := 0) (some 23) (v := ?v0z1) rfl rfl (by kernel_rfl) (by kernel_rfl) (by kernel_rfl) (fun _ _ _ h => h) (Or.inl ⟨by rfl, ?y0z1⟩) (by assumption) ?r0z1
  case y0z1 =>
    intro w9 hSw
    clear hSw
    go_simp
    all_goals with_reducible rfl
  simp only [Act.put, List.setIfInBounds_toArray, List.set_cons_zero, List.set_cons_succ]
  refine wpAnyH_at (i := 1) (some 24) (v := ?v1z2) rfl rfl (by kernel_rfl) (by kernel_rfl) (by kernel_rfl) (fun _ _ _ h => h) (Or.inl ⟨by rfl, ?y1z2⟩) (by assumption) ?r1z2
  case y1z2 =>
    intro w9 hSw
    clear hSw
    go_simp
    all_goals with_reducible rfl
  simp only [Act.put, List.setIfInBounds_toArray, List.set_cons_zero, List.set_cons_succ]
  refine wpAnyH_at (i := 2) (some 25) (v := ?v2z3) rfl rfl (by kernel_rfl) (by kernel_rfl) (by kernel_rfl) (fun _ _ _ h => h) (Or.inl ⟨by rfl, ?y2z3⟩) (by assumption) ?r2z3
  case y2z3 =>
    intro w9 hSw
    clear hSw
    go_simp
    all_goals with_reducible rfl
  simp only [Act.put, List.setIfInBounds_toArray, List.set_cons_zero, List.set_cons_succ]
  refine wpAnyH_at (i := 3) (some 26) (v := ?v3z4) rfl rfl (by kernel_rfl) (by kernel_rfl) (by kernel_rfl) (fun _ _ _ h => h) (Or.inl ⟨by rfl, ?y3z4⟩) (by assumption) ?r3z4
  case y3z4 =>
    intro w9 hSw
    (obtain ⟨YY, hy⟩ := hSw); (obtain ⟨a0, a1, a2, a3⟩ := hy.pk.cells); clear hy
    go_simp
    all_goals with_reducible rfl
  simp only [Act.put, List.setIfInBounds_toArray, List.set_cons_zero, List.set_cons_succ]
  refine wpAnyH_one (i := 4) (by kernel_rfl) rfl ?_
  go_wp2_with (go_at_call 32; with_reducible refine (layTwo_any (w.heap.size + 1) 2 (m - 2) (m - 2) Y1 h.dst _ q.row (by rw [l1.out]; omega) (by omega) kd).mono ?_; rintro ev W5 ⟨rfl, r5, ho⟩)
  rw [h2.out] at r5
  replace q := q.only ho r5
  clear hHeld
  refine ⟨⟨_, q⟩, ?_⟩
  clear r5 ho
  refine wpAnyH_done (by kernel_rfl) ?_ _
  obtain ⟨a0, a1, a2, a3⟩ := q.pk.cells
  go_wp2_with fail
  with_reducible refine (layTwo_any (w.heap.size + 1) 4 (m - 4) (m - 4) Y2 (m : Int) _ q.row (by rw [l2.out]; omega) (by omega) (by omega)).mono ?_
  rintro ev w6 ⟨rfl, r6, ho⟩
  rw [h3.out] at r6
  replace q := q.only ho r6
  clear r6 ho a0 a1 a2 a3
  go_wp2_with fail
  refine wp_region_held_drew (S := fun w' => ∃ Y, HK w h A n c xs Y w') (by kernel_rfl) ⟨_, q.step (below_drew _)⟩ (fun hHeld => ?_)
  replace q := q.step (below_drew _)
  change wpAnyH _ _ _ _ _ _ _ _ (World.drew _)
  generalize World.drew _ = W7 at *
  refine wpAnyH_at (i := 0) (some 34) (v := ?v0z5) rfl rfl (by kernel_rfl) (by kernel_rfl) (by kernel_rfl) (fun _ _ _ h => h) (Or.inl ⟨by rfl, ?y0z5⟩) (by assumption) ?r0z5
  case y0z5 =>
    intro w9 hSw
    clear hSw
    go_simp
    all_goals with_reducible rfl
  simp only [Act.put, List.setIfInBounds_toArray, List.set_cons_zero, List.set_cons_succ]
  refine wpAnyH_at (i := 1) (some 35) (v := .slice (cutA (some ⟨w.heap.size + 1, 0, none⟩) m 8) (m - 8) (m - 8)) rfl rfl (by kernel_rfl) (by kernel_rfl) (by kernel_rfl) (fun _ _ _ h => h) (Or.inl ⟨by rfl, ?y1z6⟩) (by assumption) ?r1z6
  case y1z6 =>
    intro w9 hSw
    clear hSw
    by_cases hq : m = 8
    · rw [cutA_eq hq]
      subst hq
      go_simp
    · rw [cutA_ne hq]
      go_simp
  simp only [Act.put, List.setIfInBounds_toArray, List.set_cons_zero, List.set_cons_succ]
  refine wpAnyH_at (i := 2) (some 36) (v := ?v2z7) rfl rfl (by kernel_rfl) (by kernel_rfl) (by kernel_rfl) (fun _ _ _ h => h) (Or.inl ⟨by rfl, ?y2z7⟩) (by assumption) ?r2z7
  case y2z7 =>
    intro w9 hSw
    clear hSw
    go_simp
    all_goals with_reducible rfl
  simp only [Act.put, List.setIfInBounds_toArray, List.set_cons_zero, List.set_cons_succ]
  refine wpAnyH_at (i := 3) (some 37) (v := ?v3z8) rfl rfl (by kernel_rfl) (by kernel_rfl) (by kernel_rfl) (fun _ _ _ h => h) (Or.inl ⟨by rfl, ?y3z8⟩) (by assumption) ?r3z8
  case y3z8 =>
    intro w9 hSw
    (obtain ⟨YY, hy⟩ := hSw); (obtain ⟨a0, a1, a2, a3⟩ := hy.pk.cells); clear hy
    go_simp
    all_goals with_reducible rfl
  simp only [Act.put, List.setIfInBounds_toArray, List.set_cons_zero, List.set_cons_succ]
  refine wpAnyH_one (i := 4) (by kernel_rfl) rfl ?_
  refine wpList_cpRow (some 38) rfl rfl (.tmp 35) (.tmp 37) 22 22 rfl Tryd.underlying22 sz5 (w.heap.size + 1) 8 _ q.row (cutA (some ⟨w.heap.size + 1, 0, none⟩) m 8) (m - 8) (m - 8) rfl A n c w.heap.size xs rfl q.rd (by rw [l3.out]; omega) (by omega) (fun h0 => by rw [cutA_ne (by omega)]; rfl) ?_
  intro w8 r8 ho8
  rw [h4.out] at r8
  replace q := q.only ho8 r8
  clear r8 ho8 hHeld
  go_wp2
  refine ⟨⟨_, q⟩, ?_⟩
  refine wpAnyH_done (by kernel_rfl) ?_ _
  obtain ⟨a0, a1, a2, a3⟩ := q.pk.cells
  rw [hbare.out] at a2
  go_wp2
  go_ret2
  exact ⟨_, rfl, q.row, Nat.le_succ _, q.below⟩

set_option maxRecDepth 100000 in
set_option maxHeartbeats 4000000 in
theorem bytes_sum (h : Hd) (A : Option Addr) (n c m : Nat) (xs : List Int) (f t : Int) (w : World) (hk : h.ok) (hr : Rd .u8 w w.heap.size A n c xs) (hn : n ≤ 1472) (hm : 8 + n = m) (hbare : h.bare = false) (hf : Ip f) (ht : Ip t) (s : Int) (hs : fullV (65535 - totV (epR f t m ++ (hdS h m 0 ++ xs))) = s) :
    Calls Tryd.prog 15 #[pkV h A n c, .int .u32 f, .int .u32 t] w (GivesBy w (hdS h (m : Int) s ++ xs) m) := by
  have hxl := hr.len
  have hwf := hr.2.2.2.1
  have start := HK.start h A n c xs w hr
  have n1 : ¬ (1472 : Int) < (n : Int) := by omega
  have hm' : (8 : Int) + (n : Int) = (m : Int) := by omega
  have e1 : IntKind.i64.wrap (m : Int) = (m : Int) := by rw [IntKind.wrap_i64]; omega
  have e2 : IntKind.u16.wrap (m : Int) = (m : Int) := by rw [IntKind.wrap_u16]; omega
  have k2 : ¬ m = 2 := by omega
  have j2 : (2 : Int) ≤ (m : Int) := by omega
  have k4 : ¬ m = 4 := by omega
  have j4 : (4 : Int) ≤ (m : Int) := by omega
  have k6 : ¬ m = 6 := by omega
  have j6 : (6 : Int) ≤ (m : Int) := by omega
  have j8 : (8 : Int) ≤ (m : Int) := by omega
  have m3 : m - 8 = n := by omega
  have m1 : m ≤ 1480 := by omega
  have m2 : 8 ≤ m := by omega
  obtain ⟨Y0, h0⟩ : ∃ Y, List.replicate m (0 : Int) = Y := ⟨_, rfl⟩
  obtain ⟨Y1, h1⟩ : ∃ Y, splice Y0 0 (two2 h.src) = Y := ⟨_, rfl⟩
  obtain ⟨Y2, h2⟩ : ∃ Y, splice Y1 2 (two2 h.dst) = Y := ⟨_, rfl⟩
  obtain ⟨Y3, h3⟩ : ∃ Y, splice Y2 4 (two2 (m : Int)) = Y := ⟨_, rfl⟩
  obtain ⟨Y4, h4⟩ : ∃ Y, splice Y3 8 xs = Y := ⟨_, rfl⟩
  have l0 : Y0.length = m := by rw [← h0, List.length_replicate]
  have l1 : Y1.length = m := by rw [← h1, splice_len _ _ _ (by simp [two2]; omega), l0]
  have l2 : Y2.length = m := by rw [← h2, splice_len _ _ _ (by simp [two2]; omega), l1]
  have l3 : Y3.length = m := by rw [← h3, splice_len _ _ _ (by simp [two2]; omega), l2]
  have l4 : Y4.length = m := by rw [← h4, splice_len _ _ _ (by omega), l3]
  have E4 : Y4 = hdS h m 0 ++ xs := by
    rw [← h4, ← h3, ← h2, ← h1, ← h0, ← hm, lay0, lay2, lay4, lay8 _ _ _ _ hxl]
  have WY : ∀ x ∈ Y4, (Lit.int .u8 x).wf = true := by
    rw [E4]
    exact fun x hx => (List.mem_append.1 hx).elim (hdS_wf hk (by omega) (by omega) x) (hwf x)
  have E5 : splice Y4 6 (two2 s) = hdS h m s ++ xs := by rw [E4, lay6]
  have cs : ∀ W g, Row W g Y4 → Calls Tryd.prog 33 #[.slice (some ⟨g, 0, none⟩) m m, .int .u32 f, .int .u32 t] W fun e w' => e = .returned (.int .u16 s) ∧ Below W.heap.size W w' := fun W g q => by
    have := sumU_any _ m m Y4 f t W (q.rdW l4 (by omega) WY) hf ht (by omega)
    rw [E4, hs] at this
    exact this
  have sb : 0 ≤ s ∧ s ≤ 65535 := by
    have hb := totV_bd (byts_of (fun x hx => (List.mem_append.1 hx).elim (epR_wf hf ht (n := m) (by omega) x) (fun q => WY x (by rw [E4]; exact q))))
    unfold W16 at hb
    have := fullV_bd (s := 65535 - totV (epR f t m ++ (hdS h m 0 ++ xs))) (by omega)
    omega
  replace E5 := Lib.hid E5
  replace cs := Lib.hid cs
  clear hs WY hf ht
  replace hbare := Lib.hid hbare
  have ks := hk.src
  have kd := hk.dst
  replace h0 := Lib.hid h0
  replace h1 := Lib.hid h1
  replace h2 := Lib.hid h2
  replace h3 := Lib.hid h3
  replace h4 := Lib.hid h4
  replace l0 := Lib.hid l0
  replace l1 := Lib.hid l1
  replace l2 := Lib.hid l2
  replace l3 := Lib.hid l3
  replace l4 := Lib.hid l4
  have HX := Lib.hid hxl
  clear hr E4 hxl hwf hk hm
  obtain ⟨a0, a1, a2, a3⟩ := (PkAt.new w 28 h A n c).cells
  go_enter Tryd.func15, Tryd.ntmps15
  go_wp2_with (at_make; refine wpList_mk (some 18) rfl rfl _ _ 22 rfl Tryd.underlying22 info5 m _ _ rfl rfl rfl rfl (by omega) ?_; intro w2 row2 hs2 hb2; rw [h0.out] at row2; have q := start w2 _ row2 hb2; clear start row2 hs2 hb2 a0 a1 a2 a3; obtain ⟨a0, a1, a2, a3⟩ := q.pk.cells)
  with_reducible refine (layTwo_any (w.heap.size + 1) 0 m m Y0 h.src _ q.row (by rw [l0.out]; omega) (by omega) ks).mono ?_
  rintro ev w3 ⟨rfl, r3, ho⟩
  rw [h1.out] at r3
  replace q := q.only ho r3
  clear r3 ho a0 a1 a2 a3
  go_wp2_with fail
  refine wp_region_held_drew (S := fun w' => ∃ Y, HK w h A n c xs Y w') (by kernel_rfl) ⟨_, q.step (below_drew _)⟩ (fun hHeld => ?_)
  replace q := q.step (below_drew _)
  change wpAnyH _ _ _ _ _ _ _ _ (World.drew _)
  generalize World.drew _ = W4 at *
  refine wpAnyH_at (i := 0) (some 23) (v := ?v0z9) rfl rfl (by kernel_rfl) (by kernel_rfl) (by kernel_rfl) (fun _ _ _ h => h) (Or.inl ⟨by rfl, ?y0z9⟩) (by assumption) ?r0z9
  case y0z9 =>
    intro w9 hSw
    clear hSw
    go_simp
    all_goals with_reducible rfl
  simp only [Act.put, List.setIfInBounds_toArray, List.set_cons_zero, List.set_cons_succ]
  refine wpAnyH_at (i := 1) (some 24) (v := ?v1z10) rfl rfl (by kernel_rfl) (by kernel_rfl) (by kernel_rfl) (fun _ _ _ h => h) (Or.inl ⟨by rfl, ?y1z10⟩) (by assumption) ?r1z10
  case y1z10 =>
    intro w9 hSw
    clear hSw
    go_simp
    all_goals with_reducible rfl
  simp only [Act.put, List.setIfInBounds_toArray, List.set_cons_zero, List.set_cons_succ]
  refine wpAnyH_at (i := 2) (some 25) (v := ?v2z11) rfl rfl (by kernel_rfl) (by kernel_rfl) (by kernel_rfl) (fun _ _ _ h => h) (Or.inl ⟨by rfl, ?y2z11⟩) (by assumption) ?r2z11
  case y2z11 =>
    intro w9 hSw
    clear hSw
    go_simp
    all_goals with_reducible rfl
  simp only [Act.put, List.setIfInBounds_toArray, List.set_cons_zero, List.set_cons_succ]
  refine wpAnyH_at (i := 3) (some 26) (v := ?v3z12) rfl rfl (by kernel_rfl) (by kernel_rfl) (by kernel_rfl) (fun _ _ _ h => h) (Or.inl ⟨by rfl, ?y3z12⟩) (by assumption) ?r3z12
  case y3z12 =>
    intro w9 hSw
    (obtain ⟨YY, hy⟩ := hSw); (obtain ⟨a0, a1, a2, a3⟩ := hy.pk.cells); clear hy
    go_simp
    all_goals with_reducible rfl
  simp only [Act.put, List.setIfInBounds_toArray, List.set_cons_zero, List.set_cons_succ]
  refine wpAnyH_one (i := 4) (by kernel_rfl) rfl ?_
  go_wp2_with (go_at_call 32; with_reducible refine (layTwo_any (w.heap.size + 1) 2 (m - 2) (m - 2) Y1 h.dst _ q.row (by rw [l1.out]; omega) (by omega) kd).mono ?_; rintro ev W5 ⟨rfl, r5, ho⟩)
  rw [h2.out] at r5
  replace q := q.only ho r5
  clear hHeld
  refine ⟨⟨_, q⟩, ?_⟩
  clear r5 ho
  refine wpAnyH_done (by kernel_rfl) ?_ _
  obtain ⟨a0, a1, a2, a3⟩ := q.pk.cells
  go_wp2_with fail
  with_reducible refine (layTwo_any (w.heap.size + 1) 4 (m - 4) (m - 4) Y2 (m : Int) _ q.row (by rw [l2.out]; omega) (by omega) (by omega)).mono ?_
  rintro ev w6 ⟨rfl, r6, ho⟩
  rw [h3.out] at r6
  replace q := q.only ho r6
  clear r6 ho a0 a1 a2 a3
  go_wp2_with fail
  refine wp_region_held_drew (S := fun w' => ∃ Y, HK w h A n c xs Y w') (by kernel_rfl) ⟨_, q.step (below_drew _)⟩ (fun hHeld => ?_)
  replace q := q.step (below_drew _)
  change wpAnyH _ _ _ _ _ _ _ _ (World.drew _)
  generalize World.drew _ = W7 at *
  refine wpAnyH_at (i := 0) (some 34) (v := ?v0z13) rfl rfl (by kernel_rfl) (by kernel_rfl) (by kernel_rfl) (fun _ _ _ h => h) (Or.inl ⟨by rfl, ?y0z13⟩) (by assumption) ?r0z13
  case y0z13 =>
    intro w9 hSw
    clear hSw
    go_simp
    all_goals with_reducible rfl
  simp only [Act.put, List.setIfInBounds_toArray, List.set_cons_zero, List.set_cons_succ]
  refine wpAnyH_at (i := 1) (some 35) (v := .slice (cutA (some ⟨w.heap.size + 1, 0, none⟩) m 8) (m - 8) (m - 8)) rfl rfl (by kernel_rfl) (by kernel_rfl) (by kernel_rfl) (fun _ _ _ h => h) (Or.inl ⟨by rfl, ?y1z14⟩) (by assumption) ?r1z14
  case y1z14 =>
    intro w9 hSw
    clear hSw
    by_cases hq : m = 8
    · rw [cutA_eq hq]
      subst hq
      go_simp
    · rw [cutA_ne hq]
      go_simp
  simp only [Act.put, List.setIfInBounds_toArray, List.set_cons_zero, List.set_cons_succ]
  refine wpAnyH_at (i := 2) (some 36) (v := ?v2z15) rfl rfl (by kernel_rfl) (by kernel_rfl) (by kernel_rfl) (fun _ _ _ h => h) (Or.inl ⟨by rfl, ?y2z15⟩) (by assumption) ?r2z15
  case y2z15 =>
    intro w9 hSw
    clear hSw
    go_simp
    all_goals with_reducible rfl
  simp only [Act.put, List.setIfInBounds_toArray, List.set_cons_zero, List.set_cons_succ]
  refine wpAnyH_at (i := 3) (some 37) (v := ?v3z16) rfl rfl (by kernel_rfl) (by kernel_rfl) (by kernel_rfl) (fun _ _ _ h => h) (Or.inl ⟨by rfl, ?y3z16⟩) (by assumption) ?r3z16
  case y3z16 =>
    intro w9 hSw
    (obtain ⟨YY, hy⟩ := hSw); (obtain ⟨a0, a1, a2, a3⟩ := hy.pk.cells); clear hy
    go_simp
    all_goals with_reducible rfl
  simp only [Act.put, List.setIfInBounds_toArray, List.set_cons_zero, List.set_cons_succ]
  refine wpAnyH_one (i := 4) (by kernel_rfl) rfl ?_
  refine wpList_cpRow (some 38) rfl rfl (.tmp 35) (.tmp 37) 22 22 rfl Tryd.underlying22 sz5 (w.heap.size + 1) 8 _ q.row (cutA (some ⟨w.heap.size + 1, 0, none⟩) m 8) (m - 8) (m - 8) rfl A n c w.heap.size xs rfl q.rd (by rw [l3.out]; omega) (by omega) (fun h0 => by rw [cutA_ne (by omega)]; rfl) ?_
  intro w8 r8 ho8
  rw [h4.out] at r8
  replace q := q.only ho8 r8
  clear r8 ho8 hHeld
  go_wp2
  refine ⟨⟨_, q⟩, ?_⟩
  refine wpAnyH_done (by kernel_rfl) ?_ _
  obtain ⟨a0, a1, a2, a3⟩ := q.pk.cells
  rw [hbare.out] at a2
  go_wp2_with fail
  clear a0 a1 a2 a3
  refine wp_region_held_drew (S := fun w' => ∃ Y, HK w h A n c xs Y w') (by kernel_rfl) ⟨_, q.step (below_drew _)⟩ (fun hHeld => ?_)
  replace q := q.step (below_drew _)
  change wpAnyH _ _ _ _ _ _ _ _ (World.drew _)
  generalize World.drew _ = W9 at *
  refine wpAnyH_at (i := 0) (some 42) (v := ?v0z17) rfl rfl (by kernel_rfl) (by kernel_rfl) (by kernel_rfl) (fun _ _ _ h => h) (Or.inl ⟨by rfl, ?y0z17⟩) (by assumption) ?r0z17
  case y0z17 =>
    intro w9 hSw
    clear hSw
    go_simp
    all_goals with_reducible rfl
  simp only [Act.put, List.setIfInBounds_toArray, List.set_cons_zero, List.set_cons_succ]
  refine wpAnyH_at (i := 1) (some 43) (v := ?v1z18) rfl rfl (by kernel_rfl) (by kernel_rfl) (by kernel_rfl) (fun _ _ _ h => h) (Or.inl ⟨by rfl, ?y1z18⟩) (by assumption) ?r1z18
  case y1z18 =>
    intro w9 hSw
    clear hSw
    go_simp
    all_goals with_reducible rfl
  simp only [Act.put, List.setIfInBounds_toArray, List.set_cons_zero, List.set_cons_succ]
  refine wpAnyH_at (i := 2) (some 44) (v := ?v2z19) rfl rfl (by kernel_rfl) (by kernel_rfl) (by kernel_rfl) (fun _ _ _ h => h) (Or.inl ⟨by rfl, ?y2z19⟩) (by assumption) ?r2z19
  case y2z19 =>
    intro w9 hSw
    clear hSw
    go_simp
    all_goals with_reducible rfl
  simp only [Act.put, List.setIfInBounds_toArray, List.set_cons_zero, List.set_cons_succ]
  refine wpAnyH_at (i := 3) (some 45) (v := ?v3z20) rfl rfl (by kernel_rfl) (by kernel_rfl) (by kernel_rfl) (fun _ _ _ h => h) (Or.inl ⟨by rfl, ?y3z20⟩) (by assumption) ?r3z20
  case y3z20 =>
    intro w9 hSw
    clear hSw
    go_simp
    all_goals with_reducible rfl
  simp only [Act.put, List.setIfInBounds_toArray, List.set_cons_zero, List.set_cons_succ]
  refine wpAnyH_at (i := 4) (some 46) (v := ?v4z21) rfl rfl (by kernel_rfl) (by kernel_rfl) (by kernel_rfl) (fun _ _ _ h => h) (Or.inl ⟨by rfl, ?y4z21⟩) (by assumption) ?r4z21
  case y4z21 =>
    intro w9 hSw
    clear hSw
    go_simp
    all_goals with_reducible rfl
  simp only [Act.put, List.setIfInBounds_toArray, List.set_cons_zero, List.set_cons_succ]
  refine wpAnyH_one (i := 5) (by kernel_rfl) rfl ?_
  go_wp2_with (go_at_call 33; refine (cs.out _ _ q.row).mono ?_; rintro ev W10 ⟨rfl, hb⟩)
  replace q := q.step hb
  clear hHeld hb
  refine ⟨⟨_, q⟩, ?_⟩
  have hHeld : ∃ Y, HK w h A n c xs Y W10 := ⟨_, q⟩
  refine wpAnyH_one (i := 6) (by kernel_rfl) rfl ?_
  go_wp2_with (go_at_call 32; with_reducible refine (layTwo_any (w.heap.size + 1) 6 (m - 6) (m - 6) Y4 s _ q.row (by rw [l4.out]; omega) (by omega) sb).mono ?_; rintro ev W11 ⟨rfl, r11, ho⟩)
  rw [E5.out] at r11
  replace q := q.only ho r11
  clear hHeld r11 ho
  refine ⟨⟨_, q⟩, ?_⟩
  refine wpAnyH_done (by kernel_rfl) ?_ _
  go_wp2
  go_ret2
  exact ⟨_, rfl, q.row, Nat.le_succ _, q.below⟩
theorem bytes_ok (h : Hd) (A : Option Addr) (n c : Nat) (xs : List Int) (f t : Int) (w : World) (hk : h.ok) (hr : Rd .u8 w w.heap.size A n c xs) (hf : Ip f) (ht : Ip t) (hn : n ≤ 1472) : Calls Tryd.prog 15 #[pkV h A n c, .int .u32 f, .int .u32 t] w (GivesBy w (byR h f t xs) (8 + n)) := by
  have hl := hr.len
  have e : (8 : Int) + (xs.length : Int) = ((8 + n : Nat) : Int) := by omega
  cases hb : h.bare
  · rw [byR_sum hb, e]
    exact bytes_sum h A n c (8 + n) xs f t w hk hr hn rfl hb hf ht _ rfl
  · rw [byR_bare hb, e]
    exact bytes_bare h A n c (8 + n) xs f t w hk hr hn rfl hb
end Go.Proofs.YtmgdfckhnjihpaaDoor
