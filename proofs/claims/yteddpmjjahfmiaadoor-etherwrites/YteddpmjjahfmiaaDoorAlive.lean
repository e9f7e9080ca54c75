/-
  alive answers true.
-/
import Derived.Test.YteddpmjjahfmiaaDoorRBytes
namespace Go.Proofs.YteddpmjjahfmiaaDoor
open Go.RowKit

def l15 : List Int := [255, 255, 255, 255, 255, 255, 2, 0, 0, 0, 0, 1, 8, 6, 9]
@[reducible] def one6 : Mac6 := ⟨1, 0, 0, 0, 0, 0⟩
@[reducible] def af : Mac6 := ⟨2, 0, 0, 0, 0, 1⟩
@[reducible] def at6 : Mac6 := ⟨255, 255, 255, 255, 255, 255⟩
@[reducible] def az : Mac6 := ⟨0, 0, 0, 0, 0, 0⟩
theorem l15_wf : ∀ x ∈ l15, (Lit.int .u8 x).wf = true := by decide
theorem Row.rdAll {w : World} {g : Nat} {xs : List Int} {n : Nat} (h : Row w g xs) (hn : xs.length = n) (hm : n ≤ 100000) (hw : ∀ x ∈ xs, (Lit.int .u8 x).wf = true) : Rd .u8 w w.heap.size (some ⟨g, 0, none⟩) n n xs := by
  have := h.rd 0 n n (by omega) (Nat.le_refl _) (by unfold maxLen; omega) hw
  rwa [List.drop_zero, List.take_of_length_le (by omega)] at this
theorem aParse {W : World} {g : Nat} (h : Row W g l15) : Calls Tryd.prog 9 #[.slice (some ⟨g, 0, none⟩) 15 15] W fun ev w' => ∃ g1, ev = .returned (.tuple #[frV at6 af 2054 (some ⟨g1, 0, none⟩) 1 1, .nilIface]) ∧ Row w' g1 [9] ∧ W.heap.size ≤ g1 ∧ Below W.heap.size W w' := by
  refine (parse_ok _ 15 15 l15 W (h.rdAll rfl (by omega) l15_wf) (by omega) (by omega)).mono ?_
  rintro ev w' ⟨hb, ⟨h1, _⟩ | ⟨h1, g1, rfl, hr, hg⟩⟩
  · exact absurd h1 (by decide)
  · exact ⟨g1, rfl, hr, hg, hb⟩
theorem aBytes {W : World} {g1 : Nat} (h : Row W g1 [9]) : Calls Tryd.prog 16 #[frV at6 af 2054 (some ⟨g1, 0, none⟩) 1 1] W fun ev w' => ∃ g, ev = .returned (.tuple #[.slice (some ⟨g, 0, none⟩) 15 15, .nilIface]) ∧ Row w' g l15 ∧ W.heap.size ≤ g ∧ Below W.heap.size W w' :=
  bytes_ok at6 af 2054 _ 1 1 [9] W (h.rdAll (n := 1) rfl (by omega) (by decide)) (by omega) (by unfold Mac6.ok; decide) (by unfold Mac6.ok; decide) (by omega)
theorem aFor1 (A : Option Addr) (n c : Nat) (W : World) : Calls Tryd.prog 14 #[frV at6 af 2054 A n c, one6.v] W fun ev w' => ev = .returned (.bool true) ∧ Below W.heap.size W w' := for_any at6 af 2054 A n c one6 W
theorem aFor2 (W : World) : Calls Tryd.prog 14 #[frV az az 0 none 0 0, one6.v] W fun ev w' => ev = .returned (.bool false) ∧ Below W.heap.size W w' := for_any az az 0 none 0 0 one6 W
theorem aSame1 {W : World} {g1 : Nat} (h : Row W g1 [9]) : Calls Tryd.prog 18 #[frV at6 af 2054 (some ⟨g1, 0, none⟩) 1 1, frV at6 af 2054 (some ⟨g1, 0, none⟩) 1 1] W fun ev w' => ev = .returned (.bool true) ∧ Below W.heap.size W w' := by
  have hr := h.rdAll (n := 1) rfl (by omega) (by decide)
  have := sameF_any at6 af 2054 _ 1 1 [9] at6 af 2054 _ 1 1 [9] W hr hr
  rwa [sameV_self] at this
theorem aSame2 {W : World} {g1 : Nat} (h : Row W g1 [9]) : Calls Tryd.prog 18 #[frV at6 af 2054 (some ⟨g1, 0, none⟩) 1 1, frV az az 0 none 0 0] W fun ev w' => ev = .returned (.bool false) ∧ Below W.heap.size W w' := by
  have hr := h.rdAll (n := 1) rfl (by omega) (by decide)
  have := sameF_any at6 af 2054 _ 1 1 [9] az az 0 none 0 0 [] W hr Rd.nil
  rwa [sameV_1 (by decide)] at this
/-- What alive's walk knows. -/
structure KA (w : World) (gf g1 gc : Nat) (W : World) : Prop where
  kn : Kn w W
  b : Row W w.heap.size l15
  f : FrAt W gf 29 at6 af 2054 (some ⟨g1, 0, none⟩) 1 1
  body : Row W g1 [9]
  c : Row W gc l15
theorem KA.step {w W V : World} {gf g1 gc : Nat} (h : KA w gf g1 gc W) (hb : Below W.heap.size W V) : KA w gf g1 gc V := ⟨h.kn.step hb, h.b.below hb h.b.lt, h.f.step hb, h.body.below hb h.body.lt, h.c.below hb h.c.lt⟩
theorem aEq1 {W : World} {g1 : Nat} (h : Row W g1 [9]) : Calls Tryd.prog 15 #[.slice (some ⟨g1, 0, none⟩) 1 1, .slice (some ⟨W.heap.size, 0, none⟩) 1 1] (W.alloc (.cells #[.int .u8 9] 5)) fun ev w' => ev = .returned (.bool true) ∧ Below W.heap.size W w' := by
  have hr := (h.rdAll (n := 1) rfl (by omega) (by decide)).below (alloc_below W (.cells #[.int .u8 9] 5)) (Nat.le_refl _)
  have hl := rd_lit .u8 5 W [9] 1 rfl (by omega) (by decide)
  refine (same_any _ _ _ _ _ _ [9] _ _ _ hr hl).mono ?_
  rintro ev w' ⟨rfl, hb⟩
  exact ⟨rfl, (alloc_below W _).trans (hb.mono (by simp))⟩
theorem aEq2 {W : World} {g gc : Nat} (h : Row W g l15) (h' : Row W gc l15) : Calls Tryd.prog 15 #[.slice (some ⟨gc, 0, none⟩) 15 15, .slice (some ⟨g, 0, none⟩) 15 15] W fun ev w' => ev = .returned (.bool true) ∧ Below W.heap.size W w' :=
  same_any _ _ _ _ _ _ l15 _ _ _ (h'.rdAll rfl (by omega) l15_wf) (h.rdAll rfl (by omega) l15_wf)
set_option maxRecDepth 100000 in
set_option maxHeartbeats 4000000 in
theorem alive_any (w : World) (hg : Laid w) : Calls Tryd.prog 7 #[] w fun e w' => e = .returned (.bool true) ∧ Below w.heap.size w w' := by
  have b0 : Row (w.alloc (.cells #[.int .u8 255, .int .u8 255, .int .u8 255, .int .u8 255, .int .u8 255, .int .u8 255, .int .u8 2, .int .u8 0, .int .u8 0, .int .u8 0, .int .u8 0, .int .u8 1, .int .u8 8, .int .u8 6, .int .u8 9] 5)) w.heap.size l15 := heap_alloc_new w _
  have k0 := (Kn.start hg).alloc (.cells #[.int .u8 255, .int .u8 255, .int .u8 255, .int .u8 255, .int .u8 255, .int .u8 255, .int .u8 2, .int .u8 0, .int .u8 0, .int .u8 0, .int .u8 0, .int .u8 1, .int .u8 8, .int .u8 6, .int .u8 9] 5)
  clear hg
  go_enter Tryd.func7, Tryd.ntmps7
  go_wp2_with fail
  refine (aParse b0).mono ?_
  rintro ev w1 ⟨g1, rfl, r1, -, hb⟩
  have k : KA w w1.heap.size g1 w.heap.size (w1.alloc (.cells (frC at6 af 2054 (some ⟨g1, 0, none⟩) 1 1) 29)) :=
    ⟨(k0.step hb).alloc _, (b0.below hb b0.lt).below (alloc_below _ _) (b0.below hb b0.lt).lt, FrAt.new _ _ _ _ _ _ _ _, r1.below (alloc_below _ _) r1.lt, (b0.below hb b0.lt).below (alloc_below _ _) (b0.below hb b0.lt).lt⟩
  clear k0 b0 hb r1
  go_wp2_with fail
  refine (parse_short _ 13 15 _ (by omega)).mono ?_
  rintro ev w2 ⟨rfl, hb⟩
  replace k := k.step hb
  clear hb
  generalize w1.heap.size = gf at k ⊢
  replace k := k.step (alloc_below w2 (.cells (frC zero6 zero6 0 none 0 0) 29))
  go_wp2_with (at_make; refine wpList_mk (some 25) rfl rfl _ _ 22 rfl Tryd.underlying22 info5 1515 _ _ rfl rfl rfl rfl (by omega) ?_; intro w3 r3 hs3 hb3; replace k := k.step hb3; clear r3 hs3 hb3)
  refine (parse_long _ 1515 1515 _ (by omega)).mono ?_
  rintro ev w4 ⟨rfl, hb⟩
  replace k := k.step hb
  clear hb
  replace k := k.step (alloc_below w4 (.cells (frC zero6 zero6 0 none 0 0) 29))
  obtain ⟨a0, a1, a2, a3, a4, a5, a6, a7, a8, a9, a10, a11, a12, a13⟩ := k.f.cells
  go_wp2_with fail
  refine (aBytes k.body).mono ?_
  rintro ev w5 ⟨gc, rfl, rc, -, hb⟩
  replace k : KA w gf g1 gc w5 := ⟨(k.step hb).kn, (k.step hb).b, (k.step hb).f, (k.step hb).body, rc⟩
  clear hb rc
  clear a0 a1 a2 a3 a4 a5 a6 a7 a8 a9 a10 a11 a12 a13
  go_wp2_with (at_make; refine wpList_mk (some 35) rfl rfl _ _ 22 rfl Tryd.underlying22 info5 1501 _ _ rfl rfl rfl rfl (by omega) ?_; intro w6 r6 hs6 hb6; replace k := k.step hb6; clear r6 hs6 hb6)
  refine (bytes_long az az 0 _ 1501 1501 _ (by omega)).mono ?_
  rintro ev w7 ⟨rfl, hb⟩
  replace k := k.step hb
  clear hb
  go_wp2_with fail
  refine (errno_err 12 _ k.kn.laid).mono ?_
  rintro ev w8 ⟨rfl, hb⟩
  replace k := k.step hb
  clear hb
  go_wp2_with fail
  refine (reason_err 12 _ k.kn.laid).mono ?_
  rintro ev w9 ⟨rfl, hb⟩
  replace k := k.step hb
  clear hb
  go_wp2_with fail
  refine (errno_err 11 _ k.kn.laid).mono ?_
  rintro ev w10 ⟨rfl, hb⟩
  replace k := k.step hb
  clear hb
  have q1 := eql24
  have q2 : mB 2 0 0 0 0 1 2 0 0 0 0 1 = true := by decide
  obtain ⟨a0, a1, a2, a3, a4, a5, a6, a7, a8, a9, a10, a11, a12, a13⟩ := k.f.cells
  go_wp2_with fail
  refine (aEq1 k.body).mono ?_
  rintro ev w11 ⟨rfl, hb⟩
  replace k := k.step hb
  clear hb
  clear a0 a1 a2 a3 a4 a5 a6 a7 a8 a9 a10 a11 a12 a13
  go_wp2_with fail
  refine (aEq2 k.b k.c).mono ?_
  rintro ev w12 ⟨rfl, hb⟩
  replace k := k.step hb
  clear hb
  obtain ⟨a0, a1, a2, a3, a4, a5, a6, a7, a8, a9, a10, a11, a12, a13⟩ := k.f.cells
  go_wp2_with fail
  refine (aFor1 _ _ _ _).mono ?_
  rintro ev w13 ⟨rfl, hb⟩
  replace k := k.step hb
  clear hb
  clear a0 a1 a2 a3 a4 a5 a6 a7 a8 a9 a10 a11 a12 a13
  go_wp2_with fail
  refine (aFor2 _).mono ?_
  rintro ev w14 ⟨rfl, hb⟩
  replace k := k.step hb
  clear hb
  obtain ⟨a0, a1, a2, a3, a4, a5, a6, a7, a8, a9, a10, a11, a12, a13⟩ := k.f.cells
  go_wp2_with fail
  refine (aSame1 k.body).mono ?_
  rintro ev w15 ⟨rfl, hb⟩
  replace k := k.step hb
  clear hb
  clear a0 a1 a2 a3 a4 a5 a6 a7 a8 a9 a10 a11 a12 a13
  obtain ⟨a0, a1, a2, a3, a4, a5, a6, a7, a8, a9, a10, a11, a12, a13⟩ := k.f.cells
  go_wp2_with fail
  refine (aSame2 k.body).mono ?_
  rintro ev w16 ⟨rfl, hb⟩
  replace k := k.step hb
  clear hb
  clear a0 a1 a2 a3 a4 a5 a6 a7 a8 a9 a10 a11 a12 a13
  go_wp2
  go_ret
  exact ⟨rfl, k.kn.below⟩
end Go.Proofs.YteddpmjjahfmiaaDoor
