/-
  Contract of Inner.
-/
import Derived.Test.YtbefoapnlehdmaaDoorMParse
import Derived.Test.YtbefoapnlehdmaaDoorPP
import Derived.Test.YtbefoapnlehdmaaDoorRMP
namespace Go.Proofs.YtbefoapnlehdmaaDoor
open Go.RowKit

/-- What Inner answers. -/
def GivesI (w : World) (h : Ms) (xs : List Int) (ev : Ending) (w' : World) : Prop :=
  Below w.heap.size w w' ∧ ((¬ (iE h xs).2 = 0 ∧ ev = .returned (.tuple #[zeroP, errV (iE h xs).1 (iE h xs).2])) ∨
    ((iE h xs).2 = 0 ∧ ∃ g m, ev = .returned (.tuple #[pkV (hdOf xs) (some ⟨g, 0, none⟩) m m, .nilIface]) ∧ Row w' g (bodyOf xs) ∧ w.heap.size ≤ g ∧ (bodyOf xs).length = m))
theorem iE_kind {h : Ms} {xs : List Int} (hc : ¬ clsV h = 1) : iE h xs = (16, 14) := by unfold iE; rw [if_pos hc]
theorem iE_peek {h : Ms} {xs : List Int} (hc : clsV h = 1) (hp : ¬ (pE false xs).2 = 0) : iE h xs = pE false xs := by unfold iE; rw [if_neg (fun q => q hc), if_pos hp]
theorem iE_short {h : Ms} {xs : List Int} (hc : clsV h = 1) (hp : (pE false xs).2 = 0) (hl : (bodyOf xs).length < 8) : iE h xs = (1, 12) := by unfold iE; rw [if_neg (fun q => q hc), if_neg (fun q => q hp), if_pos hl]
theorem iE_good {h : Ms} {xs : List Int} (hc : clsV h = 1) (hp : (pE false xs).2 = 0) (hl : ¬ (bodyOf xs).length < 8) : iE h xs = (0, 0) := by unfold iE; rw [if_neg (fun q => q hc), if_neg (fun q => q hp), if_neg hl]
/-- What the walk knows: the message's box, the answer's block. -/
structure KI (w : World) (h : Ms) (A : Option Addr) (n c : Nat) (xs : List Int) (W : World) : Prop where
  ms : MsAt W w.heap.size 27 h A n c
  z : PkAt W (w.heap.size + 1) 60 zeroH none 0 0
  rd : Rd .u8 W w.heap.size A n c xs
  below : Below w.heap.size w W
section
variable {w W V : World} {h : Ms} {A : Option Addr} {n c : Nat} {xs : List Int}
theorem KI.step (q : KI w h A n c xs W) (hb : Below W.heap.size W V) : KI w h A n c xs V := ⟨q.ms.step hb, q.z.step hb, q.rd.below hb q.below.size, q.below.trans (hb.mono q.below.size)⟩
theorem KI.start (hr : Rd .u8 w w.heap.size A n c xs) : KI w h A n c xs ((w.alloc (.cells (msC h A n c) 27)).alloc (.cells (pkC zeroH none 0 0) 60)) := by
  have hb0 : Below w.heap.size w ((w.alloc (.cells (msC h A n c) 27)).alloc (.cells (pkC zeroH none 0 0) 60)) := (alloc_below w _).alloc (by simp) _
  exact ⟨(MsAt.new w 27 h A n c).step (alloc_below _ _), by simpa using PkAt.new (w.alloc (.cells (msC h A n c) 27)) 60 zeroH none 0 0, hr.below hb0 (Nat.le_refl _), hb0⟩
theorem KI.fin (q : KI w h A n c xs W) (hb : Below (w.heap.size + 1) W V) : Below w.heap.size w V := q.below.trans (hb.mono (Nat.le_succ _))
end
set_option maxRecDepth 100000 in
set_option maxHeartbeats 4000000 in
theorem inner_kind (h : Ms) (A : Option Addr) (n c : Nat) (xs : List Int) (w : World) (hr : Rd .u8 w w.heap.size A n c xs) (hc : ¬ clsV h = 1) :
    Calls Tryd.prog 26 #[msV h A n c] w fun ev w' => Below w.heap.size w w' ∧ ev = .returned (.tuple #[zeroP, errV 16 14]) := by
  have k : KI w h A n c xs _ := KI.start hr
  clear hr
  have cc := class_any h A n c
  generalize clsV h = cl at *
  have hcb : (cl == 1) = false := by simpa using hc
  go_enter Tryd.func26, Tryd.ntmps26
  go_wp2_with (first
    | (go_at_call 19; refine (cc _).mono ?_; rintro e w1 ⟨rfl, hb⟩; replace k := k.step hb; clear hb cc)
    | (go_at_call 36; refine (fault_any 16 14 _ (by decide) (by decide)).mono ?_; rintro e w1 ⟨rfl, rfl⟩)
    | (refine wpList_stF rfl rfl 60 _ _ rfl (w.heap.size + 1) (pkC zeroH none 0 0) rfl rfl 60 _ k.z (by kernel_rfl) rfl (pkC_one ..) ?_; intro w7 h7 hb7 ho7 hs7))
  have h7' : PkAt w7 (w.heap.size + 1) 60 zeroH none 0 0 := h7
  obtain ⟨c0, c1, c2, c3, c4, c5, c6, c7⟩ := h7'.cells
  exact bodyPost_ret (v := .tuple #[zeroP, errV 16 14]) (by simp [results, Tryd.results26, go_sem, c0, c1, c2, c3, c4, c5, c6, c7]) rfl ⟨k.fin hb7, rfl⟩
set_option maxRecDepth 100000 in
set_option maxHeartbeats 4000000 in
theorem inner_peek (h : Ms) (A : Option Addr) (n c : Nat) (xs : List Int) (w : World) (hr : Rd .u8 w w.heap.size A n c xs) (hc : clsV h = 1) (hp : ¬ (pE false xs).2 = 0) :
    Calls Tryd.prog 26 #[msV h A n c] w fun ev w' => Below w.heap.size w w' ∧ ev = .returned (.tuple #[zeroP, errV (pE false xs).1 (pE false xs).2]) := by
  have k : KI w h A n c xs _ := KI.start hr
  clear hr
  have cc := class_any h A n c
  generalize clsV h = cl at *
  have cp : Hid (∀ W, KI w h A n c xs W → Calls Tryd.prog 50 #[.slice A n c] W fun ev w' => Below W.heap.size W w' ∧ ev = .returned (.tuple #[zeroP, errV (pE false xs).1 (pE false xs).2])) := Lib.hid (fun W q => (peek_any A n c xs W (q.rd.more q.below.size)).mono fun ev w' ⟨h1, h2⟩ => ⟨h1, h2.elim (fun q => q.2) (fun q => absurd q.1 hp)⟩)
  clear hp
  generalize pE false xs = ee at *
  obtain ⟨r, e0⟩ := ee
  dsimp only at cp ⊢
  subst hc
  go_enter Tryd.func26, Tryd.ntmps26
  go_wp2_with (go_at_call 19; refine (cc _).mono ?_; rintro e w1 ⟨rfl, hb⟩; replace k := k.step hb; clear hb cc; obtain ⟨a0, a1, a2, a3, a4, a5, a6⟩ := k.ms.cells)
  refine (cp.out _ k).mono ?_
  rintro ev w2 ⟨hb, rfl⟩
  replace k := k.step hb
  clear hb cp a0 a1 a2 a3 a4 a5 a6
  have k2 := k.step (alloc_below w2 (.cells (pkC zeroH none 0 0) 60))
  replace k := k2
  go_wp2_with (refine wpList_stF rfl rfl 60 _ _ rfl (w.heap.size + 1) (pkC zeroH none 0 0) rfl rfl 60 _ k.z (by kernel_rfl) rfl (pkC_one ..) ?_; intro w7 h7 hb7 ho7 hs7)
  have h7' : PkAt w7 (w.heap.size + 1) 60 zeroH none 0 0 := h7
  obtain ⟨c0, c1, c2, c3, c4, c5, c6, c7⟩ := h7'.cells
  exact bodyPost_ret (v := .tuple #[zeroP, errV r e0]) (by simp [results, Tryd.results26, go_sem, c0, c1, c2, c3, c4, c5, c6, c7]) rfl ⟨k.fin hb7, rfl⟩
set_option maxRecDepth 100000 in
set_option maxHeartbeats 4000000 in
theorem inner_short (h : Ms) (A : Option Addr) (n c : Nat) (xs : List Int) (w : World) (hr : Rd .u8 w w.heap.size A n c xs) (hc : clsV h = 1) (hp : (pE false xs).2 = 0) (hl : (bodyOf xs).length < 8) :
    Calls Tryd.prog 26 #[msV h A n c] w fun ev w' => Below w.heap.size w w' ∧ ev = .returned (.tuple #[zeroP, errV 1 12]) := by
  have k : KI w h A n c xs _ := KI.start hr
  clear hr
  have cc := class_any h A n c
  generalize clsV h = cl at *
  have cp : Hid (∀ W, KI w h A n c xs W → Calls Tryd.prog 50 #[.slice A n c] W fun ev w' => Below W.heap.size W w' ∧ ∃ g m, ev = .returned (.tuple #[pkV (hdOf xs) (some ⟨g, 0, none⟩) m m, .nilIface]) ∧ Row w' g (bodyOf xs) ∧ W.heap.size ≤ g ∧ (bodyOf xs).length = m) := Lib.hid (fun W q => (peek_any A n c xs W (q.rd.more q.below.size)).mono fun ev w' ⟨h1, h2⟩ => ⟨h1, h2.elim (fun q => absurd hp q.1) (fun q => q.2)⟩)
  clear hp
  generalize hdOf xs = hd at *
  generalize bodyOf xs = bd at *
  subst hc
  go_enter Tryd.func26, Tryd.ntmps26
  go_wp2_with (go_at_call 19; refine (cc _).mono ?_; rintro e w1 ⟨rfl, hb⟩; replace k := k.step hb; clear hb cc; obtain ⟨a0, a1, a2, a3, a4, a5, a6⟩ := k.ms.cells)
  refine (cp.out _ k).mono ?_
  rintro ev w2 ⟨hb, g, m, rfl, row, hg, hm⟩
  have hwz := k.z.lt
  replace k := k.step hb
  have k2 := k.step (alloc_below w2 (.cells (pkC hd (some ⟨g, 0, none⟩) m m) 60))
  have hgl := row.lt
  have row2 := row.below (alloc_below w2 (.cells (pkC hd (some ⟨g, 0, none⟩) m m) 60)) hgl
  have m1 : (m : Int) < 8 := by omega
  have hw1 := k.z.lt
  have hgw : w.heap.size + 1 < g := Nat.lt_of_lt_of_le hwz hg
  clear hb cp a0 a1 a2 a3 a4 a5 a6
  obtain ⟨d0, d1, d2, d3, d4, d5, d6, d7⟩ := (PkAt.new w2 60 hd (some ⟨g, 0, none⟩) m m).cells
  replace k := k2
  clear k2 row
  go_wp2_with (first
    | (go_at_call 35; refine (mwrong_any 12 _ (by decide)).mono ?_; rintro e w1 ⟨rfl, rfl⟩)
    | (refine wpList_stF rfl rfl 60 _ _ rfl (w.heap.size + 1) (pkC zeroH none 0 0) rfl rfl 60 _ k.z (by kernel_rfl) rfl (pkC_one ..) ?_; intro w7 h7 hb7 ho7 hs7))
  have h7' : PkAt w7 (w.heap.size + 1) 60 zeroH none 0 0 := h7
  obtain ⟨c0, c1, c2, c3, c4, c5, c6, c7⟩ := h7'.cells
  exact bodyPost_ret (v := .tuple #[zeroP, errV 1 12]) (by simp [results, Tryd.results26, go_sem, c0, c1, c2, c3, c4, c5, c6, c7]) rfl ⟨k.fin hb7, rfl⟩
set_option maxRecDepth 100000 in
set_option maxHeartbeats 4000000 in
theorem inner_good (h : Ms) (A : Option Addr) (n c : Nat) (xs : List Int) (w : World) (hr : Rd .u8 w w.heap.size A n c xs) (hc : clsV h = 1) (hp : (pE false xs).2 = 0) (hl : ¬ (bodyOf xs).length < 8) :
    Calls Tryd.prog 26 #[msV h A n c] w fun ev w' => Below w.heap.size w w' ∧ ∃ g m, ev = .returned (.tuple #[pkV (hdOf xs) (some ⟨g, 0, none⟩) m m, .nilIface]) ∧ Row w' g (bodyOf xs) ∧ w.heap.size ≤ g ∧ (bodyOf xs).length = m := by
  have k : KI w h A n c xs _ := KI.start hr
  clear hr
  have cc := class_any h A n c
  generalize clsV h = cl at *
  have cp : Hid (∀ W, KI w h A n c xs W → Calls Tryd.prog 50 #[.slice A n c] W fun ev w' => Below W.heap.size W w' ∧ ∃ g m, ev = .returned (.tuple #[pkV (hdOf xs) (some ⟨g, 0, none⟩) m m, .nilIface]) ∧ Row w' g (bodyOf xs) ∧ W.heap.size ≤ g ∧ (bodyOf xs).length = m) := Lib.hid (fun W q => (peek_any A n c xs W (q.rd.more q.below.size)).mono fun ev w' ⟨h1, h2⟩ => ⟨h1, h2.elim (fun q => absurd hp q.1) (fun q => q.2)⟩)
  clear hp
  generalize hdOf xs = hd at *
  generalize bodyOf xs = bd at *
  subst hc
  go_enter Tryd.func26, Tryd.ntmps26
  go_wp2_with (go_at_call 19; refine (cc _).mono ?_; rintro e w1 ⟨rfl, hb⟩; replace k := k.step hb; clear hb cc; obtain ⟨a0, a1, a2, a3, a4, a5, a6⟩ := k.ms.cells)
  refine (cp.out _ k).mono ?_
  rintro ev w2 ⟨hb, g, m, rfl, row, hg, hm⟩
  have hwz := k.z.lt
  replace k := k.step hb
  have k2 := k.step (alloc_below w2 (.cells (pkC hd (some ⟨g, 0, none⟩) m m) 60))
  have hgl := row.lt
  have row2 := row.below (alloc_below w2 (.cells (pkC hd (some ⟨g, 0, none⟩) m m) 60)) hgl
  have m1 : ¬ (m : Int) < 8 := by omega
  have hw1 := k.z.lt
  have hgw : w.heap.size + 1 < g := Nat.lt_of_lt_of_le hwz hg
  clear hb cp a0 a1 a2 a3 a4 a5 a6
  obtain ⟨d0, d1, d2, d3, d4, d5, d6, d7⟩ := (PkAt.new w2 60 hd (some ⟨g, 0, none⟩) m m).cells
  replace k := k2
  clear k2 row
  replace hm := Lib.hid hm
  go_wp2_with (refine wpList_stF rfl rfl 60 _ _ rfl (w.heap.size + 1) (pkC hd (some ⟨g, 0, none⟩) m m) rfl rfl 60 _ k.z (by kernel_rfl) rfl (pkC_one ..) ?_; intro w7 h7 hb7 ho7 hs7)
  have h7' : PkAt w7 (w.heap.size + 1) 60 hd (some ⟨g, 0, none⟩) m m := h7
  obtain ⟨c0, c1, c2, c3, c4, c5, c6, c7⟩ := h7'.cells
  exact bodyPost_ret (v := .tuple #[pkV hd (some ⟨g, 0, none⟩) m m, .nilIface]) (by simp [results, Tryd.results26, go_sem, c0, c1, c2, c3, c4, c5, c6, c7]) rfl ⟨k.fin hb7, g, m, rfl, (ho7 g (Nat.ne_of_gt hgw)).trans row2, by omega, hm.out⟩
theorem inner_any (h : Ms) (A : Option Addr) (n c : Nat) (xs : List Int) (w : World) (hr : Rd .u8 w w.heap.size A n c xs) : Calls Tryd.prog 26 #[msV h A n c] w (GivesI w h xs) := by
  unfold GivesI
  by_cases hc : clsV h = 1
  · by_cases hp : (pE false xs).2 = 0
    · by_cases hl : (bodyOf xs).length < 8
      · rw [iE_short hc hp hl]
        exact (inner_short h A n c xs w hr hc hp hl).mono fun ev w' ⟨h1, h2⟩ => ⟨h1, .inl ⟨by decide, h2⟩⟩
      · rw [iE_good hc hp hl]
        exact (inner_good h A n c xs w hr hc hp hl).mono fun ev w' ⟨h1, h2⟩ => ⟨h1, .inr ⟨rfl, h2⟩⟩
    · rw [iE_peek hc hp]
      exact (inner_peek h A n c xs w hr hc hp).mono fun ev w' ⟨h1, h2⟩ => ⟨h1, .inl ⟨hp, h2⟩⟩
  · rw [iE_kind hc]
    exact (inner_kind h A n c xs w hr hc).mono fun ev w' ⟨h1, h2⟩ => ⟨h1, .inl ⟨by decide, h2⟩⟩
end Go.Proofs.YtbefoapnlehdmaaDoor

namespace Go.Proofs.YtbefoapnlehdmaaDoor
open Go.RowKit
set_option linter.unusedVariables false

/-- What the walk knows: the message's box, the answers' blocks. -/
structure KJ (w : World) (h : Ms) (A : Option Addr) (n c : Nat) (xs : List Int) (W : World) : Prop where
  ms : MsAt W w.heap.size 32 h A n c
  z : PkAt W (w.heap.size + 1) 63 zeroH none 0 0
  y : W.heap[w.heap.size + 2]? = some (.cells (flC none 0 0 0) 36 (0, 0))
  rd : Rd .u8 W w.heap.size A n c xs
  below : Below w.heap.size w W
section
variable {w W V : World} {h : Ms} {A : Option Addr} {n c B : Nat} {xs : List Int}
theorem KJ.sz (q : KJ w h A n c xs W) : w.heap.size + 3 ≤ W.heap.size := blk_lt q.y
theorem KJ.low (q : KJ w h A n c xs W) (hB : w.heap.size + 3 ≤ B) (hb : Below B W V) : KJ w h A n c xs V := ⟨q.ms.below hb (by omega), q.z.below hb (by omega), (hb.block _ (by omega)).trans q.y, q.rd.below hb (by omega), q.below.trans (hb.mono (by omega))⟩
theorem KJ.step (q : KJ w h A n c xs W) (hb : Below W.heap.size W V) : KJ w h A n c xs V := q.low q.sz hb
end
theorem KJ.start (h : Ms) (A : Option Addr) (n c : Nat) (xs : List Int) (w : World) (hr : Rd .u8 w w.heap.size A n c xs) : KJ w h A n c xs (((w.alloc (.cells (msC h A n c) 32)).alloc (.cells (pkC zeroH none 0 0) 63)).alloc (.cells (flC none 0 0 0) 36)) := by
  have b1 := alloc_below w (.cells (msC h A n c) 32)
  have m1 := MsAt.new w 32 h A n c
  have s1 : (w.alloc (.cells (msC h A n c) 32)).heap.size = w.heap.size + 1 := by simp
  have r1 := hr.below b1 (Nat.le_refl _)
  generalize w.alloc (.cells (msC h A n c) 32) = W1 at *
  have b2 := alloc_below W1 (.cells (pkC zeroH none 0 0) 63)
  have p2 := PkAt.new W1 63 zeroH none 0 0
  have s2 : (W1.alloc (.cells (pkC zeroH none 0 0) 63)).heap.size = W1.heap.size + 1 := by simp
  rw [s1] at p2
  have r2 := r1.below b2 (by omega)
  replace m1 := m1.step b2
  generalize W1.alloc (.cells (pkC zeroH none 0 0) 63) = W2 at *
  have b3 := alloc_below W2 (.cells (flC none 0 0 0) 36)
  have y3 := heap_alloc_new W2 (.cells (flC none 0 0 0) 36)
  rw [s2, s1] at y3
  exact ⟨m1.step b3, p2.step b3, y3, r2.below b3 (by omega), (b1.trans (b2.mono (by omega))).trans (b3.mono (by omega))⟩
set_option maxRecDepth 100000 in
set_option maxHeartbeats 4000000 in
theorem refI_kind (h : Ms) (A : Option Addr) (n c : Nat) (xs : List Int) (w : World) (hr : Rd .u8 w w.heap.size A n c xs) (hc : ¬ clsV h = 1) : Calls Tryd.prog 27 #[msV h A n c] w (GivesN w 16 14) := by
  have k := KJ.start h A n c xs w hr
  clear hr
  have cc := refClass_any h A n c
  generalize clsV h = cl at *
  have hcb : (cl == 1) = false := by simpa using hc
  go_enter Tryd.func27, Tryd.ntmps27
  go_wp2_with (go_at_call 20; refine (cc _).mono ?_; rintro e w1 ⟨rfl, hb⟩; replace k := k.step hb; clear hb cc)
  refine (refNew_at 16 14 (by decide) (by decide) (by decide) _).mono ?_
  rintro ev w4 ⟨A1, n1, c1, rfl, rd1, new1, hb1⟩
  have hsz := k.sz
  have far : Far (w.heap.size + 3) A1 := by
    rcases new1 with h | h | ⟨ad, h, h1, _⟩
    · exact .inl h
    · exact .inl h
    · exact .inr ⟨ad, h, Nat.le_trans hsz h1⟩
  replace k := k.step hb1
  have z1 := k.z
  have y1 := k.y
  have hbl := k.below
  clear hb1 new1 k hsz
  go_wp2_with (first
    | (refine wpList_stF rfl rfl 63 _ _ rfl (w.heap.size + 1) (pkC zeroH none 0 0) rfl rfl 63 _ z1 (by kernel_rfl) rfl (pkC_one ..) ?_; intro w8 z8 hb8 ho8 hs8; have y8 := (ho8 (w.heap.size + 2) (by omega)).trans y1; have r8 := rd1.other ho8 (far.imp id fun ⟨ad, h, h'⟩ => ⟨ad, h, by omega⟩); have bl8 := hbl.trans (hb8.mono (by omega)))
    | (refine wpList_stF rfl rfl 36 _ _ rfl (w.heap.size + 2) (flC A1 n1 c1 14) rfl rfl 36 _ y8 (by kernel_rfl) rfl (flC_one _ _ _ _) ?_; intro w9 y9 hb9 ho9 hs9; have z9 := (ho9 (w.heap.size + 1) (by omega)).trans z8; have r9 := r8.other ho9 (far.imp id fun ⟨ad, h, h'⟩ => ⟨ad, h, by omega⟩); have bl9 := bl8.trans (hb9.mono (by omega))))
  obtain ⟨a0, a1, a2, a3, a4, a5, a6, a7⟩ := (show PkAt w9 (w.heap.size + 1) 63 zeroH none 0 0 from z9).cells
  have b0 : w9.cell? ⟨w.heap.size + 2, 0, none⟩ = some (.slice A1 n1 c1) := blk_cell y9 rfl
  have b1 : w9.cell? ⟨w.heap.size + 2, 1, none⟩ = some (.int .i64 14) := blk_cell y9 rfl
  exact bodyPost_ret (v := .tuple #[zeroP, .agg #[.slice A1 n1 c1, .int .i64 14]]) (by simp [results, Tryd.results27, go_sem, b0, b1, a0, a1, a2, a3, a4, a5, a6, a7]) rfl ⟨bl9, A1, n1, c1, rfl, by rw [hs9, hs8]; exact r9, far.less (by omega)⟩
set_option maxRecDepth 100000 in
set_option maxHeartbeats 4000000 in
theorem refI_peek (h : Ms) (A : Option Addr) (n c : Nat) (xs : List Int) (w : World) (hr : Rd .u8 w w.heap.size A n c xs) (hc : clsV h = 1) (hp : ¬ (pE false xs).2 = 0) : Calls Tryd.prog 27 #[msV h A n c] w (GivesN w (pE false xs).1 (pE false xs).2) := by
  have k := KJ.start h A n c xs w hr
  clear hr
  have cc := refClass_any h A n c
  generalize clsV h = cl at *
  have cp : Hid (∀ W, KJ w h A n c xs W → Calls Tryd.prog 51 #[.slice A n c] W (GivesN W (pE false xs).1 (pE false xs).2)) := Lib.hid (fun W q => refPeek_no (q.rd.more q.below.size) rfl hp)
  generalize pE false xs = ee at *
  obtain ⟨r, e0⟩ := ee
  dsimp only at cp hp ⊢
  have hpb : (e0 == 0) = false := by simpa using hp
  subst hc
  go_enter Tryd.func27, Tryd.ntmps27
  go_wp2_with (go_at_call 20; refine (cc _).mono ?_; rintro e w1 ⟨rfl, hb⟩; replace k := k.step hb; clear hb cc; obtain ⟨a0, a1, a2, a3, a4, a5, a6⟩ := k.ms.cells)
  refine (cp.out _ k).mono ?_
  rintro ev w2 ⟨hb, A1, n1, c1, rfl, rd1, far0⟩
  have far : Far (w.heap.size + 3) A1 := far0.less k.sz
  replace k := k.step hb
  clear hb cp far0 a0 a1 a2 a3 a4 a5 a6
  have k2 := (k.step (alloc_below w2 (.cells (pkC zeroH none 0 0) 63))).step (alloc_below _ (.cells (flC A1 n1 c1 e0) 36))
  have s2 : (w2.alloc (.cells (pkC zeroH none 0 0) 63)).heap.size = w2.heap.size + 1 := by simp
  have f5 := heap_alloc_new (w2.alloc (.cells (pkC zeroH none 0 0) 63)) (.cells (flC A1 n1 c1 e0) 36)
  have bb := (alloc_below w2 (.cells (pkC zeroH none 0 0) 63)).trans ((alloc_below (w2.alloc (.cells (pkC zeroH none 0 0) 63)) (.cells (flC A1 n1 c1 e0) 36)).mono (by rw [s2]; omega))
  have r5 := (rd1.below bb (Nat.le_refl _)).more bb.size
  rw [s2] at f5
  have hsz := k.sz
  have e1c := blk_cell f5 (i := 1) rfl
  have e0c := blk_cell f5 (i := 0) rfl
  replace k := k2
  clear k2 bb rd1 s2
  go_wp2_with fail
  have hS : _ := f5
  generalize hg5 : w2.heap.size + 1 = g5 at *
  refine wp_region_held_drew (S := fun w' => w'.heap[g5]? = some (.cells (flC A1 n1 c1 e0) 36 (0, 0))) (by kernel_rfl) hS (fun hHeld => ?_)
  replace k := k.step (below_drew _)
  replace r5 := (r5.below (below_drew _) (Nat.le_refl _)).more (below_drew _).size
  clear e1c e0c f5 hS
  change wpAnyH _ _ _ _ _ _ _ _ (World.drew _)
  generalize World.drew _ = W7 at *
  refine wpAnyH_at (i := 0) (some 30) (v := ?v0z1) rfl rfl (by kernel_rfl) (by kernel_rfl) (by kernel_rfl) (fun _ _ _ h => h) (Or.inl ⟨by rfl, ?y0z1⟩) (by assumption) ?r0z1
  case y0z1 =>
    intro w9 hSw
    clear hSw
    go_simp
    all_goals with_reducible rfl
  simp only [Act.put, List.setIfInBounds_toArray, List.set_cons_zero, List.set_cons_succ]
  refine wpAnyH_at (i := 1) (some 31) (v := ?v1z2) rfl rfl (by kernel_rfl) (by kernel_rfl) (by kernel_rfl) (fun _ _ _ h => h) (Or.inl ⟨by rfl, ?y1z2⟩) (by assumption) ?r1z2
  case y1z2 =>
    intro w9 hSw
    (have b0 := blk_cell (i := 0) (show w9.heap[g5]? = some (.cells (flC A1 n1 c1 e0) 36 (0, 0)) from hSw) rfl); (have b1 := blk_cell (i := 1) (show w9.heap[g5]? = some (.cells (flC A1 n1 c1 e0) 36 (0, 0)) from hSw) rfl); clear hSw
    go_simp
    all_goals with_reducible rfl
  simp only [Act.put, List.setIfInBounds_toArray, List.set_cons_zero, List.set_cons_succ]
  refine wpAnyH_one (i := 2) (by kernel_rfl) rfl ?_
  have z7 := k.z
  have y7 := k.y
  have hbl := k.below
  refine wpList_stF rfl rfl 63 _ _ rfl (w.heap.size + 1) (pkC zeroH none 0 0) rfl rfl 63 _ z7 (by kernel_rfl) rfl (pkC_one ..) ?_
  intro w8 z8 hb8 ho8 hs8
  have y8 := (ho8 (w.heap.size + 2) (by omega)).trans y7
  have bl8 := hbl.trans (hb8.mono (by omega))
  have hS8 := (ho8 g5 (by omega)).trans hHeld
  have r8 := r5.other ho8 (far.imp id fun ⟨ad, h, h'⟩ => ⟨ad, h, by omega⟩)
  clear hHeld
  have hHeld := hS8
  go_wp2
  refine ⟨hHeld, ?_⟩
  refine wpAnyH_one (i := 3) (by kernel_rfl) rfl ?_
  refine wpList_stF rfl rfl 36 _ _ rfl (w.heap.size + 2) (flC A1 n1 c1 e0) rfl rfl 36 _ y8 (by kernel_rfl) rfl (flC_one _ _ _ _) ?_
  intro w9 y9 hb9 ho9 hs9
  have z9 := (ho9 (w.heap.size + 1) (by omega)).trans z8
  have bl9 := bl8.trans (hb9.mono (by omega))
  have hS9 := (ho9 g5 (by omega)).trans hS8
  have r9 := r8.other ho9 (far.imp id fun ⟨ad, h, h'⟩ => ⟨ad, h, by omega⟩)
  clear hHeld
  go_wp2
  refine ⟨hS9, ?_⟩
  refine wpAnyH_done (by kernel_rfl) ?_ _
  go_wp2
  obtain ⟨a0, a1, a2, a3, a4, a5, a6, a7⟩ := (show PkAt w9 (w.heap.size + 1) 63 zeroH none 0 0 from z9).cells
  have b0 : w9.cell? ⟨w.heap.size + 2, 0, none⟩ = some (.slice A1 n1 c1) := blk_cell y9 rfl
  have b1 : w9.cell? ⟨w.heap.size + 2, 1, none⟩ = some (.int .i64 e0) := blk_cell y9 rfl
  exact bodyPost_ret (v := .tuple #[zeroP, .agg #[.slice A1 n1 c1, .int .i64 e0]]) (by simp [results, Tryd.results27, go_sem, b0, b1, a0, a1, a2, a3, a4, a5, a6, a7]) rfl ⟨bl9, A1, n1, c1, rfl, by rw [hs9, hs8]; exact r9, far.less (by omega)⟩
set_option maxRecDepth 100000 in
set_option maxHeartbeats 4000000 in
theorem refI_short (h : Ms) (A : Option Addr) (n c : Nat) (xs : List Int) (w : World) (hr : Rd .u8 w w.heap.size A n c xs) (hc : clsV h = 1) (hp : (pE false xs).2 = 0) (hl : (bodyOf xs).length < 8) : Calls Tryd.prog 27 #[msV h A n c] w (GivesN w 1 12) := by
  have k := KJ.start h A n c xs w hr
  clear hr
  have cc := refClass_any h A n c
  generalize clsV h = cl at *
  have cp : Hid (∀ W, KJ w h A n c xs W → Calls Tryd.prog 51 #[.slice A n c] W (GivesY W (hdOf xs) (bodyOf xs))) := Lib.hid (fun W q => refPeek_yes (q.rd.more q.below.size) hp rfl rfl)
  clear hp
  generalize hdOf xs = hd at *
  generalize bodyOf xs = bd at *
  subst hc
  go_enter Tryd.func27, Tryd.ntmps27
  go_wp2_with (go_at_call 20; refine (cc _).mono ?_; rintro e w1 ⟨rfl, hb⟩; replace k := k.step hb; clear hb cc; obtain ⟨a0, a1, a2, a3, a4, a5, a6⟩ := k.ms.cells)
  refine (cp.out _ k).mono ?_
  rintro ev w2 ⟨hb, A1, n1, c1, rfl, o1⟩
  have hn1 := o1.len
  replace o1 := o1.rebase k.sz
  replace k := k.step hb
  clear hb cp a0 a1 a2 a3 a4 a5 a6
  have k2 := (k.step (alloc_below w2 (.cells (pkC hd A1 n1 c1) 63))).step (alloc_below _ (.cells (flC none 0 0 0) 36))
  have s2 : (w2.alloc (.cells (pkC hd A1 n1 c1) 63)).heap.size = w2.heap.size + 1 := by simp
  have p4 := (PkAt.new w2 63 hd A1 n1 c1).step (alloc_below _ (.cells (flC none 0 0 0) 36))
  have f5 := heap_alloc_new (w2.alloc (.cells (pkC hd A1 n1 c1) 63)) (.cells (flC none 0 0 0) 36)
  have bb := (alloc_below w2 (.cells (pkC hd A1 n1 c1) 63)).trans ((alloc_below (w2.alloc (.cells (pkC hd A1 n1 c1) 63)) (.cells (flC none 0 0 0) 36)).mono (by rw [s2]; omega))
  have o5 := o1.below bb (Nat.le_refl _)
  have sz5 : w2.heap.size + 1 < ((w2.alloc (.cells (pkC hd A1 n1 c1) 63)).alloc (.cells (flC none 0 0 0) 36)).heap.size := by simp
  rw [s2] at f5
  have hsz := k.sz
  have e1c := blk_cell f5 (i := 1) rfl
  have e0c := blk_cell f5 (i := 0) rfl
  obtain ⟨d0, d1, d2, d3, d4, d5, d6, d7⟩ := p4.cells
  replace k := k2
  clear k2 bb o1 s2
  have m1 : (n1 : Int) < 8 := by omega
  go_wp2_with fail
  refine (refNew_at 1 12 (by decide) (by decide) (by decide) _).mono ?_
  rintro ev w4 ⟨A2, n2, c2, rfl, rd1, new1, hb1⟩
  have hsz2 := k.sz
  have far : Far (w2.heap.size + 2) A2 := by
    rcases new1 with h | h | ⟨ad, h, h1, _⟩
    · exact .inl h
    · exact .inl h
    · exact .inr ⟨ad, h, Nat.le_trans sz5 h1⟩
  replace k := k.step hb1
  replace f5 := (hb1.block _ (by omega)).trans f5
  clear hb1 new1 e1c e0c p4 o5 d0 d1 d2 d3 d4 d5 d6 d7
  have f5' := f5
  clear f5
  go_wp2_with (refine wpList_stF rfl rfl 36 _ _ rfl (w2.heap.size + 1) (flC A2 n2 c2 12) rfl rfl 36 _ f5' (by kernel_rfl) rfl (flC_one _ _ _ _) ?_; intro w6 f6 hb6 ho6 hs6; replace k := k.low (by omega) (hb6.mono (Nat.le_refl _)); have r6 := rd1.other ho6 (far.imp id fun ⟨ad, h, h'⟩ => ⟨ad, h, by omega⟩); have e1c := blk_cell f6 (i := 1) rfl; have e0c := blk_cell f6 (i := 0) rfl; clear f5')
  have hS : _ := f6
  generalize hg5 : w2.heap.size + 1 = g5 at *
  refine wp_region_held_drew (S := fun w' => w'.heap[g5]? = some (.cells (flC A2 n2 c2 12) 36 (0, 0))) (by kernel_rfl) hS (fun hHeld => ?_)
  replace k := k.step (below_drew _)
  replace r6 : Rd .i64 w6.drew w4.heap.size A2 n2 c2 [1] := r6.below (below_drew _) (by omega)
  clear e1c e0c f6 hS
  have hs7 : w6.drew.heap.size = w4.heap.size := hs6
  change wpAnyH _ _ _ _ _ _ _ _ (World.drew _)
  generalize World.drew _ = W7 at *
  refine wpAnyH_at (i := 0) (some 30) (v := ?v0z3) rfl rfl (by kernel_rfl) (by kernel_rfl) (by kernel_rfl) (fun _ _ _ h => h) (Or.inl ⟨by rfl, ?y0z3⟩) (by assumption) ?r0z3
  case y0z3 =>
    intro w9 hSw
    clear hSw
    go_simp
    all_goals with_reducible rfl
  simp only [Act.put, List.setIfInBounds_toArray, List.set_cons_zero, List.set_cons_succ]
  refine wpAnyH_at (i := 1) (some 31) (v := ?v1z4) rfl rfl (by kernel_rfl) (by kernel_rfl) (by kernel_rfl) (fun _ _ _ h => h) (Or.inl ⟨by rfl, ?y1z4⟩) (by assumption) ?r1z4
  case y1z4 =>
    intro w9 hSw
    (have b0 := blk_cell (i := 0) (show w9.heap[g5]? = some (.cells (flC A2 n2 c2 12) 36 (0, 0)) from hSw) rfl); (have b1 := blk_cell (i := 1) (show w9.heap[g5]? = some (.cells (flC A2 n2 c2 12) 36 (0, 0)) from hSw) rfl); clear hSw
    go_simp
    all_goals with_reducible rfl
  simp only [Act.put, List.setIfInBounds_toArray, List.set_cons_zero, List.set_cons_succ]
  refine wpAnyH_one (i := 2) (by kernel_rfl) rfl ?_
  have z7 := k.z
  have y7 := k.y
  have hbl := k.below
  refine wpList_stF rfl rfl 63 _ _ rfl (w.heap.size + 1) (pkC zeroH none 0 0) rfl rfl 63 _ z7 (by kernel_rfl) rfl (pkC_one ..) ?_
  intro w8 z8 hb8 ho8 hs8
  have y8 := (ho8 (w.heap.size + 2) (by omega)).trans y7
  have bl8 := hbl.trans (hb8.mono (by omega))
  have hS8 := (ho8 g5 (by omega)).trans hHeld
  have r8 := r6.other ho8 (far.imp id fun ⟨ad, h, h'⟩ => ⟨ad, h, by omega⟩)
  clear hHeld
  have hHeld := hS8
  go_wp2
  refine ⟨hHeld, ?_⟩
  refine wpAnyH_one (i := 3) (by kernel_rfl) rfl ?_
  refine wpList_stF rfl rfl 36 _ _ rfl (w.heap.size + 2) (flC A2 n2 c2 12) rfl rfl 36 _ y8 (by kernel_rfl) rfl (flC_one _ _ _ _) ?_
  intro w9 y9 hb9 ho9 hs9
  have z9 := (ho9 (w.heap.size + 1) (by omega)).trans z8
  have bl9 := bl8.trans (hb9.mono (by omega))
  have hS9 := (ho9 g5 (by omega)).trans hS8
  have r9 := r8.other ho9 (far.imp id fun ⟨ad, h, h'⟩ => ⟨ad, h, by omega⟩)
  clear hHeld
  go_wp2
  refine ⟨hS9, ?_⟩
  refine wpAnyH_done (by kernel_rfl) ?_ _
  go_wp2
  obtain ⟨a0, a1, a2, a3, a4, a5, a6, a7⟩ := (show PkAt w9 (w.heap.size + 1) 63 zeroH none 0 0 from z9).cells
  have b0 : w9.cell? ⟨w.heap.size + 2, 0, none⟩ = some (.slice A2 n2 c2) := blk_cell y9 rfl
  have b1 : w9.cell? ⟨w.heap.size + 2, 1, none⟩ = some (.int .i64 12) := blk_cell y9 rfl
  exact bodyPost_ret (v := .tuple #[zeroP, .agg #[.slice A2 n2 c2, .int .i64 12]]) (by simp [results, Tryd.results27, go_sem, b0, b1, a0, a1, a2, a3, a4, a5, a6, a7]) rfl ⟨bl9, A2, n2, c2, rfl, by rw [hs9, hs8, hs7]; exact r9, far.less (by omega)⟩
set_option maxRecDepth 100000 in
set_option maxHeartbeats 4000000 in
theorem refI_good (h : Ms) (A : Option Addr) (n c : Nat) (xs : List Int) (w : World) (hr : Rd .u8 w w.heap.size A n c xs) (hc : clsV h = 1) (hp : (pE false xs).2 = 0) (hl : ¬ (bodyOf xs).length < 8) : Calls Tryd.prog 27 #[msV h A n c] w (GivesY w (hdOf xs) (bodyOf xs)) := by
  have k := KJ.start h A n c xs w hr
  clear hr
  have cc := refClass_any h A n c
  generalize clsV h = cl at *
  have cp : Hid (∀ W, KJ w h A n c xs W → Calls Tryd.prog 51 #[.slice A n c] W (GivesY W (hdOf xs) (bodyOf xs))) := Lib.hid (fun W q => refPeek_yes (q.rd.more q.below.size) hp rfl rfl)
  clear hp
  generalize hdOf xs = hd at *
  generalize bodyOf xs = bd at *
  subst hc
  go_enter Tryd.func27, Tryd.ntmps27
  go_wp2_with (go_at_call 20; refine (cc _).mono ?_; rintro e w1 ⟨rfl, hb⟩; replace k := k.step hb; clear hb cc; obtain ⟨a0, a1, a2, a3, a4, a5, a6⟩ := k.ms.cells)
  refine (cp.out _ k).mono ?_
  rintro ev w2 ⟨hb, A1, n1, c1, rfl, o1⟩
  have hn1 := o1.len
  replace o1 := o1.rebase k.sz
  replace k := k.step hb
  clear hb cp a0 a1 a2 a3 a4 a5 a6
  have k2 := (k.step (alloc_below w2 (.cells (pkC hd A1 n1 c1) 63))).step (alloc_below _ (.cells (flC none 0 0 0) 36))
  have s2 : (w2.alloc (.cells (pkC hd A1 n1 c1) 63)).heap.size = w2.heap.size + 1 := by simp
  have p4 := (PkAt.new w2 63 hd A1 n1 c1).step (alloc_below _ (.cells (flC none 0 0 0) 36))
  have f5 := heap_alloc_new (w2.alloc (.cells (pkC hd A1 n1 c1) 63)) (.cells (flC none 0 0 0) 36)
  have bb := (alloc_below w2 (.cells (pkC hd A1 n1 c1) 63)).trans ((alloc_below (w2.alloc (.cells (pkC hd A1 n1 c1) 63)) (.cells (flC none 0 0 0) 36)).mono (by rw [s2]; omega))
  have o5 := o1.below bb (Nat.le_refl _)
  have sz5 : w2.heap.size + 1 < ((w2.alloc (.cells (pkC hd A1 n1 c1) 63)).alloc (.cells (flC none 0 0 0) 36)).heap.size := by simp
  rw [s2] at f5
  have hsz := k.sz
  have e1c := blk_cell f5 (i := 1) rfl
  have e0c := blk_cell f5 (i := 0) rfl
  obtain ⟨d0, d1, d2, d3, d4, d5, d6, d7⟩ := p4.cells
  replace k := k2
  clear k2 bb o1 s2
  have m1 : ¬ (n1 : Int) < 8 := by omega
  go_wp2_with fail
  have hS : _ := And.intro p4 f5
  generalize hg4 : w2.heap.size = g4 at *
  refine wp_region_held_drew (S := fun w' => PkAt w' g4 63 hd A1 n1 c1 ∧ w'.heap[g4 + 1]? = some (.cells (flC none 0 0 0) 36 (0, 0))) (by kernel_rfl) hS (fun hHeld => ?_)
  replace k := k.step (below_drew _)
  replace o5 := o5.below (below_drew _) (Nat.le_refl _)
  clear e1c e0c f5 hS p4 d0 d1 d2 d3 d4 d5 d6 d7
  change wpAnyH _ _ _ _ _ _ _ _ (World.drew _)
  generalize World.drew _ = W7 at *
  refine wpAnyH_at (i := 0) (some 32) (v := ?v0z5) rfl rfl (by kernel_rfl) (by kernel_rfl) (by kernel_rfl) (fun _ _ _ h => h) (Or.inl ⟨by rfl, ?y0z5⟩) (by assumption) ?r0z5
  case y0z5 =>
    intro w9 hSw
    (obtain ⟨b0, b1, b2, b3, b4, b5, b6, b7⟩ := (show PkAt w9 g4 63 hd A1 n1 c1 ∧ w9.heap[g4 + 1]? = some (.cells (flC none 0 0 0) 36 (0, 0)) from hSw).1.cells); clear hSw
    go_simp
    all_goals with_reducible rfl
  simp only [Act.put, List.setIfInBounds_toArray, List.set_cons_zero, List.set_cons_succ]
  refine wpAnyH_at (i := 1) (some 33) (v := ?v1z6) rfl rfl (by kernel_rfl) (by kernel_rfl) (by kernel_rfl) (fun _ _ _ h => h) (Or.inl ⟨by rfl, ?y1z6⟩) (by assumption) ?r1z6
  case y1z6 =>
    intro w9 hSw
    (have b0 := blk_cell (i := 0) (show PkAt w9 g4 63 hd A1 n1 c1 ∧ w9.heap[g4 + 1]? = some (.cells (flC none 0 0 0) 36 (0, 0)) from hSw).2 rfl); (have b1 := blk_cell (i := 1) (show PkAt w9 g4 63 hd A1 n1 c1 ∧ w9.heap[g4 + 1]? = some (.cells (flC none 0 0 0) 36 (0, 0)) from hSw).2 rfl); clear hSw
    go_simp
    all_goals with_reducible rfl
  simp only [Act.put, List.setIfInBounds_toArray, List.set_cons_zero, List.set_cons_succ]
  refine wpAnyH_one (i := 2) (by kernel_rfl) rfl ?_
  have z7 := k.z
  have y7 := k.y
  have hbl := k.below
  refine wpList_stF rfl rfl 63 _ _ rfl (w.heap.size + 1) (pkC hd A1 n1 c1) rfl rfl 63 _ z7 (by kernel_rfl) rfl (pkC_one ..) ?_
  intro w8 z8 hb8 ho8 hs8
  have y8 := (ho8 (w.heap.size + 2) (by omega)).trans y7
  have bl8 := hbl.trans (hb8.mono (by omega))
  have hS8 := And.intro ((ho8 g4 (by omega)).trans hHeld.1) ((ho8 (g4 + 1) (by omega)).trans hHeld.2)
  have o8 := o5.other (fun j hj => ho8 j (by omega))
  clear hHeld
  have hHeld := hS8
  go_wp2
  refine ⟨hHeld, ?_⟩
  refine wpAnyH_one (i := 3) (by kernel_rfl) rfl ?_
  refine wpList_stF rfl rfl 36 _ _ rfl (w.heap.size + 2) (flC none 0 0 0) rfl rfl 36 _ y8 (by kernel_rfl) rfl (flC_one _ _ _ _) ?_
  intro w9 y9 hb9 ho9 hs9
  have z9 := (ho9 (w.heap.size + 1) (by omega)).trans z8
  have bl9 := bl8.trans (hb9.mono (by omega))
  have hS9 := And.intro ((ho9 g4 (by omega)).trans hS8.1) ((ho9 (g4 + 1) (by omega)).trans hS8.2)
  have o9 := o8.other (fun j hj => ho9 j (by omega))
  clear hHeld
  go_wp2
  refine ⟨hS9, ?_⟩
  refine wpAnyH_done (by kernel_rfl) ?_ _
  go_wp2
  obtain ⟨a0, a1, a2, a3, a4, a5, a6, a7⟩ := (show PkAt w9 (w.heap.size + 1) 63 hd A1 n1 c1 from z9).cells
  have b0 : w9.cell? ⟨w.heap.size + 2, 0, none⟩ = some (.slice none 0 0) := blk_cell y9 rfl
  have b1 : w9.cell? ⟨w.heap.size + 2, 1, none⟩ = some (.int .i64 0) := blk_cell y9 rfl
  exact bodyPost_ret (v := .tuple #[pkV hd A1 n1 c1, .agg #[.slice none 0 0, .int .i64 0]]) (by simp [results, Tryd.results27, go_sem, b0, b1, a0, a1, a2, a3, a4, a5, a6, a7]) rfl ⟨bl9, A1, n1, c1, rfl, o9.rebase (by omega)⟩
theorem refInner_all (h : Ms) (A : Option Addr) (n c : Nat) (xs : List Int) (w : World) (hr : Rd .u8 w w.heap.size A n c xs) :
    (¬ (iE h xs).2 = 0 ∧ Calls Tryd.prog 27 #[msV h A n c] w (GivesN w (iE h xs).1 (iE h xs).2)) ∨ ((iE h xs).2 = 0 ∧ Calls Tryd.prog 27 #[msV h A n c] w (GivesY w (hdOf xs) (bodyOf xs))) := by
  by_cases hc : clsV h = 1
  · by_cases hp : (pE false xs).2 = 0
    · by_cases hl : (bodyOf xs).length < 8
      · rw [iE_short hc hp hl]
        exact .inl ⟨by decide, refI_short h A n c xs w hr hc hp hl⟩
      · rw [iE_good hc hp hl]
        exact .inr ⟨rfl, refI_good h A n c xs w hr hc hp hl⟩
    · rw [iE_peek hc hp]
      exact .inl ⟨hp, refI_peek h A n c xs w hr hc hp⟩
  · rw [iE_kind hc]
    exact .inl ⟨by decide, refI_kind h A n c xs w hr hc⟩
end Go.Proofs.YtbefoapnlehdmaaDoor
