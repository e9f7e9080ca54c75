/-
  A pool and a ring on it, as a law's walk knows them; the contracts of all calls over that.
-/
import Derived.Test.YtjaiagocbldbgaaRPut
import Derived.Test.YtjaiagocbldbgaaRTake
import Derived.Test.YtjaiagocbldbgaaRMake
import Derived.Test.YtjaiagocbldbgaaRAll
import Derived.Test.YtjaiagocbldbgaaIndex
namespace Go.Proofs.Ytjaiagocbldbgaa
open Go.RowKit
set_option linter.unusedVariables false

abbrev Tr : Nat → Prop := fun _ => True
structure KA (w : World) (p g m q s z : Nat) (o : Int) (L : Slots) (R : List Nat) (d : Nat) (W : World) : Prop where
  pp : Pp W p g m L Tr
  rg : RgAt W q p s z o R d
  b : Below w.heap.size w W
  lo : w.heap.size ≤ p ∧ w.heap.size ≤ g ∧ w.heap.size ≤ q ∧ w.heap.size ≤ s
  hL : 0 < L.length
section
variable {w W V : World} {p g m q s z : Nat} {o : Int} {L L' : Slots} {R R' : List Nat} {d d' : Nat}
theorem KA.step (k : KA w p g m q s z o L R d W) (hb : Below W.heap.size W V) : KA w p g m q s z o L R d V := ⟨k.pp.below hb, k.rg.below hb, k.b.trans (hb.mono k.b.size), k.lo, k.hL⟩
theorem KA.turn (k : KA w p g m q s z o L R d W) (hp : Pp V p g m L' Tr) (hr : RgAt V q p s z o R' d') (hk : Kept (fun k => k = g ∨ k = q ∨ k = s) W V) (hl : L'.length = L.length) : KA w p g m q s z o L' R' d' V :=
  ⟨hp, hr, k.b.trans (hk.below k.b.size (fun j e => by have := k.lo; omega)), k.lo, by rw [hl]; exact k.hL⟩
theorem KA.apart (k : KA w p g m q s z o L R d W) : q ≠ g ∧ s ≠ g := by
  obtain ⟨cur, h2, _⟩ := k.pp.rows k.hL
  obtain ⟨⟨cq, hq⟩, ⟨cs, hs⟩⟩ := k.rg.blks
  exact ⟨blk_ne hq h2 (by decide), blk_ne hs h2 (by decide)⟩
theorem KA.no5 (k : KA w p g m q s z o L R d W) : ∀ j, (j = g ∨ j = q ∨ j = s) → ∀ c, W.heap[j]? ≠ some (.cells c 5 (0, 0)) := by
  obtain ⟨cur, h2, _⟩ := k.pp.rows k.hL
  obtain ⟨⟨cq, hq⟩, ⟨cs, hs⟩⟩ := k.rg.blks
  rintro j (rfl | rfl | rfl) c hc
  · exact blk_ne hc h2 (by decide) rfl
  · exact blk_ne hc hq (by decide) rfl
  · exact blk_ne hc hs (by decide) rfl
/-- Bytes stay, whatever the ring and the pool are told. -/
theorem KA.out5 (k : KA w p g m q s z o L R d W) (hk : Kept (fun k => k = g ∨ k = q ∨ k = s) W V) {base n c : Nat} {A : Option Addr} {xs : List Int} (h : Out .u8 5 W base A n c xs) : Out .u8 5 V base A n c xs :=
  h.kept hk (fun ad e h2 => by obtain ⟨_, cur, hc⟩ := h.block ad e; exact k.no5 _ h2 cur hc)
/-- The pool alone is told something. -/
theorem KA.pool (k : KA w p g m q s z o L R d W) (hp : Pp V p g m L' Tr) (hk : Kept (· = g) W V) (hl : L'.length = L.length) : KA w p g m q s z o L' R d V :=
  k.turn hp (k.rg.kept hk k.apart.1 k.apart.2) (hk.mono (fun _ _ e => .inl e)) hl
theorem ptL_len (L : Slots) (R : List Nat) (z : Nat) (o : Int) (b : List Int) : (ptL L R z o b).length = L.length := by unfold ptL; split; exact tkL_len ..; rfl
theorem mvL_len (L : Slots) (R : List Nat) (z : Nat) (o b f : Int) : (mvL L R z o b f).length = L.length := by unfold mvL; split; exact hdL_len ..; rfl
theorem kPut (k : KA w p g m q s z o L R d W) (hd : d ≤ 100000) {A : Option Addr} {n c B : Nat} {xs : List Int} (hr : Rd .u8 W B A n c xs) (hB : B ≤ W.heap.size) :
    Calls Try.prog 21 #[ptr q, .slice A n c] W fun e w' => e = .returned (.int .i64 (ptE L R z o n)) ∧ KA w p g m q s z o (ptL L R z o xs) (ptR L R z o n) (drp (ptE L R z o n) d) w' ∧ Kept (fun k => k = g ∨ k = q ∨ k = s) W w' := by
  refine (put_any q p s z o R d A n c B xs g m L Tr W k.rg hd hr hB (fun _ _ => trivial) k.pp k.hL).mono ?_
  rintro e w' ⟨rfl, h1, h2, h3⟩
  exact ⟨rfl, k.turn h1 h2 h3 (ptL_len ..), h3⟩
theorem kMove (k : KA w p g m q s z o L R d W) (hd : d ≤ 100000) (b fr : Int) :
    Calls Try.prog 30 #[ptr q, .int .i64 b, .int .i64 fr] W fun e w' => e = .returned (.int .i64 (mvE L R z o b fr)) ∧ KA w p g m q s z o (mvL L R z o b fr) (mvR L R z o b fr) (drp (mvE L R z o b fr) d) w' ∧ Kept (fun k => k = g ∨ k = q ∨ k = s) W w' := by
  refine (move_any q p s z o R d b fr g m L Tr W k.rg hd k.pp k.hL).mono ?_
  rintro e w' ⟨rfl, h1, h2, h3⟩
  exact ⟨rfl, k.turn h1 h2 h3 (mvL_len ..), h3⟩
theorem kTake0 (k : KA w p g m q s z o L [] d W) : Calls Try.prog 19 #[ptr q] W fun e w' => e = .returned (.tuple #[.slice none 0 0, .bool false]) ∧ W = w' := take0_any q p s z o d W k.rg
theorem kTake1 {x : Nat} {T : List Nat} (k : KA w p g m q s z o L (x :: T) d W) (hx : x < L.length) :
    Calls Try.prog 19 #[ptr q] W fun e w' => ∃ A n c, e = .returned (.tuple #[.slice A n c, .bool true]) ∧ Out .u8 5 w' W.heap.size A n c (byt L x) ∧ KA w p g m q s z o (frL L (x : Int) o) T d w' ∧ Kept (fun k => k = g ∨ k = q ∨ k = s) W w' := by
  refine (take1_any q p s z o x T d g m L Tr W k.rg k.pp hx).mono ?_
  rintro e w' ⟨A, n, c, rfl, ho, h1, h2, h3⟩
  exact ⟨A, n, c, rfl, ho, k.turn h1 h2 h3 (frL_len ..), h3⟩
theorem kPTake (k : KA w p g m q s z o L R d W) (o' : Int) {A : Option Addr} {n c B : Nat} {xs : List Int} (hr : Rd .u8 W B A n c xs) (hB : B ≤ W.heap.size) :
    Calls Try.prog 29 #[ptr p, .int .i64 o', .slice A n c] W fun e w' => e = .returned (.tuple #[.int .i64 (tkN L o' n), .int .i64 (tkE L o' n)]) ∧ KA w p g m q s z o (tkL L o' xs) R d w' ∧ Kept (· = g) W w' := by
  refine (take_any p g m L Tr o' A n c B xs W k.pp hr k.hL hB (fun _ _ => trivial)).mono ?_
  rintro e w' ⟨rfl, h1, h2⟩
  exact ⟨rfl, k.pool h1 h2 (tkL_len ..), h2⟩
theorem kPFree (k : KA w p g m q s z o L R d W) (b o' : Int) :
    Calls Try.prog 31 #[ptr p, .int .i64 b, .int .i64 o'] W fun e w' => e = .returned (.int .i64 (chE L b o')) ∧ KA w p g m q s z o (frL L b o') R d w' ∧ Kept (· = g) W w' := by
  refine (free_any p g m L Tr b o' W k.pp).mono ?_
  rintro e w' ⟨rfl, h1, h2⟩
  exact ⟨rfl, k.pool h1 h2 (frL_len ..), h2⟩
theorem kLen (k : KA w p g m q s z o L R d W) : Calls Try.prog 23 #[ptr q] W fun e w' => e = .returned (.int .i64 (R.length : Int)) ∧ W = w' := by
  obtain ⟨f, c, ys, h⟩ := k.rg
  exact len_any q p s f c R.length z o d W h.cells
theorem kDropped (k : KA w p g m q s z o L R d W) : Calls Try.prog 24 #[ptr q] W fun e w' => e = .returned (.int .i64 (d : Int)) ∧ W = w' := by
  obtain ⟨f, c, ys, h⟩ := k.rg
  exact dropped_any q p s f c R.length z o d W h.cells
theorem kSize (k : KA w p g m q s z o L R d W) : Calls Try.prog 32 #[ptr q] W fun e w' => e = .returned (.int .i64 (z : Int)) ∧ W = w' := by
  obtain ⟨f, c, ys, h⟩ := k.rg
  exact size_any q p s f c R.length z o d W h.cells
theorem kOwner (k : KA w p g m q s z o L R d W) (b : Int) : Calls Try.prog 33 #[ptr p, .int .i64 b] W fun e w' => e = .returned (.int .i64 (owV L b)) ∧ W = w' := owner_any p g m L Tr b W k.pp
theorem kLeft (k : KA w p g m q s z o L R d W) : Calls Try.prog 25 #[ptr p] W fun e w' => e = .returned (.int .i64 (left L : Int)) ∧ KA w p g m q s z o L R d w' ∧ Below W.heap.size W w' := by
  refine (left_any p g m L Tr W k.pp).mono ?_
  rintro e w' ⟨rfl, hb⟩
  exact ⟨rfl, k.step hb, hb⟩
theorem kHeld (k : KA w p g m q s z o L R d W) (o' : Int) : Calls Try.prog 28 #[ptr p, .int .i64 o'] W fun e w' => ∃ A n c, e = .returned (.slice A n c) ∧ (heldV L o').length = n ∧ KA w p g m q s z o L R d w' ∧ Below W.heap.size W w' := by
  refine (held_any p g m L Tr o' W k.pp).mono ?_
  rintro e w' ⟨A, n, c, rfl, ho, hb⟩
  exact ⟨A, n, c, rfl, ho.len, k.step hb, hb⟩
theorem kAll (k : KA w p g m q s z o L R d W) (hR : ∀ x ∈ R, x < L.length) : Calls Try.prog 27 #[ptr q] W fun e w' => ∃ A c, e = .returned (.slice A R.length c) ∧ BRows w' w'.heap.size A R.length c (bytsOf L R) ∧ KA w p g m q s z o L R d w' ∧ Below W.heap.size W w' := by
  refine (all_any q p s z o R d g m L Tr W k.rg k.pp hR).mono ?_
  rintro e w' ⟨A, c, rfl, ho, hb⟩
  exact ⟨A, c, rfl, ho, k.step hb, hb⟩
end
end Go.Proofs.Ytjaiagocbldbgaa
