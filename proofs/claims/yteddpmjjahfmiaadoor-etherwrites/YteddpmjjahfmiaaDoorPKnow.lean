/-
  The law EtherParses: what its walks know; the test of the answers.
-/
import Derived.Test.YteddpmjjahfmiaaDoorHdr
namespace Go.Proofs.YteddpmjjahfmiaaDoor
open Go.RowKit
set_option linter.unusedVariables false

/-- The answers' blocks (the frame at gf, the document's at gg, its fault at gh), the Mac's box. -/
structure K8 (w : World) (m t f : Mac6) (k : Int) (Af : Option Addr) (nf cf : Nat) (Ag : Option Addr) (ng cg : Nat) (Ah : Option Addr) (nh ch : Nat) (eh : Int) (gf gg gh : Nat) (ys rs : List Int) (W : World) : Prop where
  fx : FrAt W gf 29 t f k Af nf cf
  gx : FrAt W gg 35 t f k Ag ng cg
  hx : W.heap[gh]? = some (.cells (flC Ah nh ch eh) 39 (0, 0))
  mc : McAt W w.heap.size 24 m
  r1 : Rd .u8 W W.heap.size Af nf cf ys
  r2 : Rd .u8 W W.heap.size Ag ng cg ys
  r3 : Rd .i64 W W.heap.size Ah nh ch rs
  kn : Kn w W
theorem K8.step {w : World} {m t f : Mac6} {k : Int} {Af : Option Addr} {nf cf : Nat} {Ag : Option Addr} {ng cg : Nat} {Ah : Option Addr} {nh ch : Nat} {eh : Int} {gf gg gh : Nat} {ys rs : List Int} {W V : World}
    (h : K8 w m t f k Af nf cf Ag ng cg Ah nh ch eh gf gg gh ys rs W) (hb : Below W.heap.size W V) : K8 w m t f k Af nf cf Ag ng cg Ah nh ch eh gf gg gh ys rs V :=
  ⟨h.fx.step hb, h.gx.step hb, (hb.block _ (blk_lt h.hx)).trans h.hx, h.mc.step hb, (h.r1.below hb (Nat.le_refl _)).more hb.size, (h.r2.below hb (Nat.le_refl _)).more hb.size, (h.r3.below hb (Nat.le_refl _)).more hb.size, h.kn.step hb⟩
theorem K8.fault {w : World} {m t f : Mac6} {k : Int} {Af : Option Addr} {nf cf : Nat} {Ag : Option Addr} {ng cg : Nat} {Ah : Option Addr} {nh ch : Nat} {eh : Int} {gf gg gh : Nat} {ys rs : List Int} {W : World}
    (h : K8 w m t f k Af nf cf Ag ng cg Ah nh ch eh gf gg gh ys rs W) : W.cell? ⟨gh, 0, none⟩ = some (.slice Ah nh ch) ∧ W.cell? ⟨gh, 1, none⟩ = some (.int .i64 eh) := ⟨blk_cell h.hx rfl, blk_cell h.hx rfl⟩
theorem refSame_self (t f : Mac6) (k : Int) (A : Option Addr) (n c : Nat) (A' : Option Addr) (n' c' : Nat) (xs : List Int) (w : World) (hr : Rd .u8 w w.heap.size A n c xs) (hr' : Rd .u8 w w.heap.size A' n' c' xs) :
    Calls Tryd.prog 12 #[frV t f k A n c, frV t f k A' n' c'] w fun e w' => e = .returned (.bool true) ∧ Below w.heap.size w w' := by
  have := refSame_any t f k A n c xs t f k A' n' c' xs w hr hr'
  rwa [sameV_self] at this
theorem hdr_back (xs : List Int) (h : 14 ≤ xs.length) (hw : ∀ x ∈ xs, (Lit.int .u8 x).wf = true) : hdr (six xs) (six (xs.drop 6)) (kOf xs) (xs.drop 14) = xs := by
  match xs, h with
  | x0 :: x1 :: x2 :: x3 :: x4 :: x5 :: x6 :: x7 :: x8 :: x9 :: x10 :: x11 :: x12 :: x13 :: ys, _ =>
    have h12 := u8_bd (hw x12 (by simp))
    have h13 := u8_bd (hw x13 (by simp))
    have e1 : (x12 * 256 + x13) / 256 = x12 := by omega
    have e2 : (x12 * 256 + x13) % 256 = x13 := by omega
    simp [hdr, six, kOf, e1, e2]
theorem six_ok {xs : List Int} (h : 6 ≤ xs.length) (hw : ∀ x ∈ xs, (Lit.int .u8 x).wf = true) : (six xs).ok := by
  match xs, h with
  | x0 :: x1 :: x2 :: x3 :: x4 :: x5 :: ys, _ => exact ⟨u8_bd (hw x0 (by simp)), u8_bd (hw x1 (by simp)), u8_bd (hw x2 (by simp)), u8_bd (hw x3 (by simp)), u8_bd (hw x4 (by simp)), u8_bd (hw x5 (by simp))⟩
theorem kOf_bd {xs : List Int} (h : 14 ≤ xs.length) (hw : ∀ x ∈ xs, (Lit.int .u8 x).wf = true) : 0 ≤ kOf xs ∧ kOf xs ≤ 65535 := by
  match xs, h with
  | x0 :: x1 :: x2 :: x3 :: x4 :: x5 :: x6 :: x7 :: x8 :: x9 :: x10 :: x11 :: x12 :: x13 :: ys, _ =>
    have h12 := u8_bd (hw x12 (by simp))
    have h13 := u8_bd (hw x13 (by simp))
    show 0 ≤ x12 * 256 + x13 ∧ x12 * 256 + x13 ≤ 65535
    omega
/-- The own bytes, those that came in. -/
structure KP (w : World) (A : Option Addr) (n c : Nat) (A' : Option Addr) (c' : Nat) (xs : List Int) (W : World) : Prop where
  rd : Rd .u8 W w.heap.size A n c xs
  own : Out .u8 5 W (w.heap.size + 1) A' n c' xs
  sz : w.heap.size + 1 ≤ W.heap.size
theorem KP.step {w : World} {A : Option Addr} {n c : Nat} {A' : Option Addr} {c' : Nat} {xs : List Int} {W V : World} (h : KP w A n c A' c' xs W) (hb : Below W.heap.size W V) : KP w A n c A' c' xs V :=
  ⟨h.rd.below hb (by have := h.sz; omega), h.own.below hb (Nat.le_refl _), Nat.le_trans h.sz hb.size⟩
end Go.Proofs.YteddpmjjahfmiaaDoor
