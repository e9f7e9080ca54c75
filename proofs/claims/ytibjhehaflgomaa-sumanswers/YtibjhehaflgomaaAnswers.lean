/-
  The law SumAnswers, walked.
-/
import Derived.Test.YtibjhehaflgomaaAlive2
namespace Go.Proofs.Ytibjhehaflgomaa
open Go.RowKit

/-- What the walk of SumAnswers knows. -/
structure K3 (w : World) (A : Option Addr) (n c : Nat) (ps : List (List Int)) (A2 : Option Addr) (n2 c2 : Nat) (xs : List Int) (A3 : Option Addr) (n3 c3 : Nat) (ys : List Int) (W : World) : Prop where
  rows : Rows2 W (fun _ => False) W.heap.size W.heap.size A n c ps
  rd : Rd .u8 W W.heap.size A2 n2 c2 xs
  rd2 : Rd .u8 W W.heap.size A3 n3 c3 ys
  below : Below w.heap.size w W
  size : w.heap.size ≤ W.heap.size
theorem Rows2.grow {W W' : World} {A : Option Addr} {n c : Nat} {ps : List (List Int)} (h : Rows2 W (fun _ => False) W.heap.size W.heap.size A n c ps) (hb : Below W.heap.size W W') : Rows2 W' (fun _ => False) W'.heap.size W'.heap.size A n c ps :=
  ⟨h.1, h.2.1, h.2.2.1, fun i hi => by
    obtain ⟨b, o, A', n', c', e, hbb, hc, hr⟩ := h.2.2.2 i hi
    exact ⟨b, o, A', n', c', e, ⟨Nat.lt_of_lt_of_le hbb.1 hb.size, hbb.2⟩, (hb.cell (p := ⟨b, o + i, none⟩) hbb.1).trans hc, (hr.below hb (Nat.le_refl _)).more hb.size⟩⟩
theorem K3.step {w : World} {A : Option Addr} {n c : Nat} {ps : List (List Int)} {A2 : Option Addr} {n2 c2 : Nat} {xs : List Int} {A3 : Option Addr} {n3 c3 : Nat} {ys : List Int} {W W' : World} (h : K3 w A n c ps A2 n2 c2 xs A3 n3 c3 ys W) (hb : Below W.heap.size W W') : K3 w A n c ps A2 n2 c2 xs A3 n3 c3 ys W' :=
  ⟨h.rows.grow hb, (h.rd.below hb (Nat.le_refl _)).more hb.size, (h.rd2.below hb (Nat.le_refl _)).more hb.size, h.below.trans (hb.mono h.size), Nat.le_trans h.size hb.size⟩

set_option maxRecDepth 100000 in
set_option maxHeartbeats 2000000 in
theorem answers_law (A : Option Addr) (n c : Nat) (ps : List (List Int)) (a b d : Int) (A2 : Option Addr) (n2 c2 : Nat) (xs : List Int) (A3 : Option Addr) (n3 c3 : Nat) (ys : List Int) (w : World) (ha : W16 a) (hb0 : W16 b) (hd : W16 d)
    (hR : Rows2 w (fun _ => False) w.heap.size w.heap.size A n c ps) (hr : Rd .u8 w w.heap.size A2 n2 c2 xs) (hr2 : Rd .u8 w w.heap.size A3 n3 c3 ys) :
    Calls Try.prog 3 #[.slice A n c, .int .u16 a, .int .u16 b, .int .u16 d, .slice A2 n2 c2, .slice A3 n3 c3] w fun e w' => e = .returned (.bool true) ∧ Below w.heap.size w w' := by
  have hmax := hr.max
  have hcap := hr.cap
  have hmax2 := hr2.max
  have hcap2 := hr2.cap
  have k : K3 w A n c ps A2 n2 c2 xs A3 n3 c3 ys w := ⟨hR, hr, hr2, Below.refl _ _, Nat.le_refl _⟩
  have htv := totV_bd hR.byts
  have htv' : 0 ≤ totV ps.flatten ∧ totV ps.flatten ≤ 65535 := htv
  clear hr hr2 hR
  go_enter Try.func3, Try.ntmps3
  go_wp2_with fail
  with_reducible refine (alive_any _).mono ?_
  rintro e w1 ⟨rfl, hb⟩
  replace k := k.step hb
  clear hb
  go_wp2_with fail
  with_reducible refine (long_any _ _ _ _ _ _ ps _ k.rows).mono ?_
  rintro e w2 ⟨lb, rfl, hlb, rfl⟩
  cases lb with
  | true =>
    clear hlb
    go_wp2
    go_ret
    exact ⟨rfl, k.below⟩
  | false =>
    have hl := (hlb rfl).2
    clear hlb
    by_cases h1 : 3000 < n2
    · go_wp2
      go_ret
      exact ⟨rfl, k.below⟩
    by_cases h2 : 3000 < n3
    · go_wp2
      go_ret
      exact ⟨rfl, k.below⟩
    have HL := Lib.hid hl
    clear hl
    go_wp2_with fail
    with_reducible refine (join_any _ _ _ ps _ k.rows HL.out).mono ?_
    rintro e w3 ⟨A4, n4, c4, rfl, ho, hb⟩
    have hn4 : n4 ≤ 3000 := by rw [← ho.len]; exact HL.out
    have hj := ho.rd
    replace k := k.step hb
    clear hb ho
    go_wp2_with fail
    with_reducible refine (patch_any a _ _ _ _ _ _ _ _ _ ha k.rd k.rd2).mono ?_
    rintro e w4 ⟨rfl, hb⟩
    replace k := k.step hb
    replace hj := (hj.below hb (Nat.le_refl _)).more hb.size
    clear hb
    go_wp2_with fail
    with_reducible refine (refPatch_any a _ _ _ _ _ _ _ _ _ _ _ ha k.rd k.rd2 (by omega)).mono ?_
    rintro e w5 ⟨rfl, hb⟩
    replace k := k.step hb
    replace hj := (hj.below hb (Nat.le_refl _)).more hb.size
    clear hb
    generalize patV a xs ys = pv
    generalize patE n2 n3 = pe
    go_wp2_with fail
    with_reducible refine (add_any _ _ _ ha hb0).mono ?_
    rintro e w6 ⟨rfl, rfl⟩
    go_wp2_with fail
    with_reducible refine (refAdd_any _ _ _ ha hb0).mono ?_
    rintro e w6 ⟨rfl, rfl⟩
    go_wp2_with fail
    with_reducible refine (turn_any _ _ _ _ ha hb0 hd).mono ?_
    rintro e w6 ⟨rfl, rfl⟩
    go_wp2_with fail
    with_reducible refine (refTurn_any _ _ _ _ ha hb0 hd).mono ?_
    rintro e w6 ⟨rfl, rfl⟩
    go_wp2_with fail
    with_reducible refine (total_any _ _ _ ps _ k.rows).mono ?_
    rintro e w6 ⟨rfl, hb⟩
    replace k := k.step hb
    replace hj := (hj.below hb (Nat.le_refl _)).more hb.size
    clear hb
    go_wp2_with fail
    with_reducible refine (refTotal_any _ _ _ _ ps.flatten _ hj (by omega)).mono ?_
    rintro e w7 ⟨rfl, rfl⟩
    go_wp2_with fail
    with_reducible refine (of_any _ _ _ ps _ k.rows).mono ?_
    rintro e w7 ⟨rfl, hb⟩
    replace k := k.step hb
    replace hj := (hj.below hb (Nat.le_refl _)).more hb.size
    clear hb
    go_wp2_with fail
    with_reducible refine (refOf_any _ _ _ _ ps.flatten _ hj (by omega)).mono ?_
    rintro e w8 ⟨rfl, rfl⟩
    go_wp2_with fail
    with_reducible refine (right_any _ _ _ ps _ k.rows).mono ?_
    rintro e w8 ⟨rfl, hb⟩
    replace k := k.step hb
    replace hj := (hj.below hb (Nat.le_refl _)).more hb.size
    clear hb
    go_wp2_with fail
    with_reducible refine (refTotal_any _ _ _ _ ps.flatten _ hj (by omega)).mono ?_
    rintro e w9 ⟨rfl, rfl⟩
    go_wp2
    go_ret
    exact ⟨rfl, k.below⟩
end Go.Proofs.Ytibjhehaflgomaa
