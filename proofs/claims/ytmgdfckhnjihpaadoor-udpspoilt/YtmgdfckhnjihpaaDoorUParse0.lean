/-
  Contract of Parse.
-/
import Derived.Test.YtmgdfckhnjihpaaDoorUCut
import Derived.Test.YtmgdfckhnjihpaaDoorForce
import Derived.Deep.CutRange
namespace Go.Proofs.YtmgdfckhnjihpaaDoor
open Go.RowKit

/-- What Parse answers. -/
def GivesP (f t : Int) (w : World) (xs : List Int) (ev : Ending) (w' : World) : Prop :=
  Below w.heap.size w w' ∧ ((¬ (pE f t xs).2 = 0 ∧ ev = .returned (.tuple #[zeroP, errV (pE f t xs).1 (pE f t xs).2])) ∨
    ((pE f t xs).2 = 0 ∧ ∃ g m, ev = .returned (.tuple #[pkV (hdOf xs) (some ⟨g, 0, none⟩) m m, .nilIface]) ∧ Row w' g (bodyOf xs) ∧ w.heap.size ≤ g ∧ (bodyOf xs).length = m))
/-- What the walk knows ahead of the datagram: the answer's block, the bytes. -/
structure KR (w : World) (A : Option Addr) (n c : Nat) (xs : List Int) (W : World) : Prop where
  z : PkAt W w.heap.size 28 zeroH none 0 0
  rd : Rd .u8 W w.heap.size A n c xs
  below : Below w.heap.size w W
/-- And behind it: the datagram's block (g2), its body's (g1). -/
structure PR (w : World) (A : Option Addr) (n c : Nat) (xs : List Int) (h : Hd) (g1 g2 : Nat) (ys : List Int) (W : World) : Prop where
  z : PkAt W w.heap.size 28 zeroH none 0 0
  pk : PkAt W g2 28 h (some ⟨g1, 0, none⟩) (n - 8) (n - 8)
  row : Row W g1 ys
  rd : Rd .u8 W w.heap.size A n c xs
  below : Below w.heap.size w W
  n1 : w.heap.size < g1
  n2 : w.heap.size < g2
  ne : g1 ≠ g2
section
variable {w W V : World} {A : Option Addr} {n c g1 g2 : Nat} {xs ys ys' : List Int} {h : Hd}
theorem KR.step (q : KR w A n c xs W) (hb : Below W.heap.size W V) : KR w A n c xs V := ⟨q.z.step hb, q.rd.below hb q.below.size, q.below.trans (hb.mono q.below.size)⟩
theorem KR.take (q : KR w A n c xs W) (T : Nat) (hT : T ≤ n) : KR w A T c (xs.take T) W := ⟨q.z, q.rd.cutTo T hT, q.below⟩
theorem PR.step (q : PR w A n c xs h g1 g2 ys W) (hb : Below W.heap.size W V) : PR w A n c xs h g1 g2 ys V :=
  ⟨q.z.step hb, q.pk.step hb, q.row.below hb q.row.lt, q.rd.below hb q.below.size, q.below.trans (hb.mono q.below.size), q.n1, q.n2, q.ne⟩
theorem PR.only1 (q : PR w A n c xs h g1 g2 ys W) (ho : Only g1 W V) (hf : Row V g1 ys') : PR w A n c xs h g1 g2 ys' V :=
  ⟨q.z.below ho.below q.n1, (ho.other _ (Ne.symm q.ne)).trans q.pk, hf, ho.rd q.rd (Nat.le_of_lt q.n1), q.below.trans (ho.below.mono (Nat.le_of_lt q.n1)), q.n1, q.n2, q.ne⟩
end
theorem KR.start {w : World} {A : Option Addr} {n c : Nat} {xs : List Int} (hr : Rd .u8 w w.heap.size A n c xs) : KR w A n c xs (w.alloc (.cells (pkC zeroH none 0 0) 28)) := ⟨PkAt.new w 28 zeroH none 0 0, hr.below (alloc_below _ _) (Nat.le_refl _), alloc_below _ _⟩

set_option maxRecDepth 100000 in
set_option maxHeartbeats 4000000 in
theorem parse_bad (A : Option Addr) (n c : Nat) (xs : List Int) (f t : Int) (w : World) (hr : Rd .u8 w w.heap.size A n c xs) (hbe : ¬ (bE xs).2 = 0) :
    Calls Tryd.prog 9 #[.slice A n c, .int .u32 f, .int .u32 t] w fun ev w' => Below w.heap.size w w' ∧ ev = .returned (.tuple #[zeroP, errV (bE xs).1 (bE xs).2]) := by
  have k0 := KR.start hr
  have hb1 : ∀ W, KR w A n c xs W → Calls Tryd.prog 20 #[.slice A n c] W fun ev w' => (∃ m, w' = W.drewN m) ∧ ev = .returned (.tuple #[.slice none 0 0, errV (bE xs).1 (bE xs).2]) := fun W k =>
    (cut_any A n c w.heap.size xs W k.rd).mono fun ev w' ⟨h1, h2⟩ => ⟨h1, h2.elim (fun q => q.2) (fun q => absurd q.1 hbe)⟩
  clear hbe
  generalize bE xs = ee at *
  obtain ⟨r, e0⟩ := ee
  dsimp only at hb1 ⊢
  go_enter Tryd.func9, Tryd.ntmps9
  go_wp2_with fail
  with_reducible refine (hb1 _ k0).mono ?_
  rintro e w1 ⟨⟨m, hw⟩, rfl⟩
  have k : KR w A n c xs w1 := by rw [hw]; exact k0.step (Still.drewN _ _).below
  clear hw k0 hb1 hr
  go_wp2_with (refine wpList_stF rfl rfl 28 _ _ rfl w.heap.size (pkC zeroH none 0 0) rfl rfl 28 _ k.z (by kernel_rfl) rfl (pkC_one ..) ?_; intro w7 h7 hb7 ho7 hs7)
  have h7' : PkAt w7 w.heap.size 28 zeroH none 0 0 := h7
  have b7 : Below w.heap.size w w7 := k.below.trans hb7
  obtain ⟨c0, c1, c2, c3⟩ := h7'.cells
  refine bodyPost_ret (v := .tuple #[zeroP, errV r e0]) (by simp [results, Tryd.results9, go_sem, c0, c1, c2, c3]) rfl ⟨b7, rfl⟩

set_option maxRecDepth 100000 in
set_option maxHeartbeats 4000000 in
theorem parse_sum (b o n c T : Nat) (xs : List Int) (f t : Int) (w : World) (hr : Rd .u8 w w.heap.size (some ⟨b, o, none⟩) n c xs) (hf : Ip f) (ht : Ip t) (hbe : (bE xs).2 = 0) (hT : told xs = T) (hz : ¬ num2 (xs.drop 6) = 0) (hs : ¬ totV (epR f t T ++ xs.take T) = 65535) :
    Calls Tryd.prog 9 #[.slice (some ⟨b, o, none⟩) n c, .int .u32 f, .int .u32 t] w fun ev w' => Below w.heap.size w w' ∧ ev = .returned (.tuple #[zeroP, errV 2 13]) := by
  have hcap := hr.cap
  have hmax := hr.max
  have hl := hr.len
  obtain ⟨-, h8, hTn, hTm⟩ := bE_ok hbe
  rw [hT] at h8 hTn hTm
  rw [hl] at hTn
  have k0 := KR.start hr
  have hb1 : Calls Tryd.prog 20 #[.slice (some ⟨b, o, none⟩) n c] (w.alloc (.cells (pkC zeroH none 0 0) 28)) fun ev w' => (∃ m, w' = (w.alloc (.cells (pkC zeroH none 0 0) 28)).drewN m) ∧ ev = .returned (.tuple #[.slice (some ⟨b, o, none⟩) T c, .nilIface]) :=
    (cut_any _ n c w.heap.size xs _ k0.rd).mono fun ev w' ⟨h1, h2⟩ => ⟨h1, h2.elim (fun q => absurd hbe q.1) (fun q => by rw [← hT]; exact q.2)⟩
  have e6 : num2 ((xs.take T).drop 6) = num2 (xs.drop 6) := num2_take (by omega)
  have eH : hdOf (xs.take T) = hdOf xs := hdOf_take h8
  rw [← e6] at hz
  have HL : Hid ((xs.take T).length = T) := Lib.hid (by rw [List.length_take]; omega)
  have k1 := k0.take T hTn
  clear k0 hr eH e6 hl hbe
  generalize xs.take T = ys at *
  have k6 : ¬ c = 6 := by omega
  have j6 : (6 : Int) ≤ (T : Int) := by omega
  have t6 : ∀ W, Rd .u8 W w.heap.size (some ⟨b, o, none⟩) T c ys → Calls Tryd.prog 21 #[.slice (some ⟨b, o + 6, none⟩) (T - 6) (c - 6)] W fun e w' => e = .returned (.int .u16 (num2 (ys.drop 6))) ∧ ∃ m', w' = W.drewN m' := fun W h => two_any _ (T - 6) (c - 6) w.heap.size (ys.drop 6) W (h.cutS 6 (by omega) k6) (by omega)
  have ca : Hid (∀ W, Calls Tryd.prog 23 #[.int .u32 f, .int .u32 t, .int .i64 T] W (GivesRow W (epR f t T) 12)) := Lib.hid (fun W => ahead_any f t T W hf ht (by omega))
  have wf := Lib.hid (epR_wf hf ht (n := T) (by omega))
  have cr : Hid (∀ W g, Row W g (epR f t T) → KR w (some ⟨b, o, none⟩) T c ys W → Calls Tryd.prog 22 #[.slice (some ⟨W.heap.size, 0, none⟩) 2 2] (W.alloc (.cells #[.slice (some ⟨g, 0, none⟩) 12 12, .slice (some ⟨b, o, none⟩) T c] 22)) fun e w' => e = .returned (.bool false) ∧ Below W.heap.size W w') := Lib.hid (fun W g h1 h2 => by
    have := right_two (h1.rdW (n := 12) rfl (by omega) wf.out) (h2.rd.more h2.below.size)
    rwa [show (totV (epR f t T ++ ys) == 65535) = false by simpa using hs] at this)
  clear wf hs
  have EP : (epR f t T).length = 12 := rfl
  generalize epR f t T = EE at *
  generalize num2 (ys.drop 6) = p6 at *
  have hzb : (p6 == 0) = false := by simpa using hz
  go_enter Tryd.func9, Tryd.ntmps9
  go_wp2_with fail
  with_reducible refine hb1.mono ?_
  rintro e w1 ⟨⟨m, hw⟩, rfl⟩
  have k : KR w (some ⟨b, o, none⟩) T c ys w1 := by rw [hw]; exact k1.step (Still.drewN _ _).below
  clear hw k1 hb1
  go_wp2_with fail
  with_reducible refine (t6 _ k.rd).mono ?_
  rintro e w2 ⟨rfl, m2, hw⟩
  replace k := k.step (Still.drewN _ m2).below
  rw [← hw] at k
  clear hw t6
  go_wp2_with fail
  refine (ca.out _).mono ?_
  rintro ev w3 ⟨g, rfl, row, hg, hb⟩
  replace k := k.step hb
  clear ca hb hg
  go_wp2_with fail
  refine (cr.out _ _ row k).mono ?_
  rintro ev w4 ⟨rfl, hb⟩
  replace k := k.step hb
  clear cr hb row
  go_wp2_with (first
    | (go_at_call 24; with_reducible refine (fault_any 2 13 _ (by decide) (by decide)).mono ?_; rintro e w5 ⟨rfl, rfl⟩)
    | (refine wpList_stF rfl rfl 28 _ _ rfl w.heap.size (pkC zeroH none 0 0) rfl rfl 28 _ k.z (by kernel_rfl) rfl (pkC_one ..) ?_; intro w7 h7 hb7 ho7 hs7))
  have h7' : PkAt w7 w.heap.size 28 zeroH none 0 0 := h7
  have b7 : Below w.heap.size w w7 := k.below.trans hb7
  obtain ⟨c0, c1, c2, c3⟩ := h7'.cells
  clear h7
  refine bodyPost_ret (v := .tuple #[zeroP, errV 2 13]) (by simp [results, Tryd.results9, go_sem, c0, c1, c2, c3]) rfl ⟨b7, rfl⟩
end Go.Proofs.YtmgdfckhnjihpaaDoor
