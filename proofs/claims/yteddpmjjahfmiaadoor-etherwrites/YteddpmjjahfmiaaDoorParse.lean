/-
  Contract of Parse, where the count of bytes is right.
-/
import Derived.Test.YteddpmjjahfmiaaDoorParseE
import Derived.Test.YteddpmjjahfmiaaDoorCp
import Derived.Laws.BitsAllLaws
import Derived.Laws.BitsLemmas
import Derived.Deep.CutRange
namespace Go.Proofs.YteddpmjjahfmiaaDoor
open Go.RowKit

theorem or_two (x y : Int) (hx : 0 ≤ x ∧ x ≤ 255) (hy : 0 ≤ y ∧ y ≤ 255) : bits .or .u16 (x * 256) y = x * 256 + y := by
  rw [u16_or _ _ (by omega) (by omega) (by omega) (by omega)]
  obtain ⟨a, rfl⟩ := Int.eq_ofNat_of_zero_le hx.1
  obtain ⟨b, rfl⟩ := Int.eq_ofNat_of_zero_le hy.1
  have e : ((a : Int) * 256).toNat = a <<< 8 := by rw [Nat.shiftLeft_eq]; omega
  rw [e, Int.toNat_natCast, ← Nat.shiftLeft_add_eq_or_of_lt (by omega), Nat.shiftLeft_eq]
  omega
theorem sz5 : (Tryd.prog.info? 5).map (·.size) = some 1 := by kernel_rfl
/-- The kind that stands in bytes. -/
def kOf (xs : List Int) : Int := xs.getD 12 0 * 256 + xs.getD 13 0
theorem splice_all (m : Nat) (ys : List Int) (h : ys.length = m) : splice (List.replicate m (0 : Int)) 0 ys = ys := by simp [splice, h]
/-- What Parse answers of bytes of a right count. -/
def GivesP (w : World) (xs : List Int) (n : Nat) (ev : Ending) (w' : World) : Prop :=
  Below w.heap.size w w' ∧ ((grpV (six (xs.drop 6)) = true ∧ ev = .returned (.tuple #[frV zero6 zero6 0 none 0 0, errV 10])) ∨
    (grpV (six (xs.drop 6)) = false ∧ ∃ g, ev = .returned (.tuple #[frV (six xs) (six (xs.drop 6)) (kOf xs) (some ⟨g, 0, none⟩) (n - 14) (n - 14), .nilIface]) ∧ Row w' g (xs.drop 14) ∧ w.heap.size ≤ g))
/-- What Parse's walk knows: the answer's block, the frame's (g2), its body's (g1). -/
structure PK (w : World) (A : Option Addr) (n c : Nat) (xs : List Int) (g1 g2 : Nat) (t f : Mac6) (ys : List Int) (W : World) : Prop where
  z : FrAt W w.heap.size 29 zero6 zero6 0 none 0 0
  fr : FrAt W g2 29 t f (kOf xs) (some ⟨g1, 0, none⟩) (n - 14) (n - 14)
  row : Row W g1 ys
  rd : Rd .u8 W w.heap.size A n c xs
  below : Below w.heap.size w W
  n1 : w.heap.size < g1
  n2 : w.heap.size < g2
  ne : g1 ≠ g2
section
variable {w W V : World} {A : Option Addr} {n c g1 g2 : Nat} {xs ys ys' : List Int} {t f t' f' : Mac6}
theorem PK.step (h : PK w A n c xs g1 g2 t f ys W) (hb : Below W.heap.size W V) : PK w A n c xs g1 g2 t f ys V :=
  ⟨h.z.step hb, h.fr.step hb, h.row.below hb h.row.lt, h.rd.below hb h.below.size, h.below.trans (hb.mono h.below.size), h.n1, h.n2, h.ne⟩
theorem PK.only2 (h : PK w A n c xs g1 g2 t f ys W) (ho : Only g2 W V) (hf : FrAt V g2 29 t' f' (kOf xs) (some ⟨g1, 0, none⟩) (n - 14) (n - 14)) : PK w A n c xs g1 g2 t' f' ys V :=
  ⟨h.z.below ho.below h.n2, hf, (ho.other _ h.ne).trans h.row, ho.rd h.rd (Nat.le_of_lt h.n2), h.below.trans (ho.below.mono (Nat.le_of_lt h.n2)), h.n1, h.n2, h.ne⟩
theorem PK.only1 (h : PK w A n c xs g1 g2 t f ys W) (ho : Only g1 W V) (hf : Row V g1 ys') : PK w A n c xs g1 g2 t f ys' V :=
  ⟨h.z.below ho.below h.n1, (ho.other _ (Ne.symm h.ne)).trans h.fr, hf, ho.rd h.rd (Nat.le_of_lt h.n1), h.below.trans (ho.below.mono (Nat.le_of_lt h.n1)), h.n1, h.n2, h.ne⟩
end
theorem below_drew (w : World) : Below w.heap.size w w.drew := ⟨rfl, rfl, rfl, Nat.le_refl _, fun _ _ => rfl⟩

set_option maxRecDepth 100000 in
set_option maxHeartbeats 4000000 in
theorem parse_ok (A : Option Addr) (n c : Nat) (xs : List Int) (w : World) (hr : Rd .u8 w w.heap.size A n c xs) (h14 : 14 ≤ n) (hmx : n ≤ 1514) :
    Calls Tryd.prog 9 #[.slice A n c] w (GivesP w xs n) := by
  have h6 : 0 ≤ (six (xs.drop 6)).a ∧ (six (xs.drop 6)).a ≤ 255 := by
    have := u8_bd (hr.wf (i := 6) (by omega))
    have e : (six (xs.drop 6)).a = xs.getD 6 0 := by simp [six, List.getD]
    rw [e]; exact this
  obtain ⟨b, o, rfl, hb, hc12⟩ := hr.at_ (i := 12) (by omega)
  obtain ⟨b', o', e', hb', hc13⟩ := hr.at_ (i := 13) (by omega)
  injection e' with e'
  injection e' with e1 e2
  subst e1 e2
  clear hb'
  have hx12 := u8_bd (hr.wf (i := 12) (by omega))
  have hx13 := u8_bd (hr.wf (i := 13) (by omega))
  have hor := or_two _ _ hx12 hx13
  have hcap := hr.cap
  have hmax := hr.max
  have HL := Lib.hid hr.len
  have Hk : Hid (kOf xs = xs.getD 12 0 * 256 + xs.getD 13 0) := Lib.hid rfl
  generalize xs.getD 12 0 = x at *
  generalize xs.getD 13 0 = y at *
  have wx : IntKind.u16.wrap x = x := by rw [IntKind.wrap_u16]; omega
  have wy : IntKind.u16.wrap y = y := by rw [IntKind.wrap_u16]; omega
  have wxy : IntKind.u16.wrap (x * 256) = x * 256 := by rw [IntKind.wrap_u16]; omega
  have i1 : (12 : Int) < (n : Int) := by omega
  have i2 : (13 : Int) < (n : Int) := by omega
  have i3 : ((n : Int) - 14) = ((n - 14 : Nat) : Int) := by omega
  have i4 : IntKind.i64.wrap ((n - 14 : Nat) : Int) = ((n - 14 : Nat) : Int) := by rw [IntKind.wrap_i64]; omega
  go_enter Tryd.func9, Tryd.ntmps9
  go_wp2_with fail
  go_cut [4] from 15 to 29 (fun x4 wc => ∃ g1 g2, x4 = .pointer (some ⟨g2, 0, none⟩) ∧ PK w (some ⟨b, o, none⟩) n c xs g1 g2 zero6 zero6 (List.replicate (n - 14) 0) wc)
  case first =>
    have d12 : (w.alloc (.cells (frC zero6 zero6 0 none 0 0) 29)).drew.cell? ⟨b, o + 12, none⟩ = some (.int .u8 x) := ((alloc_below w (.cells (frC zero6 zero6 0 none 0 0) 29)).cell hb).trans hc12
    have d13 : (w.alloc (.cells (frC zero6 zero6 0 none 0 0) 29)).drew.cell? ⟨b, o + 13, none⟩ = some (.int .u8 y) := ((alloc_below w (.cells (frC zero6 zero6 0 none 0 0) 29)).cell hb).trans hc13
    have hz : FrAt (w.alloc (.cells (frC zero6 zero6 0 none 0 0) 29)).drew w.heap.size 29 zero6 zero6 0 none 0 0 := FrAt.new w 29 zero6 zero6 0 none 0 0
    have hbl : Below w.heap.size w (w.alloc (.cells (frC zero6 zero6 0 none 0 0) 29)).drew := (alloc_below w _).trans ⟨rfl, rfl, rfl, Nat.le_refl _, fun _ _ => rfl⟩
    have hs1 : (w.alloc (.cells (frC zero6 zero6 0 none 0 0) 29)).drew.heap.size = w.heap.size + 1 := by show (w.alloc _).heap.size = _; simp
    have hr1 : Rd .u8 (w.alloc (.cells (frC zero6 zero6 0 none 0 0) 29)).drew w.heap.size (some ⟨b, o, none⟩) n c xs := hr.below hbl (Nat.le_refl _)
    refine wp_region_held_drew (S := fun w' => w'.cell? ⟨b, o + 12, none⟩ = some (.int .u8 x) ∧ w'.cell? ⟨b, o + 13, none⟩ = some (.int .u8 y)) (by kernel_rfl) ⟨d12, d13⟩ (fun hHeld => ?_)
    clear hc12 hc13 hr hHeld h6
    change wpAnyH _ _ _ _ _ _ _ _ (w.alloc (.cells (frC zero6 zero6 0 none 0 0) 29)).drew
    generalize (w.alloc (.cells (frC zero6 zero6 0 none 0 0) 29)).drew = W1 at *
    have hHeld := And.intro d12 d13
    clear d12 d13
    refine wpAnyH_at (i := 0) (some 15) (v := ?v0z1) rfl rfl (by kernel_rfl) (by kernel_rfl) (by kernel_rfl) (fun _ _ _ h => h) (Or.inl ⟨by rfl, ?y0z1⟩) (by assumption) ?r0z1
    case y0z1 =>
      intro w9 hSw
      obtain ⟨q1, q2⟩ := hSw
      go_simp
      all_goals with_reducible rfl
    simp only [Act.put, List.setIfInBounds_toArray, List.set_cons_zero, List.set_cons_succ]
    refine wpAnyH_at (i := 1) (some 16) (v := ?v1z2) rfl rfl (by kernel_rfl) (by kernel_rfl) (by kernel_rfl) (fun _ _ _ h => h) (Or.inl ⟨by rfl, ?y1z2⟩) (by assumption) ?r1z2
    case y1z2 =>
      intro w9 hSw
      obtain ⟨q1, q2⟩ := hSw
      go_simp
      all_goals with_reducible rfl
    simp only [Act.put, List.setIfInBounds_toArray, List.set_cons_zero, List.set_cons_succ]
    refine wpAnyH_at (i := 2) (some 17) (v := ?v2z3) rfl rfl (by kernel_rfl) (by kernel_rfl) (by kernel_rfl) (fun _ _ _ h => h) (Or.inl ⟨by rfl, ?y2z3⟩) (by assumption) ?r2z3
    case y2z3 =>
      intro w9 hSw
      obtain ⟨q1, q2⟩ := hSw
      go_simp
      all_goals with_reducible rfl
    simp only [Act.put, List.setIfInBounds_toArray, List.set_cons_zero, List.set_cons_succ]
    refine wpAnyH_at (i := 3) (some 18) (v := ?v3z4) rfl rfl (by kernel_rfl) (by kernel_rfl) (by kernel_rfl) (fun _ _ _ h => h) (Or.inl ⟨by rfl, ?y3z4⟩) (by assumption) ?r3z4
    case y3z4 =>
      intro w9 hSw
      obtain ⟨q1, q2⟩ := hSw
      go_simp
      all_goals with_reducible rfl
    simp only [Act.put, List.setIfInBounds_toArray, List.set_cons_zero, List.set_cons_succ]
    refine wpAnyH_at (i := 4) (some 19) (v := ?v4z5) rfl rfl (by kernel_rfl) (by kernel_rfl) (by kernel_rfl) (fun _ _ _ h => h) (Or.inl ⟨by rfl, ?y4z5⟩) (by assumption) ?r4z5
    case y4z5 =>
      intro w9 hSw
      obtain ⟨q1, q2⟩ := hSw
      go_simp
      all_goals with_reducible rfl
    simp only [Act.put, List.setIfInBounds_toArray, List.set_cons_zero, List.set_cons_succ]
    refine wpAnyH_at (i := 5) (some 20) (v := ?v5z6) rfl rfl (by kernel_rfl) (by kernel_rfl) (by kernel_rfl) (fun _ _ _ h => h) (Or.inl ⟨by rfl, ?y5z6⟩) (by assumption) ?r5z6
    case y5z6 =>
      intro w9 hSw
      obtain ⟨q1, q2⟩ := hSw
      go_simp
      all_goals with_reducible rfl
    simp only [Act.put, List.setIfInBounds_toArray, List.set_cons_zero, List.set_cons_succ]
    refine wpAnyH_at (i := 6) (some 21) (v := ?v6z7) rfl rfl (by kernel_rfl) (by kernel_rfl) (by kernel_rfl) (fun _ _ _ h => h) (Or.inl ⟨by rfl, ?y6z7⟩) (by assumption) ?r6z7
    case y6z7 =>
      intro w9 hSw
      obtain ⟨q1, q2⟩ := hSw
      go_simp
      all_goals with_reducible rfl
    simp only [Act.put, List.setIfInBounds_toArray, List.set_cons_zero, List.set_cons_succ]
    refine wpAnyH_at (i := 7) (some 22) (v := ?v7z8) rfl rfl (by kernel_rfl) (by kernel_rfl) (by kernel_rfl) (fun _ _ _ h => h) (Or.inl ⟨by rfl, ?y7z8⟩) (by assumption) ?r7z8
    case y7z8 =>
      intro w9 hSw
      obtain ⟨q1, q2⟩ := hSw
      go_simp
      all_goals with_reducible rfl
    simp only [Act.put, List.setIfInBounds_toArray, List.set_cons_zero, List.set_cons_succ]
    refine wpAnyH_at (i := 8) (some 23) (v := ?v8z9) rfl rfl (by kernel_rfl) (by kernel_rfl) (by kernel_rfl) (fun _ _ _ h => h) (Or.inl ⟨by rfl, ?y8z9⟩) (by assumption) ?r8z9
    case y8z9 =>
      intro w9 hSw
      obtain ⟨q1, q2⟩ := hSw
      go_simp
      all_goals with_reducible rfl
    simp only [Act.put, List.setIfInBounds_toArray, List.set_cons_zero, List.set_cons_succ]
    refine wpAnyH_at (i := 9) (some 24) (v := ?v9z10) rfl rfl (by kernel_rfl) (by kernel_rfl) (by kernel_rfl) (fun _ _ _ h => h) (Or.inl ⟨by rfl, ?y9z10⟩) (by assumption) ?r9z10
    case y9z10 =>
      intro w9 hSw
      obtain ⟨q1, q2⟩ := hSw
      go_simp
      all_goals with_reducible rfl
    simp only [Act.put, List.setIfInBounds_toArray, List.set_cons_zero, List.set_cons_succ]
    refine wpAnyH_at (i := 10) (some 25) (v := ?v10z11) rfl rfl (by kernel_rfl) (by kernel_rfl) (by kernel_rfl) (fun _ _ _ h => h) (Or.inl ⟨by rfl, ?y10z11⟩) (by assumption) ?r10z11
    case y10z11 =>
      intro w9 hSw
      obtain ⟨q1, q2⟩ := hSw
      go_simp
      all_goals with_reducible rfl
    simp only [Act.put, List.setIfInBounds_toArray, List.set_cons_zero, List.set_cons_succ]
    refine wpAnyH_at (i := 11) (some 26) (v := ?v11z12) rfl rfl (by kernel_rfl) (by kernel_rfl) (by kernel_rfl) (fun _ _ _ h => h) (Or.inl ⟨by rfl, ?y11z12⟩) (by assumption) ?r11z12
    case y11z12 =>
      intro w9 hSw
      obtain ⟨q1, q2⟩ := hSw
      go_simp
      all_goals with_reducible rfl
    simp only [Act.put, List.setIfInBounds_toArray, List.set_cons_zero, List.set_cons_succ]
    refine wpAnyH_at (i := 12) (some 27) (v := ?v12z13) rfl rfl (by kernel_rfl) (by kernel_rfl) (by kernel_rfl) (fun _ _ _ h => h) (Or.inl ⟨by rfl, ?y12z13⟩) (by assumption) ?r12z13
    case y12z13 =>
      intro w9 hSw
      obtain ⟨q1, q2⟩ := hSw
      go_simp
      all_goals with_reducible rfl
    simp only [Act.put, List.setIfInBounds_toArray, List.set_cons_zero, List.set_cons_succ]
    refine wpAnyH_two (i := 13) (j := 15) (by kernel_rfl) rfl rfl ?_ ?_
    · refine wpList_mk (some 28) rfl rfl _ _ 22 rfl Tryd.underlying22 info5 (n - 14) _ _ rfl rfl rfl rfl (by omega) ?_
      intro w2 row3 hs2 hb2
      go_wp2
      have hH2 := (⟨(hb2.cell (by show b < _; omega)).trans hHeld.1, (hb2.cell (by show b < _; omega)).trans hHeld.2⟩ : w2.cell? ⟨b, o + 12, none⟩ = some (.int .u8 x) ∧ w2.cell? ⟨b, o + 13, none⟩ = some (.int .u8 y))
      refine ⟨hH2, ?_⟩
      replace hz := hz.step hb2
      replace hr1 := hr1.below hb2 (by omega)
      replace hbl := hbl.trans (hb2.mono (by omega))
      rw [hs1] at hs2 row3 ⊢
      clear hHeld hb2 hs1
      refine wpAnyH_at (i := 14) (some 29) (v := ?v14z14) rfl rfl (by kernel_rfl) (by kernel_rfl) (by kernel_rfl) (fun _ _ _ h => h) (Or.inl ⟨by rfl, ?y14z14⟩) (by assumption) ?r14z14
      case y14z14 =>
        intro w9 hSw
        clear hSw
        go_simp
        all_goals with_reducible rfl
      simp only [Act.put, List.setIfInBounds_toArray, List.set_cons_zero, List.set_cons_succ]
      refine wpAnyH_one (i := 15) (by kernel_rfl) rfl ?_
      have hb3 := alloc_below w2 (.cells (frC zero6 zero6 0 none 0 0) 29)
      have f3 := FrAt.new w2 29 zero6 zero6 0 none 0 0
      have hs3 : (w2.alloc (.cells (frC zero6 zero6 0 none 0 0) 29)).heap.size = w.heap.size + 3 := by simp; omega
      rw [hs2] at f3 hb3
      have hH3 := (⟨(hb3.cell (by show b < _; omega)).trans hH2.1, (hb3.cell (by show b < _; omega)).trans hH2.2⟩ : (w2.alloc (.cells (frC zero6 zero6 0 none 0 0) 29)).cell? ⟨b, o + 12, none⟩ = some (.int .u8 x) ∧ (w2.alloc (.cells (frC zero6 zero6 0 none 0 0) 29)).cell? ⟨b, o + 13, none⟩ = some (.int .u8 y))
      go_wp2
      refine ⟨hH3, ?_⟩
      change wpAnyH _ _ _ _ _ _ _ _ (w2.alloc (.cells (frC zero6 zero6 0 none 0 0) 29))
      generalize (w2.alloc (.cells (frC zero6 zero6 0 none 0 0) 29)) = w3 at *
      replace hz := hz.below hb3 (by omega)
      replace hr1 := hr1.below hb3 (by omega)
      replace row3 := row3.below hb3 (by omega)
      replace hbl := hbl.trans (hb3.mono (by omega))
      clear hH2 hb3 hs2
      refine wpAnyH_one (i := 16) (by kernel_rfl) rfl ?_
      refine wpList_stF rfl rfl 29 _ _ rfl (w.heap.size + 1 + 1) (frC zero6 zero6 (kOf xs) (some ⟨w.heap.size + 1, 0, none⟩) (n - 14) (n - 14)) rfl ?_ 29 _ f3 (by kernel_rfl) rfl (frC_one ..) ?_
      · rw [Hk.out]
        rfl
      intro w4 f4 hb4 ho4 hs4
      have hH4 := (⟨(hb4.cell (by show b < _; omega)).trans hH3.1, (hb4.cell (by show b < _; omega)).trans hH3.2⟩ : w4.cell? ⟨b, o + 12, none⟩ = some (.int .u8 x) ∧ w4.cell? ⟨b, o + 13, none⟩ = some (.int .u8 y))
      have pk : PK w (some ⟨b, o, none⟩) n c xs (w.heap.size + 1) (w.heap.size + 1 + 1) zero6 zero6 (List.replicate (n - 14) 0) w4 :=
        ⟨hz.below hb4 (by omega), f4, (ho4 _ (by omega)).trans row3, hr1.below hb4 (by omega), hbl.trans (hb4.mono (by omega)), by omega, by omega, by omega⟩
      clear hH3 hb4 f3 hz hr1 hbl row3
      go_wp2
      refine ⟨hH4, ?_⟩
      refine wpAnyH_done (by kernel_rfl) ?_ _
      clear hH4
      go_wp2_with fail
      go_meet
      case rel => exact ⟨_, _, rfl, pk⟩
    · have hb2 := alloc_below W1 (.cells (frC zero6 zero6 0 none 0 0) 29)
      have f3 := FrAt.new W1 29 zero6 zero6 0 none 0 0
      have hs2 : (W1.alloc (.cells (frC zero6 zero6 0 none 0 0) 29)).heap.size = w.heap.size + 2 := by simp; omega
      rw [hs1] at f3 hb2
      have hH2 := (⟨(hb2.cell (by show b < _; omega)).trans hHeld.1, (hb2.cell (by show b < _; omega)).trans hHeld.2⟩ : (W1.alloc (.cells (frC zero6 zero6 0 none 0 0) 29)).cell? ⟨b, o + 12, none⟩ = some (.int .u8 x) ∧ (W1.alloc (.cells (frC zero6 zero6 0 none 0 0) 29)).cell? ⟨b, o + 13, none⟩ = some (.int .u8 y))
      go_wp2
      refine ⟨hH2, ?_⟩
      change wpAnyH _ _ _ _ _ _ _ _ (W1.alloc (.cells (frC zero6 zero6 0 none 0 0) 29))
      generalize (W1.alloc (.cells (frC zero6 zero6 0 none 0 0) 29)) = w2 at *
      replace hz := hz.below hb2 (by omega)
      replace hr1 := hr1.below hb2 (by omega)
      replace hbl := hbl.trans (hb2.mono (by omega))
      clear hHeld hb2 hs1
      refine wpAnyH_one (i := 13) (by kernel_rfl) rfl ?_
      refine wpList_mk (some 28) rfl rfl _ _ 22 rfl Tryd.underlying22 info5 (n - 14) _ _ rfl rfl rfl rfl (by omega) ?_
      intro w3 row3 hs3 hb3
      go_wp2
      have hH3 := (⟨(hb3.cell (by show b < _; omega)).trans hH2.1, (hb3.cell (by show b < _; omega)).trans hH2.2⟩ : w3.cell? ⟨b, o + 12, none⟩ = some (.int .u8 x) ∧ w3.cell? ⟨b, o + 13, none⟩ = some (.int .u8 y))
      refine ⟨hH3, ?_⟩
      replace hz := hz.step hb3
      replace f3 := f3.step hb3
      replace hr1 := hr1.below hb3 (by omega)
      replace hbl := hbl.trans (hb3.mono (by omega))
      rw [hs2] at hs3 row3 ⊢
      clear hH2 hb3 hs2
      simp only [Act.put, List.setIfInBounds_toArray, List.set_cons_zero, List.set_cons_succ]
      refine wpAnyH_at (i := 14) (some 29) (v := ?v14z15) rfl rfl (by kernel_rfl) (by kernel_rfl) (by kernel_rfl) (fun _ _ _ h => h) (Or.inl ⟨by rfl, ?y14z15⟩) (by assumption) ?r14z15
      case y14z15 =>
        intro w9 hSw
        clear hSw
        go_simp
        all_goals with_reducible rfl
      simp only [Act.put, List.setIfInBounds_toArray, List.set_cons_zero, List.set_cons_succ]
      refine wpAnyH_one (i := 16) (by kernel_rfl) rfl ?_
      refine wpList_stF rfl rfl 29 _ _ rfl (w.heap.size + 1) (frC zero6 zero6 (kOf xs) (some ⟨w.heap.size + 2, 0, none⟩) (n - 14) (n - 14)) rfl ?_ 29 _ f3 (by kernel_rfl) rfl (frC_one ..) ?_
      · rw [Hk.out]
        rfl
      intro w4 f4 hb4 ho4 hs4
      have hH4 := (⟨(hb4.cell (by show b < _; omega)).trans hH3.1, (hb4.cell (by show b < _; omega)).trans hH3.2⟩ : w4.cell? ⟨b, o + 12, none⟩ = some (.int .u8 x) ∧ w4.cell? ⟨b, o + 13, none⟩ = some (.int .u8 y))
      have pk : PK w (some ⟨b, o, none⟩) n c xs (w.heap.size + 2) (w.heap.size + 1) zero6 zero6 (List.replicate (n - 14) 0) w4 :=
        ⟨hz.below hb4 (by omega), f4, (ho4 _ (by omega)).trans row3, hr1.below hb4 (by omega), hbl.trans (hb4.mono (by omega)), by omega, by omega, by omega⟩
      clear hH3 hb4 f3 hz hr1 hbl row3
      go_wp2
      refine ⟨hH4, ?_⟩
      refine wpAnyH_done (by kernel_rfl) ?_ _
      clear hH4
      go_wp2_with fail
      go_meet
      case rel => exact ⟨_, _, rfl, pk⟩
  case rest =>
    obtain ⟨g1, g2, rfl, pk⟩ := hcut
    have j6 : (6 : Int) ≤ (n : Int) := by omega
    have j14 : (14 : Int) ≤ (n : Int) := by omega
    have k6 : ¬ c = 6 := by omega
    clear hc12 hc13 hr hor wx wy wxy i1 i2
    go_wp2_with (with_reducible refine wpList_cpTo (some 33) rfl rfl (.tmp 31) (.tmp 32) 22 22 rfl Tryd.underlying22 sz5 g2 29 zero6 zero6 (kOf xs) _ _ _ pk.fr rfl (some ⟨b, o, none⟩) n c w.heap.size xs rfl pk.rd (by omega) ?_; intro w5 f5 ho5)
    replace pk := pk.only2 ho5 f5
    clear f5 ho5
    go_wp2_with fail
    refine wp_region_held_drew (S := fun _ => True) (by kernel_rfl) trivial (fun hHeld => ?_)
    replace pk := pk.step (below_drew _)
    generalize w5.drew = W5 at *
    refine wpAnyH_at (i := 0) (some 34) (v := ?v0z16) rfl rfl (by kernel_rfl) (by kernel_rfl) (by kernel_rfl) (fun _ _ _ h => h) (Or.inl ⟨by rfl, ?y0z16⟩) (by assumption) ?r0z16
    case y0z16 =>
      intro w9 hSw
      clear hSw
      go_simp
      all_goals with_reducible rfl
    simp only [Act.put, List.setIfInBounds_toArray, List.set_cons_zero, List.set_cons_succ]
    refine wpAnyH_at (i := 1) (some 35) (v := ?v1z17) rfl rfl (by kernel_rfl) (by kernel_rfl) (by kernel_rfl) (fun _ _ _ h => h) (Or.inl ⟨by rfl, ?y1z17⟩) (by assumption) ?r1z17
    case y1z17 =>
      intro w9 hSw
      clear hSw
      go_simp
      all_goals with_reducible rfl
    simp only [Act.put, List.setIfInBounds_toArray, List.set_cons_zero, List.set_cons_succ]
    refine wpAnyH_at (i := 2) (some 36) (v := ?v2z18) rfl rfl (by kernel_rfl) (by kernel_rfl) (by kernel_rfl) (fun _ _ _ h => h) (Or.inl ⟨by rfl, ?y2z18⟩) (by assumption) ?r2z18
    case y2z18 =>
      intro w9 hSw
      clear hSw
      go_simp
      all_goals with_reducible rfl
    simp only [Act.put, List.setIfInBounds_toArray, List.set_cons_zero, List.set_cons_succ]
    refine wpAnyH_at (i := 3) (some 37) (v := .slice (cutA (some ⟨b, o, none⟩) c 6) (n - 6) (c - 6)) rfl rfl (by kernel_rfl) (by kernel_rfl) (by kernel_rfl) (fun _ _ _ h => h) (Or.inl ⟨by rfl, ?y3z19⟩) (by assumption) ?r3z19
    case y3z19 =>
      intro w9 hSw
      clear hSw
      by_cases hq : c = 6
      · rw [cutA_eq hq]
        subst hq
        go_simp
      · rw [cutA_ne hq]
        go_simp
    simp only [Act.put, List.setIfInBounds_toArray, List.set_cons_zero, List.set_cons_succ]
    refine wpAnyH_one (i := 4) (by kernel_rfl) rfl ?_
    refine wpList_cpFrom (some 38) rfl rfl (.tmp 35) (.tmp 37) 22 22 rfl Tryd.underlying22 sz5 g2 29 (six xs) zero6 (kOf xs) _ _ _ pk.fr rfl (cutA (some ⟨b, o, none⟩) c 6) (n - 6) (c - 6) w.heap.size (xs.drop 6) rfl (pk.rd.cutFrom 6 (by omega)) (by omega) ?_
    intro w6 f6 ho6
    replace pk := pk.only2 ho6 f6
    clear f6 ho6
    go_wp2
    refine ⟨trivial, ?_⟩
    refine wpAnyH_done (by kernel_rfl) ?_ _
    go_wp2_with fail
    refine wp_region_held_drew (S := fun w' => ∃ ys, PK w (some ⟨b, o, none⟩) n c xs g1 g2 (six xs) (six (xs.drop 6)) ys w') (by kernel_rfl) ⟨_, pk.step (below_drew _)⟩ (fun hHeld => ?_)
    replace pk := pk.step (below_drew _)
    generalize w6.drew = W6 at *
    refine wpAnyH_at (i := 0) (some 39) (v := ?v0z20) rfl rfl (by kernel_rfl) (by kernel_rfl) (by kernel_rfl) (fun _ _ _ h => h) (Or.inl ⟨by rfl, ?y0z20⟩) (by assumption) ?r0z20
    case y0z20 =>
      intro w9 hSw
      clear hSw
      go_simp
      all_goals with_reducible rfl
    simp only [Act.put, List.setIfInBounds_toArray, List.set_cons_zero, List.set_cons_succ]
    refine wpAnyH_at (i := 1) (some 40) (v := ?v1z21) rfl rfl (by kernel_rfl) (by kernel_rfl) (by kernel_rfl) (fun _ _ _ h => h) (Or.inl ⟨by rfl, ?y1z21⟩) (by assumption) ?r1z21
    case y1z21 =>
      intro w9 hSw
      (obtain ⟨ys, hy⟩ := hSw); (obtain ⟨a0, a1, a2, a3, a4, a5, a6, a7, a8, a9, a10, a11, a12, a13⟩ := hy.fr.cells); clear hy
      go_simp
      all_goals with_reducible rfl
    simp only [Act.put, List.setIfInBounds_toArray, List.set_cons_zero, List.set_cons_succ]
    refine wpAnyH_at (i := 2) (some 41) (v := ?v2z22) rfl rfl (by kernel_rfl) (by kernel_rfl) (by kernel_rfl) (fun _ _ _ h => h) (Or.inl ⟨by rfl, ?y2z22⟩) (by assumption) ?r2z22
    case y2z22 =>
      intro w9 hSw
      clear hSw
      go_simp
      all_goals with_reducible rfl
    simp only [Act.put, List.setIfInBounds_toArray, List.set_cons_zero, List.set_cons_succ]
    refine wpAnyH_at (i := 3) (some 42) (v := .slice (cutA (some ⟨b, o, none⟩) c 14) (n - 14) (c - 14)) rfl rfl (by kernel_rfl) (by kernel_rfl) (by kernel_rfl) (fun _ _ _ h => h) (Or.inl ⟨by rfl, ?y3z23⟩) (by assumption) ?r3z23
    case y3z23 =>
      intro w9 hSw
      clear hSw
      by_cases hq : c = 14
      · rw [cutA_eq hq]
        subst hq
        go_simp
      · rw [cutA_ne hq]
        go_simp
    simp only [Act.put, List.setIfInBounds_toArray, List.set_cons_zero, List.set_cons_succ]
    refine wpAnyH_one (i := 4) (by kernel_rfl) rfl ?_
    refine wpList_cpRow (some 43) rfl rfl (.tmp 40) (.tmp 42) 22 22 rfl Tryd.underlying22 sz5 g1 0 (List.replicate (n - 14) 0) pk.row _ (n - 14) (n - 14) rfl (cutA (some ⟨b, o, none⟩) c 14) (n - 14) (c - 14) w.heap.size (xs.drop 14) rfl (pk.rd.cutFrom 14 (by omega)) (by simp) (Nat.le_refl _) (fun _ => rfl) ?_
    intro w7 r7 ho7
    rw [splice_all _ _ (by simp [HL.out])] at r7
    replace pk := pk.only1 ho7 r7
    clear r7 ho7 hHeld
    go_wp2
    refine ⟨⟨_, pk⟩, ?_⟩
    refine wpAnyH_done (by kernel_rfl) ?_ _
    obtain ⟨a0, a1, a2, a3, a4, a5, a6, a7, a8, a9, a10, a11, a12, a13⟩ := pk.fr.cells
    go_wp2_with fail
    with_reducible refine (group_any (six (xs.drop 6)) _ h6).mono ?_
    rintro ev w8 ⟨rfl, hb8⟩
    replace pk := pk.step hb8
    clear a0 a1 a2 a3 a4 a5 a6 a7 a8 a9 a10 a11 a12 a13 hb8
    by_cases hgr : grpV (six (xs.drop 6)) = true
    · have fin : ∀ (w9 : World), w9.heap[w.heap.size]? = some (.cells (frC zero6 zero6 0 none 0 0) 29 (0, 0)) → Below w.heap.size w8 w9 → FrAt w9 w.heap.size 29 zero6 zero6 0 none 0 0 ∧ Below w.heap.size w w9 := fun w9 h1 h2 => ⟨h1, pk.below.trans h2⟩
      go_wp2_with (first
        | (go_at_call 23; refine (wrong_any 10 _ (by decide)).mono ?_; rintro e w1 ⟨rfl, rfl⟩)
        | (refine wpList_stF rfl rfl 29 _ _ rfl w.heap.size (frC zero6 zero6 0 none 0 0) rfl rfl 29 _ pk.z (by kernel_rfl) rfl (frC_one _ _ _ _ _ _) ?_; intro w9 f9 hb9 _ _; obtain ⟨k9, b9⟩ := fin w9 f9 hb9; clear fin f9 hb9))
      obtain ⟨z0, z1, z2, z3, z4, z5, z6, z7, z8, z9, z10, z11, z12, z13⟩ := k9.cells
      exact bodyPost_ret (v := .tuple #[frV zero6 zero6 0 none 0 0, errV 10]) (by simp [results, Tryd.results9, go_sem, *]) rfl ⟨b9, .inl ⟨hgr, rfl⟩⟩
    · have hgr : grpV (six (xs.drop 6)) = false := by simpa using hgr
      obtain ⟨a0, a1, a2, a3, a4, a5, a6, a7, a8, a9, a10, a11, a12, a13⟩ := pk.fr.cells
      have fin : ∀ (w9 : World), w9.heap[w.heap.size]? = some (.cells (frC (six xs) (six (xs.drop 6)) (kOf xs) (some ⟨g1, 0, none⟩) (n - 14) (n - 14)) 29 (0, 0)) → Below w.heap.size w8 w9 → (∀ j, j ≠ w.heap.size → w9.heap[j]? = w8.heap[j]?) → FrAt w9 w.heap.size 29 (six xs) (six (xs.drop 6)) (kOf xs) (some ⟨g1, 0, none⟩) (n - 14) (n - 14) ∧ Below w.heap.size w w9 ∧ Row w9 g1 (xs.drop 14) := fun w9 h1 h2 h3 => ⟨h1, pk.below.trans h2, (h3 g1 (by have := pk.n1; omega)).trans pk.row⟩
      go_wp2_with (first
        | (refine wpList_stF rfl rfl 29 _ _ rfl w.heap.size (frC (six xs) (six (xs.drop 6)) (kOf xs) (some ⟨g1, 0, none⟩) (n - 14) (n - 14)) rfl rfl 29 _ pk.z (by kernel_rfl) rfl (frC_one _ _ _ _ _ _) ?_; intro w9 f9 hb9 ho9 _; obtain ⟨k9, b9, r9⟩ := fin w9 f9 hb9 ho9; clear fin f9 hb9 ho9 a0 a1 a2 a3 a4 a5 a6 a7 a8 a9 a10 a11 a12 a13))
      obtain ⟨z0, z1, z2, z3, z4, z5, z6, z7, z8, z9, z10, z11, z12, z13⟩ := k9.cells
      exact bodyPost_ret (v := .tuple #[frV (six xs) (six (xs.drop 6)) (kOf xs) (some ⟨g1, 0, none⟩) (n - 14) (n - 14), .nilIface]) (by simp [results, Tryd.results9, go_sem, *]) rfl ⟨b9, .inr ⟨hgr, g1, rfl, r9, Nat.le_of_lt pk.n1⟩⟩
end Go.Proofs.YteddpmjjahfmiaaDoor
