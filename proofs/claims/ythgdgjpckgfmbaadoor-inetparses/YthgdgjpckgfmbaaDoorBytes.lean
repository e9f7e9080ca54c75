/-
  Contract of Bytes.
-/
import Derived.Test.YthgdgjpckgfmbaaDoorHead
namespace Go.Proofs.YthgdgjpckgfmbaaDoor
open Go.RowKit

theorem Row.rdW {w : World} {g : Nat} {xs : List Int} {n : Nat} (h : Row w g xs) (hn : xs.length = n) (hm : n ≤ 100000000) (hw : ∀ x ∈ xs, (Lit.int .u8 x).wf = true) : Rd .u8 w w.heap.size (some ⟨g, 0, none⟩) n n xs := by
  have := h.rd 0 n n (by omega) (Nat.le_refl _) (by unfold maxLen; omega) hw
  rwa [List.drop_zero, List.take_of_length_le (by omega)] at this
theorem splice_two (m : Nat) (a b : List Int) (h : a.length + b.length = m) : splice (splice (List.replicate m (0 : Int)) 0 a) a.length b = a ++ b := by
  have e : splice (List.replicate m (0 : Int)) 0 a = a ++ List.replicate (m - a.length) 0 := by simp [splice]
  rw [e]
  simp only [splice]
  rw [List.take_left, List.drop_append, List.drop_of_length_le (by omega), List.nil_append, List.drop_replicate, show m - a.length - (a.length + b.length - a.length) = 0 by omega]
  simp
/-- A packet's bytes: a row of the call's own, known whole, and no error. -/
def GivesBy (w : World) (xs : List Int) (n : Nat) (ev : Ending) (w' : World) : Prop :=
  ∃ g, ev = .returned (.tuple #[.slice (some ⟨g, 0, none⟩) n n, .nilIface]) ∧ Row w' g xs ∧ w.heap.size ≤ g ∧ Below w.heap.size w w'
theorem bytes_far (h : Hd) (A : Option Addr) (n c : Nat) (w : World) (hn : 1480 < n) (hmax : n ≤ 9223372036854775807) :
    Calls Tryd.prog 19 #[pkV h A n c] w fun ev w' => ev = .returned (.tuple #[.slice none 0 0, errV 1 11]) ∧ Below w.heap.size w w' := by
  have n1 : (1480 : Int) < (n : Int) := by omega
  obtain ⟨a0, a1, a2, a3, a4, a5, a6, a7⟩ := (PkAt.new w 28 h A n c).cells
  go_enter Tryd.func19, Tryd.ntmps19
  go_wp2_with (go_at_call 35; refine (wrong_any 11 _ (by decide)).mono ?_; rintro e w1 ⟨rfl, rfl⟩)
  go_ret2
  exact ⟨rfl, alloc_below _ _⟩
set_option maxRecDepth 100000 in
set_option maxHeartbeats 4000000 in
theorem bytes_near (h : Hd) (A : Option Addr) (n c m : Nat) (xs : List Int) (w : World) (hk : h.ok) (hr : Rd .u8 w w.heap.size A n c xs) (hn : n ≤ 1480) (hm : (20 : Int) + (n : Int) = (m : Int)) :
    Calls Tryd.prog 19 #[pkV h A n c] w (GivesBy w (hdR h n ++ xs) m) := by
  have start := HK.start h A n c w
  have n1 : ¬ (1480 : Int) < (n : Int) := by omega
  have e1 : IntKind.i64.wrap (m : Int) = (m : Int) := by rw [IntKind.wrap_i64]; omega
  have m1 : m ≤ 1500 := by omega
  have m2 : 20 ≤ m := by omega
  have m3 : m - 20 = n := by omega
  have m4 : (20 : Int) ≤ (m : Int) := by omega
  have hh := Lib.hid (head_any h A n c · hk (by omega))
  have Hx := Lib.hid hr
  have Hw := Lib.hid (hdR_wf (n := n) hk (by omega))
  have Hl := Lib.hid hr.len
  clear hk hr
  obtain ⟨a0, a1, a2, a3, a4, a5, a6, a7⟩ := (PkAt.new w 28 h A n c).cells
  go_enter Tryd.func19, Tryd.ntmps19
  go_wp2_with (at_make; refine wpList_mk (some 14) rfl rfl _ _ 22 rfl Tryd.underlying22 info5 m _ _ rfl rfl rfl rfl (by omega) ?_; intro w2 row2 hs2 hb2; have q := start w2 _ row2 hb2; clear start row2 hs2 hb2 a0 a1 a2 a3 a4 a5 a6 a7; obtain ⟨a0, a1, a2, a3, a4, a5, a6, a7⟩ := q.pk.cells)
  refine (hh.out _).mono ?_
  rintro ev w3 ⟨g2, rfl, row2, hg2, hb⟩
  replace q := q.step hb
  clear hb hg2 a0 a1 a2 a3 a4 a5 a6 a7 hh
  generalize hY : hdR h n = Y at *
  have HY : Hid (Y.length = 20) := Lib.hid (by rw [← hY]; rfl)
  clear hY
  go_wp2_with (refine wpList_cpRow (some 18) rfl rfl (.tmp 15) (.tmp 17) 22 22 rfl Tryd.underlying22 sz5 (w.heap.size + 1) 0 (List.replicate m 0) q.row (some ⟨w.heap.size + 1, 0, none⟩) m m rfl (some ⟨g2, 0, none⟩) 20 20 w3.heap.size Y rfl (row2.rdW HY.out (by omega) Hw.out) (by rw [List.length_replicate]; omega) m2 (fun _ => rfl) ?_; intro w4 r4 ho4; replace q := q.only ho4 r4; clear r4 ho4 row2)
  refine wp_region_held_drew (S := fun w' => PkAt w' w.heap.size 28 h A n c) (by kernel_rfl) q.pk.drew (fun hHeld => ?_)
  replace q := q.step (below_drew _)
  generalize w4.drew = W4 at *
  refine wpAnyH_at (i := 0) (some 19) (v := ?v0z1) rfl rfl (by kernel_rfl) (by kernel_rfl) (by kernel_rfl) (fun _ _ _ h => h) (Or.inl ⟨by rfl, ?y0z1⟩) (by assumption) ?r0z1
  case y0z1 =>
    intro w9 hSw
    clear hSw
    go_simp
    all_goals with_reducible rfl
  simp only [Act.put, List.setIfInBounds_toArray, List.set_cons_zero, List.set_cons_succ]
  refine wpAnyH_at (i := 1) (some 20) (v := .slice (cutA (some ⟨w.heap.size + 1, 0, none⟩) m 20) (m - 20) (m - 20)) rfl rfl (by kernel_rfl) (by kernel_rfl) (by kernel_rfl) (fun _ _ _ h => h) (Or.inl ⟨by rfl, ?y1z2⟩) (by assumption) ?r1z2
  case y1z2 =>
    intro w9 hSw
    clear hSw
    by_cases hq : m = 20
    · rw [cutA_eq hq]
      subst hq
      go_simp
    · rw [cutA_ne hq]
      go_simp
  simp only [Act.put, List.setIfInBounds_toArray, List.set_cons_zero, List.set_cons_succ]
  refine wpAnyH_at (i := 2) (some 21) (v := ?v2z3) rfl rfl (by kernel_rfl) (by kernel_rfl) (by kernel_rfl) (fun _ _ _ h => h) (Or.inl ⟨by rfl, ?y2z3⟩) (by assumption) ?r2z3
  case y2z3 =>
    intro w9 hSw
    clear hSw
    go_simp
    all_goals with_reducible rfl
  simp only [Act.put, List.setIfInBounds_toArray, List.set_cons_zero, List.set_cons_succ]
  refine wpAnyH_at (i := 3) (some 22) (v := ?v3z4) rfl rfl (by kernel_rfl) (by kernel_rfl) (by kernel_rfl) (fun _ _ _ h => h) (Or.inl ⟨by rfl, ?y3z4⟩) (by assumption) ?r3z4
  case y3z4 =>
    intro w9 hSw
    (obtain ⟨a0, a1, a2, a3, a4, a5, a6, a7⟩ := PkAt.cells hSw); clear hSw
    go_simp
    all_goals with_reducible rfl
  simp only [Act.put, List.setIfInBounds_toArray, List.set_cons_zero, List.set_cons_succ]
  refine wpAnyH_one (i := 4) (by kernel_rfl) rfl ?_
  refine wpList_cpRow (some 23) rfl rfl (.tmp 20) (.tmp 22) 22 22 rfl Tryd.underlying22 sz5 (w.heap.size + 1) 20 _ q.row (cutA (some ⟨w.heap.size + 1, 0, none⟩) m 20) (m - 20) (m - 20) rfl A n c w.heap.size xs rfl (Hx.out.below q.below (Nat.le_refl _)) (by rw [splice_len _ _ _ (by rw [HY.out, List.length_replicate]; omega), List.length_replicate]; omega) (by omega) (fun h0 => by rw [cutA_ne (by omega)]; rfl) ?_
  intro w6 r6 ho6
  have e6 := splice_two m Y xs (by rw [HY.out, Hl.out]; omega)
  rw [HY.out] at e6
  rw [e6] at r6
  replace q := q.only ho6 r6
  clear r6 ho6 e6 hHeld
  go_wp2
  refine ⟨q.pk, ?_⟩
  refine wpAnyH_done (by kernel_rfl) ?_ _
  go_wp2
  go_ret2
  exact ⟨_, rfl, q.row, Nat.le_succ _, q.below⟩
theorem bytes_ok (h : Hd) (A : Option Addr) (n c : Nat) (xs : List Int) (w : World) (hk : h.ok) (hr : Rd .u8 w w.heap.size A n c xs) (hn : n ≤ 1480) : Calls Tryd.prog 19 #[pkV h A n c] w (GivesBy w (hdR h n ++ xs) (20 + n)) :=
  bytes_near h A n c (20 + n) xs w hk hr hn (by omega)
end Go.Proofs.YthgdgjpckgfmbaaDoor
