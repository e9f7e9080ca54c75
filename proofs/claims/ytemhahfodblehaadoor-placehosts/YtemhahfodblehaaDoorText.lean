/-
  Contracts of the texts: decimal, hex, joined, Text, MacText, All, Group (the program's).
-/
import Derived.Test.YtemhahfodblehaaDoorKnow
import Derived.Test.YtemhahfodblehaaDoorForce
import Derived.Shelf.RegionOpen
import Derived.Laws.Strings3
import Derived.BigQuiet
import Derived.Laws.IdiomStrings
namespace Go.Proofs.YtemhahfodblehaaDoor
open Go.RowKit

theorem decimal_any (n : Nat) (hn : n < 256) (w : World) (k : Kn w) : Calls Tryd.prog 42 #[.int .u8 n] w fun e w' => e = .returned (strV (dec3 n)) ∧ Below w.heap.size w w' := by
  have h := itoa_any n (by omega) w k
  go_enter Tryd.func42, Tryd.ntmps42
  go_wp2_with fail
  with_reducible refine h.mono ?_
  rintro e w1 ⟨rfl, hb⟩
  go_wp2
  go_ret
  exact ⟨rfl, hb⟩
theorem group_any (a b c d e f : Int) (w : World) (ha : 0 ≤ a ∧ a ≤ 255) : Calls Tryd.prog 33 #[.agg #[.int .u8 a, .int .u8 b, .int .u8 c, .int .u8 d, .int .u8 e, .int .u8 f]] w fun z w' => z = .returned (.bool (decide (a % 2 = 1))) ∧ Below w.heap.size w w' := by
  go_enter Tryd.func33, Tryd.ntmps33
  go_wp2
  go_ret
  refine ⟨ret_bool ?_, alloc_below _ _⟩
  first | rfl | (rw [Bool.eq_iff_iff]; simp; done) | go_show
theorem all_any (w : World) : Calls Tryd.prog 34 #[] w fun z w' => z = .returned (.agg #[.int .u8 255, .int .u8 255, .int .u8 255, .int .u8 255, .int .u8 255, .int .u8 255]) ∧ Below w.heap.size w w' := by
  go_enter Tryd.func34, Tryd.ntmps34
  go_wp2
  exact bodyPost_ret (by simp [results, Tryd.results34, go_sem]) rfl ⟨rfl, alloc_below _ _⟩
/-- The sixteen digits. -/
theorem hexC_at : ∀ d (h : d < 16), ((⟨#[48, 49, 50, 51, 52, 53, 54, 55, 56, 57, 97, 98, 99, 100, 101, 102]⟩ : ByteArray)[d]'h) = hexC d := by decide +kernel
theorem run_hexC (W : World) (k : IntKind) (q : Nat) (hq : q < 16) : (Instr.index 9 (.string ⟨#[48, 49, 50, 51, 52, 53, 54, 55, 56, 57, 97, 98, 99, 100, 101, 102]⟩) (.int k (q : Int))).run Tryd.prog W = .ok (.int .u8 (hexC q).toNat) W := by
  rw [run_index_string W 9 _ k q Tryd.underlying9, dif_pos ⟨by omega, by show (q : Int) < ((16 : Nat) : Int); omega⟩]
  have := hexC_at q hq
  simp only [Int.toNat_natCast]
  rw [this]
set_option maxRecDepth 100000 in
theorem hex_two (q r : Nat) (hq : q < 16) (hr : r < 16) (x : Int) (hx : x = 16 * q + r) (w : World) : Calls Tryd.prog 44 #[.int .u8 x] w fun e w' => e = .returned (strV [hexC q, hexC r]) ∧ Below w.heap.size w w' := by
  have f1 : x.tdiv 16 = q := by rw [Int.tdiv_eq_ediv_of_nonneg (by omega)]; omega
  have f2 : x.tmod 16 = r := by rw [Int.tmod_eq_emod_of_nonneg (by omega)]; omega
  have f3 : IntKind.u8.wrap (q : Int) = q := by rw [IntKind.wrap_u8']; omega
  have f4 : IntKind.u8.wrap (r : Int) = r := by rw [IntKind.wrap_u8']; omega
  have g1 := fun W => run_hexC W .u8 q hq
  have g2 := fun W => run_hexC W .u8 r hr
  have hcv : ∀ W : World, W.cell? ⟨w.heap.size, 0, none⟩ = some (.int .u8 (hexC q).toNat) → W.cell? ⟨w.heap.size, 1, none⟩ = some (.int .u8 (hexC r).toNat) →
      (convert 65 9 (.slice (some ⟨w.heap.size, 0, none⟩) 2 2)).run Tryd.prog W = .ok (strV [hexC q, hexC r]) W := fun W h0 h1 =>
    run_convert_bytes_back W 65 9 5 ⟨w.heap.size, 0, none⟩ 2 [hexC q, hexC r] Tryd.underlying65 Tryd.underlying5 Tryd.underlying9 (fun j hj => by
      match j, hj with
      | 0, _ => exact h0
      | 1, _ => exact h1)
  have hbl : Below w.heap.size w ((w.alloc (.cells #[.int .u8 (hexC q).toNat, .int .u8 (hexC r).toNat] 5)).drew) := ⟨rfl, rfl, rfl, (alloc_below w _).size, (alloc_below w _).block⟩
  clear hx
  go_enter Tryd.func44, Tryd.ntmps44
  go_wp2_with fail
  refine wp_region_any (by kernel_rfl) ?_
  change wpAny _ _ _ _ _ _ _ (World.drew _)
  refine wpAny_at (i := 0) (some 3) (v := ?v0) rfl rfl (by kernel_rfl) (by kernel_rfl) (by kernel_rfl) (fun _ _ _ h => h) (Or.inl ⟨by rfl, ?y0⟩) ?r0
  case y0 =>
    intro w9
    go_simp
    all_goals with_reducible rfl
  simp only [Act.put, List.setIfInBounds_toArray, List.set_cons_zero, List.set_cons_succ]
  refine wpAny_at (i := 1) (some 4) (v := ?v1) rfl rfl (by kernel_rfl) (by kernel_rfl) (by kernel_rfl) (fun _ _ _ h => h) (Or.inl ⟨by rfl, ?y1⟩) ?r1
  case y1 =>
    intro w9
    go_simp
    all_goals with_reducible rfl
  simp only [Act.put, List.setIfInBounds_toArray, List.set_cons_zero, List.set_cons_succ]
  refine wpAny_at (i := 2) (some 5) (v := ?v2) rfl rfl (by kernel_rfl) (by kernel_rfl) (by kernel_rfl) (fun _ _ _ h => h) (Or.inl ⟨by rfl, ?y2⟩) ?r2
  case y2 =>
    intro w9
    go_simp
    all_goals with_reducible rfl
  simp only [Act.put, List.setIfInBounds_toArray, List.set_cons_zero, List.set_cons_succ]
  refine wpAny_at (i := 3) (some 6) (v := ?v3) rfl rfl (by kernel_rfl) (by kernel_rfl) (by kernel_rfl) (fun _ _ _ h => h) (Or.inl ⟨by rfl, ?y3⟩) ?r3
  case y3 =>
    intro w9
    go_simp
    all_goals with_reducible rfl
  simp only [Act.put, List.setIfInBounds_toArray, List.set_cons_zero, List.set_cons_succ]
  refine wpAny_at (i := 4) (some 7) (v := ?v4) rfl rfl (by kernel_rfl) (by kernel_rfl) (by kernel_rfl) (fun _ _ _ h => h) (Or.inl ⟨by rfl, ?y4⟩) ?r4
  case y4 =>
    intro w9
    go_simp
    all_goals with_reducible rfl
  simp only [Act.put, List.setIfInBounds_toArray, List.set_cons_zero, List.set_cons_succ]
  refine wpAny_at (i := 5) (some 8) (v := ?v5) rfl rfl (by kernel_rfl) (by kernel_rfl) (by kernel_rfl) (fun _ _ _ h => h) (Or.inl ⟨by rfl, ?y5⟩) ?r5
  case y5 =>
    intro w9
    go_simp
    all_goals with_reducible rfl
  simp only [Act.put, List.setIfInBounds_toArray, List.set_cons_zero, List.set_cons_succ]
  refine wpAny_stretch 6 3 0 (by kernel_rfl) (by kernel_rfl) (by kernel_rfl) ?_
  simp only [List.take_succ_cons, List.take_zero, List.drop_succ_cons, List.drop_zero]
  go_wp2
  refine wpAny_done (by kernel_rfl) ?_ _
  go_wp2
  go_ret
  exact ⟨rfl, hbl⟩
theorem hex_any (n : Nat) (hn : n < 256) (w : World) : Calls Tryd.prog 44 #[.int .u8 n] w fun e w' => e = .returned (strV (hexL n)) ∧ Below w.heap.size w w' :=
  hex_two (n / 16) (n % 16) (by omega) (by omega) n (by omega) w
end Go.Proofs.YtemhahfodblehaaDoor
