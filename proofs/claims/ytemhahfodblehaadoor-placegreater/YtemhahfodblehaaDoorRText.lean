/-
  Contracts of the texts: decimal, Text, digit, MacText (the document's).
-/
import Derived.Test.YtemhahfodblehaaDoorJoin
import Derived.Laws.Strings2
import Derived.Laws.DeepStrings4
namespace Go.Proofs.YtemhahfodblehaaDoor
open Go.RowKit

/-- One digit out of ten. -/
theorem cut10 : ∀ d, d < 10 → (⟨#[48, 49, 50, 51, 52, 53, 54, 55, 56, 57]⟩ : ByteArray).extract d (d + 1) = ⟨#[UInt8.ofNat (48 + d)]⟩ := by decide +kernel
theorem run_cut10 (W : World) (d : Nat) (hd : d < 10) (x : Int) (hx : x = (d : Int) + 1) : (Instr.slice 9 (.string ⟨#[48, 49, 50, 51, 52, 53, 54, 55, 56, 57]⟩) (some (.int .u32 (d : Int))) (some (.int .u32 x)) none).run Tryd.prog W = .ok (.string ⟨#[UInt8.ofNat (48 + d)]⟩) W := by
  subst hx
  rw [run_slice_string W 9 _ .u32 .u32 d (d + 1) Tryd.underlying9 (by omega) (by omega) (by show ((d : Int) + 1) ≤ ((10 : Nat) : Int); omega)]
  have e : ((d : Int) + 1).toNat = d + 1 := by omega
  rw [e, Int.toNat_natCast, cut10 d hd]
theorem bytes_app (a b : List UInt8) : (⟨a.toArray⟩ ++ ⟨b.toArray⟩ : ByteArray) = ⟨(a ++ b).toArray⟩ := by
  apply ByteArray.ext
  simp
theorem ret_str {s : ByteArray} {l : List UInt8} (h : s = ⟨l.toArray⟩) : Ending.returned (.string s) = .returned (strV l) := by rw [h]
set_option maxRecDepth 100000 in
set_option maxHeartbeats 1000000 in
theorem dec_three (q t u : Nat) (hq : 1 ≤ q ∧ q < 10) (ht : t < 10) (hu : u < 10) (n : Int) (hn : n = 100 * q + 10 * t + u) (w : World) : Calls Tryd.prog 43 #[.int .u32 n] w fun e w' => e = .returned (strV [UInt8.ofNat (48 + q), UInt8.ofNat (48 + t), UInt8.ofNat (48 + u)]) ∧ Below w.heap.size w w' := by
  have f1 : n.tdiv 100 = q := by rw [Int.tdiv_eq_ediv_of_nonneg (by omega)]; omega
  have f2 : n.tdiv 10 = 10 * q + t := by rw [Int.tdiv_eq_ediv_of_nonneg (by omega)]; omega
  have f3 : (10 * (q : Int) + t).tmod 10 = t := by rw [Int.tmod_eq_emod_of_nonneg (by omega)]; omega
  have f4 : n.tmod 10 = u := by rw [Int.tmod_eq_emod_of_nonneg (by omega)]; omega
  have w1 : IntKind.u32.wrap (q : Int) = q := by rw [IntKind.wrap_u32']; omega
  have w2 : IntKind.u32.wrap (10 * (q : Int) + t) = 10 * (q : Int) + t := by rw [IntKind.wrap_u32']; omega
  have w3 : IntKind.u32.wrap (t : Int) = t := by rw [IntKind.wrap_u32']; omega
  have w4 : IntKind.u32.wrap (u : Int) = u := by rw [IntKind.wrap_u32']; omega
  have v1 : IntKind.u32.wrap ((q : Int) + 1) = (q : Int) + 1 := by rw [IntKind.wrap_u32']; omega
  have v3 : IntKind.u32.wrap ((t : Int) + 1) = (t : Int) + 1 := by rw [IntKind.wrap_u32']; omega
  have v4 : IntKind.u32.wrap ((u : Int) + 1) = (u : Int) + 1 := by rw [IntKind.wrap_u32']; omega
  have g1 := fun W => run_cut10 W q hq.2 _ rfl
  have g3 := fun W => run_cut10 W t ht _ rfl
  have g4 := fun W => run_cut10 W u hu _ rfl
  have hge : 100 ≤ n := by omega
  clear hn
  go_enter Tryd.func43, Tryd.ntmps43
  go_wp2_with fail
  go_quiet (fail)
  go_wp2
  go_ret
  refine ⟨ret_str ?_, below_of_drewN _ _⟩
  have := bytes_app [48 + UInt8.ofNat q] [48 + UInt8.ofNat t]
  have := bytes_app [48 + UInt8.ofNat q, 48 + UInt8.ofNat t] [48 + UInt8.ofNat u]
  simp_all
set_option maxRecDepth 100000 in
set_option maxHeartbeats 1000000 in
theorem dec_two (t u : Nat) (ht : 1 ≤ t ∧ t < 10) (hu : u < 10) (n : Int) (hn : n = 10 * t + u) (w : World) : Calls Tryd.prog 43 #[.int .u32 n] w fun e w' => e = .returned (strV [UInt8.ofNat (48 + t), UInt8.ofNat (48 + u)]) ∧ Below w.heap.size w w' := by
  have f2 : n.tdiv 10 = t := by rw [Int.tdiv_eq_ediv_of_nonneg (by omega)]; omega
  have f4 : n.tmod 10 = u := by rw [Int.tmod_eq_emod_of_nonneg (by omega)]; omega
  have w3 : IntKind.u32.wrap (t : Int) = t := by rw [IntKind.wrap_u32']; omega
  have w4 : IntKind.u32.wrap (u : Int) = u := by rw [IntKind.wrap_u32']; omega
  have v3 : IntKind.u32.wrap ((t : Int) + 1) = (t : Int) + 1 := by rw [IntKind.wrap_u32']; omega
  have v4 : IntKind.u32.wrap ((u : Int) + 1) = (u : Int) + 1 := by rw [IntKind.wrap_u32']; omega
  have g3 := fun W => run_cut10 W t ht.2 _ rfl
  have g4 := fun W => run_cut10 W u hu _ rfl
  have hlt : n < 100 := by omega
  have hge : 10 ≤ n := by omega
  clear hn
  go_enter Tryd.func43, Tryd.ntmps43
  go_wp2_with fail
  go_quiet (fail)
  go_wp2
  go_ret
  refine ⟨ret_str ?_, below_of_drewN _ _⟩
  have := bytes_app [48 + UInt8.ofNat t] [48 + UInt8.ofNat u]
  simp_all
theorem dec_one (u : Nat) (hu : u < 10) (w : World) : Calls Tryd.prog 43 #[.int .u32 u] w fun e w' => e = .returned (strV [UInt8.ofNat (48 + u)]) ∧ Below w.heap.size w w' := by
  have v4 : IntKind.u32.wrap ((u : Int) + 1) = (u : Int) + 1 := by rw [IntKind.wrap_u32']; omega
  have g4 := fun W => run_cut10 W u hu _ rfl
  have hlt : (u : Int) < 10 := by omega
  have hlt' : (u : Int) < 100 := by omega
  go_enter Tryd.func43, Tryd.ntmps43
  go_wp2
  all_goals
    go_ret
    refine ⟨ret_str ?_, Below.refl _ _⟩
    first | rfl | simp
theorem refDec_any (n : Nat) (hn : n < 256) (x : Int) (hx : x = n) (w : World) : Calls Tryd.prog 43 #[.int .u32 x] w fun e w' => e = .returned (strV (dec3 n)) ∧ Below w.heap.size w w' := by
  subst hx
  unfold dec3
  split
  · exact dec_three (n / 100) (n / 10 % 10) (n % 10) (by omega) (by omega) (by omega) n (by omega) w
  · split
    · exact dec_two (n / 10) (n % 10) (by omega) (by omega) n (by omega) w
    · exact dec_one n (by omega) w
theorem dec_len (n : Nat) (hn : n < 256) : ∃ l : List UInt8, Hid (l = dec3 n) ∧ l.length ≤ 3 ∧ ∀ (x : Int) (_ : x = n) (w : World), Calls Tryd.prog 43 #[.int .u32 x] w fun e w' => e = .returned (strV l) ∧ Below w.heap.size w w' :=
  ⟨dec3 n, Lib.hid rfl, (dec3_len n).2, fun x hx w => refDec_any n hn x hx w⟩
set_option maxRecDepth 100000 in
theorem refText_any (n : Nat) (hn : n < 4294967296) (w : World) : Calls Tryd.prog 30 #[.int .u32 n] w fun e w' => e = .returned (strV (textL n)) ∧ Below w.heap.size w w' := by
  obtain ⟨l1, e1, b1, c1⟩ := dec_len (n / 16777216) (by omega)
  obtain ⟨l2, e2, b2, c2⟩ := dec_len (n / 65536 % 256) (by omega)
  obtain ⟨l3, e3, b3, c3⟩ := dec_len (n / 256 % 256) (by omega)
  obtain ⟨l4, e4, b4, c4⟩ := dec_len (n % 256) (by omega)
  have E : Hid (textL n = l1 ++ 46 :: (l2 ++ 46 :: (l3 ++ 46 :: l4))) := Lib.hid (by rw [e1.out, e2.out, e3.out, e4.out]; rfl)
  clear e1 e2 e3 e4
  go_enter Tryd.func30, Tryd.ntmps30
  go_wp2_with fail
  with_reducible refine (c1 _ (by omega) _).mono ?_
  rintro e w1 ⟨rfl, hb1⟩
  go_wp2_with fail
  with_reducible refine (c2 _ (by omega) _).mono ?_
  rintro e w2 ⟨rfl, hb2⟩
  replace hb2 := hb1.trans (hb2.mono hb1.size)
  clear hb1
  go_wp2_with fail
  with_reducible refine (c3 _ (by omega) _).mono ?_
  rintro e w3 ⟨rfl, hb3⟩
  replace hb3 := hb2.trans (hb3.mono hb2.size)
  clear hb2
  go_wp2_with fail
  with_reducible refine (c4 _ (by omega) _).mono ?_
  rintro e w4 ⟨rfl, hb4⟩
  replace hb4 := hb3.trans (hb4.mono hb3.size)
  clear hb3
  go_wp2
  go_ret
  refine ⟨ret_str ?_, hb4⟩
  have e : ∀ l : List UInt8, (⟨l.toArray⟩ ++ ⟨#[46]⟩ : ByteArray) = ⟨(l ++ [46]).toArray⟩ := fun l => bytes_app l [46]
  simp only [e, bytes_app, E.out]
  simp
def digV (c : Int) : Int := if 48 ≤ c ∧ c ≤ 57 then c - 48 else if 97 ≤ c ∧ c ≤ 102 then c - 87 else 0
theorem digV_hex : ∀ q, q < 16 → digV ((hexC q).toNat : Int) = q := by decide +kernel
theorem digV_bd (c : Int) : 0 ≤ digV c ∧ digV c ≤ 15 := by unfold digV; split <;> (try split) <;> omega
theorem digit_any (c : Int) (w : World) : Calls Tryd.prog 40 #[.int .u8 c] w fun e w' => e = .returned (.int .u8 (digV c)) ∧ w = w' := by
  go_enter Tryd.func40, Tryd.ntmps40
  go_wp2
  all_goals
    go_ret
    refine ⟨ret_int ?_, rfl⟩
    unfold digV
    repeat' split
    all_goals omega
end Go.Proofs.YtemhahfodblehaaDoor
