/-
  The law SumParts, walked.
-/
import Derived.Test.YtibjhehaflgomaaOrder
namespace Go.Proofs.Ytibjhehaflgomaa
open Go.RowKit

theorem K2.drew {w : World} {A : Option Addr} {n c : Nat} {xs : List Int} {A2 : Option Addr} {n2 c2 : Nat} {ys : List Int} {W : World} (h : K2 w A n c xs A2 n2 c2 ys W) : K2 w A n c xs A2 n2 c2 ys W.drew :=
  ⟨h.rd.keep fun _ _ => rfl, h.rd2.keep fun _ _ => rfl, h.below.drew, h.size⟩
/-- The first q of a slice. -/
theorem Rd.pre {k : IntKind} {w : World} {B : Nat} {A : Option Addr} {n c : Nat} {xs : List Int} (h : Rd k w B A n c xs) {q : Nat} (hq : q ≤ n) : Rd k w B A q c (xs.take q) := by
  have hl := h.len
  have hc := h.cap
  refine ⟨by simp; omega, by omega, h.2.2.1, fun x hx => h.2.2.2.1 x (List.mem_of_mem_take hx), fun i hi => ?_⟩
  obtain ⟨b, o, e, hb, hcell⟩ := h.at_ (i := i) (by omega)
  refine ⟨b, o, e, hb, ?_⟩
  rw [hcell]
  simp [List.getD, hi]
theorem patV_ok {s : Int} {a b : List Int} {n : Nat} (h1 : a.length = n) (h2 : b.length = n) (h : n % 2 = 0) : patV s a b = patF s a b := if_pos ⟨by rw [h1, h2], by rw [h1]; exact h⟩
theorem patE_ok {n : Nat} (h : n % 2 = 0) : patE n n = 0 := if_pos ⟨rfl, h⟩
/-- Where a slice's rest from q on lies. -/
def cutA (A : Option Addr) (c q : Nat) : Option Addr := if c = q then A else A.map (·.add q)
theorem cutA_eq {A : Option Addr} {c q : Nat} (h : c = q) : cutA A c q = A := if_pos h
theorem cutA_ne {A : Option Addr} {c q : Nat} (h : ¬ c = q) : cutA A c q = A.map (·.add q) := if_neg h
theorem Rd.post {k : IntKind} {w : World} {B : Nat} {A : Option Addr} {n c : Nat} {xs : List Int} (h : Rd k w B A n c xs) {q : Nat} (hq : q ≤ n) : Rd k w B (cutA A c q) (n - q) (c - q) (xs.drop q) := by
  have h1 := h.cut (f := q) (t := n) hq (Nat.le_refl _)
  have h2 := h.len
  rwa [List.take_of_length_le (by simp; omega)] at h1

/-- Patch of two slices that are equally long, and even. -/
theorem patch_even {s : Int} {A A2 : Option Addr} {n c c2 : Nat} {xs ys : List Int} {W : World} (hs : W16 s) (hr : Rd .u8 W W.heap.size A n c xs) (hr2 : Rd .u8 W W.heap.size A2 n c2 ys) (h : n % 2 = 0) :
    Calls Try.prog 11 #[.int .u16 s, .slice A n c, .slice A2 n c2] W fun e w' => e = .returned (.tuple #[.int .u16 (patF s xs ys), .int .i64 0]) ∧ Below W.heap.size W w' := by
  have := patch_any s A A2 n c n c2 xs ys W hs hr hr2
  rwa [patV_ok hr.len hr2.len h, patE_ok h] at this
theorem tmod_of {a b : Int} (ha : W16 a) (hb : W16 b) (h : a % 65535 = b % 65535) : a.tmod 65535 = b.tmod 65535 := by
  unfold W16 at ha hb
  rw [Int.tmod_eq_emod_of_nonneg ha.1, Int.tmod_eq_emod_of_nonneg hb.1, h]

set_option maxRecDepth 100000 in
set_option maxHeartbeats 2000000 in
theorem parts_law (s : Int) (A A2 : Option Addr) (n c n2 c2 : Nat) (xs ys : List Int) (cut : Int) (w : World) (hs : W16 s) (hcw : -9223372036854775808 ≤ cut ∧ cut ≤ 9223372036854775807) (hr : Rd .u8 w w.heap.size A n c xs) (hr2 : Rd .u8 w w.heap.size A2 n2 c2 ys) :
    Calls Try.prog 7 #[.int .u16 s, .slice A n c, .slice A2 n2 c2, .int .i64 cut] w fun e w' => e = .returned (.bool true) ∧ Below w.heap.size w w' := by
  have hmax := hr.max
  have hcap := hr.cap
  have hmax2 := hr2.max
  have hcap2 := hr2.cap
  have k : K2 w A n c xs A2 n2 c2 ys w := ⟨hr, hr2, Below.refl _ _, Nat.le_refl _⟩
  have hp : ∀ m : Nat, (m : Int).tmod 2 = ((m % 2 : Nat) : Int) := fun _ => rfl
  have hpn := hp n
  have hs' : 0 ≤ s ∧ s ≤ 65535 := hs
  clear hr hr2
  go_enter Try.func7, Try.ntmps7
  go_wp2_with fail
  with_reducible refine (alive_any _).mono ?_
  rintro e w1 ⟨rfl, hb⟩
  replace k := k.step hb
  clear hb
  by_cases h1 : 300 < n
  · go_wp2
    go_ret
    exact ⟨rfl, k.below⟩
  by_cases h2 : ¬ n = n2
  · have h2' : ¬ (n : Int) = (n2 : Int) := by omega
    go_wp2
    go_ret
    exact ⟨rfl, k.below⟩
  obtain rfl : n = n2 := by omega
  by_cases h3' : n % 2 = 1
  · have h4 : (n : Int).tmod 2 = 1 := by omega
    go_wp2
    go_ret
    exact ⟨rfl, k.below⟩
  have h3 : n % 2 = 0 := by omega
  have h4 : (n : Int).tmod 2 = 0 := by omega
  by_cases h5 : cut < 0
  · go_wp2
    go_ret
    exact ⟨rfl, k.below⟩
  obtain ⟨q, rfl⟩ := Int.eq_ofNat_of_zero_le (show 0 ≤ cut by omega)
  have hpq := hp q
  by_cases h6' : q % 2 = 1
  · have h7 : (q : Int).tmod 2 = 1 := by omega
    go_wp2
    go_ret
    exact ⟨rfl, k.below⟩
  have h6 : q % 2 = 0 := by omega
  have h7 : (q : Int).tmod 2 = 0 := by omega
  by_cases h8 : n < q
  · go_wp2
    go_ret
    exact ⟨rfl, k.below⟩
  have ha := patF_bd hs k.bx k.by_
  have hbk := patF_bd ha k.by_ k.bx
  have hmod := tmod_of hbk hs (back_law hs k.bx k.by_ (by rw [k.rd.len, k.rd2.len]))
  have hb1 := patF_bd hs (byts_of (k.rd.pre (q := q) (by omega)).2.2.2.1) (byts_of (k.rd2.pre (q := q) (by omega)).2.2.2.1)
  have hcutF := patF_cut (s := s) (a := xs) (b := ys) h6 (by rw [k.rd.len]; omega) (by rw [k.rd2.len]; omega)
  have HC := Lib.hid hcutF
  clear hcutF
  go_wp2_with fail
  with_reducible refine (patch_even hs k.rd k.rd2 h3).mono ?_
  rintro e w2 ⟨rfl, hb⟩
  replace k := k.step hb
  clear hb hp hpn hpq h1 h2 h3' h6' h5
  have g1 : (q : Int) ≤ (c : Int) := by omega
  have g2 : (q : Int) ≤ (c2 : Int) := by omega
  have g3 : (q : Int) ≤ (n : Int) := by omega
  go_wp2_with fail
  refine wp_region_any (by kernel_rfl) ?_
  change wpAny _ _ _ _ _ _ _ (World.drew _)
  replace k := k.drew
  generalize w2.drew = w3 at k ⊢
  refine wpAny_take (i := 0) (v := ?v0) rfl (by kernel_rfl) (by kernel_rfl) (by kernel_rfl) (fun _ _ _ h => h) (Or.inl ⟨by rfl, ?y0⟩) ?r0
  case y0 =>
    intro w9
    go_simp
    all_goals with_reducible rfl
  refine wpAny_take (i := 1) (v := ?v1) rfl (by kernel_rfl) (by kernel_rfl) (by kernel_rfl) (fun _ _ _ h => h) (Or.inl ⟨by rfl, ?y1⟩) ?r1
  case y1 =>
    intro w9
    go_simp
    all_goals with_reducible rfl
  refine wpAny_take (i := 2) (v := ?v2) rfl (by kernel_rfl) (by kernel_rfl) (by kernel_rfl) (fun _ _ _ h => h) (Or.inl ⟨by rfl, ?y2⟩) ?r2
  case y2 =>
    intro w9
    go_simp
    all_goals with_reducible rfl
  refine wpAny_take (i := 3) (v := ?v3) rfl (by kernel_rfl) (by kernel_rfl) (by kernel_rfl) (fun _ _ _ h => h) (Or.inl ⟨by rfl, ?y3⟩) ?r3
  case y3 =>
    intro w9
    go_simp
    all_goals with_reducible rfl
  refine wpAny_take (i := 4) (v := ?v4) rfl (by kernel_rfl) (by kernel_rfl) (by kernel_rfl) (fun _ _ _ h => h) (Or.inl ⟨by rfl, ?y4⟩) ?r4
  case y4 =>
    intro w9
    go_simp
    all_goals with_reducible rfl
  refine wpAny_take (i := 5) (v := ?v5) rfl (by kernel_rfl) (by kernel_rfl) (by kernel_rfl) (fun _ _ _ h => h) (Or.inl ⟨by rfl, ?y5⟩) ?r5
  case y5 =>
    intro w9
    go_simp
    all_goals with_reducible rfl
  refine wpAny_take (i := 6) (v := ?v6) rfl (by kernel_rfl) (by kernel_rfl) (by kernel_rfl) (fun _ _ _ h => h) (Or.inl ⟨by rfl, ?y6⟩) ?r6
  case y6 =>
    intro w9
    go_simp
    all_goals with_reducible rfl
  refine wpAny_stretch 7 2 4 (by kernel_rfl) (by kernel_rfl) (by kernel_rfl) ?_
  simp only [List.take_succ_cons, List.take_zero, List.drop_succ_cons, List.drop_zero]
  go_wp2_with fail
  with_reducible refine (patch_even hs (k.rd.pre (by omega)) (k.rd2.pre (by omega)) h6).mono ?_
  rintro e w4 ⟨rfl, hb⟩
  replace k := k.step hb
  clear hb
  go_wp2_with fail
  refine wpAny_take (i := 9) (v := ?v9) rfl (by kernel_rfl) (by kernel_rfl) (by kernel_rfl) (fun _ _ _ h => h) (Or.inl ⟨by rfl, ?y9⟩) ?r9
  case y9 =>
    intro w9
    go_simp
    all_goals with_reducible rfl
  refine wpAny_take (i := 10) (v := ?v10) rfl (by kernel_rfl) (by kernel_rfl) (by kernel_rfl) (fun _ _ _ h => h) (Or.inl ⟨by rfl, ?y10⟩) ?r10
  case y10 =>
    intro w9
    go_simp
    all_goals with_reducible rfl
  refine wpAny_take (i := 11) (v := ?v11) rfl (by kernel_rfl) (by kernel_rfl) (by kernel_rfl) (fun _ _ _ h => h) (Or.inl ⟨by rfl, ?y11⟩) ?r11
  case y11 =>
    intro w9
    go_simp
    all_goals with_reducible rfl
  refine wpAny_take (i := 12) (v := ?v12) rfl (by kernel_rfl) (by kernel_rfl) (by kernel_rfl) (fun _ _ _ h => h) (Or.inl ⟨by rfl, ?y12⟩) ?r12
  case y12 =>
    intro w9
    go_simp
    all_goals with_reducible rfl
  refine wpAny_done (by kernel_rfl) ?_ _
  go_wp2_with fail
  refine wp_region_any (by kernel_rfl) ?_
  change wpAny _ _ _ _ _ _ _ (World.drew _)
  replace k := k.drew
  generalize w4.drew = w5 at k ⊢
  refine wpAny_take (i := 0) (v := ?vb0) rfl (by kernel_rfl) (by kernel_rfl) (by kernel_rfl) (fun _ _ _ h => h) (Or.inl ⟨by rfl, ?yb0⟩) ?rb0
  case yb0 =>
    intro w9
    go_simp
    all_goals with_reducible rfl
  refine wpAny_take (i := 1) (v := ?vb1) rfl (by kernel_rfl) (by kernel_rfl) (by kernel_rfl) (fun _ _ _ h => h) (Or.inl ⟨by rfl, ?yb1⟩) ?rb1
  case yb1 =>
    intro w9
    go_simp
    all_goals with_reducible rfl
  refine wpAny_take (i := 2) (v := ?vb2) rfl (by kernel_rfl) (by kernel_rfl) (by kernel_rfl) (fun _ _ _ h => h) (Or.inl ⟨by rfl, ?yb2⟩) ?rb2
  case yb2 =>
    intro w9
    go_simp
    all_goals with_reducible rfl
  refine wpAny_take (i := 3) (v := .slice (cutA A c q) (n - q) (c - q)) rfl (by kernel_rfl) (by kernel_rfl) (by kernel_rfl) (fun _ _ _ h => h) (Or.inl ⟨by rfl, ?yb3⟩) ?rb3
  case yb3 =>
    intro w9
    by_cases hq : c = q
    · rw [cutA_eq hq]
      subst hq
      go_simp
    · rw [cutA_ne hq]
      go_simp
  refine wpAny_take (i := 4) (v := ?vb4) rfl (by kernel_rfl) (by kernel_rfl) (by kernel_rfl) (fun _ _ _ h => h) (Or.inl ⟨by rfl, ?yb4⟩) ?rb4
  case yb4 =>
    intro w9
    go_simp
    all_goals with_reducible rfl
  refine wpAny_take (i := 5) (v := ?vb5) rfl (by kernel_rfl) (by kernel_rfl) (by kernel_rfl) (fun _ _ _ h => h) (Or.inl ⟨by rfl, ?yb5⟩) ?rb5
  case yb5 =>
    intro w9
    go_simp
    all_goals with_reducible rfl
  refine wpAny_take (i := 6) (v := .slice (cutA A2 c2 q) (n - q) (c2 - q)) rfl (by kernel_rfl) (by kernel_rfl) (by kernel_rfl) (fun _ _ _ h => h) (Or.inl ⟨by rfl, ?yb6⟩) ?rb6
  case yb6 =>
    intro w9
    by_cases hq : c2 = q
    · rw [cutA_eq hq]
      subst hq
      go_simp
    · rw [cutA_ne hq]
      go_simp
  refine wpAny_stretch 7 2 4 (by kernel_rfl) (by kernel_rfl) (by kernel_rfl) ?_
  simp only [List.take_succ_cons, List.take_zero, List.drop_succ_cons, List.drop_zero]
  have hcall := patch_even hb1 (k.rd.post (q := q) (by omega)) (k.rd2.post (q := q) (by omega)) (by omega)
  rw [← HC.out] at hcall
  go_wp2_with fail
  with_reducible refine hcall.mono ?_
  rintro e w6 ⟨rfl, hb⟩
  replace k := k.step hb
  clear hb hcall
  go_wp2_with fail
  refine wpAny_take (i := 9) (v := ?vb9) rfl (by kernel_rfl) (by kernel_rfl) (by kernel_rfl) (fun _ _ _ h => h) (Or.inl ⟨by rfl, ?yb9⟩) ?rb9
  case yb9 =>
    intro w9
    go_simp
    all_goals with_reducible rfl
  refine wpAny_take (i := 10) (v := ?vb10) rfl (by kernel_rfl) (by kernel_rfl) (by kernel_rfl) (fun _ _ _ h => h) (Or.inl ⟨by rfl, ?yb10⟩) ?rb10
  case yb10 =>
    intro w9
    go_simp
    all_goals with_reducible rfl
  refine wpAny_take (i := 11) (v := ?vb11) rfl (by kernel_rfl) (by kernel_rfl) (by kernel_rfl) (fun _ _ _ h => h) (Or.inl ⟨by rfl, ?yb11⟩) ?rb11
  case yb11 =>
    intro w9
    go_simp
    all_goals with_reducible rfl
  refine wpAny_take (i := 12) (v := ?vb12) rfl (by kernel_rfl) (by kernel_rfl) (by kernel_rfl) (fun _ _ _ h => h) (Or.inl ⟨by rfl, ?yb12⟩) ?rb12
  case yb12 =>
    intro w9
    go_simp
    all_goals with_reducible rfl
  refine wpAny_done (by kernel_rfl) ?_ _
  generalize hbv : patF s (List.take q xs) (List.take q ys) = bv at *
  generalize hav : patF s xs ys = av at *
  go_wp2_with fail
  with_reducible refine (patch_even ha k.rd2 k.rd h3).mono ?_
  rintro e w7 ⟨rfl, hb⟩
  replace k := k.step hb
  clear hb
  generalize patF av ys xs = bk at *
  have e0 := add_zero hs
  have e7 := tmod_of (turnV_bd hs (a := 7) (b := 7) (by unfold W16; omega) (by unfold W16; omega)) hs (turn_same hs (by unfold W16; omega))
  have hc0 := add_any s 0 w7 hs (by unfold W16; omega)
  rw [e0] at hc0
  have hc7 := turn_any s 7 7 w7 hs (by unfold W16; omega) (by unfold W16; omega)
  generalize turnV s 7 7 = tv at *
  clear e0 HC hbv hav
  by_cases hbs : bk = s
  case' pos => subst hbs
  all_goals
    go_wp2_with (first
      | (go_at_call 13; with_reducible refine hc0.mono ?_; rintro e w8 ⟨rfl, rfl⟩)
      | (go_at_call 15; with_reducible refine hc7.mono ?_; rintro e w9 ⟨rfl, rfl⟩))
    go_ret
    exact ⟨rfl, k.below⟩
end Go.Proofs.Ytibjhehaflgomaa
