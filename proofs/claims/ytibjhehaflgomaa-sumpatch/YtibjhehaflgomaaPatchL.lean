/-
  The law SumPatch, walked.
-/
import Derived.Test.YtibjhehaflgomaaOwn
import Derived.Test.YtibjhehaflgomaaParts
namespace Go.Proofs.Ytibjhehaflgomaa
open Go.RowKit

/-- b with j bytes of now from place a on. -/
def mix (b now : List Int) (a j : Nat) : List Int := b.take a ++ now.take j ++ b.drop (a + j)
theorem mix_zero (b now : List Int) (a : Nat) : mix b now a 0 = b := by simp [mix]
theorem mix_step (b now : List Int) (a j : Nat) (hj : j < now.length) (ha : a + j < b.length) : (mix b now a j).set (a + j) (now.getD j 0) = mix b now a (j + 1) := by
  have e1 : now.getD j 0 = now[j] := by simp [List.getD, List.getElem?_eq_getElem hj]
  have e2 : b.drop (a + j) = b[a + j] :: b.drop (a + j + 1) := List.drop_eq_getElem_cons ha
  have l1 : (b.take a ++ now.take j).length = a + j := by simp; omega
  unfold mix
  rw [e1, e2, List.set_append_right _ _ (by rw [l1]; exact Nat.le_refl _), l1, Nat.sub_self, List.set_cons_zero, List.take_succ_eq_append_getElem hj, ← Nat.add_assoc]
  simp only [List.append_assoc, List.cons_append, List.nil_append]
theorem zeroV_pos {xs : List Int} (hx : Byts xs) (h : zeroV xs = false) : 0 < S xs := by
  have h0 := S_nn hx
  by_cases hz : S xs = 0
  · have h1 := (S_zero xs hx).1 hz
    simp only [zeroV, List.all_eq_false] at h
    obtain ⟨x, hm, hn⟩ := h
    exact absurd (h1 x hm) (by simpa using hn)
  · omega
/-- The sum of bytes in which some are others now. -/
theorem mix_law {b now : List Int} (hb : Byts b) (hn : Byts now) (a : Nat) (ha : a % 2 = 0) (hm : now.length % 2 = 0) (hl : a + now.length ≤ b.length) (z1 : zeroV b = false) (z2 : zeroV (mix b now a now.length) = false) :
    patF (65535 - totV b) ((b.drop a).take now.length) now = 65535 - totV (mix b now a now.length) := by
  have eb : b.take a ++ (b.drop a).take now.length ++ b.drop (a + now.length) = b := by
    rw [List.append_assoc, ← List.drop_drop, List.take_append_drop, List.take_append_drop]
  have ec : mix b now a now.length = b.take a ++ now ++ b.drop (a + now.length) := by unfold mix; rw [List.take_length]
  have b1 : Byts (b.take a) := fun x hx => hb x (List.mem_of_mem_take hx)
  have b2 : Byts ((b.drop a).take now.length) := fun x hx => hb x (List.mem_of_mem_drop (List.mem_of_mem_take hx))
  have b3 : Byts (b.drop (a + now.length)) := fun x hx => hb x (List.mem_of_mem_drop hx)
  have p1 := zeroV_pos hb z1
  have p2 := zeroV_pos (by rw [ec]; exact (b1.app hn).app b3) z2
  have := patch_law (l := b.take a) (o := (b.drop a).take now.length) (r := b.drop (a + now.length)) (m := now) b1 b2 b3 hn (by simp; omega) (by simp; omega) (by simp; omega) (by rw [eb]; exact p1) (by rw [← ec]; exact p2)
  rwa [eb, ← ec] at this

/-- What the walk of SumPatch knows of its own row. -/
structure K0 (w : World) (A : Option Addr) (n c : Nat) (xs : List Int) (W : World) : Prop where
  out : Out .u8 5 W w.heap.size A n c xs
  below : Below w.heap.size w W
theorem K0.step {w : World} {A : Option Addr} {n c : Nat} {xs : List Int} {W W' : World} (k : K0 w A n c xs W) (hb : Below W.heap.size W W') : K0 w A n c xs W' :=
  ⟨k.out.below hb (Nat.le_refl _), k.below.trans (hb.mono k.below.size)⟩
theorem K0.drew {w : World} {A : Option Addr} {n c : Nat} {xs : List Int} {W : World} (k : K0 w A n c xs W) : K0 w A n c xs W.drew := k.step (Below.refl _ _).drew

set_option maxRecDepth 100000 in
set_option maxHeartbeats 2000000 in
theorem patch_law_walk (A : Option Addr) (n c : Nat) (xs : List Int) (at_ : Int) (A3 : Option Addr) (m c3 : Nat) (ys : List Int) (w : World) (hat : -9223372036854775808 ≤ at_ ∧ at_ ≤ 9223372036854775807) (hr : Rd .u8 w w.heap.size A n c xs) (hr3 : Rd .u8 w w.heap.size A3 m c3 ys) :
    Calls Try.prog 4 #[.slice A n c, .int .i64 at_, .slice A3 m c3] w fun e w' => e = .returned (.bool true) ∧ Below w.heap.size w w' := by
  have hmax := hr.max
  have hcap := hr.cap
  have hmax3 := hr3.max
  have hcap3 := hr3.cap
  have hpm : (m : Int).tmod 2 = ((m % 2 : Nat) : Int) := rfl
  go_enter Try.func4, Try.ntmps4
  go_wp2_with fail
  with_reducible refine (alive_any _).mono ?_
  rintro e w1 ⟨rfl, hB⟩
  by_cases h1 : 3000 < n
  · go_wp2
    go_ret
    exact ⟨rfl, hB⟩
  by_cases h3 : at_ < 0
  · go_wp2
    go_ret
    exact ⟨rfl, hB⟩
  obtain ⟨a, rfl⟩ := Int.eq_ofNat_of_zero_le (show 0 ≤ at_ by omega)
  have hpa : (a : Int).tmod 2 = ((a % 2 : Nat) : Int) := rfl
  by_cases h4' : a % 2 = 1
  · have h5 : (a : Int).tmod 2 = 1 := by omega
    go_wp2
    go_ret
    exact ⟨rfl, hB⟩
  have h4 : a % 2 = 0 := by omega
  have h5 : (a : Int).tmod 2 = 0 := by omega
  by_cases h6 : n < a
  · go_wp2
    go_ret
    exact ⟨rfl, hB⟩
  by_cases h7' : m % 2 = 1
  · have h8 : (m : Int).tmod 2 = 1 := by omega
    go_wp2
    go_ret
    exact ⟨rfl, hB⟩
  have h7 : m % 2 = 0 := by omega
  have h8 : (m : Int).tmod 2 = 0 := by omega
  by_cases h9 : n < a + m
  · go_wp2
    go_ret
    exact ⟨rfl, hB⟩
  have hl := hr.len
  have hl3 := hr3.len
  have HL := Lib.hid hl
  have HL3 := Lib.hid hl3
  clear hl hl3
  go_wp2_with fail
  with_reducible refine (own_any _ _ _ _ xs _ (hr.below hB (Nat.le_refl _)) hB.size (by omega)).mono ?_
  rintro e w2 ⟨A2, n2, c2, rfl, ho, hb⟩
  obtain rfl : n2 = n := by rw [← ho.len, HL.out]
  have k : K0 w A2 n2 c2 xs w2 := ⟨⟨⟨ho.1.1, ho.1.2.imp id fun ⟨g', cap, cur, e1, e2, e3⟩ => ⟨g', cap, cur, e1, Nat.le_trans hB.size e2, e3⟩⟩, ho.2⟩, hB.trans (hb.mono hB.size)⟩
  have hcap2 := ho.cap
  have hmax2 := ho.rd.max
  clear hb ho hB h4' h7' hpa hpm
  go_wp2_with fail
  go_loopw [8] (fun i wr => ∃ j : Nat, j ≤ m ∧ i = .int .i64 j ∧ K0 w A2 n2 c2 (mix xs ys a j) wr) (fun i _ => m - (intOf i).toNat)
  case atStart => exact ⟨0, Nat.zero_le _, rfl, by rw [mix_zero]; exact k⟩
  case round =>
    clear k
    obtain ⟨j, hj, rfl, k⟩ := hrel
    by_cases hlt : j < m
    · obtain ⟨g, rfl⟩ : ∃ g, A2 = some ⟨g, 0, none⟩ := by
        rcases k.out.form with ⟨_, h, _⟩ | ⟨g, _, h, _⟩
        · omega
        · exact ⟨g, h⟩
      obtain ⟨b, o, rfl, _, hc⟩ := (hr3.below k.below (Nat.le_refl _)).at_ (i := j) hlt
      have hx := u8_bd (hr3.wf (i := j) hlt)
      have hstep := mix_step xs ys a j (by rw [HL3.out]; exact hlt) (by rw [HL.out]; omega)
      obtain ⟨p1, p2⟩ := k.out.free (i := a + j) (by omega)
      have k' : K0 w (some ⟨g, 0, none⟩) n2 c2 (mix xs ys a (j + 1)) (wr.setCell ⟨g, a + j, none⟩ (.int .u8 (ys.getD j 0))) := by
        rw [← hstep]
        exact ⟨k.out.put (by omega) hx, k.below.setCell (p := ⟨g, a + j, none⟩) k.out.base_le _⟩
      generalize ys.getD j 0 = x at *
      clear hstep
      go_wp2_with fail
      go_roundw
      case rel => exact ⟨j + 1, by omega, by go_num, k'⟩
      case measure => simp [intOf]; omega
    · obtain rfl : j = m := by omega
      have hbx := byts_of hr.2.2.2.1
      have hby := byts_of hr3.2.2.2.1
      go_wp2_with fail
      with_reducible refine (zero_any _ _ _ _ xs _ (hr.below k.below (Nat.le_refl _))).mono ?_
      rintro e w3 ⟨rfl, rfl⟩
      cases hz1 : zeroV xs with
      | true =>
        go_wp2
        go_ret
        exact ⟨rfl, k.below⟩
      | false =>
      go_wp2_with fail
      with_reducible refine (zero_any _ _ _ _ _ _ k.out.rd).mono ?_
      rintro e w3 ⟨rfl, rfl⟩
      cases hz2 : zeroV (mix xs ys a j) with
      | true =>
        go_wp2
        go_ret
        exact ⟨rfl, k.below⟩
      | false =>
      have hlaw := mix_law hbx hby a h4 (by rw [HL3.out]; exact h7) (by rw [HL3.out, HL.out]; omega) hz1 (by rw [HL3.out]; exact hz2)
      rw [HL3.out] at hlaw
      have hs0 := flip_bd (totV_bd hbx)
      go_wp2_with fail
      refine wp_region_any (by kernel_rfl) ?_
      change wpAny _ _ _ _ _ _ _ (World.drew _)
      replace k := k.drew
      generalize wr.drew = w3 at k ⊢
      have q1 : (a : Int) + (j : Int) ≤ (c : Int) := by omega
      have q2 : (a : Int) ≤ (c : Int) := by omega
      refine wpAny_take (i := 0) (v := ?va0) rfl (by kernel_rfl) (by kernel_rfl) (by kernel_rfl) (fun _ _ _ h => h) (Or.inl ⟨by rfl, ?ya0⟩) ?ra0
      case ya0 =>
        intro w9
        go_simp
        all_goals with_reducible rfl
      refine wpAny_take (i := 3) (v := ?va3) rfl (by kernel_rfl) (by kernel_rfl) (by kernel_rfl) (fun _ _ _ h => h) (Or.inl ⟨by rfl, ?ya3⟩) ?ra3
      case ya3 =>
        intro w9
        go_simp
        all_goals with_reducible rfl
      refine wpAny_take (i := 4) (v := ?va4) rfl (by kernel_rfl) (by kernel_rfl) (by kernel_rfl) (fun _ _ _ h => h) (Or.inl ⟨by rfl, ?ya4⟩) ?ra4
      case ya4 =>
        intro w9
        go_simp
        all_goals with_reducible rfl
      refine wpAny_take (i := 5) (v := ?va5) rfl (by kernel_rfl) (by kernel_rfl) (by kernel_rfl) (fun _ _ _ h => h) (Or.inl ⟨by rfl, ?ya5⟩) ?ra5
      case ya5 =>
        intro w9
        go_simp
        all_goals with_reducible rfl
      refine wpAny_take (i := 6) (v := ?va6) rfl (by kernel_rfl) (by kernel_rfl) (by kernel_rfl) (fun _ _ _ h => h) (Or.inl ⟨by rfl, ?ya6⟩) ?ra6
      case ya6 =>
        intro w9
        go_simp
        all_goals with_reducible rfl
      refine wpAny_take (i := 7) (v := ?va7) rfl (by kernel_rfl) (by kernel_rfl) (by kernel_rfl) (fun _ _ _ h => h) (Or.inl ⟨by rfl, ?ya7⟩) ?ra7
      case ya7 =>
        intro w9
        go_simp
        all_goals with_reducible rfl
      obtain ⟨z, hz⟩ : ∃ z : Nat, a + j = z := ⟨_, rfl⟩
      have q3 : (z : Int) ≤ (c : Int) := by omega
      have q4 : (a : Int) ≤ (z : Int) := by omega
      refine wpAny_take (i := 8) (v := .int .i64 (z : Int)) rfl (by kernel_rfl) (by kernel_rfl) (by kernel_rfl) (fun _ _ _ h => h) (Or.inl ⟨by rfl, ?ya8⟩) ?ra8
      case ya8 =>
        intro w9
        go_simp
        rw [i64_wrap (by omega)]
        omega
      refine wpAny_take (i := 9) (v := .slice (cutA A c a) j (c - a)) rfl (by kernel_rfl) (by kernel_rfl) (by kernel_rfl) (fun _ _ _ h => h) (Or.inl ⟨by rfl, ?ya9⟩) ?ra9
      case ya9 =>
        intro w9
        by_cases hq : c = a
        · rw [cutA_eq hq]
          subst hq
          go_simp
          omega
        · rw [cutA_ne hq]
          go_simp
          omega
      refine wpAny_take (i := 10) (v := ?va10) rfl (by kernel_rfl) (by kernel_rfl) (by kernel_rfl) (fun _ _ _ h => h) (Or.inl ⟨by rfl, ?ya10⟩) ?ra10
      case ya10 =>
        intro w9
        go_simp
        all_goals with_reducible rfl
      refine wpAny_stretch 1 2 6 (by kernel_rfl) (by kernel_rfl) (by kernel_rfl) ?_
      simp only [List.take_succ_cons, List.take_zero, List.drop_succ_cons, List.drop_zero]
      go_wp2_with fail
      with_reducible refine (of1 ((hr.below k.below (Nat.le_refl _)).more k.below.size)).mono ?_
      rintro e w4 ⟨rfl, hb⟩
      replace k := k.step hb
      clear hb
      go_wp2_with fail
      refine wpAny_stretch 11 2 4 (by kernel_rfl) (by kernel_rfl) (by kernel_rfl) ?_
      simp only [List.take_succ_cons, List.take_zero, List.drop_succ_cons, List.drop_zero]
      have hrc0 := (hr.below k.below (Nat.le_refl _)).cut (f := a) (t := a + j) (by omega) (by omega)
      rw [Nat.add_sub_cancel_left] at hrc0
      have hrc : Rd .u8 w4 w.heap.size (cutA A c a) j (c - a) ((xs.drop a).take j) := hrc0
      clear hrc0
      have hcall := patch_even hs0 (hrc.more k.below.size) ((hr3.below k.below (Nat.le_refl _)).more k.below.size) h7
      rw [hlaw] at hcall
      go_wp2_with fail
      with_reducible refine hcall.mono ?_
      rintro e w5 ⟨rfl, hb⟩
      replace k := k.step hb
      clear hb hcall
      go_wp2_with fail
      refine wpAny_take (i := 13) (v := ?va13) rfl (by kernel_rfl) (by kernel_rfl) (by kernel_rfl) (fun _ _ _ h => h) (Or.inl ⟨by rfl, ?ya13⟩) ?ra13
      case ya13 =>
        intro w9
        go_simp
        all_goals with_reducible rfl
      refine wpAny_take (i := 14) (v := ?va14) rfl (by kernel_rfl) (by kernel_rfl) (by kernel_rfl) (fun _ _ _ h => h) (Or.inl ⟨by rfl, ?ya14⟩) ?ra14
      case ya14 =>
        intro w9
        go_simp
        all_goals with_reducible rfl
      refine wpAny_take (i := 15) (v := ?va15) rfl (by kernel_rfl) (by kernel_rfl) (by kernel_rfl) (fun _ _ _ h => h) (Or.inl ⟨by rfl, ?ya15⟩) ?ra15
      case ya15 =>
        intro w9
        go_simp
        all_goals with_reducible rfl
      refine wpAny_take (i := 16) (v := ?va16) rfl (by kernel_rfl) (by kernel_rfl) (by kernel_rfl) (fun _ _ _ h => h) (Or.inl ⟨by rfl, ?ya16⟩) ?ra16
      case ya16 =>
        intro w9
        go_simp
        all_goals with_reducible rfl
      refine wpAny_done (by kernel_rfl) ?_ _
      go_wp2_with fail
      with_reducible refine (of1 k.out.rd).mono ?_
      rintro e w6 ⟨rfl, hb⟩
      replace k := k.step hb
      clear hb
      go_wp2
      go_ret
      exact ⟨rfl, k.below⟩
end Go.Proofs.Ytibjhehaflgomaa
