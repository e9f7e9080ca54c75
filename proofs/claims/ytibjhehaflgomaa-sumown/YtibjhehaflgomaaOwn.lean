/-
  The law SumOwn, walked.
-/
import Derived.Test.YtibjhehaflgomaaOrder
namespace Go.Proofs.Ytibjhehaflgomaa
open Go.RowKit

section
variable {w : World} {base g n c : Nat} {xs : List Int} (h : Out .u8 5 w base (some ⟨g, 0, none⟩) n c xs)
include h
/-- A row of the call's own: its cells may be written. -/
theorem Out.free {i : Nat} (hi : i < n) : w.cell? ⟨g, i, none⟩ = some (.int .u8 (xs.getD i 0)) ∧ w.frozen? ⟨g, i, none⟩ = false := by
  have h1 := rd_src h.rd i hi
  rw [Nat.zero_add] at h1
  refine ⟨h1, ?_⟩
  rcases h.form with ⟨e, _⟩ | ⟨g', cur, e, _, hh, _⟩
  · cases e
  · obtain rfl : g = g' := by simpa using e
    simp [World.frozen?, hh]
theorem Out.base_le : base ≤ g := by
  rcases h.form with ⟨e, _⟩ | ⟨g', cur, e, hb, _⟩
  · cases e
  · obtain rfl : g = g' := by simpa using e
    exact hb
theorem Out.put {i : Nat} (_ : i < n) {v : Int} (hv : 0 ≤ v ∧ v ≤ 255) : Out .u8 5 (w.setCell ⟨g, i, none⟩ (.int .u8 v)) base (some ⟨g, 0, none⟩) n c (xs.set i v) := by
  have hl := h.len
  rcases h.form with ⟨e, _⟩ | ⟨g', cur, e, hb, hh, h1, h2, h3, h4⟩
  · cases e
  · obtain rfl : g = g' := by simpa using e
    refine ⟨⟨by simp [hl], .inr ⟨g, c, cur.setIfInBounds i (.int .u8 v), rfl, hb, ?_, h1, h2, by simpa using h3, ?_⟩⟩, fun x hx => ?_⟩
    · simp only [World.setCell, Array.getElem?_modify, hh]
      simp
    · rw [Nat.mul_one, Array.toList_setIfInBounds, List.take_set, h4, List.map_set]
    · rcases List.mem_or_eq_of_mem_set hx with hx | rfl
      · exact h.2 x hx
      · exact u8_mk hv
end

/-- What the walk of SumOwn knows of its own row. -/
structure K1 (w : World) (g n c : Nat) (xs : List Int) (W : World) : Prop where
  out : Out .u8 5 W w.heap.size (some ⟨g, 0, none⟩) n c xs
  below : Below w.heap.size w W
theorem K1.step {w : World} {g n c : Nat} {xs : List Int} {W W' : World} (k : K1 w g n c xs W) (hb : Below W.heap.size W W') : K1 w g n c xs W' :=
  ⟨k.out.below hb (Nat.le_refl _), k.below.trans (hb.mono k.below.size)⟩
theorem K1.put {w : World} {g n c : Nat} {xs : List Int} {W : World} (k : K1 w g n c xs W) {i : Nat} (hi : i < n) {v : Int} (hv : 0 ≤ v ∧ v ≤ 255) : K1 w g n c (xs.set i v) (W.setCell ⟨g, i, none⟩ (.int .u8 v)) :=
  ⟨k.out.put hi hv, k.below.setCell (p := ⟨g, i, none⟩) k.out.base_le _⟩
theorem K1.byts {w : World} {g n c : Nat} {xs : List Int} {W : World} (k : K1 w g n c xs W) : Byts xs := byts_of k.out.2
theorem of_g {X : World} {A : Option Addr} {n c g : Nat} {xs : List Int} (hg : X.heap.size = g) (hr : Rd .u8 X X.heap.size A n c xs) (v : Int) (h : 65535 - totV xs = v) :
    Calls Try.prog 19 #[.slice (some ⟨g, 0, none⟩) 1 1] (X.alloc (.cells #[.slice A n c] 24)) fun e w' => e = .returned (.int .u16 v) ∧ Below X.heap.size X w' := by
  subst hg h
  exact of1 hr
theorem right_g {X : World} {A : Option Addr} {n c g : Nat} {xs : List Int} (hg : X.heap.size = g) (hr : Rd .u8 X X.heap.size A n c xs) (v : Bool) (h : (totV xs == 65535) = v) :
    Calls Try.prog 21 #[.slice (some ⟨g, 0, none⟩) 1 1] (X.alloc (.cells #[.slice A n c] 24)) fun e w' => e = .returned (.bool v) ∧ Below X.heap.size X w' := by
  subst hg h
  exact right1 hr
theorem right_of {X : World} {A : Option Addr} {n c : Nat} {xs : List Int} (hr : Rd .u8 X X.heap.size A n c xs) (v : Bool) (h : (totV xs == 65535) = v) :
    Calls Try.prog 21 #[.slice (some ⟨X.heap.size, 0, none⟩) 1 1] (X.alloc (.cells #[.slice A n c] 24)) fun e w' => e = .returned (.bool v) ∧ Below X.heap.size X w' := by
  have := right1 hr
  rwa [h] at this
theorem total_of {X : World} {A : Option Addr} {n c : Nat} {xs : List Int} (hr : Rd .u8 X X.heap.size A n c xs) (v : Int) (h : totV xs = v) :
    Calls Try.prog 17 #[.slice (some ⟨X.heap.size, 0, none⟩) 1 1] (X.alloc (.cells #[.slice A n c] 24)) fun e w' => e = .returned (.int .u16 v) ∧ Below X.heap.size X w' := by
  have := total1 hr
  rwa [h] at this

set_option maxRecDepth 100000 in
set_option maxHeartbeats 2000000 in
theorem own_law_walk (A : Option Addr) (n c : Nat) (xs : List Int) (at_ place by_ : Int) (w : World) (hat : -9223372036854775808 ≤ at_ ∧ at_ ≤ 9223372036854775807) (hpl : -9223372036854775808 ≤ place ∧ place ≤ 9223372036854775807) (hby : 0 ≤ by_ ∧ by_ ≤ 255) (hr : Rd .u8 w w.heap.size A n c xs) :
    Calls Try.prog 5 #[.slice A n c, .int .i64 at_, .int .i64 place, .int .u8 by_] w fun e w' => e = .returned (.bool true) ∧ Below w.heap.size w w' := by
  have hmax := hr.max
  have hcap := hr.cap
  go_enter Try.func5, Try.ntmps5
  go_wp2_with fail
  with_reducible refine (alive_any _).mono ?_
  rintro e w1 ⟨rfl, hb⟩
  have hB := hb
  replace hr := (hr.below hb (Nat.le_refl _)).more hb.size
  clear hb
  by_cases h1 : 3000 < n
  · go_wp2
    go_ret
    exact ⟨rfl, hB⟩
  by_cases h2 : n < 2
  · go_wp2
    go_ret
    exact ⟨rfl, hB⟩
  by_cases h3 : at_ < 0
  · go_wp2
    go_ret
    exact ⟨rfl, hB⟩
  obtain ⟨a, rfl⟩ := Int.eq_ofNat_of_zero_le (show 0 ≤ at_ by omega)
  have hpa : (a : Int).tmod 2 = ((a % 2 : Nat) : Int) := rfl
  by_cases h4' : a % 2 = 1
  · have h5 : (a : Int).tmod 2 = 1 := by omega
    go_wp2
    go_ret
    exact ⟨rfl, hB⟩
  have h4 : a % 2 = 0 := by omega
  have h5 : (a : Int).tmod 2 = 0 := by omega
  by_cases h6 : n < a + 2
  · go_wp2
    go_ret
    exact ⟨rfl, hB⟩
  go_wp2_with fail
  with_reducible refine (own_any _ _ _ _ xs _ hr (Nat.le_refl _) (by omega)).mono ?_
  rintro e w2 ⟨A2, n2, c2, rfl, ho, hb⟩
  obtain rfl : n2 = n := by rw [← ho.len, ← hr.len]
  obtain ⟨g, rfl⟩ : ∃ g, A2 = some ⟨g, 0, none⟩ := by
    rcases ho.form with ⟨_, h, _⟩ | ⟨g, _, h, _⟩
    · omega
    · exact ⟨g, h⟩
  have k : K1 w g n2 c2 xs w2 := ⟨⟨⟨ho.1.1, ho.1.2.imp id fun ⟨g', cap, cur, e1, e2, e3⟩ => ⟨g', cap, cur, e1, Nat.le_trans hB.size e2, e3⟩⟩, ho.2⟩, hB.trans (hb.mono hB.size)⟩
  have hcap2 := ho.cap
  have hmax2 := ho.rd.max
  clear hr hb ho hB h4' hpa
  obtain ⟨p1, p2⟩ := k.out.free (i := a) (by omega)
  obtain ⟨p3, p4⟩ := k.out.free (i := a + 1) (by omega)
  replace k := (k.put (i := a) (by omega) (v := 0) (by omega)).put (i := a + 1) (by omega) (v := 0) (by omega)
  have hz0 : ((xs.set a 0).set (a + 1) 0).getD a 0 = 0 := by
    rw [getD_set_ne _ _ _ _ (by omega), getD_set_eq _ _ _ (by have := k.out.len; simp at this; omega)]
  have hz1 : ((xs.set a 0).set (a + 1) 0).getD (a + 1) 0 = 0 := getD_set_eq _ _ _ (by have := k.out.len; simp at this ⊢; omega)
  generalize hzs : (xs.set a 0).set (a + 1) 0 = zs at *
  clear hzs
  obtain ⟨v, hv⟩ : ∃ v, 65535 - totV zs = v := ⟨_, rfl⟩
  have hvb : W16 v := by rw [← hv]; exact flip_bd (totV_bd k.byts)
  unfold W16 at hvb
  go_wp2_with fail
  with_reducible refine (of_g (by simp) k.out.rd v hv).mono ?_
  rintro e w3 ⟨rfl, hb⟩
  replace k := k.step hb
  clear hb p1 p2 p3 p4
  obtain ⟨p1, p2⟩ := k.out.free (i := a) (by omega)
  obtain ⟨p3, p4⟩ := k.out.free (i := a + 1) (by omega)
  have hfull := own_law k.byts a h4 (by rw [k.out.len]; omega) hz0 hz1 (p := v / 256) (q := v % 256) hv.symm (by omega) (by omega) (by omega)
  replace k := (k.put (i := a) (by omega) (v := v / 256) (by omega)).put (i := a + 1) (by omega) (v := v % 256) (by omega)
  generalize (zs.set a (v / 256)).set (a + 1) (v % 256) = ts at *
  clear hz0 hz1 hv
  go_wp2_with fail
  with_reducible refine (right_g (by simp) k.out.rd true (by simp [hfull])).mono ?_
  rintro e w4 ⟨rfl, hb⟩
  replace k := k.step hb
  clear hb p1 p2 p3 p4
  go_wp2_with fail
  with_reducible refine (total_of k.out.rd 65535 hfull).mono ?_
  rintro e w5 ⟨rfl, hb⟩
  replace k := k.step hb
  clear hb
  by_cases g1 : place < 0
  · go_wp2
    go_ret
    exact ⟨rfl, k.below⟩
  obtain ⟨p, rfl⟩ := Int.eq_ofNat_of_zero_le (show 0 ≤ place by omega)
  by_cases g2 : n2 ≤ p
  · go_wp2
    go_ret
    exact ⟨rfl, k.below⟩
  by_cases g3 : by_ = 0
  · subst g3
    go_wp2
    go_ret
    exact ⟨rfl, k.below⟩
  have g3' : (by_ == 0) = false := by simpa using g3
  obtain ⟨p1, p2⟩ := k.out.free (i := p) (by omega)
  have hx := u8_bd (k.out.rd.wf (i := p) (by omega))
  have hno : ∀ u, 0 ≤ u ∧ u ≤ 255 → u ≠ ts.getD p 0 → (totV (ts.set p u) == 65535) = false := fun u hu hne => by
    simpa using own_no k.byts hfull p (by rw [k.out.len]; omega) hu hne
  have kp : ∀ u, 0 ≤ u ∧ u ≤ 255 → K1 w g n2 c2 (ts.set p u) (w5.setCell ⟨g, p, none⟩ (.int .u8 u)) := fun u hu => k.put (i := p) (by omega) hu
  generalize ts.getD p 0 = x at *
  go_wp2_with fail
  with_reducible refine (right_g (by simp) (kp ((x + by_) % 256) (by omega)).out.rd false (hno _ (by omega) (by omega))).mono ?_
  rintro e w6 ⟨rfl, hb⟩
  replace k := (kp ((x + by_) % 256) (by omega)).step hb
  go_wp2
  go_ret
  exact ⟨rfl, k.below⟩
end Go.Proofs.Ytibjhehaflgomaa
