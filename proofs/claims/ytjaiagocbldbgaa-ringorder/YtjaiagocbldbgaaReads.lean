/-
  Contracts of the calls that read a pool: has, owned, Owner, Bytes, Many.
-/
import Derived.Test.YtjaiagocbldbgaaLeafs
import Derived.Outline
namespace Go.Proofs.Ytjaiagocbldbgaa
open Go.RowKit
set_option linter.unusedVariables false

abbrev Pp (w : World) (p g cp : Nat) (L : Slots) (F : Nat → Prop) : Prop := PlAt 67 77 w p g cp L F
abbrev Rp (w : World) (p g cp : Nat) (L : Slots) (F : Nat → Prop) : Prop := PlAt 70 88 w p g cp L F
abbrev ptr (p : Nat) : Value := .pointer (some ⟨p, 0, none⟩)

/-- Is there such a buffer? -/
def hasB (n : Nat) (b : Int) : Bool := decide (0 ≤ b ∧ b < (n : Int))
theorem hasB_yes {n k : Nat} (h : k < n) : hasB n (k : Int) = true := decide_eq_true ⟨by omega, by omega⟩
theorem hasB_lo {n : Nat} {b : Int} (h : b < 0) : hasB n b = false := decide_eq_false (by omega)
theorem hasB_hi {n : Nat} {b : Int} (h : (n : Int) ≤ b) : hasB n b = false := decide_eq_false (by omega)

theorem has_any (p g cp : Nat) (L : Slots) (F : Nat → Prop) (b : Int) (w : World) (h : Pp w p g cp L F) :
    Calls Try.prog 54 #[ptr p, .int .i64 b] w fun e w' => e = .returned (.bool (hasB L.length b)) ∧ w = w' := by
  obtain ⟨n, G, hn, hl, hp, _⟩ := h.cells
  rw [hn]
  clear hn h
  rcases (show b < 0 ∨ 0 ≤ b by omega) with hb | hb
  · have H := Lib.hid (hasB_lo (n := n) hb)
    go_enter Try.func54, Try.ntmps54
    go_wp2
    go_ret
    exact ⟨by rw [H.out]; rfl, rfl⟩
  · rcases (show b < (n : Int) ∨ (n : Int) ≤ b by omega) with hc | hc
    · have H : Hid (hasB n b = true) := Lib.hid (decide_eq_true ⟨hb, hc⟩)
      go_enter Try.func54, Try.ntmps54
      go_wp2
      go_ret
      exact ⟨by rw [H.out]; rfl, rfl⟩
    · have H := Lib.hid (hasB_hi (n := n) hc)
      have hd : decide (b < (n : Int)) = false := decide_eq_false (by omega)
      go_enter Try.func54, Try.ntmps54
      go_wp2
      go_ret
      exact ⟨by rw [H.out]; rfl, rfl⟩

/-- A buffer's owner; -1, if there is none such. -/
def owV (L : Slots) (b : Int) : Int := if 0 ≤ b ∧ b < (L.length : Int) then ow L b.toNat else -1
theorem owV_no {L : Slots} {b : Int} (h : b < 0 ∨ (L.length : Int) ≤ b) : owV L b = -1 := by unfold owV; rw [if_neg (by omega)]
theorem owV_yes {L : Slots} {k : Nat} (h : k < L.length) : owV L (k : Int) = ow L k := by unfold owV; rw [if_pos (by omega)]; rfl
theorem hasB_cases (n : Nat) (b : Int) : (hasB n b = false ∧ (b < 0 ∨ (n : Int) ≤ b)) ∨ ∃ k : Nat, b = (k : Int) ∧ k < n ∧ hasB n b = true := by
  rcases (show b < 0 ∨ 0 ≤ b by omega) with hb | hb
  · exact .inl ⟨hasB_lo hb, .inl hb⟩
  · rcases (show b < (n : Int) ∨ (n : Int) ≤ b by omega) with hc | hc
    · exact .inr ⟨b.toNat, by omega, by omega, decide_eq_true ⟨hb, hc⟩⟩
    · exact .inl ⟨hasB_hi hc, .inr hc⟩

theorem owner_any (p g cp : Nat) (L : Slots) (F : Nat → Prop) (b : Int) (w : World) (h : Pp w p g cp L F) :
    Calls Try.prog 33 #[ptr p, .int .i64 b] w fun e w' => e = .returned (.int .i64 (owV L b)) ∧ w = w' := by
  have C := Lib.hid (has_any p g cp L F b w h)
  rcases hasB_cases L.length b with ⟨hb, hc⟩ | ⟨k, rfl, hk, hb⟩
  · rw [owV_no hc]
    rw [hb] at C
    clear hb hc h
    go_enter Try.func33, Try.ntmps33
    go_wp2_with fail
    refine C.out.mono ?_
    rintro ev w1 ⟨rfl, rfl⟩
    go_wp2
    go_ret
    exact ⟨rfl, rfl⟩
  · rw [owV_yes hk]
    rw [hb] at C
    have hc0 := h.cell0 hk
    obtain ⟨n, G, hn, hl, hp, hG⟩ := h.cells
    rw [hn] at hk
    obtain rfl := hG (by omega)
    generalize ow L k = o at *
    clear hb h hn hG
    go_enter Try.func33, Try.ntmps33
    go_wp2_with fail
    refine C.out.mono ?_
    rintro ev w1 ⟨rfl, rfl⟩
    go_wp2
    go_ret
    exact ⟨rfl, rfl⟩

theorem many_any (p g cp : Nat) (L : Slots) (F : Nat → Prop) (w : World) (h : Pp w p g cp L F) :
    Calls Try.prog 57 #[ptr p] w fun e w' => e = .returned (.int .i64 (L.length : Int)) ∧ w = w' := by
  obtain ⟨n, G, hn, hl, hp, _⟩ := h.cells
  rw [hn]
  clear hn h
  go_enter Try.func57, Try.ntmps57
  go_wp2
  go_ret
  exact ⟨rfl, rfl⟩

theorem chE_own {L : Slots} {b o : Int} (h : ¬ isOwn o) : chE L b o = 11 := by unfold chE; rw [if_neg h]
theorem chE_has {L : Slots} {b o : Int} (h : isOwn o) (hb : b < 0 ∨ (L.length : Int) ≤ b) : chE L b o = 17 := by unfold chE; rw [if_pos h, if_neg (by omega)]
theorem chE_ne {L : Slots} {o : Int} {k : Nat} (h : isOwn o) (hk : k < L.length) (hn : ¬ ow L k = o) : chE L (k : Int) o = 19 := by
  unfold chE; rw [if_pos h, if_pos (by omega), if_neg (by simpa using hn)]
theorem chE_ok {L : Slots} {o : Int} {k : Nat} (h : isOwn o) (hk : k < L.length) (hn : ow L k = o) : chE L (k : Int) o = 0 := by
  unfold chE; rw [if_pos h, if_pos (by omega), if_pos (by simpa using hn)]
theorem chE_zero {L : Slots} {b o : Int} (h : chE L b o = 0) : ∃ k : Nat, b = (k : Int) ∧ k < L.length ∧ ow L k = o ∧ isOwn o := by
  by_cases h1 : isOwn o
  · by_cases h2 : 0 ≤ b ∧ b < (L.length : Int)
    · refine ⟨b.toNat, by omega, by omega, ?_, h1⟩
      unfold chE at h
      rw [if_pos h1, if_pos h2] at h
      by_cases h3 : ow L b.toNat = o
      · exact h3
      · rw [if_neg h3] at h; omega
    · unfold chE at h
      rw [if_pos h1, if_neg h2] at h
      omega
  · rw [chE_own h1] at h; omega

set_option maxHeartbeats 400000 in
theorem owned_any (p g cp : Nat) (L : Slots) (F : Nat → Prop) (b o : Int) (w : World) (h : Pp w p g cp L F) :
    Calls Try.prog 53 #[ptr p, .int .i64 b, .int .i64 o] w fun e w' => e = .returned (.int .i64 (chE L b o)) ∧ w = w' := by
  have I := Lib.hid (isOwner_any o w)
  have C := Lib.hid (has_any p g cp L F b w h)
  by_cases ho : isOwn o
  · rw [isOw_yes ho] at I
    rcases hasB_cases L.length b with ⟨hb, hc⟩ | ⟨k, rfl, hk, hb⟩
    · rw [chE_has ho hc]
      rw [hb] at C
      clear hb hc h
      go_enter Try.func53, Try.ntmps53
      go_wp2_with fail
      refine I.out.mono ?_
      rintro ev w1 ⟨rfl, rfl⟩
      go_wp2_with fail
      refine C.out.mono ?_
      rintro ev w1 ⟨rfl, rfl⟩
      go_wp2
      go_ret
      exact ⟨rfl, rfl⟩
    · rw [hb] at C
      have hc0 := h.cell0 hk
      by_cases he : ow L k = o
      · rw [chE_ok ho hk he]
        rw [he] at hc0
        obtain ⟨n, G, hn, hl, hp, hG⟩ := h.cells
        rw [hn] at hk
        obtain rfl := hG (by omega)
        clear hb h hn hG he ho
        go_enter Try.func53, Try.ntmps53
        go_wp2_with fail
        refine I.out.mono ?_
        rintro ev w1 ⟨rfl, rfl⟩
        go_wp2_with fail
        refine C.out.mono ?_
        rintro ev w1 ⟨rfl, rfl⟩
        go_wp2
        go_ret
        exact ⟨rfl, rfl⟩
      · rw [chE_ne ho hk he]
        obtain ⟨n, G, hn, hl, hp, hG⟩ := h.cells
        rw [hn] at hk
        obtain rfl := hG (by omega)
        generalize ow L k = o' at *
        have he' : (o' == o) = false := by simpa using he
        clear hb h hn hG ho
        go_enter Try.func53, Try.ntmps53
        go_wp2_with fail
        refine I.out.mono ?_
        rintro ev w1 ⟨rfl, rfl⟩
        go_wp2_with fail
        refine C.out.mono ?_
        rintro ev w1 ⟨rfl, rfl⟩
        go_wp2
        go_ret
        exact ⟨rfl, rfl⟩
  · rw [isOw_no ho] at I
    rw [chE_own ho]
    clear h C ho
    go_enter Try.func53, Try.ntmps53
    go_wp2_with fail
    refine I.out.mono ?_
    rintro ev w1 ⟨rfl, rfl⟩
    go_wp2
    go_ret
    exact ⟨rfl, rfl⟩

/-- Has a buffer an owner? -/
def takenB (L : Slots) (b : Int) : Bool := decide (0 ≤ b ∧ b < (L.length : Int) ∧ ¬ ow L b.toNat = 0)
theorem takenB_lo {L : Slots} {b : Int} (h : b < 0 ∨ (L.length : Int) ≤ b) : takenB L b = false := decide_eq_false (by omega)
theorem takenB_free {L : Slots} {k : Nat} (h : ow L k = 0) : takenB L (k : Int) = false := decide_eq_false (by simp [h])
theorem takenB_yes {L : Slots} {k : Nat} (hk : k < L.length) (h : ¬ ow L k = 0) : takenB L (k : Int) = true := decide_eq_true ⟨by omega, by omega, by simpa using h⟩
theorem byt_off {L : Slots} {k : Nat} (h : L.length ≤ k) : byt L k = [] := by simp [byt, List.getD, List.getElem?_eq_none h]

set_option maxHeartbeats 400000 in
theorem bytes_any (p g cp : Nat) (L : Slots) (F : Nat → Prop) (b : Int) (w : World) (h : Pp w p g cp L F) :
    Calls Try.prog 43 #[ptr p, .int .i64 b] w fun e w' => ∃ A m c xs, e = .returned (.tuple #[.slice A m c, .bool (takenB L b)]) ∧ Out .u8 5 w' w.heap.size A m c xs ∧ Below w.heap.size w w' ∧ (∀ k : Nat, b = (k : Int) → k < L.length → xs = byt L k) := by
  have C := Lib.hid (has_any p g cp L F b w h)
  rcases hasB_cases L.length b with ⟨hb, hc⟩ | ⟨k, rfl, hk, hb⟩
  · rw [takenB_lo hc]
    have hz : Hid (∀ k : Nat, b = (k : Int) → k < L.length → [] = byt L k) := Lib.hid (fun k e hk => by omega)
    rw [hb] at C
    clear hb hc h
    go_enter Try.func43, Try.ntmps43
    go_wp2_with fail
    refine C.out.mono ?_
    rintro ev w1 ⟨rfl, rfl⟩
    go_wp2
    go_ret2
    exact ⟨none, 0, 0, [], rfl, Out.nil, Below.refl _ _, hz.out⟩
  · rw [hb] at C
    have hc0 := h.cell0 hk
    obtain ⟨A, m, c, hc1, ho, _⟩ := h.cell1 hk
    have hG := h.good.2 k
    obtain ⟨n, G, hn, hl, hp, hGG⟩ := h.cells
    by_cases he : ow L k = 0
    · rw [takenB_free he]
      have hz : Hid (∀ k' : Nat, (k : Int) = (k' : Int) → k' < L.length → [] = byt L k') := Lib.hid (fun k' e _ => by
        obtain rfl : k = k' := by omega
        rw [hG.2.1 he])
      rw [he] at hc0
      rw [hn] at hk
      obtain rfl := hGG (by omega)
      clear hb h hn hG he hGG ho
      go_enter Try.func43, Try.ntmps43
      go_wp2_with fail
      refine C.out.mono ?_
      rintro ev w1 ⟨rfl, rfl⟩
      go_wp2
      go_ret2
      exact ⟨none, 0, 0, [], rfl, Out.nil, Below.refl _ _, hz.out⟩
    · rw [takenB_yes hk he]
      have hz : Hid (∀ k' : Nat, (k : Int) = (k' : Int) → k' < L.length → byt L k = byt L k') := Lib.hid (fun k' e _ => by
        obtain rfl : k = k' := by omega
        rfl)
      have hlen := ho.len
      have hb2 := hG.2.2
      have hm : m ≤ 1514 := by omega
      have D := Lib.hid (clone_any A m c w.heap.size (byt L k) w ho.rd (Nat.le_refl _) (by omega))
      rw [hn] at hk
      obtain rfl := hGG (by omega)
      have he' : (ow L k == 0) = false := by simpa using he
      generalize ow L k = o' at *
      generalize byt L k = xs at *
      clear hb h hn hG he hGG ho hlen hb2
      go_enter Try.func43, Try.ntmps43
      go_wp2_with fail
      refine C.out.mono ?_
      rintro ev w1 ⟨rfl, rfl⟩
      go_wp2_with fail
      refine D.out.mono ?_
      rintro ev w1 ⟨A', m', c', rfl, ho', hb'⟩
      go_wp2
      go_ret2
      exact ⟨A', m', c', xs, rfl, ho', hb', hz.out⟩
end Go.Proofs.Ytjaiagocbldbgaa
