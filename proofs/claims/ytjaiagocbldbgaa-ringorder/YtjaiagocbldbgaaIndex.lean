/-
  Contracts of isOf, its closure, slices.IndexFunc over the slots; allOf, Left, Held.
-/
import Derived.Test.YtjaiagocbldbgaaReads
import Derived.Test.YtjaiagocbldbgaaLits
namespace Go.Proofs.Ytjaiagocbldbgaa
open Go.RowKit
set_option linter.unusedVariables false

/-- The closure that isOf answers. -/
abbrev clo (b : Nat) : Value := .func (.func 58) #[] #[.pointer (some ⟨b, 0, none⟩)]
theorem isOf_any (o : Int) (w : World) : Calls Try.prog 50 #[.int .i64 o] w fun e w' => ∃ b, e = .returned (clo b) ∧ w'.cell? ⟨b, 0, none⟩ = some (.int .i64 o) ∧ w.heap.size ≤ b ∧ Below w.heap.size w w' := by
  have hb := alloc_below w (.cells #[.int .i64 o] 3)
  go_enter Try.func50, Try.ntmps50
  go_wp2
  go_ret
  exact ⟨w.heap.size, rfl, cell_of_one (heap_alloc_new w _), Nat.le_refl _, hb⟩
theorem isOf1_any (x : Bool) (o o' : Int) (v : Value) (b : Nat) (w : World) (hx : (o' == o) = x) (hc : w.cell? ⟨b, 0, none⟩ = some (.int .i64 o)) :
    Calls Try.prog 58 #[.agg #[.int .i64 o', v], .pointer (some ⟨b, 0, none⟩)] w fun e w' => e = .returned (.bool x) ∧ Below w.heap.size w w' := by
  subst hx
  have hlt : b < w.heap.size := World.block_lt_of_cell? w _ hc
  have hb := alloc_below w (.cells #[.int .i64 o', v] 77)
  go_enter Try.func58, Try.ntmps58
  go_wp2
  go_ret
  exact ⟨rfl, hb⟩

/-- The least free buffer; -1, if there is none. -/
def idx1 (L : Slots) : Int := if free1 L < L.length then (free1 L : Int) else -1
theorem idx1_yes {L : Slots} {k : Nat} (h : free1 L = k) (hk : k < L.length) : idx1 L = k := by unfold idx1; rw [h, if_pos hk]
theorem idx1_no {L : Slots} (h : ¬ free1 L < L.length) : idx1 L = -1 := by unfold idx1; rw [if_neg h]
set_option maxHeartbeats 1000000 in
theorem index_any (p g cp b : Nat) (L : Slots) (F : Nat → Prop) (w : World) (h : Pp w p g cp L F) (hL : 0 < L.length) (hc : w.cell? ⟨b, 0, none⟩ = some (.int .i64 0)) :
    Calls Try.prog 49 #[.slice (some ⟨g, 0, none⟩) L.length cp, clo b] w fun e w' => e = .returned (.int .i64 (idx1 L)) ∧ Below w.heap.size w w' := by
  obtain ⟨n, G, hn, hl, -, -⟩ := h.cells
  have hlt : b < w.heap.size := World.block_lt_of_cell? w _ hc
  rw [hn]
  have HN := Lib.hid hn
  clear hn
  go_enter Try.func49, Try.ntmps49
  go_wp2
  go_loopw [8] (fun i wr => ∃ k : Nat, k ≤ n ∧ i = .int .i64 k ∧ Below w.heap.size w wr ∧ ∀ j, j < k → ow L j ≠ 0) (fun i _ => n - (intOf i).toNat)
  case atStart => exact ⟨0, Nat.zero_le _, rfl, Below.refl _ _, fun j hj => absurd hj (by omega)⟩
  case round =>
    obtain ⟨k, hk, rfl, hb, hall⟩ := hrel
    by_cases hkn : k < n
    · have h' := h.below hb
      have hc' := (hb.cell (p := ⟨b, 0, none⟩) hlt).trans hc
      have hkL : k < L.length := by rw [HN.out]; exact hkn
      have a0 := h'.cell0 hkL
      obtain ⟨A, m, c, a1, -, -⟩ := h'.cell1 hkL
      by_cases he : ow L k = 0
      · have Hr : Hid (idx1 L = k) := Lib.hid (idx1_yes (free1_is hkL he hall) hkL)
        rw [he] at a0
        clear hall he h h'
        go_wp2_with fail
        refine (isOf1_any true 0 0 _ b _ rfl hc').mono ?_
        rintro ev w1 ⟨rfl, hb1⟩
        replace hb := hb.trans (hb1.mono hb.size)
        clear hb1 a0 a1 hc'
        go_wp2
        go_ret
        exact ⟨by rw [Hr.out]; rfl, hb⟩
      · have Hall : Hid (∀ j, j < k + 1 → ow L j ≠ 0) := Lib.hid (fun j hj => by
          by_cases h1 : j < k
          · exact hall j h1
          · obtain rfl : j = k := by omega
            exact he)
        have he' : (ow L k == 0) = false := by simpa using he
        generalize ow L k = o' at *
        clear hall he h h'
        go_wp2_with fail
        refine (isOf1_any false 0 o' _ b _ he' hc').mono ?_
        rintro ev w1 ⟨rfl, hb1⟩
        replace hb := hb.trans (hb1.mono hb.size)
        clear hb1 a0 a1 hc'
        go_wp2
        go_roundw
        case rel => exact ⟨k + 1, by omega, by go_num, hb, Hall.out⟩
        case measure => simp [intOf]; omega
    · have Hr : Hid (idx1 L = -1) := Lib.hid (idx1_no (by
        rw [free1_none (fun j hj => hall j (by rw [HN.out] at hj; omega))]
        omega))
      clear hall h
      go_wp2
      go_ret
      exact ⟨by rw [Hr.out]; rfl, hb⟩

set_option maxHeartbeats 1000000 in
theorem allOf_any (p g cp : Nat) (L : Slots) (F : Nat → Prop) (o : Int) (w : World) (h : Pp w p g cp L F) :
    Calls Try.prog 47 #[ptr p, .int .i64 o] w fun e w' => ∃ A m c, e = .returned (.slice A m c) ∧ Out .i64 3 w' w.heap.size A m c (held L o) ∧ Below w.heap.size w w' := by
  obtain ⟨n, G, hn, hl, hp, hG⟩ := h.cells
  have HN := Lib.hid hn
  have HH : Hid (held L o = heldAt L o n) := Lib.hid (by unfold held; rw [hn])
  clear hn
  go_enter Try.func47, Try.ntmps47
  go_wp2_with fail
  refine (isOf_any o w).mono ?_
  rintro ev w1 ⟨b, rfl, hcb, hbw, hb1⟩
  have hbl : b < w1.heap.size := World.block_lt_of_cell? w1 _ hcb
  have hp1 := (hb1.cell (p := ⟨p, 0, none⟩) h.lt.1).trans hp
  go_wp2
  go_loopw [5, 16] (fun v i wr => ∃ (k : Nat) (A : Option Addr) (m c : Nat), k ≤ n ∧ i = .int .i64 k ∧ v = .slice A m c ∧ Out .i64 3 wr w1.heap.size A m c (heldAt L o k) ∧ Below w1.heap.size w1 wr) (fun _ i _ => n - (intOf i).toNat)
  case atStart => exact ⟨0, none, 0, 0, Nat.zero_le _, rfl, rfl, Out.nil, Below.refl _ _⟩
  case round =>
    obtain ⟨k, A, m, c, hk, rfl, rfl, ho, hb⟩ := hrel
    by_cases hkn : k < n
    · have h' := (h.below hb1).below hb
      have hc' := (hb.cell (p := ⟨b, 0, none⟩) hbl).trans hcb
      have hkL : k < L.length := by rw [HN.out]; exact hkn
      have a0 := h'.cell0 hkL
      obtain ⟨A2, m2, c2, a1, -, -⟩ := h'.cell1 hkL
      obtain rfl := hG (by omega)
      have ba := alloc_below wr (.cells #[.int .i64 (ow L k), .slice A2 m2 c2] 77)
      have hs1 := hb.size
      have hc2 := (ba.cell (p := ⟨b, 0, none⟩) (by show b < wr.heap.size; omega)).trans hc'
      have o2 := ho.below ba (Nat.le_refl _)
      have b2 := hb.trans (ba.mono hb.size)
      have hm := o2.len
      have hm2 := heldAt_len L o k
      by_cases he : ow L k = o
      · have Ha : Hid (heldAt L o (k + 1) = heldAt L o k ++ [(k : Int)]) := Lib.hid (heldAt_succ_yes he)
        have hx : (ow L k == o) = true := by simp [he]
        generalize ow L k = o' at *
        generalize heldAt L o k = xs at *
        clear he h h' hc' ho hb hb1 ba
        go_wp2_with fail
        refine (isOf1_any true o o' _ b _ hx hc2).mono ?_
        rintro ev w2 ⟨rfl, hb2⟩
        replace o2 := o2.below hb2 (Nat.le_refl _)
        replace b2 := b2.trans (hb2.mono b2.size)
        have ba := alloc_below w2 (.cells #[.int .i64 (k : Int)] 3)
        replace o2 := o2.below ba (Nat.le_refl _)
        replace b2 := b2.trans (ba.mono b2.size)
        have bs := b2.size
        have r3 : Rd .i64 (w2.alloc (.cells #[.int .i64 (k : Int)] 3)) (w2.heap.size + 1) (some ⟨w2.heap.size, 0, none⟩) 1 1 [(k : Int)] := rd_lit .i64 3 w2 [(k : Int)] 1 rfl (by omega) (by intro x hx; simp at hx; subst hx; exact i64_small (by omega))
        clear hb2 ba hc2 a0 a1 hx
        go_wp2_with (at_builtin; refine wpList_app rfl (.tmp 24) (.tmp 26) 57 rfl w1.heap.size Try.underlying57 info3 (by omega) A m c xs rfl o2 (some ⟨w2.heap.size, 0, none⟩) 1 1 (w2.heap.size + 1) [(k : Int)] rfl r3 (by omega) bs ?_)
        intro A' n' c' w' o' hg'
        have b' : Below w1.heap.size w1 w' := b2.grown hg' bs (fun q hq => o2.own_ge q hq)
        clear hg' r3 o2 b2 bs
        go_wp2
        go_roundw
        case rel => exact ⟨k + 1, A', n', c', by omega, by go_num, rfl, by rw [Ha.out]; exact o', b'⟩
        case measure => simp [intOf]; omega
      · have Ha : Hid (heldAt L o (k + 1) = heldAt L o k) := Lib.hid (heldAt_succ_no he)
        have hx : (ow L k == o) = false := by simpa using he
        generalize ow L k = o' at *
        generalize heldAt L o k = xs at *
        clear he h h' hc' ho hb hb1 ba
        go_wp2_with fail
        refine (isOf1_any false o o' _ b _ hx hc2).mono ?_
        rintro ev w2 ⟨rfl, hb2⟩
        replace o2 := o2.below hb2 (Nat.le_refl _)
        replace b2 := b2.trans (hb2.mono b2.size)
        clear hb2 hc2 a0 a1 hx
        go_wp2
        go_roundw
        case rel => exact ⟨k + 1, A, m, c, by omega, by go_num, rfl, by rw [Ha.out]; exact o2, b2⟩
        case measure => simp [intOf]; omega
    · obtain rfl : k = n := by omega
      have b2 : Below w.heap.size w wr := hb1.trans (hb.mono hb1.size)
      have o2 := ho.lower hb1.size
      rw [← HH.out] at o2
      clear h ho hb hb1
      go_wp2
      go_ret
      exact ⟨A, m, c, rfl, o2, b2⟩

/-- How many are free. -/
def left (L : Slots) : Nat := (held L 0).length
theorem left_le (L : Slots) : left L ≤ L.length := heldAt_len L 0 _
set_option maxHeartbeats 400000 in
theorem left_any (p g cp : Nat) (L : Slots) (F : Nat → Prop) (w : World) (h : Pp w p g cp L F) :
    Calls Try.prog 25 #[ptr p] w fun e w' => e = .returned (.int .i64 (left L : Int)) ∧ Below w.heap.size w w' := by
  have C := Lib.hid (allOf_any p g cp L F 0 w h)
  have HL : Hid (left L = (held L 0).length) := Lib.hid rfl
  clear h
  go_enter Try.func25, Try.ntmps25
  go_wp2_with fail
  refine C.out.mono ?_
  rintro ev w1 ⟨A, m, c, rfl, o, hb⟩
  have hm : Hid (left L = m) := Lib.hid (by rw [HL.out, o.len])
  clear o C HL
  go_wp2
  go_ret
  exact ⟨by rw [hm.out]; rfl, hb⟩
/-- The buffers of an owner. -/
def heldV (L : Slots) (o : Int) : List Int := if isOwn o then held L o else []
set_option maxHeartbeats 400000 in
theorem held_any (p g cp : Nat) (L : Slots) (F : Nat → Prop) (o : Int) (w : World) (h : Pp w p g cp L F) :
    Calls Try.prog 28 #[ptr p, .int .i64 o] w fun e w' => ∃ A m c, e = .returned (.slice A m c) ∧ Out .i64 3 w' w.heap.size A m c (heldV L o) ∧ Below w.heap.size w w' := by
  have C := Lib.hid (allOf_any p g cp L F o w h)
  have I := Lib.hid (isOwner_any o w)
  clear h
  by_cases ho : isOwn o
  · have HL : Hid (heldV L o = held L o) := Lib.hid (by unfold heldV; rw [if_pos ho])
    rw [isOw_yes ho] at I
    clear ho
    go_enter Try.func28, Try.ntmps28
    go_wp2_with fail
    refine I.out.mono ?_
    rintro ev w1 ⟨rfl, rfl⟩
    go_wp2_with fail
    refine C.out.mono ?_
    rintro ev w1 ⟨A, m, c, rfl, o1, hb⟩
    clear C I
    go_wp2
    go_ret
    exact ⟨A, m, c, rfl, by rw [HL.out]; exact o1, hb⟩
  · have HL : Hid (heldV L o = []) := Lib.hid (by unfold heldV; rw [if_neg ho])
    rw [isOw_no ho] at I
    clear ho C
    go_enter Try.func28, Try.ntmps28
    go_wp2_with fail
    refine I.out.mono ?_
    rintro ev w1 ⟨rfl, rfl⟩
    go_wp2
    go_ret
    exact ⟨none, 0, 0, rfl, by rw [HL.out]; exact Out.nil, Below.refl _ _⟩
end Go.Proofs.Ytjaiagocbldbgaa
