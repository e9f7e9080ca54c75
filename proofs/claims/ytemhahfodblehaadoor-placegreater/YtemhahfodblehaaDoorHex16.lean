/-
  strconv.ParseUint at base 16 and 8 bits, at every string: walked.
-/
import Derived.Test.YtemhahfodblehaaDoorKnow
import Derived.Laws.Strings3
import Derived.Laws.Closers25
import Derived.Laws.Closers25b
import Derived.BigCall
import Derived.BigGuard
import Derived.Shelf.Pu.ToError
import Derived.Shelf.Pu.ToErrorRange
namespace Go.Proofs.YtemhahfodblehaaDoor
open Go.RowKit

theorem lower_any (c : Int) (w : World) : Calls Tryd.prog 52 #[.int .u8 c] w fun e w' => e = .returned (.int .u8 (bits .or .u8 c 32)) ∧ w = w' := by
  go_enter Tryd.func52, Tryd.ntmps52
  go_wp2
  go_ret
  exact ⟨rfl, rfl⟩
/-- What the inner ParseUint answers at base 16 and 8 bits. -/
def In16 (l : List UInt8) (u : Int) (ev : Value) : Prop :=
  (0 ≤ u ∧ u ≤ 255) ∧ ((parse16 l = some u ∧ ev = .nilIface) ∨ (parse16 l = none ∧ (ev = .iface 74 (.int .i64 1) ∨ ev = .iface 74 (.int .i64 2))))
theorem in16_bad {l : List UInt8} {u : Int} (h : parse16 l = none) (hu : 0 ≤ u ∧ u ≤ 255) : In16 l u (.iface 74 (.int .i64 1)) ∧ In16 l u (.iface 74 (.int .i64 2)) := ⟨⟨hu, .inr ⟨h, .inl rfl⟩⟩, ⟨hu, .inr ⟨h, .inr rfl⟩⟩⟩
theorem conv_ : ∀ (w : World) (t : ByteArray), (convert 9 65 (.string t)).run Tryd.prog w = .ok (.slice (some ⟨w.heap.size, 0, none⟩) t.size (grownCap w t.size 0 5)) (Lib.bytesWorld w 5 t) := fun w t =>
  Lib.run_convert_string_bytes (P := Tryd.prog) w 9 65 5 t (u := .string) Tryd.underlying9 Tryd.underlying65 Tryd.underlying5

/-- One character. -/
def st16 (ci lc a : Int) (r : List UInt8) : Option Int :=
  match (if 48 ≤ ci ∧ ci ≤ 57 then some (ci - 48) else if 97 ≤ lc ∧ lc ≤ 122 then (if lc - 87 < 16 then some (lc - 87) else none) else none : Option Int) with
  | none => none
  | some d => if 255 < a * 16 + d then none else p16 (a * 16 + d) r
section
variable {ci lc a : Int} {r : List UInt8}
theorem st_d0 (h1 : 48 ≤ ci) (h2 : ci ≤ 57) (h3 : 255 < a * 16 + (ci - 48)) : st16 ci lc a r = none := by
  unfold st16; rw [if_pos ⟨h1, h2⟩]; simp only []; rw [if_pos h3]
theorem st_d1 (h1 : 48 ≤ ci) (h2 : ci ≤ 57) (h3 : a * 16 + (ci - 48) ≤ 255) : st16 ci lc a r = p16 (a * 16 + (ci - 48)) r := by
  unfold st16; rw [if_pos ⟨h1, h2⟩]; simp only []; rw [if_neg (by omega)]
theorem st_l0 (h1 : ¬ (48 ≤ ci ∧ ci ≤ 57)) (h2 : 97 ≤ lc ∧ lc ≤ 122) (h3 : 16 ≤ lc - 97 + 10) : st16 ci lc a r = none := by
  unfold st16; rw [if_neg h1, if_pos h2, if_neg (by omega)]
theorem st_l1 (h1 : ¬ (48 ≤ ci ∧ ci ≤ 57)) (h2 : 97 ≤ lc ∧ lc ≤ 122) (h3 : lc - 97 + 10 < 16) (h4 : 255 < a * 16 + (lc - 97 + 10)) : st16 ci lc a r = none := by
  unfold st16; rw [if_neg h1, if_pos h2, if_pos (by omega)]; simp only []; rw [if_pos (by omega)]
theorem st_l2 (h1 : ¬ (48 ≤ ci ∧ ci ≤ 57)) (h2 : 97 ≤ lc ∧ lc ≤ 122) (h3 : lc - 97 + 10 < 16) (h4 : a * 16 + (lc - 97 + 10) ≤ 255) : st16 ci lc a r = p16 (a * 16 + (lc - 97 + 10)) r := by
  have e : lc - 97 + 10 = lc - 87 := by omega
  rw [e] at *
  unfold st16; rw [if_neg h1, if_pos h2, if_pos (by omega)]; simp only []; rw [if_neg (by omega)]
theorem st_n (h1 : ¬ (48 ≤ ci ∧ ci ≤ 57)) (h2 : ¬ (97 ≤ lc ∧ lc ≤ 122)) : st16 ci lc a r = none := by
  unfold st16; rw [if_neg h1, if_neg h2]
end
theorem or95 : bits .or .u8 95 32 = 127 := by decide +kernel
set_option maxHeartbeats 4000000 in
set_option maxRecDepth 100000 in
theorem inner16 (t : ByteArray) (hmax : t.size ≤ 1000) (w : World) :
    Calls Tryd.prog 47 #[.string t, .int .i64 16, .int .i64 8] w fun e w' => (∃ u ev, e = .returned (.tuple #[.int .u64 u, ev]) ∧ In16 t.data.toList u ev) ∧ Below w.heap.size w w' := by
  by_cases hne : t.size = 0
  · have hemp : t.toList.isEmpty = true := by
      rw [← decide_eq_emptyBytes]
      exact decide_eq_true (by
        obtain ⟨a⟩ := t
        have : a = #[] := Array.eq_empty_of_size_eq_zero hne
        rw [this]; rfl)
    have hp : parse16 t.data.toList = none := by
      have : t.data.toList = [] := List.eq_nil_of_length_eq_zero (by simpa using hne)
      rw [this]; rfl
    go_enter Tryd.func47, Tryd.ntmps47
    go_wp2
    go_ret2
    exact ⟨⟨_, _, rfl, (in16_bad hp (by omega)).2⟩, Below.refl _ _⟩
  have hemp : t.toList.isEmpty = false := by
    rw [← decide_eq_emptyBytes]
    exact decide_eq_false (fun h => hne (by rw [h]; rfl))
  have hcv := conv_ w t
  have hbl := Lib.bytesWorld_below w 5 t
  have hB : ∀ j, j < t.size → (Lib.bytesWorld w 5 t).cell? ⟨w.heap.size, j, none⟩ = some (.int .u8 (t.data.toList.getD j 0).toNat) := fun j hj => Lib.bytesWorld_cell w 5 t j hj
  obtain ⟨W1, hW1⟩ : ∃ W1, W1 = Lib.bytesWorld w 5 t := ⟨_, rfl⟩
  rw [← hW1] at hcv hB hbl
  clear hW1
  have hLne : t.data.toList ≠ [] := fun h => hne (by have := congrArg List.length h; simpa using this)
  obtain ⟨bs, hL⟩ : ∃ bs, bs = t.data.toList := ⟨_, rfl⟩
  have hLn : bs.length = t.size := by rw [hL]; exact Array.length_toList
  rw [← hL] at hB hLne ⊢
  have hpar : parse16 bs = p16 0 bs := by unfold parse16; rw [if_neg hLne]
  clear hL
  have hmv : IntKind.u64.wrap (IntKind.u64.wrap 256 - 1) = 255 := by
    rw [IntKind.wrap_u64, IntKind.wrap_u64]
    decide
  go_enter Tryd.func47, Tryd.ntmps47
  go_wp2
  go_loop [12, 13, 101] (fun vu vn vi => ∃ (k : Nat) (a : Int), vu = .bool false ∧ vn = .int .u64 a ∧ vi = .int .i64 k ∧ k ≤ t.size ∧ (0 ≤ a ∧ a ≤ 255) ∧ Hid (p16 0 bs = p16 a (bs.drop k)))
    (fun _ _ vi => t.size - (intOf vi).toNat)
  case atStart => exact ⟨0, 0, rfl, rfl, rfl, by omega, by omega, Lib.hid rfl⟩
  case round =>
    obtain ⟨k, a, rfl, rfl, rfl, hk, ha, hh⟩ := hrel
    have hdec := hh.out
    clear hh
    by_cases hkn : k < t.size
    · have hc := hB k hkn
      have hdrop : bs.drop k = bs[k]'(by omega) :: bs.drop (k + 1) := List.drop_eq_getElem_cons (by omega)
      have hget : bs.getD k 0 = bs[k]'(by omega) := by simp [List.getD, List.getElem?_eq_getElem (show k < bs.length by omega)]
      rw [hdrop] at hdec
      rw [hget] at hc
      generalize bs[k]'(by omega) = c at hc hdec
      have hc256 : c.toNat < 256 := c.toNat_lt
      clear hB hdrop hget
      have h0 := bits_lo_u8 .or (c.toNat : Int) 32
      have h1 := bits_hi_u8 .or (c.toNat : Int) 32
      have hdg : dig16 (c.toNat : Int) = if 48 ≤ (c.toNat : Int) ∧ (c.toNat : Int) ≤ 57 then some ((c.toNat : Int) - 48) else if 97 ≤ bits .or .u8 (c.toNat : Int) 32 ∧ bits .or .u8 (c.toNat : Int) 32 ≤ 122 then (if bits .or .u8 (c.toNat : Int) 32 - 87 < 16 then some (bits .or .u8 (c.toNat : Int) 32 - 87) else none) else none := rfl
      rw [p16] at hdec
      rw [hdg] at hdec
      generalize hlc : bits .or .u8 (c.toNat : Int) 32 = lc at h0 h1 hdec
      obtain ⟨ci, hci⟩ : ∃ ci : Int, ci = (c.toNat : Int) := ⟨_, rfl⟩
      rw [← hci] at hc hdec hlc
      have hc0 : 0 ≤ ci ∧ ci < 256 := by omega
      clear hci hc256 hdg
      have HD : Hid (parse16 bs = st16 ci lc a (bs.drop (k + 1))) := Lib.hid (hpar.trans hdec)
      have HQ : Hid (p16 0 bs = st16 ci lc a (bs.drop (k + 1))) := Lib.hid hdec
      clear hpar hdec
      have h95 : ci = 95 → lc = 127 := fun h => by rw [← hlc, h]; exact or95
      go_wp2_with (go_at_call 52; refine (lower_any _ _).mono ?_; rintro e w' ⟨rfl, rfl⟩)
      all_goals first
        | (go_ret2
           refine ⟨⟨_, _, rfl, ?_⟩, hbl⟩
           have hD := HD.out
           first
             | exact (in16_bad (hD.trans (st_d0 (by omega) (by omega) (by omega))) (by omega)).1
             | exact (in16_bad (hD.trans (st_l0 (by omega) (by omega) (by omega))) (by omega)).2
             | exact (in16_bad (hD.trans (st_l1 (by omega) (by omega) (by omega) (by omega))) (by omega)).1
             | exact (in16_bad (hD.trans (st_n (by omega) (by omega))) (by omega)).2)
        | exact ⟨⟨k + 1, _, rfl, rfl, (by first | rfl | (congr 1; omega)), by omega, by omega, Lib.hid (HQ.out.trans (st_d1 (by omega) (by omega) (by omega)))⟩, by simp [intOf]; omega⟩
        | exact ⟨⟨k + 1, _, rfl, rfl, (by first | rfl | (congr 1; omega)), by omega, by omega, Lib.hid (HQ.out.trans (st_l2 (by omega) (by omega) (by omega) (by omega)))⟩, by simp [intOf]; omega⟩
        | go_show
    · have hkk : k = t.size := by omega
      subst hkk
      have hF : p16 a (bs.drop t.size) = some a := by rw [List.drop_eq_nil_of_le (by omega)]; rfl
      rw [hF] at hdec
      clear hF
      go_wp2
      go_ret2
      exact ⟨⟨_, _, rfl, ha, .inl ⟨hpar.trans hdec, rfl⟩⟩, hbl⟩
end Go.Proofs.YtemhahfodblehaaDoor
