/-
  strconv.ParseUint at base 16 and 8 bits, at every string: walked.
-/
import Derived.Test.YtemhahfodblehaaDoorKnow
import Derived.Laws.Strings3
import Derived.Laws.Closers25
import Derived.Laws.Closers25b
import Derived.BigCall
import Derived.BigGuard
import Derived.Shelf.Pu.ToError
import Derived.Shelf.Pu.ToErrorRange
namespace Go.Proofs.YtemhahfodblehaaDoor
open Go.RowKit

theorem lower_any (c : Int) (w : World) : Calls Tryd.prog 52 #[.int .u8 c] w fun e w' => e = .returned (.int .u8 (bits .or .u8 c 32)) ∧ w = w' := by
  go_enter Tryd.func52, Tryd.ntmps52
  go_wp2
  go_ret
  exact ⟨rfl, rfl⟩
/-- What the inner ParseUint answers at base 16 and 8 bits. -/
def In16 (l : List UInt8) (u : Int) (ev : Value) : Prop :=
  (0 ≤ u ∧ u ≤ 255) ∧ ((parse16 l = some u ∧ ev = .nilIface) ∨ (parse16 l = none ∧ (ev = .iface 74 (.int .i64 1) ∨ ev = .iface 74 (.int .i64 2))))
theorem in16_bad {l : List UInt8} {u : Int} (h : parse16 l = none) (hu : 0 ≤ u ∧ u ≤ 255) : In16 l u (.iface 74 (.int .i64 1)) ∧ In16 l u (.iface 74 (.int .i64 2)) := ⟨⟨hu, .inr ⟨h, .inl rfl⟩⟩, ⟨hu, .inr ⟨h, .inr rfl⟩⟩⟩
theorem conv_ : ∀ (w : World) (t : ByteArray), (convert 9 65 (.string t)).run Tryd.prog w = .ok (.slice (some ⟨w.heap.size, 0, none⟩) t.size (grownCap w t.size 0 5)) (Lib.bytesWorld w 5 t) := fun w t =>
  Lib.run_convert_string_bytes (P := Tryd.prog) w 9 65 5 t (u := .string) Tryd.underlying9 Tryd.underlying65 Tryd.underlying5

/-- One character. -/
def st16 (ci lc a : Int) (r : List UInt8) : Option Int :=
  match (if 48 ≤ ci ∧ ci ≤ 57 then some (ci - 48) else if 97 ≤ lc ∧ lc ≤ 122 then (if lc - 87 < 16 then some (lc - 87) else none) else none : Option Int) with
  | none => none
  | some d => if 255 < a * 16 + d then none else p16 (a * 16 + d) r
section
variable {ci lc a : Int} {r : List UInt8}
theorem st_d0 (h1 : 48 ≤ ci) (h2 : ci ≤ 57) (h3 : 255 < a * 16 + (ci - 48)) : st16 ci lc a r = none := by
  unfold st16; rw [if_pos ⟨h1, h2⟩]; simp only []; rw [if_pos h3]
theorem st_d1 (h1 : 48 ≤ ci) (h2 : ci ≤ 57) (h3 : a * 16 + (ci - 48) ≤ 255) : st16 ci lc a r = p16 (a * 16 + (ci - 48)) r := by
  unfold st16; rw [if_pos ⟨h1, h2⟩]; simp only []; rw [if_neg (by omega)]
theorem st_l0 (h1 : ¬ (48 ≤ ci ∧ ci ≤ 57)) (h2 : 97 ≤ lc ∧ lc ≤ 122) (h3 : 16 ≤ lc - 97 + 10) : st16 ci lc a r = none := by
  unfold st16; rw [if_neg h1, if_pos h2, if_neg (by omega)]
theorem st_l1 (h1 : ¬ (48 ≤ ci ∧ ci ≤ 57)) (h2 : 97 ≤ lc ∧ lc ≤ 122) (h3 : lc - 97 + 10 < 16) (h4 : 255 < a * 16 + (lc - 97 + 10)) : st16 ci lc a r = none := by
  unfold st16; rw [if_neg h1, if_pos h2, if_pos (by omega)]; simp only []; rw [if_pos (by omega)]
theorem st_l2 (h1 : ¬ (48 ≤ ci ∧ ci ≤ 57)) (h2 : 97 ≤ lc ∧ lc ≤ 122) (h3 : lc - 97 + 10 < 16) (h4 : a * 16 + (lc - 97 + 10) ≤ 255) : st16 ci lc a r = p16 (a * 16 + (lc - 97 + 10)) r := by
  have e : lc - 97 + 10 = lc - 87 := by omega
  rw [e] at *
  unfold st16; rw [if_neg h1, if_pos h2, if_pos (by omega)]; simp only []; rw [if_neg (by omega)]
theorem st_n (h1 : ¬ (48 ≤ ci ∧ ci ≤ 57)) (h2 : ¬ (97 ≤ lc ∧ lc ≤ 122)) : st16 ci lc a r = none := by
  unfold st16; rw [if_neg h1, if_neg h2]
end
theorem or95 : bits .or .u8 95 32 = 127 := by decide +kernel
/-- The row that '[]byte(s)' lays reads as the string's bytes. -/
theorem row_at (w : World) (L : List UInt8) {k : Nat} {c : UInt8} {r : List UInt8} (h : L.drop k = c :: r) : (Lib.bytesWorld w 5 ⟨L.toArray⟩).cell? ⟨w.heap.size, k, none⟩ = some (.int .u8 c.toNat) := by
  have hk : L[k]? = some c := by
    have := congrArg (fun l : List UInt8 => l[0]?) h
    simpa using this
  have hlt : k < L.length := (List.getElem?_eq_some_iff.1 hk).1
  rw [Lib.bytesWorld_cell w 5 ⟨L.toArray⟩ k (by show k < L.toArray.size; simpa using hlt)]
  simp [List.getD, hk]
set_option maxHeartbeats 4000000 in
set_option maxRecDepth 100000 in
theorem inner16 (L : List UInt8) (hmax : L.length ≤ 1000) (w : World) :
    Calls Tryd.prog 47 #[strV L, .int .i64 16, .int .i64 8] w fun e w' => (∃ u ev, e = .returned (.tuple #[.int .u64 u, ev]) ∧ In16 L u ev) ∧ Below w.heap.size w w' := by
  cases hL : L with
  | nil =>
    go_enter Tryd.func47, Tryd.ntmps47
    go_wp2
    go_ret2
    exact ⟨⟨_, _, rfl, (in16_bad rfl (by omega)).2⟩, Below.refl _ _⟩
  | cons c0 r0 =>
    rw [← hL]
    have hpar : parse16 L = p16 0 L := by unfold parse16; rw [if_neg (by rw [hL]; simp)]
    have hrow : ∀ {k : Nat} {c : UInt8} {r : List UInt8}, L.drop k = c :: r → _ := fun h => row_at w L h
    have hbl := Lib.bytesWorld_below w 5 ⟨L.toArray⟩
    have hconv := conv_ w ⟨L.toArray⟩
    change Calls Tryd.prog 47 #[.string ⟨L.toArray⟩, .int .i64 16, .int .i64 8] w _
    have hfull : (⟨L.toArray⟩ : ByteArray).toList.isEmpty = false := by rw [ByteArray.toList_eq, hL]; rfl
    have hlen : (⟨L.toArray⟩ : ByteArray).size = L.length := by show L.toArray.size = _; simp
    generalize Lib.bytesWorld w 5 ⟨L.toArray⟩ = V at hconv hbl hrow
    generalize (⟨L.toArray⟩ : ByteArray) = t at hconv hfull hlen ⊢
    have hmost : IntKind.u64.wrap (IntKind.u64.wrap 256 - 1) = 255 := by decide
    clear hL
    go_enter Tryd.func47, Tryd.ntmps47
    go_wp2
    go_loop [12, 13, 101] (fun vu vn vi => ∃ (k : Nat) (a : Int) (rest : List UInt8), vu = .bool false ∧ vn = .int .u64 a ∧ vi = .int .i64 k ∧ k + rest.length = L.length ∧ (0 ≤ a ∧ a ≤ 255) ∧ Hid (L.drop k = rest ∧ p16 0 L = p16 a rest))
      (fun _ _ vi => L.length - (intOf vi).toNat)
    case atStart => exact ⟨0, 0, L, rfl, rfl, rfl, by omega, by omega, Lib.hid ⟨rfl, rfl⟩⟩
    case round =>
      obtain ⟨k, a, rest, rfl, rfl, rfl, hk, ha, hh⟩ := hrel
      obtain ⟨hd, hp⟩ := hh.out
      clear hh
      cases rest with
      | nil =>
        simp only [List.length_nil] at hk
        have hp' := hpar.trans hp
        clear hd hp hrow hpar
        go_wp2
        go_ret2
        exact ⟨⟨_, _, rfl, ha, .inl ⟨hp', rfl⟩⟩, hbl⟩
      | cons c r =>
        have hcell := hrow hd
        have hnext : L.drop (k + 1) = r := by rw [← List.drop_drop, hd]; rfl
        simp only [List.length_cons] at hk
        have h0 := bits_lo_u8 .or (c.toNat : Int) 32
        have h1 := bits_hi_u8 .or (c.toNat : Int) 32
        have hc256 : c.toNat < 256 := c.toNat_lt
        have HQ : Hid (p16 0 L = st16 (c.toNat : Int) (bits .or .u8 (c.toNat : Int) 32) a r) := Lib.hid hp
        have HD : Hid (parse16 L = st16 (c.toNat : Int) (bits .or .u8 (c.toNat : Int) 32) a r) := Lib.hid (hpar.trans hp)
        generalize hlc : bits .or .u8 (c.toNat : Int) 32 = lc at h0 h1 HQ HD
        obtain ⟨ci, hci⟩ : ∃ ci : Int, ci = (c.toNat : Int) := ⟨_, rfl⟩
        rw [← hci] at hcell hlc HQ HD
        have hc0 : 0 ≤ ci ∧ ci < 256 := by omega
        have h95 : ci = 95 → lc = 127 := fun h => by rw [← hlc, h]; exact or95
        have HR := Lib.hid hnext
        clear hci hc256 hp hpar hd hnext hrow
        go_wp2_with (go_at_call 52; refine (lower_any _ _).mono ?_; rintro e w' ⟨rfl, rfl⟩)
        all_goals first
          | (go_ret2
             refine ⟨⟨_, _, rfl, ?_⟩, hbl⟩
             have hD := HD.out
             first
               | exact (in16_bad (hD.trans (st_d0 (by omega) (by omega) (by omega))) (by omega)).1
               | exact (in16_bad (hD.trans (st_l0 (by omega) (by omega) (by omega))) (by omega)).2
               | exact (in16_bad (hD.trans (st_l1 (by omega) (by omega) (by omega) (by omega))) (by omega)).1
               | exact (in16_bad (hD.trans (st_n (by omega) (by omega))) (by omega)).2)
          | exact ⟨⟨k + 1, _, r, rfl, rfl, (by first | rfl | (congr 1; omega)), by omega, by omega, Lib.hid ⟨HR.out, HQ.out.trans (st_d1 (by omega) (by omega) (by omega))⟩⟩, by simp [intOf]; omega⟩
          | exact ⟨⟨k + 1, _, r, rfl, rfl, (by first | rfl | (congr 1; omega)), by omega, by omega, Lib.hid ⟨HR.out, HQ.out.trans (st_l2 (by omega) (by omega) (by omega) (by omega))⟩⟩, by simp [intOf]; omega⟩
end Go.Proofs.YtemhahfodblehaaDoor
