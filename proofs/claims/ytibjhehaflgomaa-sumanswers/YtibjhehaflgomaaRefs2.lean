/-
  Contracts of the document's Patch, of Long and of join.
-/
import Derived.Test.YtibjhehaflgomaaRefs
import Derived.Test.YtibjhehaflgomaaTotal
namespace Go.Proofs.Ytibjhehaflgomaa
open Go.RowKit

set_option maxHeartbeats 1000000 in
theorem refPatch_no (s : Int) (A A2 : Option Addr) (n c n2 c2 B B2 : Nat) (xs ys : List Int) (w : World) (hr : Rd .u8 w B A n c xs) (hr2 : Rd .u8 w B2 A2 n2 c2 ys) (h : ¬ (n = n2 ∧ n % 2 = 0)) :
    Calls Try.prog 12 #[.int .u16 s, .slice A n c, .slice A2 n2 c2] w fun e w' => e = .returned (.tuple #[.int .u16 0, .int .i64 11]) ∧ Below w.heap.size w w' := by
  have hmax := hr.max
  have hcap := hr.cap
  have hmax2 := hr2.max
  have hcap2 := hr2.cap
  go_enter Try.func12, Try.ntmps12
  by_cases hn : n = n2
  · have hm : (n : Int).tmod 2 = 1 := by
      have : (n : Int).tmod 2 = ((n % 2 : Nat) : Int) := rfl
      omega
    go_wp2
    go_ret2
    exact ⟨rfl, Below.refl _ _⟩
  · have hn' : ¬ (n : Int) = (n2 : Int) := by omega
    go_wp2
    go_ret2
    exact ⟨rfl, Below.refl _ _⟩
theorem refPatch_any (s : Int) (A A2 : Option Addr) (n c n2 c2 B B2 : Nat) (xs ys : List Int) (w : World) (hs : W16 s) (hr : Rd .u8 w B A n c xs) (hr2 : Rd .u8 w B2 A2 n2 c2 ys) (hn : n ≤ 100000000) :
    Calls Try.prog 12 #[.int .u16 s, .slice A n c, .slice A2 n2 c2] w fun e w' => e = .returned (.tuple #[.int .u16 (patV s xs ys), .int .i64 (patE n n2)]) ∧ Below w.heap.size w w' := by
  have h1 := hr.len
  have h2 := hr2.len
  by_cases h : n = n2 ∧ n % 2 = 0
  · have e1 : patV s xs ys = patF s xs ys := if_pos (by rw [h1, h2]; exact h)
    have e2 : patE n n2 = 0 := if_pos h
    rw [e1, e2]
    obtain ⟨rfl, hm⟩ := h
    exact refPatch_ok s A A2 n c c2 B B2 xs ys w hs hr hr2 hm hn
  · have e1 : patV s xs ys = 0 := if_neg (by rw [h1, h2]; exact h)
    have e2 : patE n n2 = 11 := if_neg h
    rw [e1, e2]
    exact refPatch_no s A A2 n c n2 c2 B B2 xs ys w hr hr2 h

theorem take_flat (ps : List (List Int)) (k : Nat) (h : k < ps.length) : (ps.take (k + 1)).flatten = (ps.take k).flatten ++ ps.getD k [] := by
  have : ps.getD k [] = ps[k] := by simp [List.getD, List.getElem?_eq_getElem h]
  rw [List.take_succ_eq_append_getElem h, List.flatten_append, this, List.flatten_cons, List.flatten_nil, List.append_nil]

/-- What Long answers: where it says no, there are few bytes. -/
def LongR (n : Nat) (ps : List (List Int)) (w : World) (e : Ending) (w' : World) : Prop := ∃ lb : Bool, e = .returned (.bool lb) ∧ (lb = false → n ≤ 3000 ∧ ps.flatten.length ≤ 3000) ∧ w = w'

set_option maxHeartbeats 1000000 in
theorem long_any (A : Option Addr) (n c B B1 : Nat) (X : Nat → Prop) (ps : List (List Int)) (w : World) (hR : Rows2 w X B B1 A n c ps) :
    Calls Try.prog 9 #[.slice A n c, .int .i64 3000] w (LongR n ps w) := by
  have hmax := hR.2.1
  have hcap := hR.2.2.1
  have HL := Lib.hid hR.1
  by_cases hn : n ≤ 3000
  · go_enter Try.func9, Try.ntmps9
    go_wp2
    go_loop [5, 6] (fun v i => ∃ (k t : Nat), k ≤ n ∧ i = .int .i64 k ∧ v = .int .i64 t ∧ t ≤ 3000 ∧ (ps.take k).flatten.length = t) (fun _ i => n - (intOf i).toNat)
    case atStart => exact ⟨0, 0, Nat.zero_le _, rfl, rfl, by omega, rfl⟩
    case round =>
      obtain ⟨k, t, hk, rfl, rfl, ht, hlen⟩ := hrel
      by_cases hlt : k < n
      · obtain ⟨b, o, A', n', c', rfl, hb, hc, hr⟩ := hR.2.2.2 k hlt
        have hm' := hr.max
        have hc' := hr.cap
        have h1 := congrArg List.length (take_flat ps k (by rw [HL.out]; exact hlt))
        rw [List.length_append, hlen, hr.len] at h1
        have H1 := Lib.hid h1
        clear h1 hlen
        by_cases g1 : n' ≤ 3000
        · by_cases g2 : t + n' ≤ 3000
          · go_wp2
            go_round
            case rel => exact ⟨k + 1, t + n', by omega, by go_num, by go_num, g2, H1.out⟩
            case measure => simp [intOf]; omega
          · go_wp2
            go_ret
            exact ⟨true, rfl, (fun h => by cases h), rfl⟩
        · go_wp2
          go_ret
          exact ⟨true, rfl, (fun h => by cases h), rfl⟩
      · obtain rfl : k = n := by omega
        rw [← HL.out, List.take_length] at hlen
        go_wp2
        go_ret
        exact ⟨false, rfl, fun _ => ⟨hn, by omega⟩, rfl⟩
  · go_enter Try.func9, Try.ntmps9
    go_wp2
    go_ret
    exact ⟨true, rfl, (fun h => by cases h), rfl⟩

set_option maxHeartbeats 1000000 in
theorem join_any (A : Option Addr) (n c : Nat) (ps : List (List Int)) (w : World) (hR : Rows2 w (fun _ => False) w.heap.size w.heap.size A n c ps) (hn : ps.flatten.length ≤ 3000) :
    Calls Try.prog 10 #[.slice A n c] w fun e w' => ∃ A' n' c', e = .returned (.slice A' n' c') ∧ Out .u8 5 w' w.heap.size A' n' c' ps.flatten ∧ Below w.heap.size w w' := by
  have hmax := hR.2.1
  have hcap := hR.2.2.1
  have HL := Lib.hid hR.1
  go_enter Try.func10, Try.ntmps10
  go_wp2
  go_loopw [3, 4] (fun v i wr => ∃ (k : Nat) (A' : Option Addr) (n' c' : Nat), k ≤ n ∧ i = .int .i64 k ∧ v = .slice A' n' c' ∧ Out .u8 5 wr w.heap.size A' n' c' (ps.take k).flatten ∧ Below w.heap.size w wr) (fun _ i _ => n - (intOf i).toNat)
  case atStart => exact ⟨0, _, _, _, Nat.zero_le _, rfl, rfl, Out.lit0 _ _ w _ (Nat.le_refl _), (Below.refl _ w).alloc (Nat.le_refl _) _⟩
  case round =>
    obtain ⟨k, A', n', c', hk, rfl, rfl, hout, hbel⟩ := hrel
    by_cases hlt : k < n
    · have hR' := hR.later (X' := fun _ => False) hbel (Nat.le_refl _) (Nat.le_refl _) (fun _ h => h.elim)
      obtain ⟨b, o, A2, n2, c2, rfl, hb, hc, hr⟩ := hR'.2.2.2 k hlt
      have h1 := take_flat ps k (by rw [HL.out]; exact hlt)
      have h2 : n' + n2 ≤ 3000 := by
        have e1 := congrArg List.length h1
        rw [List.length_append, hout.len, hr.len] at e1
        have e2 : (ps.take (k + 1)).flatten.length ≤ ps.flatten.length := by
          have := congrArg (fun l => l.flatten.length) (List.take_append_drop (k + 1) ps)
          simp only [List.flatten_append, List.length_append] at this
          omega
        omega
      have H1 := Lib.hid h1
      clear h1
      generalize ps.getD k [] = zs at *
      go_wp2_with (at_builtin; refine wpList_app rfl _ _ 24 rfl w.heap.size Try.underlying24 info5 (by omega) _ _ _ _ rfl hout A2 n2 c2 _ zs rfl hr (by omega) (by exact hbel.size) ?_; intro A3 n3 c3 w3 hout3 hg)
      go_roundw
      case rel => exact ⟨k + 1, A3, n3, c3, by omega, by go_num, rfl, by rw [H1.out]; exact hout3, hbel.grown hg hbel.size (fun j e => by
        rcases hout.form with ⟨e0, _⟩ | ⟨g, _, e0, hg0, _⟩
        · rw [e0] at e; simp [Value.ownBlock] at e
        · rw [e0] at e; simp [Value.ownBlock] at e; omega)⟩
      case measure => simp [intOf]; omega
    · obtain rfl : k = n := by omega
      rw [← HL.out, List.take_length] at hout
      go_wp2
      go_ret
      exact ⟨A', n', c', rfl, hout, hbel⟩
end Go.Proofs.Ytibjhehaflgomaa
