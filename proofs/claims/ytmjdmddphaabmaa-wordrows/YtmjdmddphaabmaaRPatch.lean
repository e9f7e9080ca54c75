/-
  Contracts of the document's Patch.
-/
import Derived.Test.YtmjdmddphaabmaaPatch
namespace Go.Proofs.Ytmjdmddphaabmaa
open Go.RowKit

theorem splice_snoc (xs ys : List Int) (p : Nat) (y : Int) (h : p + ys.length < xs.length) : splice xs p (ys ++ [y]) = (splice xs p ys).set (p + ys.length) y := by
  apply List.ext_getElem
  · simp [splice]; omega
  · intro i h1 h2
    simp only [splice, List.getElem_set, List.getElem_append, List.length_take, List.length_append, List.length_singleton, List.getElem_take, List.getElem_drop, List.getElem_singleton]
    (repeat' split) <;> first | rfl | omega | (congr 1; omega)

/-- A byte of an own row: it is there, it may be written, and what the row is behind that. -/
theorem Out.at_ {w : World} {base : Nat} {A : Option Addr} {n c : Nat} {xs : List Int} (h : Out w base A n c xs) {i : Nat} (hi : i < n) :
    ∃ g, A = some ⟨g, 0, none⟩ ∧ base ≤ g ∧ w.cell? ⟨g, i, none⟩ = some (.int .u8 (xs.getD i 0)) ∧ w.frozen? ⟨g, i, none⟩ = false ∧
      ∀ x : Int, (Lit.int .u8 x).wf = true → Out (w.setCell ⟨g, i, none⟩ (.int .u8 x)) base A n c (xs.set i x) := by
  have hlen := h.len
  rcases h.form with ⟨_, h1, h2⟩ | ⟨g, cur, rfl, hb, hh, h1, h2, h3, h4⟩
  · omega
  · refine ⟨g, rfl, hb, ?_, by simp [World.frozen?, hh], fun x hx => ?_⟩
    · have := h.1.cells (g := g) rfl i (.int .u8 (xs.getD i 0)) (by simp [List.getD, List.getElem?_eq_getElem (show i < xs.length by omega)])
      have ha : (⟨g, 0, none⟩ : Addr).add i = ⟨g, i, none⟩ := by unfold Addr.add; split <;> simp_all
      rw [ha] at this
      exact this
    · refine ⟨⟨by simpa using hlen, .inr ⟨g, c, cur.setIfInBounds i (.int .u8 x), rfl, hb, ?_, h1, h2, by simpa using h3, ?_⟩⟩, ?_⟩
      · simp [World.setCell, Array.getElem?_modify, hh]
      · simp only [Nat.mul_one, Array.toList_setIfInBounds, List.map_set]
        rw [List.take_set, h4]
      · intro y hy
        rcases List.mem_or_eq_of_mem_set hy with hy | rfl
        · exact h.2 y hy
        · exact hx

theorem patch_snoc (xs ys : List Int) (a k : Nat) (h : a + ys.length ≤ xs.length) (hk : k < ys.length) :
    splice xs a (ys.take (k + 1)) = (splice xs a (ys.take k)).set (a + k) (ys.getD k 0) := by
  have e : ys.take (k + 1) = ys.take k ++ [ys.getD k 0] := by
    rw [List.take_succ_eq_append_getElem hk]; simp [List.getD, List.getElem?_eq_getElem hk]
  have hl : (ys.take k).length = k := by simp; omega
  rw [e, splice_snoc xs (ys.take k) a _ (by omega), hl]

set_option maxHeartbeats 1000000 in
theorem rpatch_ok (A A' : Option Addr) (n c m c' : Nat) (xs ys : List Int) (B B' a : Nat) (w : World) (hr : Rd .u8 w B A n c xs) (hB : B ≤ w.heap.size) (hr' : Rd .u8 w B' A' m c' ys) (hB' : B' ≤ w.heap.size) (hn : n ≤ 3000) (hfit : a + m ≤ n) :
    Calls Try.prog 20 #[.slice A n c, .int .i64 a, .slice A' m c'] w (Gives2 w (splice xs a ys) 0) := by
  have hmax := hr.max
  have hcap := hr.cap
  have HL := Lib.hid hr.len
  have HL' := Lib.hid hr'.len
  have g1 : decide ((n : Int) < (a : Int)) = false := by simp; omega
  have g2 : decide ((n : Int) - (a : Int) < (m : Int)) = false := by simp; omega
  have hr1 : Rd .u8 (w.alloc (.cells #[] 5)) B A n c xs := hr.below ((Below.refl w.heap.size w).alloc (Nat.le_refl _) _) hB
  go_enter Try.func20, Try.ntmps20
  go_wp2_with (at_builtin; refine wpList_app rfl _ _ 22 rfl w.heap.size Try.underlying22 info5 _ _ _ [] rfl (Out.lit0 w _ (Nat.le_refl _)) A n c B xs rfl hr1 (by omega) (by simp) ?_; intro A2 n2 c2 w1 hout hg)
  have hb1 : Below w.heap.size w w1 := ((Below.refl w.heap.size w).alloc (Nat.le_refl _) _).grown hg (by simp) (by intro k hk; simp [Value.ownBlock] at hk; omega)
  have hn2 : n2 = n := by have := hout.len; simp at this; rw [HL.out] at this; omega
  subst hn2
  have hout' : Out w1 w.heap.size A2 n2 c2 xs := hout
  clear hout hg hr1
  go_loopw [9] (fun i wr => ∃ k : Nat, k ≤ m ∧ i = .int .i64 k ∧ Out wr w.heap.size A2 n2 c2 (splice xs a (ys.take k)) ∧ Below w.heap.size w wr) (fun i _ => m - (intOf i).toNat)
  case atStart => exact ⟨0, Nat.zero_le _, rfl, by simpa [splice_nil] using hout', hb1⟩
  case round =>
    obtain ⟨k, hk, rfl, ho, hb⟩ := hrel
    clear hout' hb1
    by_cases hlt : k < m
    · obtain ⟨g, rfl, hbg, hc, hf, hset⟩ := ho.at_ (i := a + k) (by omega)
      obtain ⟨b, o, rfl, _, hcp⟩ := (hr'.below hb hB').at_ hlt
      have HP := Lib.hid (patch_snoc xs ys a k (by rw [HL.out, HL'.out]; omega) (by rw [HL'.out]; omega))
      have HS := Lib.hid (hset _ (hr'.wf hlt))
      clear hset
      generalize ys.getD k 0 = y at *
      generalize (splice xs a (ys.take k)).getD (a + k) 0 = z at *
      go_wp2
      go_roundw
      case rel => exact ⟨k + 1, by omega, by go_num, by rw [HP.out]; exact HS.out, hb.setCell hbg _⟩
      case measure => simp [intOf]; omega
    · obtain rfl : k = m := by omega
      have e : ys.take k = ys := List.take_of_length_le (by rw [HL'.out]; omega)
      rw [e] at ho
      clear e
      go_wp2
      go_ret2
      exact ⟨_, _, _, rfl, ho, hb⟩

set_option maxHeartbeats 400000 in
theorem rpatch_range (A A' : Option Addr) (n c m c' : Nat) (a : Int) (w : World) (h : a < 0) :
    Calls Try.prog 20 #[.slice A n c, .int .i64 a, .slice A' m c'] w (Gives2 w [] 11) := by
  go_enter Try.func20, Try.ntmps20
  go_wp2
  go_ret2
  exact ⟨_, _, _, rfl, Out.nil, Below.refl _ _⟩

set_option maxHeartbeats 400000 in
theorem rpatch_end (A A' : Option Addr) (n c m c' : Nat) (a : Int) (w : World) (_hn : (n : Int) ≤ 9223372036854775807) (hm : (m : Int) ≤ 9223372036854775807) (h0 : 0 ≤ a) (h : (n : Int) - m < a) :
    Calls Try.prog 20 #[.slice A n c, .int .i64 a, .slice A' m c'] w (Gives2 w [] 12) := by
  by_cases g1 : (n : Int) < a
  · go_enter Try.func20, Try.ntmps20
    go_wp2
    go_ret2
    exact ⟨_, _, _, rfl, Out.nil, Below.refl _ _⟩
  · have g2 : (n : Int) - a < m := by omega
    go_enter Try.func20, Try.ntmps20
    go_wp2
    go_ret2
    exact ⟨_, _, _, rfl, Out.nil, Below.refl _ _⟩

theorem rpatch_any (A A' : Option Addr) (n c m c' : Nat) (xs ys : List Int) (B B' : Nat) (a : Int) (w : World) (hr : Rd .u8 w B A n c xs) (hB : B ≤ w.heap.size) (hr' : Rd .u8 w B' A' m c' ys) (hB' : B' ≤ w.heap.size) (hn : n ≤ 3000) :
    Calls Try.prog 20 #[.slice A n c, .int .i64 a, .slice A' m c'] w (Gives2 w (patL xs a ys) (patE xs.length a ys.length)) := by
  have hlen := hr.len
  have hlen' := hr'.len
  have hmax := hr'.max
  have hcap := hr'.cap
  rcases pat_cases xs a ys with ⟨h, e1, e2⟩ | ⟨h0, h, e1, e2⟩ | ⟨i, rfl, h, e1, e2⟩
  · rw [e1, e2]; exact rpatch_range A A' n c m c' a w h
  · rw [e1, e2]; exact rpatch_end A A' n c m c' a w (by omega) (by omega) h0 (by omega)
  · rw [e1, e2]; exact rpatch_ok A A' n c m c' xs ys B B' i w hr hB hr' hB' hn (by omega)
end Go.Proofs.Ytmjdmddphaabmaa
