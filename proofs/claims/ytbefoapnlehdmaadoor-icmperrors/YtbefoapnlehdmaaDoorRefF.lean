/-
  Contracts of the document's New and Reason.
-/
import Derived.Test.YtbefoapnlehdmaaDoorAt
namespace Go.Proofs.YtbefoapnlehdmaaDoor
open Go.RowKit

/-- The row at A is that at A0, or none, or new. -/
def New (w w' : World) (A0 A : Option Addr) : Prop := A = A0 ∨ A = none ∨ ∃ ad, A = some ad ∧ w.heap.size ≤ ad.block ∧ ad.block < w'.heap.size
theorem out_new {k : IntKind} {t : TypeId} {w w2 w' : World} {base : Nat} {A0 A : Option Addr} {n c : Nat} {xs : List Int} (h : Out k t w2 base A n c xs) (hb : w.heap.size ≤ base) (hw : w2.heap.size ≤ w'.heap.size) : New w w' A0 A := by
  rcases h.form with ⟨h, _⟩ | ⟨g, _, h, h', hh, _⟩
  · exact .inr (.inl h)
  · have hlt := (Array.getElem?_eq_some_iff.1 hh).1
    exact .inr (.inr ⟨_, h, by show w.heap.size ≤ g; omega, by show g < w'.heap.size; omega⟩)
/-- A fault of the document's: its reasons read as xs, its error is e; its row is that at A0, or new. -/
def GivesF (w : World) (A0 : Option Addr) (xs : List Int) (e : Int) (ev : Ending) (w' : World) : Prop :=
  ∃ A n c, ev = .returned (.agg #[.slice A n c, .int .i64 e]) ∧ Rd .i64 w' w'.heap.size A n c xs ∧ New w w' A0 A ∧ Below w.heap.size w w'

set_option maxHeartbeats 1000000 in
theorem refNew_any (r e : Int) (w : World) (hwf : (Lit.int .i64 r).wf = true) :
    Calls Tryd.prog 38 #[.int .i64 r, .int .i64 e] w (GivesF w none (if e = 0 ∨ isR r = false then [] else [r]) (if e = 0 ∨ isR r = false then 0 else e)) := by
  by_cases he : e = 0
  · rw [if_pos (.inl he), if_pos (.inl he)]
    subst he
    go_enter Tryd.func38, Tryd.ntmps38
    go_wp2
    exact bodyPost_ret (v := .agg #[.slice none 0 0, .int .i64 0]) (by simp [results, Tryd.results38, go_sem]) rfl ⟨none, 0, 0, rfl, Rd.nil, .inl rfl, alloc_below w _⟩
  · have he' : (e == 0) = false := by simpa using he
    have hE := word_isEmpty r
    by_cases hr : isR r = true
    · rw [if_neg (by simp [he, hr]), if_neg (by simp [he, hr])]
      rw [hr] at hE
      clear he
      go_enter Tryd.func38, Tryd.ntmps38
      go_wp2_with fail
      with_reducible refine (refWord_any _ _).mono ?_
      rintro ev w1 ⟨rfl, hb⟩
      have hb0 := (alloc_below w _).trans (hb.mono (by simp))
      have hz : w.heap.size < w1.heap.size := by have := hb.size; simp at this; omega
      have d0 : w1.cell? ⟨w.heap.size, 0, none⟩ = some (.slice none 0 0) := by rw [hb.cell (by simp)]; simp
      have d1 : w1.cell? ⟨w.heap.size, 1, none⟩ = some (.int .i64 0) := by rw [hb.cell (by simp)]; simp
      have e0 : w1.frozen? ⟨w.heap.size, 0, none⟩ = false := by rw [hb.frozen (by simp)]; simp
      have e1 : w1.frozen? ⟨w.heap.size, 1, none⟩ = false := by rw [hb.frozen (by simp)]; simp
      clear hb
      go_wp2
      refine bodyPost_ret (v := .agg #[.slice (some ⟨w1.heap.size, 0, none⟩) 1 1, .int .i64 e]) (by simp [results, Tryd.results38, go_sem, d0, d1, hz]) rfl ⟨_, _, _, rfl, ?_, .inr (.inr ⟨_, rfl, by simp; omega, by simp⟩), ?_⟩
      · have := rd_lit .i64 3 ((w1.setCell ⟨w.heap.size, 0, none⟩ (.slice (some ⟨w1.heap.size, 0, none⟩) 1 1)).setCell ⟨w.heap.size, 1, none⟩ (.int .i64 e)) [r] 1 rfl (by omega) (by simpa using hwf)
        simpa using this
      · exact ((hb0.setCell (Nat.le_refl _) _).setCell (Nat.le_refl _) _).alloc (by simp; omega) _
    · have hr : isR r = false := by simpa using hr
      rw [if_pos (.inr hr), if_pos (.inr hr)]
      rw [hr] at hE
      clear he
      go_enter Tryd.func38, Tryd.ntmps38
      go_wp2_with fail
      with_reducible refine (refWord_any _ _).mono ?_
      rintro ev w1 ⟨rfl, hb⟩
      have hb0 := (alloc_below w _).trans (hb.mono (by simp))
      have d0 : w1.cell? ⟨w.heap.size, 0, none⟩ = some (.slice none 0 0) := by rw [hb.cell (by simp)]; simp
      have d1 : w1.cell? ⟨w.heap.size, 1, none⟩ = some (.int .i64 0) := by rw [hb.cell (by simp)]; simp
      have e0 : w1.frozen? ⟨w.heap.size, 0, none⟩ = false := by rw [hb.frozen (by simp)]; simp
      have e1 : w1.frozen? ⟨w.heap.size, 1, none⟩ = false := by rw [hb.frozen (by simp)]; simp
      clear hb
      go_wp2
      exact bodyPost_ret (v := .agg #[.slice none 0 0, .int .i64 0]) (by simp [results, Tryd.results38, go_sem, d0, d1]) rfl ⟨_, _, _, rfl, Rd.nil, .inl rfl, (hb0.setCell (Nat.le_refl _) _).setCell (Nat.le_refl _) _⟩

set_option maxHeartbeats 400000 in
theorem refReason_any (A : Option Addr) (n c : Nat) (xs : List Int) (e : Int) (w : World) (hr : Rd .i64 w w.heap.size A n c xs) :
    Calls Tryd.prog 41 #[.agg #[.slice A n c, .int .i64 e]] w fun ev w' => ev = .returned (.int .i64 (reasonV e xs)) ∧ Below w.heap.size w w' := by
  have hmax := hr.max
  have hcap := hr.cap
  have hlen := hr.len
  cases xs with
  | nil =>
    obtain rfl : 0 = n := hlen
    go_enter Tryd.func41, Tryd.ntmps41
    go_wp2_with (go_at_call 60; refine (refOf_any _ _).mono ?_; rintro ev w' ⟨rfl, rfl⟩)
    go_ret
    exact ⟨rfl, alloc_below w _⟩
  | cons r xs =>
    have hn : 0 < n := by simp at hlen; omega
    obtain ⟨b, o, rfl, hb, hc⟩ := (hr.below (alloc_below w (.cells #[.slice A n c, .int .i64 e] 36)) (Nat.le_refl _)).at_ hn
    simp at hc
    clear hlen
    go_enter Tryd.func41, Tryd.ntmps41
    go_wp2
    go_ret
    exact ⟨rfl, alloc_below w _⟩
end Go.Proofs.YtbefoapnlehdmaaDoor
