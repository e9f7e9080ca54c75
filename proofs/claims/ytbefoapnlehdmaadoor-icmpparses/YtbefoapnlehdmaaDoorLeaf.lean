/-
  Contracts of the leaves: isReason, Of (the program's, the document's), words, Word.
-/
import Derived.Test.YtbefoapnlehdmaaDoorProg
import Derived.Test.YtbefoapnlehdmaaDoorBase
import Derived.Outline
namespace Go.Proofs.YtbefoapnlehdmaaDoor
open Go.RowKit

theorem ret_int {k : IntKind} {a b : Int} (h : a = b) : Ending.returned (.int k a) = .returned (.int k b) := by rw [h]
theorem ret_bool {a b : Bool} (h : a = b) : Ending.returned (.bool a) = .returned (.bool b) := by rw [h]
theorem ret_string {a b : ByteArray} (h : a = b) : Ending.returned (.string a) = .returned (.string b) := by rw [h]

/-- Is there such a reason? -/
def isR (n : Int) : Bool := decide (1 ≤ n) && decide (n ≤ 19)
theorem isR_yes {n : Int} (h : isR n = true) : 1 ≤ n ∧ n ≤ 19 := by simpa [isR] using h
theorem isR_no {n : Int} (h : isR n = false) : n < 1 ∨ 19 < n := by
  by_cases h1 : 1 ≤ n
  · right; by_cases h2 : n ≤ 19
    · simp [isR, h1, h2] at h
    · omega
  · left; omega

theorem isReason_any (n : Int) (w : World) : Calls Tryd.prog 57 #[.int .i64 n] w fun e w' => e = .returned (.bool (isR n)) ∧ w = w' := by
  go_enter Tryd.func57, Tryd.ntmps57
  go_wp2
  all_goals
    go_ret
    refine ⟨ret_bool ?_, rfl⟩
    unfold isR
    simp_all
    try omega

/-- The reason of an error of api's. -/
def ofV (e : Int) : Int :=
  if e = 0 then 0 else if e = 13 then 2 else if e = 15 then 3 else if e = 21 then 4 else if e = 20 then 5 else if e = 18 then 11 else if e = 19 then 9 else if e = 14 then 16 else if e = 22 then 19 else 1
theorem of_any (n : Int) (w : World) : Calls Tryd.prog 56 #[.int .i64 n] w fun e w' => e = .returned (.int .i64 (ofV n)) ∧ w = w' := by
  go_enter Tryd.func56, Tryd.ntmps56
  go_wp2
  all_goals
    go_ret
    exact ⟨ret_int (by unfold ofV; simp_all), rfl⟩
theorem refOf_any (n : Int) (w : World) : Calls Tryd.prog 60 #[.int .i64 n] w fun e w' => e = .returned (.int .i64 (ofV n)) ∧ w = w' := by
  go_enter Tryd.func60, Tryd.ntmps60
  go_wp2
  all_goals
    go_ret
    exact ⟨ret_int (by unfold ofV; simp_all), rfl⟩
theorem ofV_reason {e : Int} (h : ¬ e = 0) : isR (ofV e) = true := by
  unfold ofV isR
  repeat' split
  all_goals simp_all


/-- The reasons' words, at their numbers. -/
def wordsA : List ByteArray := [⟨#[]⟩, ⟨#[102, 111, 114, 109]⟩, ⟨#[115, 117, 109]⟩, ⟨#[118, 101, 114, 115, 105, 111, 110]⟩, ⟨#[111, 112, 116, 105, 111, 110]⟩, ⟨#[102, 114, 97, 103]⟩, ⟨#[116, 116, 108]⟩, ⟨#[114, 111, 117, 116, 101]⟩, ⟨#[102, 105, 108, 116, 101, 114]⟩, ⟨#[115, 116, 97, 116, 101]⟩, ⟨#[112, 111, 114, 116, 115]⟩, ⟨#[102, 117, 108, 108]⟩, ⟨#[119, 97, 105, 116]⟩, ⟨#[98, 117, 102, 102, 101, 114]⟩, ⟨#[114, 105, 110, 103]⟩, ⟨#[104, 111, 115, 116]⟩, ⟨#[107, 105, 110, 100]⟩, ⟨#[108, 111, 99, 97, 108]⟩, ⟨#[115, 101, 108, 102]⟩, ⟨#[111, 108, 100]⟩]
def wordAt (k : Nat) : ByteArray := wordsA.getD k ⟨#[]⟩
/-- A slice that holds the words. -/
def Words (w : World) (v : Value) (w' : World) : Prop := ∃ g, v = .slice (some ⟨g, 0, none⟩) 20 20 ∧ (∀ k, k < 20 → w'.cell? ⟨g, k, none⟩ = some (.string (wordAt k))) ∧ Below w.heap.size w w'
theorem words_cells (w : World) (t : TypeId) : ∀ k, k < 20 → (w.alloc (.cells (wordsA.map Value.string).toArray t)).cell? ⟨w.heap.size, k, none⟩ = some (.string (wordAt k)) := by
  intro k hk
  rw [cell_of_row _ _ _ (wordsA.map Value.string).toArray t (0, 0) (heap_alloc_new w _)]
  have hl : wordsA.length = 20 := rfl
  simp [wordAt, List.getD, List.getElem?_eq_getElem (show k < wordsA.length by omega)]
theorem refWords_any (w : World) : Calls Tryd.prog 76 #[] w fun e w' => ∃ v, e = .returned v ∧ Words w v w' := by
  go_enter Tryd.func76, Tryd.ntmps76
  go_wp2
  go_ret
  exact ⟨_, rfl, w.heap.size, rfl, words_cells w 9, (Below.refl _ w).alloc (Nat.le_refl _) _⟩

/-- A reason's word. -/
def wordV (n : Int) : ByteArray := if isR n = true then wordAt n.toNat else ⟨#[]⟩
theorem refWord_any (n : Int) (w : World) : Calls Tryd.prog 58 #[.int .i64 n] w fun e w' => e = .returned (.string (wordV n)) ∧ Below w.heap.size w w' := by
  by_cases h : isR n = true
  · have hw : wordV n = wordAt n.toNat := by simp only [wordV, if_pos h]
    rw [hw]
    obtain ⟨h1, h2⟩ := isR_yes h
    obtain ⟨k, rfl⟩ := Int.eq_ofNat_of_zero_le (show 0 ≤ n by omega)
    rw [Int.toNat_natCast]
    clear hw h
    go_enter Tryd.func58, Tryd.ntmps58
    go_wp2_with fail
    refine (refWords_any _).mono ?_
    rintro e w1 ⟨v, rfl, g, rfl, hc, hb⟩
    have hck := hc k (by omega)
    clear hc
    go_wp2
    go_ret
    exact ⟨rfl, hb⟩
  · have hw : wordV n = ⟨#[]⟩ := by simp only [wordV, if_neg h]
    rw [hw]
    rcases isR_no (by simpa using h) with h' | h'
    all_goals
      clear hw h
      go_enter Tryd.func58, Tryd.ntmps58
      go_wp2
      go_ret
      exact ⟨rfl, Below.refl _ _⟩
/-- A word is empty just where there is no such reason. -/
theorem wordAt_ne : ∀ k, k < 20 → 1 ≤ k → (wordAt k).size ≠ 0 := by decide +kernel
theorem wordV_size (n : Int) : ((wordV n).size == 0) = !isR n := by
  by_cases h : isR n = true
  · obtain ⟨h1, h2⟩ := isR_yes h
    have := wordAt_ne n.toNat (by omega) (by omega)
    simp [wordV, h, this]
  · simp [wordV, h]; rfl
end Go.Proofs.YtbefoapnlehdmaaDoor
