/-
  Contracts of the small functions: isSize, reaches, fits, At (both).
-/
import Derived.Test.YtmjdmddphaabmaaRows
import Derived.Test.YtmjdmddphaabmaaBase
import Derived.BigQuiet
import Derived.Deep.QuietTactic
namespace Go.Proofs.Ytmjdmddphaabmaa
open Go.RowKit

def okSize (s : Int) : Bool := decide (1 ≤ s) && decide (s ≤ 8)

theorem okSize_t {s : Int} (h : okSize s = true) : 1 ≤ s ∧ s ≤ 8 := by simpa [okSize] using h
theorem okSize_f {s : Int} (h : okSize s = false) : ¬ (1 ≤ s ∧ s ≤ 8) := by
  intro hc
  have : okSize s = true := by simpa [okSize] using hc
  rw [this] at h
  cases h

set_option maxHeartbeats 400000 in
theorem isSize_any (s : Int) (w : World) : Calls Try.prog 21 #[.int .i64 s] w fun e w' => e = .returned (.bool (okSize s)) ∧ w = w' := by
  by_cases h1 : 1 ≤ s <;> by_cases h8 : s ≤ 8
  all_goals
    have H : Hid (okSize s = (decide (1 ≤ s) && decide (s ≤ 8))) := rfl
    go_enter Try.func21, Try.ntmps21
    go_wp2
    go_ret
    exact ⟨by rw [H.out]; simp [h1, h8], rfl⟩

set_option maxHeartbeats 400000 in
theorem reaches_any (l a s : Int) (w : World) (hl : 0 ≤ l ∧ l ≤ 9223372036854775807) (hs : 0 ≤ s ∧ s ≤ 9223372036854775807) : Calls Try.prog 22 #[.int .i64 l, .int .i64 a, .int .i64 s] w fun e w' => e = .returned (.bool (decide (a ≤ l - s))) ∧ w = w' := by
  go_enter Try.func22, Try.ntmps22
  go_wp2
  go_ret
  exact ⟨rfl, rfl⟩
end Go.Proofs.Ytmjdmddphaabmaa
