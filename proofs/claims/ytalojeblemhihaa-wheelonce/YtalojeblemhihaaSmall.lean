/-
  Contracts of the program's wheel: level, lay, Due, Len, Now.
-/
import Derived.Test.YtalojeblemhihaaWheel
import Derived.Test.YtalojeblemhihaaShelf
import Derived.Test.YtalojeblemhihaaForce
import Derived.Deep.RegionHeld3
import Derived.Deep.QuietTactic
import Derived.OwnWalk
import Derived.BigQuiet
namespace Go.Proofs.Ytalojeblemhihaa
open Go.RowKit
set_option linter.unusedVariables false

section
variable {w : World} {p lo hi now : Nat} {R : List Tm} {V : Nat → List Int} {bd : Nat} {g : Nat → Nat}
set_option maxHeartbeats 400000 in
theorem level_any (h : WhB w p lo hi now R V bd g) (d : Nat) (hd : d ≤ 4611686018427387904) : Calls Try.prog 31 #[ptr p, .int .u64 d] w fun e w' => e = .returned (.int .i64 (lv now d : Nat)) ∧ w' = w := by
  have c0 := h.c0
  have hn := h.le
  have hx := u64_xor_nat d now (by omega) (by omega)
  have hb : d ^^^ now < 2 ^ 63 := Nat.xor_lt_two_pow (by omega) (by omega)
  by_cases hle : d ≤ now
  · have hlei : (d : Int) ≤ (now : Int) := by omega
    rw [lv_over hle]
    clear h hx hb
    go_enter Try.func31, Try.ntmps31
    go_wp2
    go_ret
    exact ⟨rfl, rfl⟩
  · have hlei : ¬ (d : Int) ≤ (now : Int) := by omega
    have T := Try.bits_Len64 ((d ^^^ now : Nat) : Int) w (by omega) (by omega)
    rw [Int.toNat_natCast] at T
    have e : lv now d = Lib.bitLen (d ^^^ now) := by unfold lv; rw [if_neg hle]
    rw [e]
    generalize d ^^^ now = x at *
    generalize Lib.bitLen x = y at *
    clear h hb e
    go_enter Try.func31, Try.ntmps31
    go_wp2_with (go_at_call 36; refine T.mono ?_; rintro e w' ⟨rfl, rfl⟩)
    go_ret
    exact ⟨rfl, rfl⟩
set_option maxHeartbeats 400000 in
theorem due_any (h : WhB w p lo hi now R V bd g) (t : Int) (ht : wfI t) : Calls Try.prog 14 #[ptr p, .int .i64 t] w fun e w' => e = .returned (.tuple #[.int .u64 (dueT t R : Nat), .bool (hasT t R)]) ∧ w' = w := by
  have c1 := h.c1
  have L := h.dues.look h.ok ht
  generalize hasT t R = a at *
  generalize dueT t R = b at *
  clear h
  go_enter Try.func14, Try.ntmps14
  go_wp2
  go_ret2
  exact ⟨rfl, rfl⟩
set_option maxHeartbeats 400000 in
theorem len_any (h : WhB w p lo hi now R V bd g) : Calls Try.prog 20 #[ptr p] w fun e w' => e = .returned (.int .i64 R.length) ∧ w' = w := by
  have c1 := h.c1
  have L := h.dues.len
  clear h
  go_enter Try.func20, Try.ntmps20
  go_wp2
  go_ret
  exact ⟨rfl, rfl⟩
set_option maxHeartbeats 400000 in
theorem now_any (h : WhB w p lo hi now R V bd g) : Calls Try.prog 23 #[ptr p] w fun e w' => e = .returned (.int .u64 now) ∧ w' = w := by
  have c0 := h.c0
  clear h
  go_enter Try.func23, Try.ntmps23
  go_wp2
  go_ret
  exact ⟨rfl, rfl⟩
end
end Go.Proofs.Ytalojeblemhihaa
