/-
  Contracts of SameInts and of the laws' alive.
-/
import Derived.Test.YtalojeblemhihaaRef4
namespace Go.Proofs.Ytalojeblemhihaa
open Go.RowKit
set_option linter.unusedVariables false

set_option maxHeartbeats 400000 in
theorem sameInts_any (A A' : Option Addr) (n c n' c' : Nat) (xs : List Int) (B B' : Nat) (w : World) (hr : Rd .i64 w B A n c xs) (hr' : Rd .i64 w B' A' n' c' xs) :
    Calls Try.prog 19 #[.slice A n c, .slice A' n' c'] w fun e w' => e = .returned (.bool true) ∧ Below w.heap.size w w' := by
  obtain rfl : n = n' := by rw [← hr.len, ← hr'.len]
  have hmax := hr.max
  have hcap := hr.cap
  go_enter Try.func19, Try.ntmps19
  go_wp2
  go_loopw [5] (fun i wr => ∃ k d : Nat, k ≤ n ∧ i = .int .i64 k ∧ wr = w.drewN d) (fun i _ => n - (intOf i).toNat)
  case atStart => exact ⟨0, 0, Nat.zero_le _, rfl, rfl⟩
  case round =>
    obtain ⟨k, d, hk, rfl, rfl⟩ := hrel
    by_cases hlt : k < n
    · obtain ⟨b, o, rfl, _, hc⟩ := hr.at_ hlt
      obtain ⟨b', o', rfl, _, hc'⟩ := hr'.at_ hlt
      generalize xs.getD k 0 = x at *
      go_wp2
      go_quiet (fail)
      go_wp2
      go_roundw
      case rel => exact ⟨k + 1, _, by omega, by go_num, rfl⟩
      case measure => simp [intOf]; omega
    · go_wp2
      go_ret
      exact ⟨rfl, below_drewN (Below.refl _ _) _⟩

theorem WhR.kept {S : Nat → Prop} {w w' : World} {p lo hi now : Nat} {R : List Tm} {bd : Nat} {g : Nat → Nat} (h : WhR w p lo hi now R bd g) (hk : Kept S w w') (hs : ∀ k, S k → lo ≤ k → k < hi → False) : WhR w' p lo hi now R bd g := let ⟨V, h, r⟩ := h; ⟨V, h.kept hk hs, r⟩
theorem WhR.new {w w' : World} {p lo hi now : Nat} {R : List Tm} {bd : Nat} {g : Nat → Nat} (h : WhR w p lo hi now R bd g) (hb : Below w.heap.size w w') : WhR w' p lo hi now R bd g := let ⟨V, h, r⟩ := h; ⟨V, h.new hb, r⟩
theorem WhR.bounds {w : World} {p lo hi now : Nat} {R : List Tm} {bd : Nat} {g : Nat → Nat} (h : WhR w p lo hi now R bd g) : lo ≤ p ∧ p < hi ∧ hi ≤ w.heap.size ∧ now ≤ 4611686018427387904 ∧ Ok R ∧ R.length ≤ 16384 := let ⟨V, h, r⟩ := h; ⟨h.inp.1, h.inp.2, h.room, h.le, h.ok, h.len⟩
/-- A wheel, wherever it lies. -/
def Whl (w : World) (lo hi p now : Nat) (R : List Tm) : Prop := ∃ bd g, WhR w p lo hi now R bd g
section
variable {w w' : World} {lo hi p now : Nat} {R : List Tm} {S : Nat → Prop}
theorem Whl.kept (h : Whl w lo hi p now R) (hk : Kept S w w') (hs : ∀ k, S k → lo ≤ k → k < hi → False) : Whl w' lo hi p now R := let ⟨bd, g, h⟩ := h; ⟨bd, g, h.kept hk hs⟩
theorem Whl.new (h : Whl w lo hi p now R) (hb : Below w.heap.size w w') : Whl w' lo hi p now R := let ⟨bd, g, h⟩ := h; ⟨bd, g, h.new hb⟩
theorem Whl.bounds (h : Whl w lo hi p now R) : lo ≤ p ∧ p < hi ∧ hi ≤ w.heap.size ∧ now ≤ 4611686018427387904 ∧ Ok R ∧ R.length ≤ 16384 := let ⟨_, _, h⟩ := h; h.bounds
theorem OnlyW.below {B : Nat} (h : OnlyW lo hi w w') (hB : B ≤ lo) (hs : B ≤ w.heap.size) : Below B w w' := Kept.below h hs (fun k hk => by omega)
theorem wnew (n : Nat) (hn : n ≤ 4611686018427387904) (w : World) : Calls Try.prog 9 #[.int .u64 n] w fun e w' => ∃ hi p, e = .returned (.tuple #[ptr p, .int .i64 0]) ∧ Whl w' w.heap.size hi p n [] ∧ Below w.heap.size w w' :=
  (new_any n hn w).mono fun e w' ⟨h1, h2, h3⟩ => ⟨_, _, h1, ⟨_, _, h2⟩, h3⟩
theorem wset (h : Whl w lo hi p now R) (t : Int) (hw : wfI t) (d : Nat) (hd : d < 18446744073709551616) : Calls Try.prog 17 #[ptr p, .int .i64 t, .int .u64 d] w fun e w' => e = .returned (.int .i64 (setE t d R)) ∧ Whl w' lo hi p now (setR t d R) ∧ OnlyW lo hi w w' := by
  obtain ⟨bd, g, h⟩ := h
  exact (set_any h t hw d hd).mono fun e w' ⟨h1, h2, h3⟩ => ⟨h1, ⟨_, _, h2⟩, h3⟩
theorem wcancel (h : Whl w lo hi p now R) (t : Int) (hw : wfI t) : Calls Try.prog 21 #[ptr p, .int .i64 t] w fun e w' => e = .returned (.bool (hasT t R)) ∧ Whl w' lo hi p now (delT t R) ∧ OnlyW lo hi w w' := by
  obtain ⟨bd, g, h⟩ := h
  exact (cancel_any h t hw).mono fun e w' ⟨h1, h2, h3⟩ => ⟨h1, ⟨_, _, h2⟩, h3⟩
theorem wgo (h : Whl w lo hi p now R) (n : Nat) : Calls Try.prog 18 #[ptr p, .int .u64 n] w fun e w' => ∃ A m c, e = .returned (.tuple #[.slice A m c, .int .i64 (goE now n)]) ∧ Out .i64 3 w' w.heap.size A m c (goL now n R) ∧ Whl w' lo hi p (goN now n) (goRR now n R) ∧ OnlyW lo hi w w' := by
  obtain ⟨bd, g, h⟩ := h
  exact (go_any h n).mono fun e w' ⟨A, m, c, h1, h2, h3, h4⟩ => ⟨A, m, c, h1, h2, ⟨_, _, h3⟩, h4⟩
theorem wnext (h : Whl w lo hi p now R) : Calls Try.prog 22 #[ptr p] w fun e w' => e = .returned (.tuple #[.int .u64 (nextT R : Nat), .bool (!R.isEmpty)]) ∧ Below w.heap.size w w' := let ⟨_, _, h⟩ := h; next_any h
theorem wclone (h : Whl w lo hi p now R) : Calls Try.prog 13 #[ptr p] w fun e w' => ∃ hi' p', e = .returned (ptr p') ∧ Whl w' w.heap.size hi' p' now R ∧ Below w.heap.size w w' := by
  obtain ⟨bd, g, h⟩ := h
  exact (clone_any h).mono fun e w' ⟨h1, h2, h3⟩ => ⟨_, _, h1, ⟨_, _, h2⟩, h3⟩
theorem wdue (h : Whl w lo hi p now R) (t : Int) (ht : wfI t) : Calls Try.prog 14 #[ptr p, .int .i64 t] w fun e w' => e = .returned (.tuple #[.int .u64 (dueT t R : Nat), .bool (hasT t R)]) ∧ w' = w := let ⟨_, _, _, h, _⟩ := h; due_any h t ht
theorem wlen (h : Whl w lo hi p now R) : Calls Try.prog 20 #[ptr p] w fun e w' => e = .returned (.int .i64 R.length) ∧ w' = w := let ⟨_, _, _, h, _⟩ := h; len_any h
theorem wnow (h : Whl w lo hi p now R) : Calls Try.prog 23 #[ptr p] w fun e w' => e = .returned (.int .u64 now) ∧ w' = w := let ⟨_, _, _, h, _⟩ := h; now_any h
end
set_option maxRecDepth 100000 in
set_option maxHeartbeats 2000000 in
theorem alive_any (w : World) : Calls Try.prog 8 #[] w fun e w' => e = .returned (.bool true) ∧ Below w.heap.size w w' := by
  have N := wnew 5 (by omega) w
  go_enter Try.func8, Try.ntmps8
  go_wp2_with fail
  refine N.mono ?_
  rintro ev w1 ⟨hi, p, rfl, h, b⟩
  clear N
  go_wp2_with fail
  refine (newBig_any 4611686018427387905 (by omega) w1).mono ?_
  rintro ev w2 ⟨rfl, rfl⟩
  have T := wset h 7 (by decide) 10 (by omega)
  have e : setR 7 10 [] = [(7, 10)] := by decide
  rw [e] at T
  go_wp2_with fail
  refine T.mono ?_
  rintro ev w3 ⟨rfl, h', k⟩
  replace b := b.trans (k.below (Nat.le_refl _) b.size)
  replace h := h'
  clear T e k h'
  have T := wset h 3 (by decide) 1000000 (by omega)
  have e : setR 3 1000000 [(7, 10)] = [(7, 10), (3, 1000000)] := by decide
  rw [e] at T
  go_wp2_with fail
  refine T.mono ?_
  rintro ev w4 ⟨rfl, h', k⟩
  replace b := b.trans (k.below (Nat.le_refl _) b.size)
  replace h := h'
  clear T e k h'
  have T := wset h 3 (by decide) 10 (by omega)
  have e : setR 3 10 [(7, 10), (3, 1000000)] = [(3, 10), (7, 10)] := by decide
  rw [e] at T
  go_wp2_with fail
  refine T.mono ?_
  rintro ev w5 ⟨rfl, h', k⟩
  replace b := b.trans (k.below (Nat.le_refl _) b.size)
  replace h := h'
  clear T e k h'
  have T := wset h 5 (by decide) 9 (by omega)
  have e : setR 5 9 [(3, 10), (7, 10)] = [(5, 9), (3, 10), (7, 10)] := by decide
  rw [e] at T
  go_wp2_with fail
  refine T.mono ?_
  rintro ev w6 ⟨rfl, h', k⟩
  replace b := b.trans (k.below (Nat.le_refl _) b.size)
  replace h := h'
  clear T e k h'
  have T := wset h 6 (by decide) 9 (by omega)
  have e : setR 6 9 [(5, 9), (3, 10), (7, 10)] = [(5, 9), (6, 9), (3, 10), (7, 10)] := by decide
  rw [e] at T
  go_wp2_with fail
  refine T.mono ?_
  rintro ev w7 ⟨rfl, h', k⟩
  replace b := b.trans (k.below (Nat.le_refl _) b.size)
  replace h := h'
  clear T e k h'
  have T := wcancel h 6 (by decide)
  have e : delT 6 [(5, 9), (6, 9), (3, 10), (7, 10)] = [(5, 9), (3, 10), (7, 10)] := by decide
  have e' : hasT 6 [(5, 9), (6, 9), (3, 10), (7, 10)] = true := by decide
  rw [e, e'] at T
  go_wp2_with fail
  refine T.mono ?_
  rintro ev w8 ⟨rfl, h', k⟩
  replace b := b.trans (k.below (Nat.le_refl _) b.size)
  replace h := h'
  clear T e e' k h'
  have T := wcancel h 6 (by decide)
  have e : delT 6 [(5, 9), (3, 10), (7, 10)] = [(5, 9), (3, 10), (7, 10)] := by decide
  have e' : hasT 6 [(5, 9), (3, 10), (7, 10)] = false := by decide
  rw [e, e'] at T
  go_wp2_with fail
  refine T.mono ?_
  rintro ev w9 ⟨rfl, h', k⟩
  replace b := b.trans (k.below (Nat.le_refl _) b.size)
  replace h := h'
  clear T e e' k h'
  have T : Calls Try.prog 22 #[ptr p] w9 fun e w' => e = .returned (.tuple #[.int .u64 9, .bool true]) ∧ Below w9.heap.size w9 w' := wnext h
  go_wp2_with fail
  refine T.mono ?_
  rintro ev w10 ⟨rfl, k⟩
  replace h := h.new k
  replace b := b.trans (k.mono b.size)
  clear T k
  have T := wclone h
  have hlo := h.bounds.2.2.1
  go_wp2_with fail
  refine T.mono ?_
  rintro ev w11 ⟨hi', p', rfl, c, k⟩
  replace h := h.new k
  replace b := b.trans (k.mono b.size)
  have hlo : hi ≤ w10.heap.size := by have := h.bounds; have := (wlen h); have := k.size; exact Nat.le_trans (Nat.le_refl _) (by first | omega | exact hroom)
  clear T k
  have T := wgo h 9
  have e1 : goE 5 9 = 0 := by decide
  have e2 : goL 5 9 [(5, 9), (3, 10), (7, 10)] = [5] := by decide
  have e3 : goN 5 9 = 9 := by decide
  have e4 : goRR 5 9 [(5, 9), (3, 10), (7, 10)] = [(3, 10), (7, 10)] := by decide
  rw [e1, e2, e3, e4] at T
  go_wp2_with fail
  refine T.mono ?_
  rintro ev w12 ⟨A0, m0, c0, rfl, o0, h', k⟩
  replace c := c.kept k (fun j h1 h2 h3 => by omega)
  have s0 := h.bounds.2.2.1
  replace b := b.trans (k.below (Nat.le_refl _) b.size)
  replace h := h'
  clear T e1 e2 e3 e4 k h'
  have T := wgo h 12
  have e1 : goE 9 12 = 0 := by decide
  have e2 : goL 9 12 [(3, 10), (7, 10)] = [3, 7] := by decide
  have e3 : goN 9 12 = 12 := by decide
  have e4 : goRR 9 12 [(3, 10), (7, 10)] = [] := by decide
  rw [e1, e2, e3, e4] at T
  go_wp2_with fail
  refine T.mono ?_
  rintro ev w13 ⟨A1, m1, c1, rfl, o1, h', k⟩
  replace c := c.kept k (fun j h1 h2 h3 => by omega)
  have s1 := h.bounds.2.2.1
  replace o0 := o0.kept k (fun ad e => by have := (o0.block ad e).1; omega)
  replace b := b.trans (k.below (Nat.le_refl _) b.size)
  replace h := h'
  clear T e1 e2 e3 e4 k h'
  have T := wgo h 11
  have e1 : goE 12 11 = 22 := by decide
  have e2 : goL 12 11 [] = [] := by decide
  have e3 : goN 12 11 = 12 := by decide
  have e4 : goRR 12 11 [] = [] := by decide
  rw [e1, e2, e3, e4] at T
  go_wp2_with fail
  refine T.mono ?_
  rintro ev w14 ⟨A2, m2, c2, rfl, o2, h', k⟩
  replace c := c.kept k (fun j h1 h2 h3 => by omega)
  have s2 := h.bounds.2.2.1
  replace o0 := o0.kept k (fun ad e => by have := (o0.block ad e).1; omega)
  replace o1 := o1.kept k (fun ad e => by have := (o1.block ad e).1; omega)
  replace b := b.trans (k.below (Nat.le_refl _) b.size)
  replace h := h'
  clear T e1 e2 e3 e4 k h'
  have T := wdue h 7 (by decide)
  have e1 : dueT 7 [] = 0 := by decide
  have e2 : hasT 7 [] = false := by decide
  rw [e1, e2] at T
  go_wp2_with fail
  refine T.mono ?_
  rintro ev wz ⟨rfl, rfl⟩
  clear T e1 e2
  have T := wdue c 7 (by decide)
  have e1 : dueT 7 [(5, 9), (3, 10), (7, 10)] = 10 := by decide
  have e2 : hasT 7 [(5, 9), (3, 10), (7, 10)] = true := by decide
  rw [e1, e2] at T
  go_wp2_with fail
  refine T.mono ?_
  rintro ev w20 ⟨rfl, rfl⟩
  clear T e1 e2
  have q := alloc_below w20 (.cells #[.int .i64 5] 3)
  have r5 : Rd .i64 (w20.alloc (.cells #[.int .i64 5] 3)) (w20.heap.size + 1) (some ⟨w20.heap.size, 0, none⟩) 1 1 [5] := rd_lit .i64 3 w20 [5] 1 rfl (by omega) (by decide)
  have T := sameInts_any _ _ _ _ _ _ _ _ _ _ (o0.below q (Nat.le_refl _)).rd r5
  replace h := h.new q
  replace c := c.new q
  replace o1 := o1.below q (Nat.le_refl _)
  replace b := b.trans (q.mono b.size)
  clear q r5 o0 o2
  go_wp2_with fail
  refine T.mono ?_
  rintro ev w21 ⟨rfl, q⟩
  replace h := h.new q
  replace c := c.new q
  replace o1 := o1.below q (Nat.le_refl _)
  replace b := b.trans (q.mono b.size)
  clear q T
  have q := alloc_below w21 (.cells #[.int .i64 3, .int .i64 7] 3)
  have r37 : Rd .i64 (w21.alloc (.cells #[.int .i64 3, .int .i64 7] 3)) (w21.heap.size + 1) (some ⟨w21.heap.size, 0, none⟩) 2 2 [3, 7] := rd_lit .i64 3 w21 [3, 7] 2 rfl (by omega) (by decide)
  have T := sameInts_any _ _ _ _ _ _ _ _ _ _ (o1.below q (Nat.le_refl _)).rd r37
  replace h := h.new q
  replace c := c.new q
  replace b := b.trans (q.mono b.size)
  clear q r37 o1
  go_wp2_with fail
  refine T.mono ?_
  rintro ev w22 ⟨rfl, q⟩
  replace h := h.new q
  replace c := c.new q
  replace b := b.trans (q.mono b.size)
  clear q T
  have T : Calls Try.prog 23 #[ptr p] w22 fun e w' => e = .returned (.int .u64 12) ∧ w' = w22 := wnow h
  go_wp2_with fail
  refine T.mono ?_
  rintro ev w23 ⟨rfl, rfl⟩
  clear T
  have T : Calls Try.prog 20 #[ptr p] w23 fun e w' => e = .returned (.int .i64 0) ∧ w' = w23 := wlen h
  go_wp2_with fail
  refine T.mono ?_
  rintro ev w24 ⟨rfl, rfl⟩
  clear T
  have T : Calls Try.prog 20 #[ptr p'] w24 fun e w' => e = .returned (.int .i64 3) ∧ w' = w24 := wlen c
  go_wp2_with fail
  refine T.mono ?_
  rintro ev w25 ⟨rfl, rfl⟩
  clear T
  go_wp2
  go_ret
  exact ⟨rfl, b⟩
end Go.Proofs.Ytalojeblemhihaa
