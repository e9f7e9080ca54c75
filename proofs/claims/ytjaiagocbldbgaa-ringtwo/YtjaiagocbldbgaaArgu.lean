/-
  A row of calls that came in; great.
-/
import Derived.Test.YtjaiagocbldbgaaLeafs
import Derived.Test.YtjaiagocbldbgaaIndex
namespace Go.Proofs.Ytjaiagocbldbgaa
open Go.RowKit
set_option linter.unusedVariables false

/-- The cells of a call. -/
abbrev box (wh bu fr : Int) (A : Option Addr) (n c : Nat) : Array Value := #[.int .i64 wh, .int .i64 bu, .int .i64 fr, .slice A n c]
/-- A call, as it lies. -/
structure Cal where
  wh : Int
  bu : Int
  fr : Int
  A : Option Addr
  n : Nat
  c : Nat
  xs : List Int
/-- The four cells of a call. -/
def CalAt (w : World) (b o : Nat) (q : Cal) : Prop :=
  w.cell? ⟨b, o, none⟩ = some (.int .i64 q.wh) ∧ w.cell? ⟨b, o + 1, none⟩ = some (.int .i64 q.bu) ∧ w.cell? ⟨b, o + 2, none⟩ = some (.int .i64 q.fr) ∧ w.cell? ⟨b, o + 3, none⟩ = some (.slice q.A q.n q.c)
/-- A slice of calls. -/
def CallsAt (w : World) (B : Nat) (A : Option Addr) (n c : Nat) (qs : Nat → Cal) : Prop :=
  (n ≤ c ∧ c ≤ 9223372036854775807) ∧ ∀ i, i < n → ∃ b o, A = some ⟨b, o, none⟩ ∧ b < B ∧ CalAt w b (o + i * 4) (qs i) ∧ Rd .u8 w B (qs i).A (qs i).n (qs i).c (qs i).xs
theorem CallsAt.below {w w' : World} {B : Nat} {A : Option Addr} {n c : Nat} {qs : Nat → Cal} (h : CallsAt w B A n c qs) (hb : Below B w w') : CallsAt w' B A n c qs := by
  refine ⟨h.1, fun i hi => ?_⟩
  obtain ⟨b, o, e, hB, ⟨c0, c1, c2, c3⟩, hr⟩ := h.2 i hi
  exact ⟨b, o, e, hB, ⟨(hb.cell hB).trans c0, (hb.cell hB).trans c1, (hb.cell hB).trans c2, (hb.cell hB).trans c3⟩, hr.below hb (Nat.le_refl _)⟩

theorem great_big (m : Int) (A : Option Addr) (n c : Nat) (w : World) (h : 100 < m ∨ 100 < n) (hn : n ≤ c ∧ c ≤ 9223372036854775807) :
    Calls Try.prog 8 #[.int .i64 m, .slice A n c] w fun e w' => e = .returned (.bool true) ∧ w = w' := by
  by_cases h1 : 100 < m
  · clear h
    go_enter Try.func8, Try.ntmps8
    go_wp2
    go_ret
    exact ⟨rfl, rfl⟩
  · have h3 : (100 : Int) < (n : Int) := by omega
    clear h
    go_enter Try.func8, Try.ntmps8
    go_wp2
    go_ret
    exact ⟨rfl, rfl⟩
/-- Is a call's row of bytes long? -/
def longB (n : Nat) (qs : Nat → Cal) : Bool := (List.range n).any (fun i => decide (1600 < (qs i).n))
theorem longB_yes {n k : Nat} {qs : Nat → Cal} (hk : k < n) (h : 1600 < (qs k).n) : longB n qs = true := by
  simp only [longB, List.any_eq_true, List.mem_range, decide_eq_true_eq]
  exact ⟨k, hk, h⟩
theorem longB_no {n : Nat} {qs : Nat → Cal} (h : ∀ j, j < n → ¬ 1600 < (qs j).n) : longB n qs = false := by
  rw [Bool.eq_false_iff]
  intro q
  simp only [longB, List.any_eq_true, List.mem_range, decide_eq_true_eq] at q
  obtain ⟨i, hi, hq⟩ := q
  exact h i hi hq
theorem longB_of {n : Nat} {qs : Nat → Cal} (h : longB n qs = false) {j : Nat} (hj : j < n) : (qs j).n ≤ 1600 := by
  rcases Nat.lt_or_ge 1600 (qs j).n with h1 | h1
  · rw [longB_yes hj h1] at h; cases h
  · exact h1
set_option maxHeartbeats 1000000 in
theorem great_in (x : Bool) (m : Int) (A : Option Addr) (n c B : Nat) (qs : Nat → Cal) (w : World) (hx : longB n qs = x) (hm : ¬ 100 < m) (hn : n ≤ 100) (h : CallsAt w B A n c qs) :
    Calls Try.prog 8 #[.int .i64 m, .slice A n c] w fun e w' => e = .returned (.bool x) ∧ w = w' := by
  have HX := Lib.hid hx
  have h3 : ¬ (100 : Int) < (n : Int) := by omega
  have hcc := h.1.2
  have H := Lib.hid h
  clear hx h
  have h5 := hm
  all_goals
    clear hm
    go_enter Try.func8, Try.ntmps8
    go_wp2
    go_loopw [5] (fun i wr => ∃ k : Nat, k ≤ n ∧ i = .int .i64 k ∧ wr = w ∧ ∀ j, j < k → ¬ 1600 < (qs j).n) (fun i _ => n - (intOf i).toNat)
    case atStart => exact ⟨0, Nat.zero_le _, rfl, rfl, fun j hj => absurd hj (by omega)⟩
    case round =>
      obtain ⟨k, hk, rfl, rfl, hall⟩ := hrel
      by_cases hkn : k < n
      · obtain ⟨b, o, rfl, _, ⟨c0, c1, c2, c3⟩, hr⟩ := H.out.2 k hkn
        have hq1 := hr.cap
        have hq2 := hr.max
        by_cases hl : 1600 < (qs k).n
        · have E : Hid (x = true) := Lib.hid (by rw [← HX.out]; exact longB_yes hkn hl)
          generalize (qs k).n = q at *
          have hl' : (1600 : Int) < (q : Int) := by omega
          clear hall c0 c1 c2 hr
          go_wp2
          go_ret
          exact ⟨by rw [E.out]; rfl, rfl⟩
        · have Hall : Hid (∀ j, j < k + 1 → ¬ 1600 < (qs j).n) := Lib.hid (fun j hj => by
            by_cases h1 : j < k
            · exact hall j h1
            · obtain rfl : j = k := by omega
              exact hl)
          generalize (qs k).n = q at *
          have hl' : ¬ (1600 : Int) < (q : Int) := by omega
          clear hall c0 c1 c2 hr
          go_wp2
          go_roundw
          case rel => exact ⟨k + 1, by omega, by go_num, by first | rfl | trivial, Hall.out⟩
          case measure => simp [intOf]; omega
      · have E : Hid (x = false) := Lib.hid (by rw [← HX.out]; exact longB_no (fun j hj => hall j (by omega)))
        clear hall
        go_wp2
        go_ret
        exact ⟨by rw [E.out]; rfl, rfl⟩

end Go.Proofs.Ytjaiagocbldbgaa
