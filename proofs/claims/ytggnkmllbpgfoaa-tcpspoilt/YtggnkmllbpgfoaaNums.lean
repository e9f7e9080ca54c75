/-
  Contracts of what reads and lays numbers: two, four, layTwo, layFour, and the document's Num, Two, Four.
-/
import Derived.Test.YtggnkmllbpgfoaaSmall
import Derived.Test.YtggnkmllbpgfoaaCp
import Derived.Test.YtggnkmllbpgfoaaSLeaf
import Derived.Laws.BitsAllLaws
import Derived.Laws.BitsLemmas
namespace Go.Proofs.Ytggnkmllbpgfoaa
open Go.RowKit

/-- The number of two bytes that stands ahead. -/
def num2 (xs : List Int) : Int := xs.getD 0 0 * 256 + xs.getD 1 0
/-- A number's two bytes. -/
def two2 (n : Int) : List Int := [n / 256, n % 256]
theorem two2_wf {n : Int} (h : 0 ≤ n ∧ n ≤ 65535) : ∀ x ∈ two2 n, (Lit.int .u8 x).wf = true := by
  intro x hx
  simp only [two2, List.mem_cons, List.not_mem_nil, or_false] at hx
  rcases hx with rfl | rfl <;> exact u8_mk (by omega)
/-- A number's four bytes. -/
def four (n : Int) : List Int := [n / 16777216, n / 65536 % 256, n / 256 % 256, n % 256]
theorem four_wf {n : Int} (h : 0 ≤ n ∧ n < 4294967296) : ∀ x ∈ four n, (Lit.int .u8 x).wf = true := by
  intro x hx
  simp only [four, List.mem_cons, List.not_mem_nil, or_false] at hx
  rcases hx with rfl | rfl | rfl | rfl <;> exact u8_mk (by omega)
/-- A call that leaves all memory as it was. -/
structure Still (w w' : World) : Prop where
  below : Below w.heap.size w w'
  heap : w'.heap = w.heap
theorem Still.drewN (w : World) (d : Nat) : Still w (w.drewN d) := ⟨below_drewN (Below.refl _ _) _, rfl⟩
/-- A call that draws alone. -/
def Draws (w w' : World) : Prop := ∃ m, w' = w.drewN m
theorem Draws.still {w w' : World} (h : Draws w w') : Still w w' := by
  obtain ⟨m, rfl⟩ := h
  exact Still.drewN w m
set_option maxHeartbeats 2000000 in
theorem two_any (A : Option Addr) (n c B : Nat) (xs : List Int) (w : World) (hr : Rd .u8 w B A n c xs) (h2 : 2 ≤ n) :
    Calls Try.prog 15 #[.slice A n c] w fun e w' => e = .returned (.int .u16 (num2 xs)) ∧ ∃ m, w' = w.drewN m := by
  obtain ⟨b, o, rfl, -, c0⟩ := hr.at_ (i := 0) (by omega)
  obtain ⟨b1, o1, e1, -, c1⟩ := hr.at_ (i := 1) (by omega)
  injection e1 with e1
  injection e1 with p1 q1
  subst p1 q1
  have hmax := hr.max
  have hcap := hr.cap
  have w0 := u8_bd (hr.wf (i := 0) (by omega))
  have w1 := u8_bd (hr.wf (i := 1) (by omega))
  unfold num2
  generalize xs.getD 0 0 = x0 at *
  generalize xs.getD 1 0 = x1 at *
  clear hr
  have v0 : IntKind.u16.wrap x0 = x0 := by rw [IntKind.wrap_u16]; omega
  have v1 : IntKind.u16.wrap x1 = x1 := by rw [IntKind.wrap_u16]; omega
  have u0 : IntKind.u16.wrap (x0 * 256) = x0 * 256 := by rw [IntKind.wrap_u16]; omega
  have o1 := or_two x0 x1 w0 w1
  have i0 : 0 < n := by omega
  rw [Nat.add_zero] at c0
  have i1 : (1 : Int) < (n : Int) := by omega
  go_enter Try.func15, Try.ntmps15
  go_wp2
  go_quiet (fail)
  go_wp2
  go_ret
  exact ⟨rfl, _, rfl⟩
theorem num2_bd {k : IntKind} {w : World} {B : Nat} {A : Option Addr} {n c : Nat} {xs : List Int} (hk : k = .u8) (hr : Rd k w B A n c xs) (h2 : 2 ≤ n) : 0 ≤ num2 xs ∧ num2 xs ≤ 65535 := by
  subst hk
  have w0 := u8_bd (hr.wf (i := 0) (by omega))
  have w1 := u8_bd (hr.wf (i := 1) (by omega))
  unfold num2
  omega
/-- A row of bytes of a call's own, known whole. -/
def GivesRow (w : World) (xs : List Int) (n : Nat) (ev : Ending) (w' : World) : Prop :=
  ∃ g, ev = .returned (.slice (some ⟨g, 0, none⟩) n n) ∧ Row w' g xs ∧ w.heap.size ≤ g ∧ Below w.heap.size w w'
theorem Only.setCell (g i : Nat) (W : World) (v : Value) : Only g W (W.setCell ⟨g, i, none⟩ v) :=
  ⟨(Below.refl g W).setCell (p := ⟨g, i, none⟩) (Nat.le_refl _) _, fun j hj => by simp [World.setCell, Array.getElem?_modify, Ne.symm hj], by simp⟩
theorem Only.trans {g : Nat} {w w' w'' : World} (h : Only g w w') (h' : Only g w' w'') : Only g w w'' := ⟨h.below.trans h'.below, fun j hj => (h'.other j hj).trans (h.other j hj), h'.size.trans h.size⟩
theorem set_splice2 (xs : List Int) (off : Nat) (a b : Int) (h : off + 2 ≤ xs.length) : (xs.set off a).set (off + 1) b = splice xs off [a, b] := by
  induction off generalizing xs with
  | zero =>
    match xs, h with
    | p :: q :: R, _ => simp [splice]
  | succ k ih =>
    cases xs with
    | nil => simp at h
    | cons y ys =>
      have := ih ys (by simp at h; omega)
      simp only [List.set_cons_succ]
      rw [this]
      simp [splice]
theorem splice_len (xs ys : List Int) (off : Nat) (h : off + ys.length ≤ xs.length) : (splice xs off ys).length = xs.length := by simp [splice]; omega
set_option maxHeartbeats 1000000 in
theorem layTwo_any (g off n c : Nat) (xs : List Int) (k : Int) (w : World) (hrow : Row w g xs) (h4 : off + 2 ≤ xs.length) (hn : 2 ≤ n) (hip : 0 ≤ k ∧ k ≤ 65535) :
    Calls Try.prog 20 #[.slice (some ⟨g, off, none⟩) n c, .int .u16 k] w fun e w' => e = .returned (.tuple #[]) ∧ Row w' g (splice xs off (two2 k)) ∧ Only g w w' := by
  have i0 : 0 < n := by omega
  have i1 : (1 : Int) < (n : Int) := by omega
  have c0 := hrow.cell (i := off) (by omega)
  have c1 := hrow.cell (i := off + 1) (by omega)
  have z0 := hrow.frozen off
  have z1 := hrow.frozen (off + 1)
  have e1 : IntKind.u8.wrap (k / 256) = k / 256 := by rw [IntKind.wrap_u8]; omega
  have e2 : IntKind.u8.wrap k = k % 256 := by rw [IntKind.wrap_u8]
  go_enter Try.func20, Try.ntmps20
  go_wp2
  refine bodyPost_end (v := .tuple #[]) (by simp [results, Try.results20, go_sem]) rfl ?_
  refine ⟨rfl, ?_, (Only.setCell g off w _).trans (Only.setCell g (off + 1) _ _)⟩
  have := (hrow.set off (k / 256)).set (off + 1) (k % 256)
  rwa [set_splice2 _ _ _ _ h4] at this
end Go.Proofs.Ytggnkmllbpgfoaa
