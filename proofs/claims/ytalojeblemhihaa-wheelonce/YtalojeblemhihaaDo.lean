/-
  The contract of the laws' do: a call on both wheels.
-/
import Derived.Test.YtalojeblemhihaaAlive
namespace Go.Proofs.Ytalojeblemhihaa
open Go.RowKit
set_option linter.unusedVariables false

/-- The time that a call to Go asks for. -/
def goW (wh : Int) (now d : Nat) : Option Nat := if wh = 2 then some d else if wh = 3 then (if 2305843009213693952 < d ∨ 2305843009213693952 < now then none else some (d + now)) else none
def doN (wh : Int) (now d : Nat) : Nat := match goW wh now d with | some m => goN now m | none => now
def doR (wh t : Int) (now d : Nat) (R : List Tm) : List Tm := if wh = 0 then setR t d R else if wh = 1 then delT t R else match goW wh now d with | some m => goRR now m R | none => R
/-- Both wheels have the same timers. -/
structure Two (w : World) (lo hi p base q now : Nat) (R : List Tm) : Prop where
  pw : Whl w lo hi p now R
  rr : RwAt w q base now R
  up : hi ≤ base
def OnlyT (lo hi q : Nat) (w w' : World) : Prop := Kept (fun k => (lo ≤ k ∧ k < hi) ∨ k = q) w w'
section
variable {w w' : World} {lo hi p base q now now' : Nat} {R R' : List Tm} {S : Nat → Prop}
theorem RwAt.lt (h : RwAt w q base now R) : base ≤ q ∧ q < w.heap.size := let ⟨_, _, _, h⟩ := h; ⟨h.low, h.lt⟩
theorem Two.new (h : Two w lo hi p base q now R) (hb : Below w.heap.size w w') : Two w' lo hi p base q now R := ⟨h.pw.new hb, h.rr.new hb, h.up⟩
theorem OnlyW.two (h : OnlyW lo hi w w') : OnlyT lo hi q w w' := Kept.mono h (fun k _ hk => .inl hk)
theorem OnlyT.ofQ (h : Kept (· = q) w w') : OnlyT lo hi q w w' := Kept.mono h (fun k _ hk => .inr hk)
theorem OnlyT.new (h : Below w.heap.size w w') : OnlyT lo hi q w w' := Kept.of_below h
theorem OnlyT.trans {w''} (h : OnlyT lo hi q w w') (h' : OnlyT lo hi q w' w'') : OnlyT lo hi q w w'' := Kept.trans h h'
theorem OnlyT.below {B : Nat} (h : OnlyT lo hi q w w') (hB : B ≤ lo) (hq : B ≤ q) (hs : B ≤ w.heap.size) : Below B w w' := Kept.below h hs (fun k hk => by omega)
theorem Two.turnW (h : Two w lo hi p base q now R) (h' : Whl w' lo hi p now' R') (hk : OnlyW lo hi w w') : Whl w' lo hi p now' R' ∧ RwAt w' q base now R := ⟨h', h.rr.kept hk (fun k h1 h2 h3 => by have := h.up; omega)⟩
theorem Whl.turnR (h : Whl w lo hi p now R) (hu : hi ≤ base) (hq : base ≤ q) (hk : Kept (· = q) w w') : Whl w' lo hi p now R := h.kept hk (fun k h1 h2 h3 => by omega)
/-- What a call of both gives. -/
def GivesD (w : World) (lo hi p base q now : Nat) (R : List Tm) : Ending → World → Prop := fun e w' => e = .returned (.bool true) ∧ Two w' lo hi p base q now R ∧ OnlyT lo hi q w w'
end
section
variable {w : World} {lo hi p base q now : Nat} {R : List Tm}
set_option maxRecDepth 100000 in
set_option maxHeartbeats 2000000 in
theorem do0_any (h : Two w lo hi p base q now R) (t : Int) (ht : wfI t) (d : Nat) (hd : d < 18446744073709551616) : Calls Try.prog 11 #[ptr p, ptr q, .agg #[.int .i64 0, .int .i64 t, .int .u64 d]] w (GivesD w lo hi p base q (doN 0 now d) (doR 0 t now d R)) := by
  have bb := alloc_below w (.cells #[.int .i64 0, .int .i64 t, .int .u64 (d : Nat)] 25)
  have hx := heap_alloc_new w (.cells #[.int .i64 0, .int .i64 t, .int .u64 (d : Nat)] 25)
  have h1 := h.new bb
  have hul := h.rr.lt
  have hbn := h.pw.bounds
  have hS : (w.alloc (.cells #[.int .i64 0, .int .i64 t, .int .u64 (d : Nat)] 25)).drew.heap[w.heap.size]? = some (.cells #[.int .i64 0, .int .i64 t, .int .u64 (d : Nat)] 25) := hx
  have h2 := h1.new (below_drew _)
  have k2 : OnlyT lo hi q w (w.alloc (.cells #[.int .i64 0, .int .i64 t, .int .u64 (d : Nat)] 25)).drew := OnlyT.new (bb.trans ((below_drew _).mono bb.size))
  have hsz : w.heap.size < (w.alloc (.cells #[.int .i64 0, .int .i64 t, .int .u64 (d : Nat)] 25)).drew.heap.size := by simp
  have e1 : doN 0 now d = now := by unfold doN goW; simp
  have e2 : doR 0 t now d R = setR t d R := by unfold doR; simp
  rw [e1, e2]
  have x0 : (w.alloc (.cells #[.int .i64 0, .int .i64 t, .int .u64 (d : Nat)] 25)).cell? ⟨w.heap.size, 0, none⟩ = some (.int .i64 0) := by rw [cell_of_row _ _ _ _ _ _ hx]; rfl
  clear h h1 bb e1 e2
  go_enter Try.func11, Try.ntmps11
  go_wp2
  refine wp_region_held_drew (S := fun W => W.heap[w.heap.size]? = some (.cells #[.int .i64 0, .int .i64 t, .int .u64 (d : Nat)] 25)) (by kernel_rfl) hS (fun hHeld => ?_)
  change wpAnyH _ _ _ _ _ _ _ _ (World.drew _)
  clear hS hx x0
  generalize (w.alloc (.cells #[.int .i64 0, .int .i64 t, .int .u64 (d : Nat)] 25)).drew = W0 at *
  refine wpAnyH_at (i := 0) (some 16) (v := ?v0z1) rfl rfl (by kernel_rfl) (by kernel_rfl) (by kernel_rfl) (fun _ _ _ h => h) (Or.inl ⟨by rfl, ?y0z1⟩) (by assumption) ?r0z1
  case y0z1 =>
    intro w9 hSw
    have x0 := cell_of_row _ _ 0 _ _ _ hSw; have x1 := cell_of_row _ _ 1 _ _ _ hSw; have x2 := cell_of_row _ _ 2 _ _ _ hSw; clear hSw; simp only [List.getElem?_toArray, List.getElem?_cons_zero, List.getElem?_cons_succ] at x0 x1 x2
    go_simp
    all_goals with_reducible rfl
  simp only [Act.put, List.setIfInBounds_toArray, List.set_cons_zero, List.set_cons_succ]
  refine wpAnyH_at (i := 1) (some 17) (v := ?v1z2) rfl rfl (by kernel_rfl) (by kernel_rfl) (by kernel_rfl) (fun _ _ _ h => h) (Or.inl ⟨by rfl, ?y1z2⟩) (by assumption) ?r1z2
  case y1z2 =>
    intro w9 hSw
    have x0 := cell_of_row _ _ 0 _ _ _ hSw; have x1 := cell_of_row _ _ 1 _ _ _ hSw; have x2 := cell_of_row _ _ 2 _ _ _ hSw; clear hSw; simp only [List.getElem?_toArray, List.getElem?_cons_zero, List.getElem?_cons_succ] at x0 x1 x2
    go_simp
    all_goals with_reducible rfl
  simp only [Act.put, List.setIfInBounds_toArray, List.set_cons_zero, List.set_cons_succ]
  refine wpAnyH_at (i := 2) (some 18) (v := ?v2z3) rfl rfl (by kernel_rfl) (by kernel_rfl) (by kernel_rfl) (fun _ _ _ h => h) (Or.inl ⟨by rfl, ?y2z3⟩) (by assumption) ?r2z3
  case y2z3 =>
    intro w9 hSw
    have x0 := cell_of_row _ _ 0 _ _ _ hSw; have x1 := cell_of_row _ _ 1 _ _ _ hSw; have x2 := cell_of_row _ _ 2 _ _ _ hSw; clear hSw; simp only [List.getElem?_toArray, List.getElem?_cons_zero, List.getElem?_cons_succ] at x0 x1 x2
    go_simp
    all_goals with_reducible rfl
  simp only [Act.put, List.setIfInBounds_toArray, List.set_cons_zero, List.set_cons_succ]
  refine wpAnyH_at (i := 3) (some 19) (v := ?v3z4) rfl rfl (by kernel_rfl) (by kernel_rfl) (by kernel_rfl) (fun _ _ _ h => h) (Or.inl ⟨by rfl, ?y3z4⟩) (by assumption) ?r3z4
  case y3z4 =>
    intro w9 hSw
    have x0 := cell_of_row _ _ 0 _ _ _ hSw; have x1 := cell_of_row _ _ 1 _ _ _ hSw; have x2 := cell_of_row _ _ 2 _ _ _ hSw; clear hSw; simp only [List.getElem?_toArray, List.getElem?_cons_zero, List.getElem?_cons_succ] at x0 x1 x2
    go_simp
    all_goals with_reducible rfl
  simp only [Act.put, List.setIfInBounds_toArray, List.set_cons_zero, List.set_cons_succ]
  refine wpAnyH_at (i := 4) (some 20) (v := ?v4z5) rfl rfl (by kernel_rfl) (by kernel_rfl) (by kernel_rfl) (fun _ _ _ h => h) (Or.inl ⟨by rfl, ?y4z5⟩) (by assumption) ?r4z5
  case y4z5 =>
    intro w9 hSw
    have x0 := cell_of_row _ _ 0 _ _ _ hSw; have x1 := cell_of_row _ _ 1 _ _ _ hSw; have x2 := cell_of_row _ _ 2 _ _ _ hSw; clear hSw; simp only [List.getElem?_toArray, List.getElem?_cons_zero, List.getElem?_cons_succ] at x0 x1 x2
    go_simp
    all_goals with_reducible rfl
  simp only [Act.put, List.setIfInBounds_toArray, List.set_cons_zero, List.set_cons_succ]
  refine wpAnyH_at (i := 6) (some 22) (v := ?v6z6) rfl rfl (by kernel_rfl) (by kernel_rfl) (by kernel_rfl) (fun _ _ _ h => h) (Or.inl ⟨by rfl, ?y6z6⟩) (by assumption) ?r6z6
  case y6z6 =>
    intro w9 hSw
    have x0 := cell_of_row _ _ 0 _ _ _ hSw; have x1 := cell_of_row _ _ 1 _ _ _ hSw; have x2 := cell_of_row _ _ 2 _ _ _ hSw; clear hSw; simp only [List.getElem?_toArray, List.getElem?_cons_zero, List.getElem?_cons_succ] at x0 x1 x2
    go_simp
    all_goals with_reducible rfl
  simp only [Act.put, List.setIfInBounds_toArray, List.set_cons_zero, List.set_cons_succ]
  refine wpAnyH_at (i := 7) (some 23) (v := ?v7z7) rfl rfl (by kernel_rfl) (by kernel_rfl) (by kernel_rfl) (fun _ _ _ h => h) (Or.inl ⟨by rfl, ?y7z7⟩) (by assumption) ?r7z7
  case y7z7 =>
    intro w9 hSw
    have x0 := cell_of_row _ _ 0 _ _ _ hSw; have x1 := cell_of_row _ _ 1 _ _ _ hSw; have x2 := cell_of_row _ _ 2 _ _ _ hSw; clear hSw; simp only [List.getElem?_toArray, List.getElem?_cons_zero, List.getElem?_cons_succ] at x0 x1 x2
    go_simp
    all_goals with_reducible rfl
  simp only [Act.put, List.setIfInBounds_toArray, List.set_cons_zero, List.set_cons_succ]
  refine wpAnyH_at (i := 8) (some 24) (v := ?v8z8) rfl rfl (by kernel_rfl) (by kernel_rfl) (by kernel_rfl) (fun _ _ _ h => h) (Or.inl ⟨by rfl, ?y8z8⟩) (by assumption) ?r8z8
  case y8z8 =>
    intro w9 hSw
    have x0 := cell_of_row _ _ 0 _ _ _ hSw; have x1 := cell_of_row _ _ 1 _ _ _ hSw; have x2 := cell_of_row _ _ 2 _ _ _ hSw; clear hSw; simp only [List.getElem?_toArray, List.getElem?_cons_zero, List.getElem?_cons_succ] at x0 x1 x2
    go_simp
    all_goals with_reducible rfl
  simp only [Act.put, List.setIfInBounds_toArray, List.set_cons_zero, List.set_cons_succ]
  refine wpAnyH_at (i := 9) (some 25) (v := ?v9z9) rfl rfl (by kernel_rfl) (by kernel_rfl) (by kernel_rfl) (fun _ _ _ h => h) (Or.inl ⟨by rfl, ?y9z9⟩) (by assumption) ?r9z9
  case y9z9 =>
    intro w9 hSw
    have x0 := cell_of_row _ _ 0 _ _ _ hSw; have x1 := cell_of_row _ _ 1 _ _ _ hSw; have x2 := cell_of_row _ _ 2 _ _ _ hSw; clear hSw; simp only [List.getElem?_toArray, List.getElem?_cons_zero, List.getElem?_cons_succ] at x0 x1 x2
    go_simp
    all_goals with_reducible rfl
  simp only [Act.put, List.setIfInBounds_toArray, List.set_cons_zero, List.set_cons_succ]
  refine wpAnyH_at (i := 10) (some 26) (v := ?v10z10) rfl rfl (by kernel_rfl) (by kernel_rfl) (by kernel_rfl) (fun _ _ _ h => h) (Or.inl ⟨by rfl, ?y10z10⟩) (by assumption) ?r10z10
  case y10z10 =>
    intro w9 hSw
    have x0 := cell_of_row _ _ 0 _ _ _ hSw; have x1 := cell_of_row _ _ 1 _ _ _ hSw; have x2 := cell_of_row _ _ 2 _ _ _ hSw; clear hSw; simp only [List.getElem?_toArray, List.getElem?_cons_zero, List.getElem?_cons_succ] at x0 x1 x2
    go_simp
    all_goals with_reducible rfl
  simp only [Act.put, List.setIfInBounds_toArray, List.set_cons_zero, List.set_cons_succ]
  refine wpAnyH_one (i := 5) (by kernel_rfl) rfl ?_
  go_wp2_with fail
  refine (wset h2.pw t ht d hd).mono ?_
  rintro ev w3 ⟨rfl, h3, k3⟩
  have h4 := h2.turnW h3 k3
  have k4 : OnlyT lo hi q w w3 := k2.trans k3.two
  have hHeld3 := (k3.block w.heap.size hsz (by omega)).trans hHeld
  have hup := h2.up
  have hs3 := k3.size
  clear k3 k2 h3 h2
  go_wp2
  have hHeld := hHeld3
  refine ⟨hHeld, ?_⟩
  try simp only [Act.put, List.setIfInBounds_toArray, List.set_cons_zero, List.set_cons_succ]
  refine wpAnyH_one (i := 11) (by kernel_rfl) rfl ?_
  go_wp2_with fail
  refine (rset_any h4.2 t ht d hd).mono ?_
  rintro ev w5 ⟨rfl, h5, k5⟩
  have hF : Two w5 lo hi p base q now (setR t d R) := ⟨h4.1.turnR hup hul.1 k5, h5, hup⟩
  have k6 : OnlyT lo hi q w w5 := k4.trans (OnlyT.ofQ k5)
  have hHeld5 := (k5.block w.heap.size (by omega) (by omega)).trans hHeld
  clear h4 k4 k5 h5
  go_wp2
  have hHeld := hHeld5
  refine ⟨hHeld, ?_⟩
  try simp only [Act.put, List.setIfInBounds_toArray, List.set_cons_zero, List.set_cons_succ]
  refine wpAnyH_at (i := 12) (some 28) (v := ?v12z11) rfl rfl (by kernel_rfl) (by kernel_rfl) (by kernel_rfl) (fun _ _ _ h => h) (Or.inl ⟨by rfl, ?y12z11⟩) (by assumption) ?r12z11
  case y12z11 =>
    intro w9 hSw
    have x0 := cell_of_row _ _ 0 _ _ _ hSw; have x1 := cell_of_row _ _ 1 _ _ _ hSw; have x2 := cell_of_row _ _ 2 _ _ _ hSw; clear hSw; simp only [List.getElem?_toArray, List.getElem?_cons_zero, List.getElem?_cons_succ] at x0 x1 x2
    go_simp
    all_goals with_reducible rfl
  simp only [Act.put, List.setIfInBounds_toArray, List.set_cons_zero, List.set_cons_succ]
  refine wpAnyH_at (i := 13) (some 6) (v := ?v13z12) rfl rfl (by kernel_rfl) (by kernel_rfl) (by kernel_rfl) (fun _ _ _ h => h) (Or.inl ⟨by rfl, ?y13z12⟩) (by assumption) ?r13z12
  case y13z12 =>
    intro w9 hSw
    have x0 := cell_of_row _ _ 0 _ _ _ hSw; have x1 := cell_of_row _ _ 1 _ _ _ hSw; have x2 := cell_of_row _ _ 2 _ _ _ hSw; clear hSw; simp only [List.getElem?_toArray, List.getElem?_cons_zero, List.getElem?_cons_succ] at x0 x1 x2
    go_simp
    all_goals with_reducible rfl
  simp only [Act.put, List.setIfInBounds_toArray, List.set_cons_zero, List.set_cons_succ]
  refine wpAnyH_done (by kernel_rfl) ?_ _
  clear hHeld
  go_wp2
  go_ret
  exact ⟨by simp, hF, k6⟩
set_option maxRecDepth 100000 in
set_option maxHeartbeats 2000000 in
theorem do1_any (h : Two w lo hi p base q now R) (t : Int) (ht : wfI t) (d : Nat) (hd : d < 18446744073709551616) : Calls Try.prog 11 #[ptr p, ptr q, .agg #[.int .i64 1, .int .i64 t, .int .u64 d]] w (GivesD w lo hi p base q (doN 1 now d) (doR 1 t now d R)) := by
  have bb := alloc_below w (.cells #[.int .i64 1, .int .i64 t, .int .u64 (d : Nat)] 25)
  have hx := heap_alloc_new w (.cells #[.int .i64 1, .int .i64 t, .int .u64 (d : Nat)] 25)
  have h1 := h.new bb
  have hul := h.rr.lt
  have hbn := h.pw.bounds
  have hS : (w.alloc (.cells #[.int .i64 1, .int .i64 t, .int .u64 (d : Nat)] 25)).drew.heap[w.heap.size]? = some (.cells #[.int .i64 1, .int .i64 t, .int .u64 (d : Nat)] 25) := hx
  have h2 := h1.new (below_drew _)
  have k2 : OnlyT lo hi q w (w.alloc (.cells #[.int .i64 1, .int .i64 t, .int .u64 (d : Nat)] 25)).drew := OnlyT.new (bb.trans ((below_drew _).mono bb.size))
  have hsz : w.heap.size < (w.alloc (.cells #[.int .i64 1, .int .i64 t, .int .u64 (d : Nat)] 25)).drew.heap.size := by simp
  have e1 : doN 1 now d = now := by unfold doN goW; simp
  have e2 : doR 1 t now d R = delT t R := by unfold doR; simp
  rw [e1, e2]
  have x0 : (w.alloc (.cells #[.int .i64 1, .int .i64 t, .int .u64 (d : Nat)] 25)).cell? ⟨w.heap.size, 0, none⟩ = some (.int .i64 1) := by rw [cell_of_row _ _ _ _ _ _ hx]; rfl
  clear h h1 bb e1 e2
  go_enter Try.func11, Try.ntmps11
  go_wp2
  refine wp_region_held_drew (S := fun W => W.heap[w.heap.size]? = some (.cells #[.int .i64 1, .int .i64 t, .int .u64 (d : Nat)] 25)) (by kernel_rfl) hS (fun hHeld => ?_)
  change wpAnyH _ _ _ _ _ _ _ _ (World.drew _)
  clear hS hx x0
  generalize (w.alloc (.cells #[.int .i64 1, .int .i64 t, .int .u64 (d : Nat)] 25)).drew = W0 at *
  refine wpAnyH_at (i := 0) (some 31) (v := ?v0z13) rfl rfl (by kernel_rfl) (by kernel_rfl) (by kernel_rfl) (fun _ _ _ h => h) (Or.inl ⟨by rfl, ?y0z13⟩) (by assumption) ?r0z13
  case y0z13 =>
    intro w9 hSw
    have x0 := cell_of_row _ _ 0 _ _ _ hSw; have x1 := cell_of_row _ _ 1 _ _ _ hSw; have x2 := cell_of_row _ _ 2 _ _ _ hSw; clear hSw; simp only [List.getElem?_toArray, List.getElem?_cons_zero, List.getElem?_cons_succ] at x0 x1 x2
    go_simp
    all_goals with_reducible rfl
  simp only [Act.put, List.setIfInBounds_toArray, List.set_cons_zero, List.set_cons_succ]
  refine wpAnyH_at (i := 1) (some 32) (v := ?v1z14) rfl rfl (by kernel_rfl) (by kernel_rfl) (by kernel_rfl) (fun _ _ _ h => h) (Or.inl ⟨by rfl, ?y1z14⟩) (by assumption) ?r1z14
  case y1z14 =>
    intro w9 hSw
    have x0 := cell_of_row _ _ 0 _ _ _ hSw; have x1 := cell_of_row _ _ 1 _ _ _ hSw; have x2 := cell_of_row _ _ 2 _ _ _ hSw; clear hSw; simp only [List.getElem?_toArray, List.getElem?_cons_zero, List.getElem?_cons_succ] at x0 x1 x2
    go_simp
    all_goals with_reducible rfl
  simp only [Act.put, List.setIfInBounds_toArray, List.set_cons_zero, List.set_cons_succ]
  refine wpAnyH_at (i := 2) (some 33) (v := ?v2z15) rfl rfl (by kernel_rfl) (by kernel_rfl) (by kernel_rfl) (fun _ _ _ h => h) (Or.inl ⟨by rfl, ?y2z15⟩) (by assumption) ?r2z15
  case y2z15 =>
    intro w9 hSw
    have x0 := cell_of_row _ _ 0 _ _ _ hSw; have x1 := cell_of_row _ _ 1 _ _ _ hSw; have x2 := cell_of_row _ _ 2 _ _ _ hSw; clear hSw; simp only [List.getElem?_toArray, List.getElem?_cons_zero, List.getElem?_cons_succ] at x0 x1 x2
    go_simp
    all_goals with_reducible rfl
  simp only [Act.put, List.setIfInBounds_toArray, List.set_cons_zero, List.set_cons_succ]
  refine wpAnyH_at (i := 4) (some 35) (v := ?v4z16) rfl rfl (by kernel_rfl) (by kernel_rfl) (by kernel_rfl) (fun _ _ _ h => h) (Or.inl ⟨by rfl, ?y4z16⟩) (by assumption) ?r4z16
  case y4z16 =>
    intro w9 hSw
    have x0 := cell_of_row _ _ 0 _ _ _ hSw; have x1 := cell_of_row _ _ 1 _ _ _ hSw; have x2 := cell_of_row _ _ 2 _ _ _ hSw; clear hSw; simp only [List.getElem?_toArray, List.getElem?_cons_zero, List.getElem?_cons_succ] at x0 x1 x2
    go_simp
    all_goals with_reducible rfl
  simp only [Act.put, List.setIfInBounds_toArray, List.set_cons_zero, List.set_cons_succ]
  refine wpAnyH_at (i := 5) (some 36) (v := ?v5z17) rfl rfl (by kernel_rfl) (by kernel_rfl) (by kernel_rfl) (fun _ _ _ h => h) (Or.inl ⟨by rfl, ?y5z17⟩) (by assumption) ?r5z17
  case y5z17 =>
    intro w9 hSw
    have x0 := cell_of_row _ _ 0 _ _ _ hSw; have x1 := cell_of_row _ _ 1 _ _ _ hSw; have x2 := cell_of_row _ _ 2 _ _ _ hSw; clear hSw; simp only [List.getElem?_toArray, List.getElem?_cons_zero, List.getElem?_cons_succ] at x0 x1 x2
    go_simp
    all_goals with_reducible rfl
  simp only [Act.put, List.setIfInBounds_toArray, List.set_cons_zero, List.set_cons_succ]
  refine wpAnyH_at (i := 6) (some 37) (v := ?v6z18) rfl rfl (by kernel_rfl) (by kernel_rfl) (by kernel_rfl) (fun _ _ _ h => h) (Or.inl ⟨by rfl, ?y6z18⟩) (by assumption) ?r6z18
  case y6z18 =>
    intro w9 hSw
    have x0 := cell_of_row _ _ 0 _ _ _ hSw; have x1 := cell_of_row _ _ 1 _ _ _ hSw; have x2 := cell_of_row _ _ 2 _ _ _ hSw; clear hSw; simp only [List.getElem?_toArray, List.getElem?_cons_zero, List.getElem?_cons_succ] at x0 x1 x2
    go_simp
    all_goals with_reducible rfl
  simp only [Act.put, List.setIfInBounds_toArray, List.set_cons_zero, List.set_cons_succ]
  refine wpAnyH_one (i := 3) (by kernel_rfl) rfl ?_
  go_wp2_with fail
  refine (wcancel h2.pw t ht).mono ?_
  rintro ev w3 ⟨rfl, h3, k3⟩
  have h4 := h2.turnW h3 k3
  have k4 : OnlyT lo hi q w w3 := k2.trans k3.two
  have hHeld3 := (k3.block w.heap.size hsz (by omega)).trans hHeld
  have hup := h2.up
  have hs3 := k3.size
  clear k3 k2 h3 h2
  go_wp2
  have hHeld := hHeld3
  refine ⟨hHeld, ?_⟩
  try simp only [Act.put, List.setIfInBounds_toArray, List.set_cons_zero, List.set_cons_succ]
  refine wpAnyH_one (i := 7) (by kernel_rfl) rfl ?_
  go_wp2_with fail
  refine (rcancel_any h4.2 t).mono ?_
  rintro ev w5 ⟨rfl, h5, k5⟩
  have hF : Two w5 lo hi p base q now (delT t R) := ⟨h4.1.turnR hup hul.1 k5, h5, hup⟩
  have k6 : OnlyT lo hi q w w5 := k4.trans (OnlyT.ofQ k5)
  have hHeld5 := (k5.block w.heap.size (by omega) (by omega)).trans hHeld
  clear h4 k4 k5 h5
  go_wp2
  have hHeld := hHeld5
  refine ⟨hHeld, ?_⟩
  try simp only [Act.put, List.setIfInBounds_toArray, List.set_cons_zero, List.set_cons_succ]
  refine wpAnyH_at (i := 8) (some 39) (v := ?v8z19) rfl rfl (by kernel_rfl) (by kernel_rfl) (by kernel_rfl) (fun _ _ _ h => h) (Or.inl ⟨by rfl, ?y8z19⟩) (by assumption) ?r8z19
  case y8z19 =>
    intro w9 hSw
    have x0 := cell_of_row _ _ 0 _ _ _ hSw; have x1 := cell_of_row _ _ 1 _ _ _ hSw; have x2 := cell_of_row _ _ 2 _ _ _ hSw; clear hSw; simp only [List.getElem?_toArray, List.getElem?_cons_zero, List.getElem?_cons_succ] at x0 x1 x2
    go_simp
    all_goals with_reducible rfl
  simp only [Act.put, List.setIfInBounds_toArray, List.set_cons_zero, List.set_cons_succ]
  refine wpAnyH_at (i := 9) (some 6) (v := ?v9z20) rfl rfl (by kernel_rfl) (by kernel_rfl) (by kernel_rfl) (fun _ _ _ h => h) (Or.inl ⟨by rfl, ?y9z20⟩) (by assumption) ?r9z20
  case y9z20 =>
    intro w9 hSw
    have x0 := cell_of_row _ _ 0 _ _ _ hSw; have x1 := cell_of_row _ _ 1 _ _ _ hSw; have x2 := cell_of_row _ _ 2 _ _ _ hSw; clear hSw; simp only [List.getElem?_toArray, List.getElem?_cons_zero, List.getElem?_cons_succ] at x0 x1 x2
    go_simp
    all_goals with_reducible rfl
  simp only [Act.put, List.setIfInBounds_toArray, List.set_cons_zero, List.set_cons_succ]
  refine wpAnyH_done (by kernel_rfl) ?_ _
  clear hHeld
  go_wp2
  go_ret
  exact ⟨by simp, hF, k6⟩
set_option maxRecDepth 100000 in
set_option maxHeartbeats 2000000 in
theorem doGo_any (wh : Int) (h : Two w lo hi p base q now R) (t : Int) (ht : wfI t) (d : Nat) (hd : d < 18446744073709551616) (m : Nat) (hm : m < 18446744073709551616) (hg : goW wh now d = some m) (hw : ¬ wh = 0 ∧ ¬ wh = 1) : Calls Try.prog 11 #[ptr p, ptr q, .agg #[.int .i64 wh, .int .i64 t, .int .u64 d]] w (GivesD w lo hi p base q (doN wh now d) (doR wh t now d R)) := by
  have e1 : doN wh now d = goN now m := by unfold doN; rw [hg]
  have e2 : doR wh t now d R = goRR now m R := by unfold doR; rw [if_neg hw.1, if_neg hw.2, hg]
  rw [e1, e2]
  have bb := alloc_below w (.cells #[.int .i64 wh, .int .i64 t, .int .u64 (d : Nat)] 25)
  have hx := heap_alloc_new w (.cells #[.int .i64 wh, .int .i64 t, .int .u64 (d : Nat)] 25)
  have h1 := h.new bb
  have hul := h.rr.lt
  have hbn := h.pw.bounds
  have x0 : (w.alloc (.cells #[.int .i64 wh, .int .i64 t, .int .u64 (d : Nat)] 25)).cell? ⟨w.heap.size, 0, none⟩ = some (.int .i64 wh) := by rw [cell_of_row _ _ _ _ _ _ hx]; rfl
  have x2 : (w.alloc (.cells #[.int .i64 wh, .int .i64 t, .int .u64 (d : Nat)] 25)).cell? ⟨w.heap.size, 2, none⟩ = some (.int .u64 (d : Nat)) := by rw [cell_of_row _ _ _ _ _ _ hx]; rfl
  have k2 : OnlyT lo hi q w (w.alloc (.cells #[.int .i64 wh, .int .i64 t, .int .u64 (d : Nat)] 25)) := OnlyT.new bb
  have G := wgo h1.pw m
  have hF : Hid (∀ w3 A a c, Out .i64 3 w3 (w.heap.size + 1) A a c (goL now m R) → Whl w3 lo hi p (goN now m) (goRR now m R) → OnlyW lo hi (w.alloc (.cells #[.int .i64 wh, .int .i64 t, .int .u64 (d : Nat)] 25)) w3 → Calls Try.prog 26 #[ptr q, .int .u64 m] w3 fun e w' => ∃ A2 a2 c2, e = .returned (.tuple #[.slice A2 a2 c2, .int .i64 (goE now m)]) ∧ (∃ B B', Rd .i64 w' B A a c (goL now m R) ∧ Rd .i64 w' B' A2 a2 c2 (goL now m R)) ∧ Two w' lo hi p base q (goN now m) (goRR now m R) ∧ OnlyT lo hi q w w') := Lib.hid (by
    intro w3 A a c ho h3 k3
    have h4 := h1.turnW h3 k3
    refine (rgo_any h4.2 m).mono ?_
    rintro e w4 ⟨A2, a2, c2, rfl, o2, r4, k4⟩
    exact ⟨A2, a2, c2, rfl, ⟨_, _, (ho.kept k4 (fun ad e => by have := (ho.block ad e).1; omega)).rd, o2.rd⟩, ⟨h4.1.turnR h.up hul.1 k4, r4, h.up⟩, (k2.trans k3.two).trans (OnlyT.ofQ k4)⟩)
  have hsz : (w.alloc (.cells #[.int .i64 wh, .int .i64 t, .int .u64 (d : Nat)] 25)).heap.size = w.heap.size + 1 := by simp
  rw [hsz] at G
  obtain ⟨A1, n1, c1, h1r⟩ := h1.rr
  have q0 := h1r.c0
  generalize goE now m = E at *
  by_cases h2 : wh = 2
  · subst h2
    obtain rfl : m = d := by unfold goW at hg; simp at hg; exact hg.symm
    clear h h1 h1r bb hx e1 e2 hg hw
    go_enter Try.func11, Try.ntmps11
    go_wp2_with fail
    refine G.mono ?_
    rintro ev w3 ⟨A, a, c, rfl, o3, h3, k3⟩
    have T := hF.out w3 A a c o3 h3 k3
    clear G hF o3 h3 k3 k2 x0 x2 q0
    go_wp2_with fail
    refine T.mono ?_
    rintro ev w4 ⟨A2, a2, c2, rfl, ⟨B, B', r1, r2⟩, h4, k4⟩
    clear T
    have T := sameInts_any _ _ _ _ _ _ _ _ _ _ r1 r2
    go_wp2_with fail
    refine T.mono ?_
    rintro ev w5 ⟨rfl, b5⟩
    have h5 := h4.new b5
    have k5 := k4.trans (OnlyT.new b5)
    clear T r1 r2 h4 k4 b5
    go_wp2
    go_ret
    exact ⟨rfl, h5, k5⟩
  · obtain ⟨h3, hb1, hb2, rfl⟩ : wh = 3 ∧ ¬ 2305843009213693952 < d ∧ ¬ 2305843009213693952 < now ∧ m = d + now := by
      unfold goW at hg
      rw [if_neg h2] at hg
      split at hg
      · rename_i h3
        split at hg
        · cases hg
        · rename_i h4
          injection hg with hg
          exact ⟨h3, fun e => h4 (.inl e), fun e => h4 (.inr e), hg.symm⟩
      · cases hg
    subst h3
    have hb1i : ¬ (2305843009213693952 : Int) < (d : Int) := by omega
    have hb2i : ¬ (2305843009213693952 : Int) < (now : Int) := by omega
    have hsum : (d : Int) + (now : Int) = ((d + now : Nat) : Int) := by omega
    have hm' : ((d + now : Nat) : Int) < 18446744073709551616 := by omega
    generalize hme : d + now = m at *
    clear h h1 h1r bb hx e1 e2 hg hw hb1 hb2 h2 hme
    go_enter Try.func11, Try.ntmps11
    go_wp2_with fail
    refine G.mono ?_
    rintro ev w3 ⟨A, a, c, rfl, o3, h3, k3⟩
    have T := hF.out w3 A a c o3 h3 k3
    clear G hF o3 h3 k3 k2 x0 x2 q0
    go_wp2_with fail
    refine T.mono ?_
    rintro ev w4 ⟨A2, a2, c2, rfl, ⟨B, B', r1, r2⟩, h4, k4⟩
    clear T
    have T := sameInts_any _ _ _ _ _ _ _ _ _ _ r1 r2
    go_wp2_with fail
    refine T.mono ?_
    rintro ev w5 ⟨rfl, b5⟩
    have h5 := h4.new b5
    have k5 := k4.trans (OnlyT.new b5)
    clear T r1 r2 h4 k4 b5
    go_wp2
    go_ret
    exact ⟨rfl, h5, k5⟩
set_option maxRecDepth 100000 in
set_option maxHeartbeats 2000000 in
theorem doNo_any (wh : Int) (h : Two w lo hi p base q now R) (t : Int) (ht : wfI t) (d : Nat) (hd : d < 18446744073709551616) (hg : goW wh now d = none) (hw : ¬ wh = 0 ∧ ¬ wh = 1) : Calls Try.prog 11 #[ptr p, ptr q, .agg #[.int .i64 wh, .int .i64 t, .int .u64 d]] w (GivesD w lo hi p base q (doN wh now d) (doR wh t now d R)) := by
  have e1 : doN wh now d = now := by unfold doN; rw [hg]
  have e2 : doR wh t now d R = R := by unfold doR; rw [if_neg hw.1, if_neg hw.2, hg]
  rw [e1, e2]
  have bb := alloc_below w (.cells #[.int .i64 wh, .int .i64 t, .int .u64 (d : Nat)] 25)
  have hx := heap_alloc_new w (.cells #[.int .i64 wh, .int .i64 t, .int .u64 (d : Nat)] 25)
  have h1 := h.new bb
  have hul := h.rr.lt
  have hbn := h.pw.bounds
  have x0 : (w.alloc (.cells #[.int .i64 wh, .int .i64 t, .int .u64 (d : Nat)] 25)).cell? ⟨w.heap.size, 0, none⟩ = some (.int .i64 wh) := by rw [cell_of_row _ _ _ _ _ _ hx]; rfl
  have x2 : (w.alloc (.cells #[.int .i64 wh, .int .i64 t, .int .u64 (d : Nat)] 25)).cell? ⟨w.heap.size, 2, none⟩ = some (.int .u64 (d : Nat)) := by rw [cell_of_row _ _ _ _ _ _ hx]; rfl
  have k2 : OnlyT lo hi q w (w.alloc (.cells #[.int .i64 wh, .int .i64 t, .int .u64 (d : Nat)] 25)) := OnlyT.new bb
  obtain ⟨A1, n1, c1, h1r⟩ := h1.rr
  have q0 := h1r.c0
  have w0 := hw.1
  have w1 := hw.2
  by_cases h3 : wh = 3
  · subst h3
    have hb : 2305843009213693952 < d ∨ 2305843009213693952 < now := by
      unfold goW at hg
      simp at hg
      by_cases h5 : 2305843009213693952 < d
      · exact .inl h5
      · exact .inr (hg (by omega))
    by_cases h5 : 2305843009213693952 < d
    · have h5i : (2305843009213693952 : Int) < (d : Int) := by omega
      clear h h1r bb hx e1 e2 hg hw hb
      go_enter Try.func11, Try.ntmps11
      go_wp2
      go_ret
      exact ⟨rfl, h1, k2⟩
    · have h5i : ¬ (2305843009213693952 : Int) < (d : Int) := by omega
      have h6i : (2305843009213693952 : Int) < (now : Int) := by omega
      clear h h1r bb hx e1 e2 hg hw hb
      go_enter Try.func11, Try.ntmps11
      go_wp2
      go_ret
      exact ⟨rfl, h1, k2⟩
  · have w2 : ¬ wh = 2 := by
      rintro rfl
      unfold goW at hg
      simp at hg
    clear h h1r bb hx e1 e2 hg hw
    go_enter Try.func11, Try.ntmps11
    go_wp2
    go_ret
    exact ⟨rfl, h1, k2⟩
theorem do_any (wh : Int) (h : Two w lo hi p base q now R) (t : Int) (ht : wfI t) (d : Nat) (hd : d < 18446744073709551616) : Calls Try.prog 11 #[ptr p, ptr q, .agg #[.int .i64 wh, .int .i64 t, .int .u64 d]] w (GivesD w lo hi p base q (doN wh now d) (doR wh t now d R)) := by
  by_cases h0 : wh = 0
  · subst h0; exact do0_any h t ht d hd
  by_cases h1 : wh = 1
  · subst h1; exact do1_any h t ht d hd
  cases hg : goW wh now d with
  | none => exact doNo_any wh h t ht d hd hg ⟨h0, h1⟩
  | some m =>
    refine doGo_any wh h t ht d hd m ?_ hg ⟨h0, h1⟩
    unfold goW at hg
    split at hg
    · injection hg with hg; omega
    · split at hg
      · split at hg
        · cases hg
        · injection hg with hg; omega
      · cases hg
end
end Go.Proofs.Ytalojeblemhihaa
