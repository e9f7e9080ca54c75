/-
  alive answers true.
-/
import Derived.Test.YtggnkmllbpgfoaaTParse
import Derived.Test.YtggnkmllbpgfoaaTMake
import Derived.Test.YtggnkmllbpgfoaaPErr
namespace Go.Proofs.Ytggnkmllbpgfoaa
open Go.RowKit

@[reducible] def hA : Hd := ⟨80, 1024, 18⟩
theorem hA_ok : hA.ok := ⟨by decide, by decide, by decide⟩
def aX : List Int := [1, 2, 3]
def aB : List Int := [0, 80, 4, 0, 0, 0, 0, 0, 0, 0, 0, 0, 80, 18, 0, 0, 167, 123, 0, 0, 1, 2, 3]
@[reducible] def xC : Array Value := #[.int .u8 1, .int .u8 2, .int .u8 3]
theorem ip_of {a : Int} (h : 0 ≤ a ∧ a ≤ 9) : Ip a := ⟨h.1, by omega⟩
theorem aX_wf : ∀ x ∈ aX, (Lit.int .u8 x).wf = true := by decide
theorem aB_wf : ∀ x ∈ aB, (Lit.int .u8 x).wf = true := by decide
theorem aB_bytes : mkR hA 1 2 aX = aB := by decide
theorem aB_good : pE 1 2 aB = (0, 0) := by decide
theorem aB_hd : hdOf aB = hA := hd_eq (by decide) (by decide) (by decide)
theorem aB_bad : pE 1 3 aB = (2, 13) := by decide
theorem aB_sum : sumB 2 1 aB = true := by decide
theorem a_end : pE 1 2 [] = (1, 12) := by decide
theorem aHas2 : hasB 18 2 = true := by decide
theorem aHas18 : hasB 18 18 = true := by decide
theorem aHas6 : hasB 18 6 = false := by decide
theorem whyIs_err (r e o : Int) (w : World) : Calls Try.prog 12 #[errV r e, .int .i64 o] w fun ev w' => ev = .returned (.bool (e == o)) ∧ Below w.heap.size w w' := whyIs_chain e o [r] w
theorem aMake {W : World} {g : Nat} (h : Row W g aX) : Calls Try.prog 10 #[.int .u16 80, .int .u16 1024, .int .u8 18, .slice (some ⟨g, 0, none⟩) 3 3, .int .u32 1, .int .u32 2] W (GivesM W hA aB 23) := by
  rw [← aB_bytes]
  exact make_ok hA _ 3 3 aX 1 2 W hA_ok (h.rdW (n := 3) rfl (by omega) aX_wf) (ip_of (by omega)) (ip_of (by omega)) (by omega)
theorem aBytes {W : World} {g : Nat} (h : Row W g aB) : Calls Try.prog 7 #[pkV hA (some ⟨g, 0, none⟩) 23 23] W (GivesRow W aB 23) := bytes_any hA _ 23 23 aB W (h.rdW (n := 23) rfl (by omega) aB_wf) (by omega)
theorem aParse {W : World} {g : Nat} (h : Row W g aB) : Calls Try.prog 6 #[.slice (some ⟨g, 0, none⟩) 23 23, .int .u32 1, .int .u32 2] W fun ev w' => ∃ g1, ev = .returned (.tuple #[pkV hA (some ⟨g1, 0, none⟩) 23 23, .nilIface]) ∧ Row w' g1 aB ∧ Below W.heap.size W w' := by
  refine (parse_any _ 23 23 aB 1 2 W (h.rdW (n := 23) rfl (by omega) aB_wf) (ip_of (by omega)) (ip_of (by omega))).mono ?_
  rintro ev w' ⟨hb, ⟨h1, _⟩ | ⟨_, g1, rfl, row, _⟩⟩
  · rw [aB_good] at h1
    exact absurd rfl h1
  · rw [aB_hd]
    exact ⟨g1, rfl, row, hb⟩
theorem aBad {W : World} {g : Nat} (h : Row W g aB) : Calls Try.prog 6 #[.slice (some ⟨g, 0, none⟩) 23 23, .int .u32 1, .int .u32 3] W fun ev w' => ev = .returned (.tuple #[zeroP, errV 2 13]) ∧ Below W.heap.size W w' := by
  refine (parse_any _ 23 23 aB 1 3 W (h.rdW (n := 23) rfl (by omega) aB_wf) (ip_of (by omega)) (ip_of (by omega))).mono ?_
  rintro ev w' ⟨hb, ⟨_, rfl⟩ | ⟨h1, _⟩⟩
  · rw [aB_bad]
    exact ⟨rfl, hb⟩
  · rw [aB_bad] at h1
    exact absurd h1 (by decide)
theorem aEnd (W : World) : Calls Try.prog 6 #[.slice none 0 0, .int .u32 1, .int .u32 2] W fun ev w' => ev = .returned (.tuple #[zeroP, errV 1 12]) ∧ Below W.heap.size W w' := by
  refine (parse_any _ 0 0 [] 1 2 W Rd.nil (ip_of (by omega)) (ip_of (by omega))).mono ?_
  rintro ev w' ⟨hb, ⟨_, rfl⟩ | ⟨h1, _⟩⟩
  · rw [a_end]
    exact ⟨rfl, hb⟩
  · rw [a_end] at h1
    exact absurd h1 (by decide)
theorem aHas (A : Option Addr) (b : Int) (x : Bool) (hx : hasB 18 b = x) (W : World) : Calls Try.prog 11 #[pkV hA A 23 23, .int .u8 b] W fun ev w' => ev = .returned (.bool x) ∧ Below W.heap.size W w' := by
  have := has_any hA A 23 23 b W
  rwa [hx] at this
theorem aSums {W : World} {g : Nat} (h : Row W g aB) : Calls Try.prog 9 #[.slice (some ⟨g, 0, none⟩) 23 23, .int .u32 2, .int .u32 1] W fun ev w' => ev = .returned (.bool true) ∧ Below W.heap.size W w' := by
  have := sums_any _ 23 23 aB 2 1 W (h.rdW (n := 23) rfl (by omega) aB_wf) (ip_of (by omega)) (ip_of (by omega)) (by omega)
  rwa [aB_sum] at this
theorem aSame {W : World} {g g' : Nat} (h : Row W g aB) (h' : Row W g' aB) : Calls Try.prog 8 #[.slice (some ⟨g, 0, none⟩) 23 23, .slice (some ⟨g', 0, none⟩) 23 23] W fun ev w' => ev = .returned (.bool true) ∧ Below W.heap.size W w' :=
  same_any _ _ 23 23 23 23 aB _ _ W (h.rdW (n := 23) rfl (by omega) aB_wf) (h'.rdW (n := 23) rfl (by omega) aB_wf)
/-- What alive's walk knows: two segments and their rows. -/
structure KA (w : World) (gs gr gx g1 : Nat) (W : World) : Prop where
  below : Below w.heap.size w W
  s : PkAt W gs 27 hA (some ⟨gr, 0, none⟩) 23 23
  r : Row W gr aB
  x : PkAt W gx 27 hA (some ⟨g1, 0, none⟩) 23 23
  r1 : Row W g1 aB
  nw : w.heap.size ≤ W.heap.size
theorem KA.step {w W V : World} {gs gr gx g1 : Nat} (h : KA w gs gr gx g1 W) (hb : Below W.heap.size W V) : KA w gs gr gx g1 V := ⟨h.below.trans (hb.mono h.nw), h.s.step hb, h.r.below hb h.r.lt, h.x.step hb, h.r1.below hb h.r1.lt, Nat.le_trans h.nw hb.size⟩
set_option maxRecDepth 100000 in
set_option maxHeartbeats 4000000 in
theorem alive_any (w : World) : Calls Try.prog 5 #[] w fun e w' => e = .returned (.bool true) ∧ Below w.heap.size w w' := by
  have row : Row (w.alloc (.cells xC 5)) w.heap.size aX := heap_alloc_new w (.cells xC 5)
  have b := alloc_below w (.cells xC 5)
  go_enter Try.func5, Try.ntmps5
  go_wp2_with fail
  refine (aMake row).mono ?_
  rintro ev w1 ⟨gr, rfl, r, -, hb⟩
  have ba := alloc_below w1 (.cells (pkC hA (some ⟨gr, 0, none⟩) 23 23) 27)
  have s := PkAt.new w1 27 hA (some ⟨gr, 0, none⟩) 23 23
  replace r := r.below ba r.lt
  replace b := (b.trans (hb.mono b.size)).trans (ba.mono (Nat.le_trans b.size hb.size))
  clear hb ba row
  obtain ⟨a0, a1, a2, a3⟩ := s.cells
  go_wp2_with fail
  change Calls _ _ _ (w1.alloc (.cells (pkC hA (some ⟨gr, 0, none⟩) 23 23) 27)) _
  generalize w1.alloc (.cells (pkC hA (some ⟨gr, 0, none⟩) 23 23) 27) = W1 at *
  generalize w1.heap.size = gs at *
  refine (aBytes r).mono ?_
  rintro ev w2 ⟨g2, rfl, r2, -, hb⟩
  replace r := r.below hb r.lt
  replace s := s.step hb
  replace b := b.trans (hb.mono b.size)
  clear hb a0 a1 a2 a3
  go_wp2_with fail
  refine (aParse r2).mono ?_
  rintro ev w3 ⟨g1, rfl, r1, hb⟩
  have ba := alloc_below w3 (.cells (pkC hA (some ⟨g1, 0, none⟩) 23 23) 27)
  have x := PkAt.new w3 27 hA (some ⟨g1, 0, none⟩) 23 23
  replace hb := hb.trans (ba.mono hb.size)
  have k : KA w gs gr w3.heap.size g1 (w3.alloc (.cells (pkC hA (some ⟨g1, 0, none⟩) 23 23) 27)) := ⟨b.trans (hb.mono b.size), s.step hb, r.below hb r.lt, x, r1.below ba r1.lt, Nat.le_trans b.size hb.size⟩
  clear hb ba b s r x r1 r2
  obtain ⟨a0, a1, a2, a3⟩ := k.s.cells
  go_wp2_with fail
  change Calls _ _ _ (w3.alloc (.cells (pkC hA (some ⟨g1, 0, none⟩) 23 23) 27)) _
  generalize w3.alloc (.cells (pkC hA (some ⟨g1, 0, none⟩) 23 23) 27) = W3 at *
  generalize w3.heap.size = gx at *
  refine (aBytes k.r).mono ?_
  rintro ev w4 ⟨g4, rfl, r4, -, hb⟩
  replace k := k.step hb
  clear hb a0 a1 a2 a3
  go_wp2_with fail
  refine (aBad r4).mono ?_
  rintro ev w5 ⟨rfl, hb⟩
  replace hb := hb.trans ((alloc_below w5 (.cells (pkC zeroH none 0 0) 27)).mono hb.size)
  replace k := k.step hb
  clear hb r4
  go_wp2_with fail
  refine (aEnd _).mono ?_
  rintro ev w6 ⟨rfl, hb⟩
  replace hb := hb.trans ((alloc_below w6 (.cells (pkC zeroH none 0 0) 27)).mono hb.size)
  replace k := k.step hb
  clear hb
  go_wp2_with (at_make; refine wpList_mk (some 33) rfl rfl _ _ 22 rfl Try.underlying22 info5 1461 _ _ rfl rfl rfl rfl (by omega) ?_; intro w9 r9 hs9 hb9; replace k := k.step hb9; clear r9 hs9 hb9)
  refine (make_far ⟨80, 1024, 0⟩ _ 1461 1461 1 2 _ (by omega) (by omega)).mono ?_
  rintro ev w10 ⟨rfl, hb⟩
  replace hb := hb.trans ((alloc_below w10 (.cells (pkC zeroH none 0 0) 27)).mono hb.size)
  replace k := k.step hb
  clear hb
  obtain ⟨a0, a1, a2, a3⟩ := k.s.cells
  obtain ⟨x0, x1, x2, x3⟩ := k.x.cells
  have s12 := k.r.cell (i := 12) (by decide)
  go_wp2_with (first
    | (go_at_call 12; with_reducible refine (whyIs_err 2 13 13 _).mono ?_; rintro ev w11 ⟨rfl, hb⟩; replace k := k.step hb; clear hb a0 a1 a2 a3 x0 x1 x2 x3 s12; obtain ⟨a0, a1, a2, a3⟩ := k.s.cells; obtain ⟨x0, x1, x2, x3⟩ := k.x.cells; have s12 := k.r.cell (i := 12) (by decide))
    | (go_at_call 12; with_reducible refine (whyIs_err 1 12 12 _).mono ?_; rintro ev w11 ⟨rfl, hb⟩; replace k := k.step hb; clear hb a0 a1 a2 a3 x0 x1 x2 x3 s12; obtain ⟨a0, a1, a2, a3⟩ := k.s.cells; obtain ⟨x0, x1, x2, x3⟩ := k.x.cells; have s12 := k.r.cell (i := 12) (by decide))
    | (go_at_call 12; with_reducible refine (whyIs_err 1 11 11 _).mono ?_; rintro ev w11 ⟨rfl, hb⟩; replace k := k.step hb; clear hb a0 a1 a2 a3 x0 x1 x2 x3 s12; obtain ⟨a0, a1, a2, a3⟩ := k.s.cells; obtain ⟨x0, x1, x2, x3⟩ := k.x.cells; have s12 := k.r.cell (i := 12) (by decide))
    | (go_at_call 11; with_reducible refine (aHas _ 2 true aHas2 _).mono ?_; rintro ev w11 ⟨rfl, hb⟩; replace k := k.step hb; clear hb a0 a1 a2 a3 x0 x1 x2 x3 s12; obtain ⟨a0, a1, a2, a3⟩ := k.s.cells; obtain ⟨x0, x1, x2, x3⟩ := k.x.cells; have s12 := k.r.cell (i := 12) (by decide))
    | (go_at_call 11; with_reducible refine (aHas _ 18 true aHas18 _).mono ?_; rintro ev w11 ⟨rfl, hb⟩; replace k := k.step hb; clear hb a0 a1 a2 a3 x0 x1 x2 x3 s12; obtain ⟨a0, a1, a2, a3⟩ := k.s.cells; obtain ⟨x0, x1, x2, x3⟩ := k.x.cells; have s12 := k.r.cell (i := 12) (by decide))
    | (go_at_call 11; with_reducible refine (aHas _ 6 false aHas6 _).mono ?_; rintro ev w11 ⟨rfl, hb⟩; replace k := k.step hb; clear hb a0 a1 a2 a3 x0 x1 x2 x3 s12; obtain ⟨a0, a1, a2, a3⟩ := k.s.cells; obtain ⟨x0, x1, x2, x3⟩ := k.x.cells; have s12 := k.r.cell (i := 12) (by decide))
    | (go_at_call 8; with_reducible refine (aSame k.r1 k.r).mono ?_; rintro ev w11 ⟨rfl, hb⟩; replace k := k.step hb; clear hb a0 a1 a2 a3 x0 x1 x2 x3 s12; obtain ⟨a0, a1, a2, a3⟩ := k.s.cells; obtain ⟨x0, x1, x2, x3⟩ := k.x.cells; have s12 := k.r.cell (i := 12) (by decide))
    | (go_at_call 9; with_reducible refine (aSums k.r).mono ?_; rintro ev w11 ⟨rfl, hb⟩; replace k := k.step hb; clear hb a0 a1 a2 a3 x0 x1 x2 x3 s12; obtain ⟨a0, a1, a2, a3⟩ := k.s.cells; obtain ⟨x0, x1, x2, x3⟩ := k.x.cells; have s12 := k.r.cell (i := 12) (by decide)))
  go_ret
  exact ⟨rfl, k.below⟩
end Go.Proofs.Ytggnkmllbpgfoaa
