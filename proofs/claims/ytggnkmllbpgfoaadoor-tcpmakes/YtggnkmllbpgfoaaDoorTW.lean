/-
  The contracts of Parse and of the document's Parse, as the laws use them.
-/
import Derived.Test.YtggnkmllbpgfoaaDoorTAlive
import Derived.Test.YtggnkmllbpgfoaaDoorTSame
import Derived.Test.YtggnkmllbpgfoaaDoorRMake
import Derived.Test.YtggnkmllbpgfoaaDoorIsL
namespace Go.Proofs.YtggnkmllbpgfoaaDoor
open Go.RowKit

section
variable {A : Option Addr} {n c : Nat} {xs : List Int} {f t : Int} {W : World} {r e : Int} {h : Hd}
theorem parse_no (hr : Rd .u8 W W.heap.size A n c xs) (hf : Ip f) (ht : Ip t) (hE : pE f t xs = (r, e)) (he : ¬ e = 0) : Calls Tryd.prog 7 #[.slice A n c, .int .u32 f, .int .u32 t] W fun ev w' => ev = .returned (.tuple #[zeroP, errV r e]) ∧ Below W.heap.size W w' := by
  refine (parse_any A n c xs f t W hr hf ht).mono ?_
  rintro ev w' ⟨hb, ⟨_, rfl⟩ | ⟨h1, _⟩⟩
  · rw [hE]
    exact ⟨rfl, hb⟩
  · rw [hE] at h1
    exact absurd h1 he
theorem parse_yes (hr : Rd .u8 W W.heap.size A n c xs) (hf : Ip f) (ht : Ip t) (hE : (pE f t xs).2 = 0) (hh : hdOf xs = h) :
    Calls Tryd.prog 7 #[.slice A n c, .int .u32 f, .int .u32 t] W fun ev w' => ∃ g, ev = .returned (.tuple #[pkV h (some ⟨g, 0, none⟩) n n, .nilIface]) ∧ Row w' g xs ∧ W.heap.size ≤ g ∧ Below W.heap.size W w' := by
  refine (parse_any A n c xs f t W hr hf ht).mono ?_
  rintro ev w' ⟨hb, ⟨h1, _⟩ | ⟨_, g, rfl, row, hg⟩⟩
  · exact absurd hE h1
  · rw [hh]
    exact ⟨g, rfl, row, hg, hb⟩
theorem refParse_no (hr : Rd .u8 W W.heap.size A n c xs) (hf : Ip f) (ht : Ip t) (hE : pE f t xs = (r, e)) (he : ¬ e = 0) : Calls Tryd.prog 8 #[.slice A n c, .int .u32 f, .int .u32 t] W (GivesN W r e) := by
  rcases refParse_all A n c xs f t W hr hf ht with ⟨_, q⟩ | ⟨q, _⟩
  · rw [hE] at q
    exact q
  · rw [hE] at q
    exact absurd q he
theorem refParse_yes (hr : Rd .u8 W W.heap.size A n c xs) (hf : Ip f) (ht : Ip t) (hE : (pE f t xs).2 = 0) (hh : hdOf xs = h) : Calls Tryd.prog 8 #[.slice A n c, .int .u32 f, .int .u32 t] W (GivesY W h xs) := by
  rcases refParse_all A n c xs f t W hr hf ht with ⟨q, _⟩ | ⟨_, q⟩
  · exact absurd hE q
  · rw [hh] at q
    exact q
theorem pE_pair (f t : Int) (xs : List Int) (h : ¬ (pE f t xs).2 = 0) : ∃ r e, pE f t xs = (r, e) ∧ ¬ e = 0 := ⟨(pE f t xs).1, (pE f t xs).2, rfl, h⟩
end
/-- A segment of the program's: its block, its bytes. -/
structure Sp (g : Nat) (h : Hd) (B : Option Addr) (m : Nat) (ys : List Int) (W : World) : Prop where
  p : PkAt W g 28 h B m m
  r : Rd .u8 W W.heap.size B m m ys
/-- A segment of the document's, with its fault. -/
structure Sq (g gf : Nat) (h : Hd) (D : Option Addr) (nd cd : Nat) (ys : List Int) (Af : Option Addr) (nf cf : Nat) (ef : Int) (rs : List Int) (W : World) : Prop where
  q : PkAt W g 33 h D nd cd
  r : Rd .u8 W W.heap.size D nd cd ys
  f : W.heap[gf]? = some (.cells (flC Af nf cf ef) 37 (0, 0))
  fr : Rd .i64 W W.heap.size Af nf cf rs
section
variable {w W V : World} {xs ys : List Int} {g gf : Nat} {h : Hd} {B D Af : Option Addr} {m nd cd nf cf : Nat} {ef : Int} {rs : List Int}
theorem Sp.step (q : Sp g h B m ys W) (hb : Below W.heap.size W V) : Sp g h B m ys V := ⟨q.p.step hb, (q.r.below hb (Nat.le_refl _)).more hb.size⟩
theorem Sp.new (r : Rd .u8 W W.heap.size B m m ys) : Sp W.heap.size h B m ys (W.alloc (.cells (pkC h B m m) 28)) := ⟨PkAt.new W 28 h B m m, (r.below (alloc_below _ _) (Nat.le_refl _)).more (alloc_below _ _).size⟩
theorem Sq.step (q : Sq g gf h D nd cd ys Af nf cf ef rs W) (hb : Below W.heap.size W V) : Sq g gf h D nd cd ys Af nf cf ef rs V := ⟨q.q.step hb, (q.r.below hb (Nat.le_refl _)).more hb.size, (hb.block _ (blk_lt q.f)).trans q.f, (q.fr.below hb (Nat.le_refl _)).more hb.size⟩
theorem Sq.new (r : Rd .u8 W W.heap.size D nd cd ys) (fr : Rd .i64 W W.heap.size Af nf cf rs) : Sq W.heap.size (W.heap.size + 1) h D nd cd ys Af nf cf ef rs ((W.alloc (.cells (pkC h D nd cd) 33)).alloc (.cells (flC Af nf cf ef) 37)) := by
  have b1 := alloc_below W (.cells (pkC h D nd cd) 33)
  have p1 := PkAt.new W 33 h D nd cd
  have s1 : (W.alloc (.cells (pkC h D nd cd) 33)).heap.size = W.heap.size + 1 := by simp
  have r1 := (r.below b1 (Nat.le_refl _)).more b1.size
  have f1 := (fr.below b1 (Nat.le_refl _)).more b1.size
  generalize W.alloc (.cells (pkC h D nd cd) 33) = W1 at *
  have b2 := alloc_below W1 (.cells (flC Af nf cf ef) 37)
  have y := heap_alloc_new W1 (.cells (flC Af nf cf ef) 37)
  rw [s1] at y
  exact ⟨p1.step b2, (r1.below b2 (Nat.le_refl _)).more b2.size, y, (f1.below b2 (Nat.le_refl _)).more b2.size⟩
theorem Sq.fault (q : Sq g gf h D nd cd ys Af nf cf ef rs W) : W.cell? ⟨gf, 0, none⟩ = some (.slice Af nf cf) ∧ W.cell? ⟨gf, 1, none⟩ = some (.int .i64 ef) := ⟨blk_cell q.f rfl, blk_cell q.f rfl⟩
end
end Go.Proofs.YtggnkmllbpgfoaaDoor
