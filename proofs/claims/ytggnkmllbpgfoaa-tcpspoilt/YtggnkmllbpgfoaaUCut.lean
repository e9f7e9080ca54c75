/-
  Two slices in a row; contracts of ahead and of sums of two.
-/
import Derived.Test.YtggnkmllbpgfoaaPl
import Derived.Test.YtggnkmllbpgfoaaSTotal
namespace Go.Proofs.Ytggnkmllbpgfoaa
open Go.RowKit

@[reducible] def zeroP : Value := pkV zeroH none 0 0
theorem below_drew (w : World) : Below w.heap.size w w.drew := ⟨rfl, rfl, rfl, Nat.le_refl _, fun _ _ => rfl⟩
theorem splice_all (m : Nat) (ys : List Int) (h : ys.length = m) : splice (List.replicate m (0 : Int)) 0 ys = ys := by simp [splice, h]
theorem Rd.cutS {k : IntKind} {w : World} {B b o : Nat} {n c : Nat} {xs : List Int} (h : Rd k w B (some ⟨b, o, none⟩) n c xs) (f : Nat) (hf : f ≤ n) (hc : ¬ c = f) : Rd k w B (some ⟨b, o + f, none⟩) (n - f) (c - f) (xs.drop f) := by
  have := h.cutFrom f hf
  rw [cutA_ne hc] at this
  have e : (some (⟨b, o, none⟩ : Addr)).map (·.add f) = some ⟨b, o + f, none⟩ := by
    simp only [Option.map_some, Addr.add]
    split <;> simp_all
  rw [e] at this
  exact this
theorem Rd.cellAt {w : World} {B b o : Nat} {n c : Nat} {xs : List Int} (h : Rd .u8 w B (some ⟨b, o, none⟩) n c xs) {i : Nat} (hi : i < n) : w.cell? ⟨b, o + i, none⟩ = some (.int .u8 (xs.getD i 0)) := by
  obtain ⟨b', o', e, -, hc⟩ := h.at_ hi
  injection e with e
  injection e with e1 e2
  subst e1 e2
  exact hc
theorem Row.rdW {w : World} {g : Nat} {xs : List Int} {n : Nat} (h : Row w g xs) (hn : xs.length = n) (hm : n ≤ 100000000) (hw : ∀ x ∈ xs, (Lit.int .u8 x).wf = true) : Rd .u8 w w.heap.size (some ⟨g, 0, none⟩) n n xs := by
  have := h.rd 0 n n (by omega) (Nat.le_refl _) (by unfold maxLen; omega) hw
  rwa [List.drop_zero, List.take_of_length_le (by omega)] at this
/-- Two slices of bytes in a row, just laid. -/
theorem rows_two {W : World} {A1 A2 : Option Addr} {n1 c1 n2 c2 : Nat} {xs ys : List Int} (h1 : Rd .u8 W W.heap.size A1 n1 c1 xs) (h2 : Rd .u8 W W.heap.size A2 n2 c2 ys) :
    Rows2 (W.alloc (.cells #[.slice A1 n1 c1, .slice A2 n2 c2] 22)) (fun _ => False) (W.alloc (.cells #[.slice A1 n1 c1, .slice A2 n2 c2] 22)).heap.size (W.alloc (.cells #[.slice A1 n1 c1, .slice A2 n2 c2] 22)).heap.size (some ⟨W.heap.size, 0, none⟩) 2 2 [xs, ys] := by
  have b := alloc_below W (.cells #[.slice A1 n1 c1, .slice A2 n2 c2] 22)
  have r1 := (h1.below b (Nat.le_refl _)).more b.size
  have r2 := (h2.below b (Nat.le_refl _)).more b.size
  have hc := heap_alloc_new W (.cells #[.slice A1 n1 c1, .slice A2 n2 c2] 22)
  have hs := blk_lt hc
  refine ⟨rfl, by omega, Nat.le_refl _, fun i hi => ?_⟩
  rcases (show i = 0 ∨ i = 1 by omega) with rfl | rfl
  · exact ⟨W.heap.size, 0, A1, n1, c1, rfl, ⟨hs, fun q => q⟩, blk_cell hc rfl, r1⟩
  · exact ⟨W.heap.size, 0, A2, n2, c2, rfl, ⟨hs, fun q => q⟩, blk_cell hc rfl, r2⟩

set_option maxRecDepth 100000 in
set_option maxHeartbeats 2000000 in
theorem ahead_any (f t : Int) (n : Nat) (w : World) (hf : Ip f) (ht : Ip t) (hn : n ≤ 65535) : Calls Try.prog 18 #[.int .u32 f, .int .u32 t, .int .i64 n] w (GivesRow w (epR f t n) 12) := by
  unfold Ip at hf ht
  have a1 : IntKind.u8.wrap (f / 16777216) = f / 16777216 := by rw [IntKind.wrap_u8]; omega
  have a2 : IntKind.u8.wrap (f / 65536) = f / 65536 % 256 := by rw [IntKind.wrap_u8]
  have a3 : IntKind.u8.wrap (f / 256) = f / 256 % 256 := by rw [IntKind.wrap_u8]
  have a4 : IntKind.u8.wrap f = f % 256 := by rw [IntKind.wrap_u8]
  have b1 : IntKind.u8.wrap (t / 16777216) = t / 16777216 := by rw [IntKind.wrap_u8]; omega
  have b2 : IntKind.u8.wrap (t / 65536) = t / 65536 % 256 := by rw [IntKind.wrap_u8]
  have b3 : IntKind.u8.wrap (t / 256) = t / 256 % 256 := by rw [IntKind.wrap_u8]
  have b4 : IntKind.u8.wrap t = t % 256 := by rw [IntKind.wrap_u8]
  have c1 : IntKind.u8.wrap ((n : Int) / 256) = (n : Int) / 256 := by rw [IntKind.wrap_u8]; omega
  have c2 : IntKind.u8.wrap (n : Int) = (n : Int) % 256 := by rw [IntKind.wrap_u8]
  go_enter Try.func18, Try.ntmps18
  go_wp2
  go_ret
  refine ⟨_, rfl, ?_, Nat.le_refl _, alloc_below _ _⟩
  simpa [epR, four, two2, Row] using heap_alloc_new w (.cells #[.int .u8 (f / 16777216), .int .u8 (f / 65536 % 256), .int .u8 (f / 256 % 256), .int .u8 (f % 256), .int .u8 (t / 16777216), .int .u8 (t / 65536 % 256), .int .u8 (t / 256 % 256), .int .u8 (t % 256), .int .u8 0, .int .u8 6, .int .u8 ((n : Int) / 256), .int .u8 ((n : Int) % 256)] 5)
/-- The sum of two slices. -/
theorem right_two {W : World} {A1 A2 : Option Addr} {n1 c1 n2 c2 : Nat} {xs ys : List Int} (h1 : Rd .u8 W W.heap.size A1 n1 c1 xs) (h2 : Rd .u8 W W.heap.size A2 n2 c2 ys) :
    Calls Try.prog 17 #[.slice (some ⟨W.heap.size, 0, none⟩) 2 2] (W.alloc (.cells #[.slice A1 n1 c1, .slice A2 n2 c2] 22)) fun e w' => e = .returned (.bool (totV (xs ++ ys) == 65535)) ∧ Below W.heap.size W w' := by
  have := right_any _ 2 2 [xs, ys] _ (rows_two h1 h2)
  refine this.mono fun e w' ⟨h, hb⟩ => ⟨by simpa using h, (alloc_below W _).trans (hb.mono (alloc_below W _).size)⟩
theorem sumOf_two {W : World} {A1 A2 : Option Addr} {n1 c1 n2 c2 : Nat} {xs ys : List Int} (h1 : Rd .u8 W W.heap.size A1 n1 c1 xs) (h2 : Rd .u8 W W.heap.size A2 n2 c2 ys) :
    Calls Try.prog 21 #[.slice (some ⟨W.heap.size, 0, none⟩) 2 2] (W.alloc (.cells #[.slice A1 n1 c1, .slice A2 n2 c2] 22)) fun e w' => e = .returned (.int .u16 (65535 - totV (xs ++ ys))) ∧ Below W.heap.size W w' := by
  have := sumOf_any _ 2 2 [xs, ys] _ (rows_two h1 h2)
  refine this.mono fun e w' ⟨h, hb⟩ => ⟨by simpa using h, (alloc_below W _).trans (hb.mono (alloc_below W _).size)⟩
end Go.Proofs.Ytggnkmllbpgfoaa
