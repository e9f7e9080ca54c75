/-
  Contracts of the program's ring: New, Clone, and of slices.Clone.
-/
import Derived.Test.YtjaiagocbldbgaaRSmall
import Derived.Test.YtjaiagocbldbgaaNews
namespace Go.Proofs.Ytjaiagocbldbgaa
open Go.RowKit
set_option linter.unusedVariables false

theorem mkI_run (n : Nat) (hn : n ≤ 1024) (w : World) :
    (Instr.makeSlice 57 (.int .i64 (n : Int)) (.int .i64 (n : Int))).run Try.prog w = .ok (.slice (some ⟨w.heap.size, 0, none⟩) n n) (w.alloc (.cells (madeCells #[.int .i64 0] n) 3)) := by
  have := run_make_row' (P := Try.prog) 57 3 (.int .i64 0) 8 Try.underlying57 info3 rfl .i64 .i64 n (by omega) (by omega) w
  simpa using this
theorem made_zerosI (n : Nat) : madeCells #[Value.int .i64 0] n = ((List.replicate n (0 : Int)).map (Value.int .i64)).toArray := by
  apply Array.ext
  · simp [madeCells]
  · intro i h1 h2
    simp [madeCells, Nat.mod_one]
theorem Out.madeI (w : World) (n base : Nat) (hn : n ≤ 1024) (hb : base ≤ w.heap.size) : Out .i64 3 (w.alloc (.cells (madeCells #[.int .i64 0] n) 3)) base (some ⟨w.heap.size, 0, none⟩) n n (List.replicate n 0) := by
  refine ⟨⟨by simp, .inr ⟨w.heap.size, n, _, rfl, hb, heap_alloc_new w _, Nat.le_refl _, by unfold maxLen; omega, by simp [madeCells], ?_⟩⟩, fun x hx => ?_⟩
  · rw [made_zerosI]; simp
  · obtain rfl := (List.mem_replicate.1 hx).2
    exact i64_small (by omega)
/-- What New and Clone give. -/
def GivesR (w : World) (p z : Nat) (o : Int) (R : List Nat) (d : Nat) (r : Nat → Value) : Ending → World → Prop := fun e w' =>
  ∃ q s, e = .returned (r q) ∧ RgAt w' q p s z o R d ∧ (w.heap.size ≤ q ∧ w.heap.size ≤ s) ∧ Below w.heap.size w w'
theorem newR_no (p : Nat) (z o : Int) (w : World) (h : z < 1 ∨ 256 < z ∨ o < 1 ∨ 255 < o) : Calls Try.prog 11 #[ptr p, .int .i64 z, .int .i64 o] w fun e w' => e = .returned (.tuple #[.pointer none, .int .i64 11]) ∧ w = w' := by
  by_cases h1 : z < 1
  · go_enter Try.func11, Try.ntmps11
    go_wp2
    go_ret2
    exact ⟨rfl, rfl⟩
  by_cases h2 : 256 < z
  · go_enter Try.func11, Try.ntmps11
    go_wp2
    go_ret2
    exact ⟨rfl, rfl⟩
  by_cases h3 : o < 1
  · go_enter Try.func11, Try.ntmps11
    go_wp2
    go_ret2
    exact ⟨rfl, rfl⟩
  have h4 : 255 < o := by omega
  go_enter Try.func11, Try.ntmps11
  go_wp2
  go_ret2
  exact ⟨rfl, rfl⟩
theorem newR_yes (p z : Nat) (o : Int) (w : World) (h1 : 1 ≤ z) (h2 : z ≤ 256) (ho : isOwn o) : Calls Try.prog 11 #[ptr p, .int .i64 (z : Int), .int .i64 o] w (GivesR w p z o [] 0 (fun q => .tuple #[ptr q, .int .i64 0])) := by
  have hmk := fun W => mkI_run z (by omega) W
  have n1 : ¬ (z : Int) < 1 := by omega
  have n2 : ¬ (256 : Int) < (z : Int) := by omega
  have n3 : ¬ o < 1 := by have := ho.1; omega
  have n4 : ¬ 255 < o := by have := ho.2; omega
  have b : Below w.heap.size w ((w.alloc (.cells (madeCells #[.int .i64 0] z) 3)).alloc (.cells #[ptr p, .slice (some ⟨w.heap.size, 0, none⟩) z z, .int .i64 0, .int .i64 0, .int .i64 o, .int .i64 0] 72)) := (alloc_below w _).alloc (by simp) _
  have o1 := Out.madeI w z 0 (by omega) (Nat.zero_le _)
  have K : Hid (RgAt ((w.alloc (.cells (madeCells #[.int .i64 0] z) 3)).alloc (.cells #[ptr p, .slice (some ⟨w.heap.size, 0, none⟩) z z, .int .i64 0, .int .i64 0, .int .i64 o, .int .i64 0] 72)) (w.heap.size + 1) p w.heap.size z o [] 0) := Lib.hid (by
    refine ⟨0, z, _, ?_, o1.below (alloc_below _ _) (Nat.le_refl _), by omega, Lies.nil _ _ _, ⟨h1, h2⟩, ho, by simp, ⟨by simp, by simp; omega⟩⟩
    have := heap_alloc_new (w.alloc (.cells (madeCells #[.int .i64 0] z) 3)) (.cells #[ptr p, .slice (some ⟨w.heap.size, 0, none⟩) z z, .int .i64 0, .int .i64 0, .int .i64 o, .int .i64 0] 72)
    rwa [World.size_alloc] at this)
  clear o1 ho
  go_enter Try.func11, Try.ntmps11
  go_wp2
  go_ret2
  exact ⟨w.heap.size + 1, w.heap.size, by first | rfl | simp, K.out, ⟨by omega, Nat.le_refl _⟩, b⟩

set_option maxHeartbeats 400000 in
theorem cloneI_any (ad : Addr) (n c B : Nat) (xs : List Int) (w : World) (hr : Rd .i64 w B (some ad) n c xs) (hB : B ≤ w.heap.size) (hn : n ≤ 100000) :
    Calls Try.prog 41 #[.slice (some ad) n c] w fun e w' => ∃ A' n' c', e = .returned (.slice A' n' c') ∧ Out .i64 3 w' w.heap.size A' n' c' xs ∧ Below w.heap.size w w' := by
  have o0 := Out.lit0 .i64 3 w w.heap.size (Nat.le_refl _)
  have r0 : Rd .i64 (w.alloc (.cells #[] 3)) B (some ad) n c xs := hr.below (alloc_below w _) hB
  have heq := fun W a n' c' => Lib.run_eql_slice_nil (P := Try.prog) W 57 3 a n' c' 0 0 Try.underlying57
  go_enter Try.func41, Try.ntmps41
  go_wp2_with (first
    | (at_builtin; refine wpList_app rfl (.tmp 5) (.tmp 6) 57 rfl w.heap.size Try.underlying57 info3 (by omega) (some ⟨w.heap.size, 0, none⟩) 0 0 [] rfl o0 (some ad) n c B xs rfl r0 (by omega) (by simp) ?_))
  intro A' n' c' w' o' hg'
  have b' : Below w.heap.size w w' := (alloc_below w _).grown hg' (by simp) (fun k hk => by simp [Value.ownBlock] at hk; omega)
  go_wp2
  go_ret
  exact ⟨A', n', c', rfl, by simpa using o', b'⟩

set_option maxRecDepth 100000 in
set_option maxHeartbeats 1000000 in
theorem cloneR_any (q p p' s z : Nat) (o : Int) (R : List Nat) (d : Nat) (w : World) (h : RgAt w q p s z o R d) :
    Calls Try.prog 17 #[ptr q, ptr p'] w (GivesR w p' z o R d ptr) := by
  obtain ⟨f, c, ys, h⟩ := h
  have ho := h.out
  obtain ⟨n, hn⟩ : ∃ n, R.length = n := ⟨_, rfl⟩
  have hz := h.size
  obtain ⟨W, hW⟩ : ∃ W, w.alloc (.cells #[ptr p', .slice (some ⟨s, 0, none⟩) z c, .int .i64 (f : Int), .int .i64 (n : Int), .int .i64 o, .int .i64 (d : Int)] 72) = W := ⟨_, rfl⟩
  have bW : Below w.heap.size w W := by rw [← hW]; exact alloc_below w _
  have hnew : W.heap[w.heap.size]? = some (.cells #[ptr p', .slice (some ⟨s, 0, none⟩) z c, .int .i64 (f : Int), .int .i64 (n : Int), .int .i64 o, .int .i64 (d : Int)] 72 (0, 0)) := by rw [← hW]; exact heap_alloc_new w _
  have hsW : W.heap.size = w.heap.size + 1 := by rw [← hW]; simp
  have oW := ho.below bW (Nat.le_refl _)
  have C := Lib.hid (cloneI_any ⟨s, 0, none⟩ z c W.heap.size ys W oW.rd (Nat.le_refl _) (by omega))
  have K : Hid (∀ w1 A m c', Below W.heap.size W w1 → Out .i64 3 w1 W.heap.size A m c' ys → ∃ s', A = some ⟨s', 0, none⟩ ∧ m = z ∧ GivesR w p' z o R d ptr (.returned (ptr w.heap.size)) (w1.setCell ⟨w.heap.size, 1, none⟩ (.slice (some ⟨s', 0, none⟩) z c'))) := Lib.hid (by
    intro w1 A m c' b1 o1
    obtain rfl : z = m := by rw [← o1.len, ← h.out.len]
    rcases o1.form with ⟨_, h0, _⟩ | ⟨s', cur, rfl, hs', hh, _⟩
    · omega
    · have hne : w.heap.size ≠ s' := by omega
      have bn := (b1.block w.heap.size (by omega)).trans hnew
      have hk : Kept (· = w.heap.size) w1 (w1.setCell ⟨w.heap.size, 1, none⟩ (.slice (some ⟨s', 0, none⟩) z c')) := Kept.setCell (S := (· = w.heap.size)) w1 _ _ rfl
      have hlt := (Array.getElem?_eq_some_iff.1 bn).1
      have hlt' := (Array.getElem?_eq_some_iff.1 hh).1
      have hsz := hk.size
      refine ⟨s', rfl, rfl, w.heap.size, s', rfl, ⟨f, c', ys, ?_, (o1.kept hk (fun ad e => by cases e; exact Ne.symm hne)).lower (Nat.zero_le _), h.flt, h.lies, h.size, h.own, h.le, ⟨by omega, by omega⟩⟩, ⟨Nat.le_refl _, by omega⟩, ?_⟩
      · rw [setCell_eq_setRow _ _ 1 _ 72 (0, 0) _ bn, hn]
        exact setRow_heap _ _ _ _ 72 (0, 0) bn
      · exact (bW.trans (b1.mono (by omega))).trans (hk.below (by have := b1.size; omega) (fun k e => by omega)))
  obtain ⟨c0, c1, c2, c3, c4, c5, ff, lt1, lt2⟩ := h.cells
  rw [hn] at c3
  have cn := Lib.hid hnew
  have HW := Lib.hid hW
  clear h hn oW ho hnew hW
  go_enter Try.func17, Try.ntmps17
  go_wp2_with fail
  change Calls Try.prog 41 _ (w.alloc (.cells #[ptr p', .slice (some ⟨s, 0, none⟩) z c, .int .i64 (f : Int), .int .i64 (n : Int), .int .i64 o, .int .i64 (d : Int)] 72)) _
  rw [HW.out]
  refine C.out.mono ?_
  rintro ev w1 ⟨A, m, c', rfl, o1, b1⟩
  obtain ⟨s', rfl, rfl, G⟩ := K.out w1 A m c' b1 o1
  have GG := Lib.hid G
  have bn := (b1.block w.heap.size (by omega)).trans cn.out
  have d1 : w1.cell? ⟨w.heap.size, 1, none⟩ = some (.slice (some ⟨s, 0, none⟩) m c) := cell_of_row w1 w.heap.size 1 _ 72 (0, 0) bn
  have d2 : w1.frozen? ⟨w.heap.size, 1, none⟩ = false := by simp [World.frozen?, bn]
  clear K C cn bn o1 b1 G HW bW
  generalize w.heap.size = h0 at *
  go_wp2
  go_ret
  exact GG.out
end Go.Proofs.Ytjaiagocbldbgaa
