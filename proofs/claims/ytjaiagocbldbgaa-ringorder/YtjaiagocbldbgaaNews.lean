/-
  Contracts of New (the program's, the document's); new rows of slots.
-/
import Derived.Test.YtjaiagocbldbgaaTurns
import Derived.Laws.MakeOwn
namespace Go.Proofs.Ytjaiagocbldbgaa
open Go.RowKit
set_option linter.unusedVariables false

def zC : Array Value := #[.int .i64 0, .slice none 0 0]
theorem info77 : (Try.prog.info? 77).map (fun i => (i.zero, i.size, i.bytes)) = some (some (.agg zC), 2, 32) := by kernel_rfl
theorem info88 : (Try.prog.info? 88).map (fun i => (i.zero, i.size, i.bytes)) = some (some (.agg zC), 2, 32) := by kernel_rfl
theorem mk_run (t e : TypeId) (ht : Try.prog.underlying t = some (.slice e)) (hinfo : (Try.prog.info? e).map (fun i => (i.zero, i.size, i.bytes)) = some (some (.agg zC), 2, 32)) (n : Nat) (hn : n ≤ 1024) (w : World) :
    (Instr.makeSlice t (.int .i64 (n : Int)) (.int .i64 (n : Int))).run Try.prog w = .ok (.slice (some ⟨w.heap.size, 0, none⟩) n n) (w.alloc (.cells (madeCells zC (n * 2)) e)) := by
  obtain ⟨i, hi, hzz⟩ := Option.map_eq_some_iff.1 hinfo
  simp only [Prod.mk.injEq] at hzz
  obtain ⟨hz, hs, hb⟩ := hzz
  have := run_make (P := Try.prog) (w := w) t e i (.agg zC) ht hi hz .i64 .i64 (n : Int) (n : Int) (by omega) (by omega) (by rw [hb]; omega) (by omega)
  simpa [hs, show (Value.agg zC).cells = zC from rfl] using this

theorem made_at (n i : Nat) (hi : i < n) : (madeCells zC (n * 2))[i * 2]? = some (.int .i64 0) ∧ (madeCells zC (n * 2))[i * 2 + 1]? = some (.slice none 0 0) := by
  constructor
  · have h1 : i * 2 < n * 2 := by omega
    have h2 : i * 2 % 2 = 0 := by omega
    simp [madeCells, zC, h1, h2]
  · have h1 : i * 2 + 1 < n * 2 := by omega
    have h2 : (i * 2 + 1) % 2 = 1 := by omega
    simp [madeCells, zC, h1, h2]
theorem rep_ow (n i : Nat) : ow (List.replicate n (0, [])) i = 0 := by
  have e : (List.replicate n ((0, []) : Int × List Int)).getD i (0, []) = (0, []) := by
    by_cases hi : i < n
    · simp [List.getD, hi]
    · simp [List.getD, hi]
  unfold ow
  rw [e]
theorem rep_byt (n i : Nat) : byt (List.replicate n (0, [])) i = [] := by
  have e : (List.replicate n ((0, []) : Int × List Int)).getD i (0, []) = (0, []) := by
    by_cases hi : i < n
    · simp [List.getD, hi]
    · simp [List.getD, hi]
  unfold byt
  rw [e]
theorem RowsAt.new (ts : TypeId) (w : World) (n : Nat) (F : Nat → Prop) : RowsAt ts (w.alloc (.cells (madeCells zC (n * 2)) ts)) w.heap.size (List.replicate n (0, [])) F := by
  refine ⟨_, heap_alloc_new w _, by simp [size_madeCells], fun i hi => ?_⟩
  have hi' : i < n := by simpa using hi
  refine ⟨none, 0, 0, ?_, (made_at n i hi').2, by rw [rep_byt]; exact Out.nil, fun ad e => by cases e⟩
  rw [rep_ow]
  exact (made_at n i hi').1
/-- A pool over slots that lie already. -/
theorem PlAt.box {tp ts : TypeId} {w : World} {g : Nat} {L : Slots} {F : Nat → Prop} (hG : Good L) (hne : ¬ ts = 5) (hr : RowsAt ts w g L F) :
    PlAt tp ts (w.alloc (.cells #[.slice (some ⟨g, 0, none⟩) L.length L.length] tp)) w.heap.size g L.length L F := by
  have hb := alloc_below w (.cells #[.slice (some ⟨g, 0, none⟩) L.length L.length] tp)
  obtain ⟨cur, h1, h2, h3⟩ := hr
  have hg : g < w.heap.size := (Array.getElem?_eq_some_iff.1 h1).1
  refine ⟨hG, hne, ⟨_, heap_alloc_new w _, fun _ => rfl⟩, ⟨Nat.le_refl _, by have := hG.1; unfold maxLen; omega⟩, fun _ => ⟨cur, (hb.block g hg).trans h1, h2, fun i hi => ?_⟩, by simp, by simp; omega⟩
  obtain ⟨A, n, c, a1, a2, a3, a4⟩ := h3 i hi
  exact ⟨A, n, c, a1, a2, a3.below hb (Nat.le_refl _), a4⟩
theorem PlAt.new (tp ts : TypeId) (hne : ¬ ts = 5) (w : World) (n : Nat) (hn : n ≤ 1024) (F : Nat → Prop) :
    PlAt tp ts ((w.alloc (.cells (madeCells zC (n * 2)) ts)).alloc (.cells #[.slice (some ⟨w.heap.size, 0, none⟩) n n] tp)) (w.heap.size + 1) w.heap.size n (List.replicate n (0, [])) F := by
  have h := PlAt.box (tp := tp) (Good.new n hn) hne (RowsAt.new ts w n F)
  rw [List.length_replicate, World.size_alloc] at h
  exact h

/-- What New gives. -/
def GivesN (tp ts : TypeId) (w : World) (n : Nat) : Ending → World → Prop := fun e w' =>
  ∃ p g, e = .returned (.tuple #[ptr p, .int .i64 0]) ∧ PlAt tp ts w' p g n (List.replicate n (0, [])) (fun _ => True) ∧ (w.heap.size ≤ p ∧ w.heap.size ≤ g) ∧ Below w.heap.size w w'

theorem new_no (m : Int) (w : World) (hm : m < 1 ∨ 1024 < m) : Calls Try.prog 9 #[.int .i64 m] w fun e w' => e = .returned (.tuple #[.pointer none, .int .i64 11]) ∧ w = w' := by
  rcases hm with h1 | h1
  · go_enter Try.func9, Try.ntmps9
    go_wp2
    go_ret2
    exact ⟨rfl, rfl⟩
  · have h2 : ¬ m < 1 := by omega
    go_enter Try.func9, Try.ntmps9
    go_wp2
    go_ret2
    exact ⟨rfl, rfl⟩
theorem new_yes (n : Nat) (w : World) (h1 : 1 ≤ n) (h2 : n ≤ 1024) : Calls Try.prog 9 #[.int .i64 (n : Int)] w (GivesN 67 77 w n) := by
  have hmk := fun W => mk_run 65 77 Try.underlying65 info77 n h2 W
  have n1 : ¬ (n : Int) < 1 := by omega
  have n2 : ¬ (1024 : Int) < (n : Int) := by omega
  have K := Lib.hid (PlAt.new 67 77 (by decide) w n h2 (fun _ => True))
  have b := ((alloc_below w (.cells (madeCells zC (n * 2)) 77)).alloc (by simp) (.cells #[.slice (some ⟨w.heap.size, 0, none⟩) n n] 67))
  go_enter Try.func9, Try.ntmps9
  go_wp2
  go_ret2
  exact ⟨w.heap.size + 1, w.heap.size, by first | rfl | simp, K.out, ⟨by omega, Nat.le_refl _⟩, b⟩

theorem refNew_no (m : Int) (w : World) (hm : m < 1 ∨ 1024 < m) : Calls Try.prog 10 #[.int .i64 m] w fun e w' => e = .returned (.tuple #[.pointer none, .int .i64 11]) ∧ w = w' := by
  rcases hm with h1 | h1
  · go_enter Try.func10, Try.ntmps10
    go_wp2
    go_ret2
    exact ⟨rfl, rfl⟩
  · have h2 : ¬ m < 1 := by omega
    go_enter Try.func10, Try.ntmps10
    go_wp2
    go_ret2
    exact ⟨rfl, rfl⟩
theorem refNew_yes (n : Nat) (w : World) (h1 : 1 ≤ n) (h2 : n ≤ 1024) : Calls Try.prog 10 #[.int .i64 (n : Int)] w (GivesN 70 88 w n) := by
  have hmk := fun W => mk_run 68 88 Try.underlying68 info88 n h2 W
  have n1 : ¬ (n : Int) < 1 := by omega
  have n2 : ¬ (1024 : Int) < (n : Int) := by omega
  have K := Lib.hid (PlAt.new 70 88 (by decide) w n h2 (fun _ => True))
  have b := ((alloc_below w (.cells (madeCells zC (n * 2)) 88)).alloc (by simp) (.cells #[.slice (some ⟨w.heap.size, 0, none⟩) n n] 70))
  go_enter Try.func10, Try.ntmps10
  go_wp2
  go_ret2
  exact ⟨w.heap.size + 1, w.heap.size, by first | rfl | simp, K.out, ⟨by omega, Nat.le_refl _⟩, b⟩
end Go.Proofs.Ytjaiagocbldbgaa
