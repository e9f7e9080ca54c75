/-
  Rows of bytes, and the contract of SameRows.
-/
import Derived.Test.YtjaiagocbldbgaaLeafs
import Derived.Test.YtjaiagocbldbgaaForce
namespace Go.Proofs.Ytjaiagocbldbgaa
open Go.RowKit
set_option linter.unusedVariables false

/-- A slice of slices of bytes that reads as xss; all of it lies below B. -/
structure BRows (w : World) (B : Nat) (A : Option Addr) (n c : Nat) (xss : List (List Int)) : Prop where
  len : xss.length = n
  cap : n ≤ c ∧ c ≤ maxLen
  row : ∀ i, i < n → ∃ b off Ai ni ci, A = some ⟨b, off, none⟩ ∧ b < B ∧ w.cell? ⟨b, off + i, none⟩ = some (.slice Ai ni ci) ∧ Rd .u8 w B Ai ni ci (xss.getD i [])
theorem BRows.below {w w' : World} {B B' n c : Nat} {A : Option Addr} {xss : List (List Int)} (h : BRows w B A n c xss) (hb : Below B' w w') (hB : B ≤ B') : BRows w' B A n c xss := by
  refine ⟨h.len, h.cap, fun i hi => ?_⟩
  obtain ⟨b, off, Ai, ni, ci, h1, h2, h3, h4⟩ := h.row i hi
  exact ⟨b, off, Ai, ni, ci, h1, h2, (hb.cell (p := ⟨b, off + i, none⟩) (show b < B' by omega)).trans h3, h4.below hb hB⟩
theorem BRows.more {w : World} {B B' n c : Nat} {A : Option Addr} {xss : List (List Int)} (h : BRows w B A n c xss) (hB : B ≤ B') : BRows w B' A n c xss := by
  refine ⟨h.len, h.cap, fun i hi => ?_⟩
  obtain ⟨b, off, Ai, ni, ci, h1, h2, h3, h4⟩ := h.row i hi
  exact ⟨b, off, Ai, ni, ci, h1, by omega, h3, h4.more hB⟩
theorem BRows.take {w : World} {B n c m : Nat} {A : Option Addr} {xss : List (List Int)} (h : BRows w B A n c xss) (hm : m ≤ n) : BRows w B A m c (xss.take m) := by
  refine ⟨by rw [List.length_take, h.len]; omega, ⟨by have := h.cap; omega, h.cap.2⟩, fun i hi => ?_⟩
  have e : (xss.take m).getD i [] = xss.getD i [] := by simp [List.getD, hi]
  rw [e]
  exact h.row i (by omega)
set_option maxRecDepth 100000 in
set_option maxHeartbeats 2000000 in
theorem sameRows_any (A A' : Option Addr) (n c c' : Nat) (xss : List (List Int)) (B B' : Nat) (w : World) (hr : BRows w B A n c xss) (hr' : BRows w B' A' n c' xss) (hB : B ≤ w.heap.size) (hB' : B' ≤ w.heap.size) :
    Calls Try.prog 26 #[.slice A n c, .slice A' n c'] w fun e w' => e = .returned (.bool true) ∧ Below w.heap.size w w' := by
  have hmax : n ≤ 9223372036854775807 := by have := hr.cap; unfold maxLen at this; omega
  go_enter Try.func26, Try.ntmps26
  go_wp2
  go_loopw [5] (fun i wr => ∃ k : Nat, k ≤ n ∧ i = .int .i64 k ∧ Below w.heap.size w wr) (fun i _ => n - (intOf i).toNat)
  case atStart => exact ⟨0, Nat.zero_le _, rfl, Below.refl _ _⟩
  case round =>
    obtain ⟨k, hk, rfl, hb⟩ := hrel
    by_cases hlt : k < n
    · have g1 := hr.below hb hB
      have g2 := hr'.below hb hB'
      have hb0 := hb
      obtain ⟨b1, f1, A1, n1, c1, rfl, hl1, y1, r1⟩ := g1.row k hlt
      obtain ⟨b2, f2, A2, n2, c2, rfl, hl2, y2, r2⟩ := g2.row k hlt
      have hbs := hb.size
      clear hr hr' g1 g2
      generalize xss.getD k [] = xs at *
      go_wp2
      refine wp_region_held_drew (S := fun w' => w'.cell? ⟨b1, f1 + k, none⟩ = some (.slice A1 n1 c1) ∧ w'.cell? ⟨b2, f2 + k, none⟩ = some (.slice A2 n2 c2)) (by kernel_rfl) ⟨y1, y2⟩ (fun hHeld => ?_)
      have r1' := r1.below (below_drew wr) (by omega)
      have r2' := r2.below (below_drew wr) (by omega)
      have hb' := hb.trans ((below_drew wr).mono hbs)
      change wpAnyH _ _ _ _ _ _ _ _ (World.drew _)
      generalize World.drew wr = W0 at *
      clear r1 r2 hb hb0
      refine wpAnyH_at (i := 0) (some 17) (v := ?v0z1) rfl rfl (by kernel_rfl) (by kernel_rfl) (by kernel_rfl) (fun _ _ _ h => h) (Or.inl ⟨by rfl, ?y0z1⟩) (by assumption) ?r0z1
      case y0z1 =>
        intro w9 hSw
        obtain ⟨y3, y4⟩ := hSw
        go_simp
        all_goals with_reducible rfl
      simp only [Act.put, List.setIfInBounds_toArray, List.set_cons_zero, List.set_cons_succ]
      refine wpAnyH_at (i := 1) (some 18) (v := ?v1z2) rfl rfl (by kernel_rfl) (by kernel_rfl) (by kernel_rfl) (fun _ _ _ h => h) (Or.inl ⟨by rfl, ?y1z2⟩) (by assumption) ?r1z2
      case y1z2 =>
        intro w9 hSw
        obtain ⟨y3, y4⟩ := hSw
        go_simp
        all_goals with_reducible rfl
      simp only [Act.put, List.setIfInBounds_toArray, List.set_cons_zero, List.set_cons_succ]
      refine wpAnyH_at (i := 2) (some 19) (v := ?v2z3) rfl rfl (by kernel_rfl) (by kernel_rfl) (by kernel_rfl) (fun _ _ _ h => h) (Or.inl ⟨by rfl, ?y2z3⟩) (by assumption) ?r2z3
      case y2z3 =>
        intro w9 hSw
        obtain ⟨y3, y4⟩ := hSw
        go_simp
        all_goals with_reducible rfl
      simp only [Act.put, List.setIfInBounds_toArray, List.set_cons_zero, List.set_cons_succ]
      refine wpAnyH_at (i := 3) (some 20) (v := ?v3z4) rfl rfl (by kernel_rfl) (by kernel_rfl) (by kernel_rfl) (fun _ _ _ h => h) (Or.inl ⟨by rfl, ?y3z4⟩) (by assumption) ?r3z4
      case y3z4 =>
        intro w9 hSw
        obtain ⟨y3, y4⟩ := hSw
        go_simp
        all_goals with_reducible rfl
      simp only [Act.put, List.setIfInBounds_toArray, List.set_cons_zero, List.set_cons_succ]
      refine wpAnyH_at (i := 4) (some 21) (v := ?v4z5) rfl rfl (by kernel_rfl) (by kernel_rfl) (by kernel_rfl) (fun _ _ _ h => h) (Or.inl ⟨by rfl, ?y4z5⟩) (by assumption) ?r4z5
      case y4z5 =>
        intro w9 hSw
        obtain ⟨y3, y4⟩ := hSw
        go_simp
        all_goals with_reducible rfl
      simp only [Act.put, List.setIfInBounds_toArray, List.set_cons_zero, List.set_cons_succ]
      refine wpAnyH_at (i := 5) (some 22) (v := ?v5z6) rfl rfl (by kernel_rfl) (by kernel_rfl) (by kernel_rfl) (fun _ _ _ h => h) (Or.inl ⟨by rfl, ?y5z6⟩) (by assumption) ?r5z6
      case y5z6 =>
        intro w9 hSw
        obtain ⟨y3, y4⟩ := hSw
        go_simp
        all_goals with_reducible rfl
      simp only [Act.put, List.setIfInBounds_toArray, List.set_cons_zero, List.set_cons_succ]
      refine wpAnyH_at (i := 6) (some 23) (v := ?v6z7) rfl rfl (by kernel_rfl) (by kernel_rfl) (by kernel_rfl) (fun _ _ _ h => h) (Or.inl ⟨by rfl, ?y6z7⟩) (by assumption) ?r6z7
      case y6z7 =>
        intro w9 hSw
        obtain ⟨y3, y4⟩ := hSw
        go_simp
        all_goals with_reducible rfl
      simp only [Act.put, List.setIfInBounds_toArray, List.set_cons_zero, List.set_cons_succ]
      refine wpAnyH_at (i := 7) (some 24) (v := ?v7z8) rfl rfl (by kernel_rfl) (by kernel_rfl) (by kernel_rfl) (fun _ _ _ h => h) (Or.inl ⟨by rfl, ?y7z8⟩) (by assumption) ?r7z8
      case y7z8 =>
        intro w9 hSw
        obtain ⟨y3, y4⟩ := hSw
        go_simp
        all_goals with_reducible rfl
      simp only [Act.put, List.setIfInBounds_toArray, List.set_cons_zero, List.set_cons_succ]
      refine wpAnyH_one (i := 8) (by kernel_rfl) rfl ?_
      go_wp2_with fail
      refine (same_any A1 A2 n1 c1 n2 c2 xs _ _ W0 r1' r2').mono ?_
      rintro ev w2 ⟨rfl, hb2⟩
      have hb3 := hb'.trans (hb2.mono hb'.size)
      have hHeld2 : w2.cell? ⟨b1, f1 + k, none⟩ = some (.slice A1 n1 c1) ∧ w2.cell? ⟨b2, f2 + k, none⟩ = some (.slice A2 n2 c2) :=
        ⟨(hb2.cell (World.block_lt_of_cell? _ _ hHeld.1)).trans hHeld.1, (hb2.cell (World.block_lt_of_cell? _ _ hHeld.2)).trans hHeld.2⟩
      clear hb2 hb' r1' r2' hHeld
      go_wp2
      have hHeld := hHeld2
      refine ⟨hHeld, ?_⟩
      try simp only [Act.put, List.setIfInBounds_toArray, List.set_cons_zero, List.set_cons_succ]
      refine wpAnyH_at (i := 9) (some 26) (v := ?v9z9) rfl rfl (by kernel_rfl) (by kernel_rfl) (by kernel_rfl) (fun _ _ _ h => h) (Or.inl ⟨by rfl, ?y9z9⟩) (by assumption) ?r9z9
      case y9z9 =>
        intro w9 hSw
        clear hSw
        go_simp
        all_goals with_reducible rfl
      simp only [Act.put, List.setIfInBounds_toArray, List.set_cons_zero, List.set_cons_succ]
      refine wpAnyH_done (by kernel_rfl) ?_ _
      clear hHeld hHeld2 y1 y2
      go_wp2
      go_roundw
      case rel => exact ⟨k + 1, by omega, by go_num, hb3⟩
      case measure => simp [intOf]; omega
    · go_wp2
      go_ret
      exact ⟨rfl, hb⟩
end Go.Proofs.Ytjaiagocbldbgaa
