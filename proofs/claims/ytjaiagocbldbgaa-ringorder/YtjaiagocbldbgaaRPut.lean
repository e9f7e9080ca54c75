/-
  Contracts of the program's ring: Put, Move.
-/
import Derived.Test.YtjaiagocbldbgaaRLay
namespace Go.Proofs.Ytjaiagocbldbgaa
open Go.RowKit
set_option linter.unusedVariables false

theorem GivesL.ahead {w w0 w1 : World} {q p s g cp z : Nat} {o : Int} {L' : Slots} {R' : List Nat} {d' : Nat} {F : Nat → Prop} {E : Int} {e : Ending} (hb : Below w.heap.size w w0) (h : GivesL w0 q p s g cp z o L' R' d' F E e w1) : GivesL w q p s g cp z o L' R' d' F E e w1 :=
  ⟨h.1, h.2.1, h.2.2.1, Kept.ahead hb h.2.2.2⟩
theorem layPut_any (q p s z : Nat) (o : Int) (R : List Nat) (d bq bb : Nat) (A : Option Addr) (m cA B : Nat) (xs : List Int) (g cp : Nat) (L : Slots) (F : Nat → Prop) (w : World) (h : RgAt w q p s z o R d) (hd : d ≤ 100000)
    (x0 : w.cell? ⟨bq, 0, none⟩ = some (ptr q)) (x1 : w.cell? ⟨bb, 0, none⟩ = some (.slice A m cA)) (hnb : bq ≠ g ∧ bb ≠ g) (hr : Rd .u8 w B A m cA xs) (hB : B ≤ w.heap.size) (hF : ∀ b, w.heap.size ≤ b → F b) (hp : Pp w p g cp L F) (hL : 0 < L.length) :
    Calls Try.prog 45 #[ptr q, .func (.func 46) #[] #[ptr bq, ptr bb]] w (GivesL w q p s g cp z o (ptL L R z o xs) (ptR L R z o m) (drp (ptE L R z o m) d) F (ptE L R z o m)) := by
  obtain ⟨f, c, ys, h⟩ := h
  have k : ∀ n, RgCells w q p s f c n z o d → KS q p s f c n z o d [(bq, ptr q), (bb, .slice A m cA)] w := fun n hc => ⟨hc, fun b hb => by
    rcases List.mem_cons.1 hb with rfl | hb
    · exact x0
    · obtain rfl := List.mem_singleton.1 hb
      exact x1⟩
  by_cases hf : R.length < z
  · by_cases hE : ptE L R z o m = 0
    · exact layPut_yes q p s f c z ys o R d bq bb A m cA B xs g cp L F w h hd k hnb hr hB hF hp hL hf hE
    · exact layPut_no q p s f c z ys o R d bq bb A m cA B xs g cp L F w h hd k hnb hr hB hF hp hL hf hE
  · exact layPut_full q p s f c z ys o R d bq bb A m cA B xs g cp L F w h hd k hnb hr hB hF hp hL hf
theorem layMove_any (q p s z : Nat) (o : Int) (R : List Nat) (d b0 bq b2 : Nat) (b fr : Int) (g cp : Nat) (L : Slots) (F : Nat → Prop) (w : World) (h : RgAt w q p s z o R d) (hd : d ≤ 100000)
    (x0 : w.cell? ⟨b0, 0, none⟩ = some (.int .i64 b)) (x1 : w.cell? ⟨bq, 0, none⟩ = some (ptr q)) (x2 : w.cell? ⟨b2, 0, none⟩ = some (.int .i64 fr)) (hnb : b0 ≠ g ∧ bq ≠ g ∧ b2 ≠ g) (hp : Pp w p g cp L F) (hL : 0 < L.length) :
    Calls Try.prog 45 #[ptr q, .func (.func 51) #[] #[ptr b0, ptr bq, ptr b2]] w (GivesL w q p s g cp z o (mvL L R z o b fr) (mvR L R z o b fr) (drp (mvE L R z o b fr) d) F (mvE L R z o b fr)) := by
  obtain ⟨f, c, ys, h⟩ := h
  have k : ∀ n, RgCells w q p s f c n z o d → KS q p s f c n z o d [(b0, .int .i64 b), (bq, ptr q), (b2, .int .i64 fr)] w := fun n hc => ⟨hc, fun b hb => by
    rcases List.mem_cons.1 hb with rfl | hb
    · exact x0
    rcases List.mem_cons.1 hb with rfl | hb
    · exact x1
    · obtain rfl := List.mem_singleton.1 hb
      exact x2⟩
  by_cases hf : R.length < z
  · by_cases hE : mvE L R z o b fr = 0
    · exact layMove_yes q p s f c z ys o R d b0 bq b2 b fr g cp L F w h hd k hnb hp hL hf hE
    · exact layMove_no q p s f c z ys o R d b0 bq b2 b fr g cp L F w h hd k hnb hp hL hf hE
  · exact layMove_full q p s f c z ys o R d b0 bq b2 b fr g cp L F w h hd k hnb hp hL hf

set_option maxHeartbeats 1000000 in
theorem put_any (q p s z : Nat) (o : Int) (R : List Nat) (d : Nat) (A : Option Addr) (m cA B : Nat) (xs : List Int) (g cp : Nat) (L : Slots) (F : Nat → Prop) (w : World) (h : RgAt w q p s z o R d) (hd : d ≤ 100000)
    (hr : Rd .u8 w B A m cA xs) (hB : B ≤ w.heap.size) (hF : ∀ b, w.heap.size ≤ b → F b) (hp : Pp w p g cp L F) (hL : 0 < L.length) :
    Calls Try.prog 21 #[ptr q, .slice A m cA] w (GivesL w q p s g cp z o (ptL L R z o xs) (ptR L R z o m) (drp (ptE L R z o m) d) F (ptE L R z o m)) := by
  have b1 : Below w.heap.size w ((w.alloc (.cells #[ptr q] 35)).alloc (.cells #[.slice A m cA] 23)) := (alloc_below w _).alloc (by simp) _
  have hg := hp.lt
  have T := layPut_any q p s z o R d w.heap.size (w.heap.size + 1) A m cA B xs g cp L F ((w.alloc (.cells #[ptr q] 35)).alloc (.cells #[.slice A m cA] 23)) (h.below b1) hd
    ((((alloc_below _ _).cell (p := ⟨w.heap.size, 0, none⟩) (by simp))).trans (cell_of_one (heap_alloc_new w _))) (by have := cell_of_one (heap_alloc_new (w.alloc (.cells #[ptr q] 35)) (.cells #[.slice A m cA] 23)); rwa [World.size_alloc] at this)
    ⟨by omega, by omega⟩ (hr.below b1 hB) (Nat.le_trans hB b1.size) (fun j hj => hF j (Nat.le_trans b1.size hj)) (hp.below b1) hL
  have HT := Lib.hid T
  clear T h hr hp hF
  go_enter Try.func21, Try.ntmps21
  go_wp2_with fail
  refine HT.out.mono ?_
  intro ev w2 G
  obtain rfl := G.1
  have GA := Lib.hid (G.ahead b1)
  clear G HT b1
  go_wp2
  go_ret
  exact GA.out
set_option maxHeartbeats 1000000 in
theorem move_any (q p s z : Nat) (o : Int) (R : List Nat) (d : Nat) (b fr : Int) (g cp : Nat) (L : Slots) (F : Nat → Prop) (w : World) (h : RgAt w q p s z o R d) (hd : d ≤ 100000) (hp : Pp w p g cp L F) (hL : 0 < L.length) :
    Calls Try.prog 30 #[ptr q, .int .i64 b, .int .i64 fr] w (GivesL w q p s g cp z o (mvL L R z o b fr) (mvR L R z o b fr) (drp (mvE L R z o b fr) d) F (mvE L R z o b fr)) := by
  have b1 : Below w.heap.size w (((w.alloc (.cells #[ptr q] 35)).alloc (.cells #[.int .i64 b] 3)).alloc (.cells #[.int .i64 fr] 3)) := ((alloc_below w _).alloc (by simp) _).alloc (by simp; omega) _
  have hg := hp.lt
  have e0 := cell_of_one (heap_alloc_new w (.cells #[ptr q] 35))
  have e1 := cell_of_one (heap_alloc_new (w.alloc (.cells #[ptr q] 35)) (.cells #[.int .i64 b] 3))
  have e2 := cell_of_one (heap_alloc_new ((w.alloc (.cells #[ptr q] 35)).alloc (.cells #[.int .i64 b] 3)) (.cells #[.int .i64 fr] 3))
  rw [World.size_alloc] at e1
  rw [World.size_alloc, World.size_alloc] at e2
  have T := layMove_any q p s z o R d (w.heap.size + 1) w.heap.size (w.heap.size + 1 + 1) b fr g cp L F (((w.alloc (.cells #[ptr q] 35)).alloc (.cells #[.int .i64 b] 3)).alloc (.cells #[.int .i64 fr] 3)) (h.below b1) hd
    (((alloc_below _ _).cell (p := ⟨w.heap.size + 1, 0, none⟩) (by simp)).trans e1) ((((alloc_below _ _).alloc (by simp) _).cell (p := ⟨w.heap.size, 0, none⟩) (by simp)).trans e0) e2
    ⟨by omega, by omega, by omega⟩ (hp.below b1) hL
  have HT := Lib.hid T
  clear T h hp e0 e1 e2
  go_enter Try.func30, Try.ntmps30
  go_wp2_with fail
  refine HT.out.mono ?_
  intro ev w2 G
  obtain rfl := G.1
  have GA := Lib.hid (G.ahead b1)
  clear G HT b1
  go_wp2
  go_ret
  exact GA.out
end Go.Proofs.Ytjaiagocbldbgaa
