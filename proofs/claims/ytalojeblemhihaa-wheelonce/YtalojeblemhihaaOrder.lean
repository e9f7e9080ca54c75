/-
  The order of a wheel's timers, as a closure; the sort of those that are told.
-/
import Derived.Test.YtalojeblemhihaaSort
import Derived.Test.YtalojeblemhihaaCancel
import Derived.Test.YtalojeblemhihaaClone
namespace Go.Proofs.Ytalojeblemhihaa
open Go.RowKit
set_option linter.unusedVariables false

theorem putCells_B (off : Nat) (d : Array B64) (c : Array Value) : Sort.putCells encB off d c = Sort.putCells (Value.int .i64) off (d.map BitVec.toInt) c := by
  unfold Sort.putCells
  apply Array.ext
  · simp
  · intro i h1 h2
    simp only [Array.getElem_mapIdx, Array.size_map]
    split
    · rename_i h
      have hlt : i - off < d.size := by omega
      rw [getElem!_pos d _ hlt, getElem!_pos (d.map BitVec.toInt) _ (by simpa using hlt), Array.getElem_map]
      rfl
    · rfl
theorem sortWorld_B (w : World) (blk off m : Nat) (d : Array B64) (os : Array Obj) : sortWorld encB w blk off m d os = Sort.grow (Sort.putRow (Value.int .i64) (Sort.ahead w m) blk off (d.map BitVec.toInt)) os := by
  unfold sortWorld Sort.putRow
  congr 1
  congr 1
  funext c
  exact putCells_B off d c
theorem holds_B {w : World} {g : Nat} {L : List Int} (hw : ∀ t ∈ L, wfI t) (h : Sort.Holds (Value.int .i64) w g 0 L.toArray) : Sort.Holds encB w g 0 (L.map (BitVec.ofInt 64)).toArray := by
  intro j hj
  have hj' : j < L.length := by simpa using hj
  obtain ⟨h1, h2⟩ := h j (by simpa using hj')
  refine ⟨?_, h2⟩
  rw [h1, getElem!_pos L.toArray j (by simpa using hj'), getElem!_pos _ j hj]
  simp only [List.getElem_toArray, List.getElem_map]
  unfold encB
  rw [toInt_of (hw _ (List.getElem_mem hj'))]

/-- What the order's walk knows. -/
structure KO (bx p bd : Nat) (R : List Tm) (W : World) : Prop where
  bx : W.cell? ⟨bx, 0, none⟩ = some (ptr p)
  c1 : W.cell? ⟨p, 1, none⟩ = some (.map (some bd))
  du : DuAt W bd R
theorem KO.grown {bx p bd : Nat} {R : List Tm} {W W' : World} {row : Option Nat} (h : KO bx p bd R W) (hg : W.grownBy W' row) (h1 : row ≠ some bx) (h2 : row ≠ some p) (h3 : row ≠ some bd) : KO bx p bd R W' := by
  refine ⟨(World.cell?_of_block (a := ⟨bx, 0, none⟩) (hg.block bx (World.block_lt_of_cell? _ _ h.bx) (fun e => h1 e.symm))).trans h.bx, (World.cell?_of_block (a := ⟨p, 1, none⟩) (hg.block p (World.block_lt_of_cell? _ _ h.c1) (fun e => h2 e.symm))).trans h.c1, h.du.kept (S := fun k => row = some k) (Kept.grown hg (fun k e => e)) h3⟩
theorem KO.new {bx p bd : Nat} {R : List Tm} {W W' : World} (h : KO bx p bd R W) (hb : Below W.heap.size W W') : KO bx p bd R W' :=
  ⟨(hb.cell (p := ⟨bx, 0, none⟩) (World.block_lt_of_cell? _ _ h.bx)).trans h.bx, (hb.cell (p := ⟨p, 1, none⟩) (World.block_lt_of_cell? _ _ h.c1)).trans h.c1, h.du.new_below hb h.du.lt⟩
set_option maxRecDepth 100000 in
set_option maxHeartbeats 2000000 in
theorem order1_any (bx p bd : Nat) (R : List Tm) (hO : Ok R) (a b : Int) (ha : wfI a) (hb : wfI b) (W : World) (k : KO bx p bd R W) :
    Calls Try.prog 39 #[.int .i64 a, .int .i64 b, ptr bx] W fun e w' => e = .returned (.int .i64 (cfT R a b)) ∧ ∃ q os', w' = Sort.grow (W.drewN q) os' := by
  go_enter Try.func39, Try.ntmps39
  go_wp2
  refine wp_region_held_drew (S := fun W => KO bx p bd R W) (by kernel_rfl) (k.new (below_drew W)) (fun hHeld => ?_)
  have hd : World.drew W = W.drewN 1 := rfl
  change wpAnyH _ _ _ _ _ _ _ _ (World.drew _)
  generalize World.drew W = W0 at *
  have C1 := cmp41 (dueT a R : Nat) (dueT b R : Nat)
  have C2 := cmp42 a b
  have G : Hid (∀ x y w3, x = Lib.compareInt (dueT a R : Nat) (dueT b R : Nat) → y = Lib.compareInt a b → w3 = W0.alloc (.cells #[.int .i64 x, .int .i64 y] 3) → orI x y = cfT R a b ∧ ∃ q os', w3 = Sort.grow (W.drewN q) os') := Lib.hid (by
    rintro x y w3 rfl rfl rfl
    exact ⟨rfl, 1, #[_], by rw [← hd]; exact Sort.alloc_eq_grow _ _⟩)
  have D1 : ∀ W, KO bx p bd R W → (Instr.lookup 56 (.map (some bd)) (.int .i64 a) false).run Try.prog W = .ok (.int .u64 (dueT a R : Nat)) W := fun W hW => hW.du.look1 hO ha
  have D2 : ∀ W, KO bx p bd R W → (Instr.lookup 56 (.map (some bd)) (.int .i64 b) false).run Try.prog W = .ok (.int .u64 (dueT b R : Nat)) W := fun W hW => hW.du.look1 hO hb
  obtain ⟨c1, hc1⟩ : ∃ c, Lib.compareInt (dueT a R : Nat) (dueT b R : Nat) = c := ⟨_, rfl⟩
  obtain ⟨c2, hc2⟩ : ∃ c, Lib.compareInt a b = c := ⟨_, rfl⟩
  rw [hc1] at C1
  rw [hc2] at C2
  replace G := Lib.hid (fun w3 h => G.out c1 c2 w3 hc1.symm hc2.symm h)
  have hS1 := hHeld.new (alloc_below W0 (.cells #[.int .i64 c1, .int .i64 c2] 3))
  have b0 := heap_alloc_new W0 (.cells #[.int .i64 c1, .int .i64 c2] 3)
  have x0 : (W0.alloc (.cells #[.int .i64 c1, .int .i64 c2] 3)).cell? ⟨W0.heap.size, 0, none⟩ = some (.int .i64 c1) := by rw [cell_of_row _ _ _ _ _ _ b0]; rfl
  have x1 : (W0.alloc (.cells #[.int .i64 c1, .int .i64 c2] 3)).cell? ⟨W0.heap.size, 1, none⟩ = some (.int .i64 c2) := by rw [cell_of_row _ _ _ _ _ _ b0]; rfl
  have C3 := or_any W0.heap.size c1 c2 _ x0 x1
  clear hd k hc1 hc2 b0 x0 x1
  generalize dueT a R = da at *
  generalize dueT b R = db at *
  refine wpAnyH_at (i := 0) (some 6) (v := ?v0z1) rfl rfl (by kernel_rfl) (by kernel_rfl) (by kernel_rfl) (fun _ _ _ h => h) (Or.inl ⟨by rfl, ?y0z1⟩) (by assumption) ?r0z1
  case y0z1 =>
    intro w9 hSw
    have x0 := hSw.bx; have c0 := hSw.c1; have d1 := D1 _ hSw; have d2 := D2 _ hSw; clear hSw
    go_simp
    all_goals with_reducible rfl
  simp only [Act.put, List.setIfInBounds_toArray, List.set_cons_zero, List.set_cons_succ]
  refine wpAnyH_at (i := 1) (some 7) (v := ?v1z2) rfl rfl (by kernel_rfl) (by kernel_rfl) (by kernel_rfl) (fun _ _ _ h => h) (Or.inl ⟨by rfl, ?y1z2⟩) (by assumption) ?r1z2
  case y1z2 =>
    intro w9 hSw
    have x0 := hSw.bx; have c0 := hSw.c1; have d1 := D1 _ hSw; have d2 := D2 _ hSw; clear hSw
    go_simp
    all_goals with_reducible rfl
  simp only [Act.put, List.setIfInBounds_toArray, List.set_cons_zero, List.set_cons_succ]
  refine wpAnyH_at (i := 2) (some 8) (v := ?v2z3) rfl rfl (by kernel_rfl) (by kernel_rfl) (by kernel_rfl) (fun _ _ _ h => h) (Or.inl ⟨by rfl, ?y2z3⟩) (by assumption) ?r2z3
  case y2z3 =>
    intro w9 hSw
    have x0 := hSw.bx; have c0 := hSw.c1; have d1 := D1 _ hSw; have d2 := D2 _ hSw; clear hSw
    go_simp
    all_goals with_reducible rfl
  simp only [Act.put, List.setIfInBounds_toArray, List.set_cons_zero, List.set_cons_succ]
  refine wpAnyH_at (i := 3) (some 9) (v := ?v3z4) rfl rfl (by kernel_rfl) (by kernel_rfl) (by kernel_rfl) (fun _ _ _ h => h) (Or.inl ⟨by rfl, ?y3z4⟩) (by assumption) ?r3z4
  case y3z4 =>
    intro w9 hSw
    have x0 := hSw.bx; have c0 := hSw.c1; have d1 := D1 _ hSw; have d2 := D2 _ hSw; clear hSw
    go_simp
    all_goals with_reducible rfl
  simp only [Act.put, List.setIfInBounds_toArray, List.set_cons_zero, List.set_cons_succ]
  refine wpAnyH_at (i := 4) (some 10) (v := ?v4z5) rfl rfl (by kernel_rfl) (by kernel_rfl) (by kernel_rfl) (fun _ _ _ h => h) (Or.inl ⟨by rfl, ?y4z5⟩) (by assumption) ?r4z5
  case y4z5 =>
    intro w9 hSw
    have x0 := hSw.bx; have c0 := hSw.c1; have d1 := D1 _ hSw; have d2 := D2 _ hSw; clear hSw
    go_simp
    all_goals with_reducible rfl
  simp only [Act.put, List.setIfInBounds_toArray, List.set_cons_zero, List.set_cons_succ]
  refine wpAnyH_at (i := 5) (some 11) (v := ?v5z6) rfl rfl (by kernel_rfl) (by kernel_rfl) (by kernel_rfl) (fun _ _ _ h => h) (Or.inl ⟨by rfl, ?y5z6⟩) (by assumption) ?r5z6
  case y5z6 =>
    intro w9 hSw
    have x0 := hSw.bx; have c0 := hSw.c1; have d1 := D1 _ hSw; have d2 := D2 _ hSw; clear hSw
    go_simp
    all_goals with_reducible rfl
  simp only [Act.put, List.setIfInBounds_toArray, List.set_cons_zero, List.set_cons_succ]
  refine wpAnyH_at (i := 6) (some 12) (v := ?v6z7) rfl rfl (by kernel_rfl) (by kernel_rfl) (by kernel_rfl) (fun _ _ _ h => h) (Or.inl ⟨by rfl, ?y6z7⟩) (by assumption) ?r6z7
  case y6z7 =>
    intro w9 hSw
    have x0 := hSw.bx; have c0 := hSw.c1; have d1 := D1 _ hSw; have d2 := D2 _ hSw; clear hSw
    go_simp
    all_goals with_reducible rfl
  simp only [Act.put, List.setIfInBounds_toArray, List.set_cons_zero, List.set_cons_succ]
  refine wpAnyH_at (i := 7) (some 13) (v := ?v7z8) rfl rfl (by kernel_rfl) (by kernel_rfl) (by kernel_rfl) (fun _ _ _ h => h) (Or.inl ⟨by rfl, ?y7z8⟩) (by assumption) ?r7z8
  case y7z8 =>
    intro w9 hSw
    have x0 := hSw.bx; have c0 := hSw.c1; have d1 := D1 _ hSw; have d2 := D2 _ hSw; clear hSw
    go_simp
    all_goals with_reducible rfl
  simp only [Act.put, List.setIfInBounds_toArray, List.set_cons_zero, List.set_cons_succ]
  refine wpAnyH_at (i := 8) (some 14) (v := ?v8z9) rfl rfl (by kernel_rfl) (by kernel_rfl) (by kernel_rfl) (fun _ _ _ h => h) (Or.inl ⟨by rfl, ?y8z9⟩) (by assumption) ?r8z9
  case y8z9 =>
    intro w9 hSw
    have x0 := hSw.bx; have c0 := hSw.c1; have d1 := D1 _ hSw; have d2 := D2 _ hSw; clear hSw
    go_simp
    all_goals with_reducible rfl
  simp only [Act.put, List.setIfInBounds_toArray, List.set_cons_zero, List.set_cons_succ]
  refine wpAnyH_at (i := 9) (some 15) (v := ?v9z10) rfl rfl (by kernel_rfl) (by kernel_rfl) (by kernel_rfl) (fun _ _ _ h => h) (Or.inl ⟨by rfl, ?y9z10⟩) (by assumption) ?r9z10
  case y9z10 =>
    intro w9 hSw
    have x0 := hSw.bx; have c0 := hSw.c1; have d1 := D1 _ hSw; have d2 := D2 _ hSw; clear hSw
    go_simp
    all_goals with_reducible rfl
  simp only [Act.put, List.setIfInBounds_toArray, List.set_cons_zero, List.set_cons_succ]
  refine wpAnyH_at (i := 10) (some 16) (v := ?v10z11) rfl rfl (by kernel_rfl) (by kernel_rfl) (by kernel_rfl) (fun _ _ _ h => h) (Or.inl ⟨by rfl, ?y10z11⟩) (by assumption) ?r10z11
  case y10z11 =>
    intro w9 hSw
    have x0 := hSw.bx; have c0 := hSw.c1; have d1 := D1 _ hSw; have d2 := D2 _ hSw; clear hSw
    go_simp
    all_goals with_reducible rfl
  simp only [Act.put, List.setIfInBounds_toArray, List.set_cons_zero, List.set_cons_succ]
  refine wpAnyH_at (i := 11) (some 17) (v := ?v11z12) rfl rfl (by kernel_rfl) (by kernel_rfl) (by kernel_rfl) (fun _ _ _ h => h) (Or.inl ⟨by rfl, ?y11z12⟩) (by assumption) ?r11z12
  case y11z12 =>
    intro w9 hSw
    have x0 := hSw.bx; have c0 := hSw.c1; have d1 := D1 _ hSw; have d2 := D2 _ hSw; clear hSw
    go_simp
    all_goals with_reducible rfl
  simp only [Act.put, List.setIfInBounds_toArray, List.set_cons_zero, List.set_cons_succ]
  refine wpAnyH_at (i := 13) (some 19) (v := ?v13z13) rfl rfl (by kernel_rfl) (by kernel_rfl) (by kernel_rfl) (fun _ _ _ h => h) (Or.inl ⟨by rfl, ?y13z13⟩) (by assumption) ?r13z13
  case y13z13 =>
    intro w9 hSw
    have x0 := hSw.bx; have c0 := hSw.c1; have d1 := D1 _ hSw; have d2 := D2 _ hSw; clear hSw
    go_simp
    all_goals with_reducible rfl
  simp only [Act.put, List.setIfInBounds_toArray, List.set_cons_zero, List.set_cons_succ]
  refine wpAnyH_at (i := 14) (some 20) (v := ?v14z14) rfl rfl (by kernel_rfl) (by kernel_rfl) (by kernel_rfl) (fun _ _ _ h => h) (Or.inl ⟨by rfl, ?y14z14⟩) (by assumption) ?r14z14
  case y14z14 =>
    intro w9 hSw
    have x0 := hSw.bx; have c0 := hSw.c1; have d1 := D1 _ hSw; have d2 := D2 _ hSw; clear hSw
    go_simp
    all_goals with_reducible rfl
  simp only [Act.put, List.setIfInBounds_toArray, List.set_cons_zero, List.set_cons_succ]
  refine wpAnyH_one (i := 12) (by kernel_rfl) rfl ?_
  go_wp2_with fail
  refine (C1 _).mono ?_
  rintro ev w2 ⟨rfl, rfl⟩
  go_wp2
  refine ⟨hHeld, ?_⟩
  try simp only [Act.put, List.setIfInBounds_toArray, List.set_cons_zero, List.set_cons_succ]
  refine wpAnyH_one (i := 15) (by kernel_rfl) rfl ?_
  go_wp2_with fail
  refine (C2 _).mono ?_
  rintro ev w2 ⟨rfl, rfl⟩
  go_wp2
  refine ⟨hHeld, ?_⟩
  try simp only [Act.put, List.setIfInBounds_toArray, List.set_cons_zero, List.set_cons_succ]
  refine wpAnyH_one (i := 16) (by kernel_rfl) rfl ?_
  go_wp2
  refine ⟨hS1, ?_⟩
  try simp only [Act.put, List.setIfInBounds_toArray, List.set_cons_zero, List.set_cons_succ]
  refine wpAnyH_one (i := 17) (by kernel_rfl) rfl ?_
  go_wp2_with fail
  refine C3.mono ?_
  rintro ev w2 ⟨rfl, rfl⟩
  go_wp2
  refine ⟨hS1, ?_⟩
  try simp only [Act.put, List.setIfInBounds_toArray, List.set_cons_zero, List.set_cons_succ]
  refine wpAnyH_at (i := 18) (some 5) (v := ?v18z15) rfl rfl (by kernel_rfl) (by kernel_rfl) (by kernel_rfl) (fun _ _ _ h => h) (Or.inl ⟨by rfl, ?y18z15⟩) (by assumption) ?r18z15
  case y18z15 =>
    intro w9 hSw
    clear hSw
    go_simp
    all_goals with_reducible rfl
  simp only [Act.put, List.setIfInBounds_toArray, List.set_cons_zero, List.set_cons_succ]
  refine wpAnyH_done (by kernel_rfl) ?_ _
  go_wp2
  go_ret
  obtain ⟨g1, g2⟩ := G.out _ rfl
  exact ⟨by rw [← g1]; rfl, g2⟩
theorem oneB : OneCell encB := fun _ => rfl
set_option maxHeartbeats 1000000 in
theorem sort_any (bx p bd : Nat) (R : List Tm) (hO : Ok R) (m : Nat) (w : World) (k : KO bx p bd R w) (base : Nat) (A : Option Addr) (n c : Nat) (L : List Int) (ho : Out .i64 3 w base A n c L) (hn : n ≤ 100000000) (hL : L.Perm (goT m R)) (hb : ∀ ad, A = some ad → ad.block ≠ bx ∧ ad.block ≠ p ∧ ad.block ≠ bd) :
    Calls Try.prog 32 #[.slice A n c, .func (.func 39) #[] #[ptr bx]] w fun e w' => e = .returned (.tuple #[]) ∧ Out .i64 3 w' base A n c (goT m R) ∧ w.grownBy w' (Value.slice A n c).ownBlock := by
  have hlen := ho.len
  by_cases h0 : n = 0
  · subst h0
    obtain rfl : L = [] := List.eq_nil_of_length_eq_zero hlen
    have e : goT m R = [] := hL.symm.eq_nil
    rw [e]
    refine (Try.slices_SortFunc_none (α := Nat) A c _ w).mono ?_
    rintro ev w' ⟨rfl, rfl⟩
    exact ⟨rfl, ho, ⟨rfl, rfl, rfl, Nat.le_refl _, fun _ _ _ => rfl⟩⟩
  · rcases ho.form with ⟨_, e, _⟩ | ⟨gb, cur, rfl, hbase, hblk, h1, h2, h3, h4⟩
    · exact absurd e h0
    have hw := ho.2
    have hH := holds_B hw (holds_of_blockI hblk (by rw [hlen]; exact h4))
    have hne : gb ≠ bx ∧ gb ≠ p ∧ gb ≠ bd := hb _ rfl
    have hgl : gb < w.heap.size := (Array.getElem?_eq_some_iff.1 hblk).1
    have eg : ∀ args w, (callFunc 39 args).run Try.prog w = .ok (.enter 39 args) w := enters_of Try.func39 (by kernel_rfl) rfl
    have hds : (L.map (BitVec.ofInt 64)).toArray.size = n := by simpa using hlen
    have T := Try.slices_SortFunc_total (α := B64) encB oneB (cfB R) (swoB R) 39 #[ptr bx] gb 0 c (L.map (BitVec.ofInt 64)).toArray w eg (fun mm os dk hs x y => by
      rw [sortWorld_B]
      exact order1_any bx p bd R hO x.toInt y.toInt (wf_toInt x) (wf_toInt y) _ (k.grown (grownBy_sortedI _) (by simp; omega) (by simp; omega) (by simp; omega))) hH hgl (by omega) (totB R)
    rw [hds] at T
    refine T.mono ?_
    rintro ev w' ⟨rfl, q, os, rfl⟩
    rw [sortWorld_B]
    have eS : ((L.map (BitVec.ofInt 64)).toArray.toList.mergeSort fun x y => !(ltOf (cfB R)) y x).toArray.map BitVec.toInt = (goT m R).toArray := by
      have := sorted_goT hO hw hL
      rw [← this]
      simp
    rw [eS]
    have hlg : (goT m R).length = L.length := hL.length_eq.symm
    refine ⟨rfl, ⟨?_, fun x hx => hw x (hL.mem_iff.2 hx)⟩, ?_⟩
    · have := ownsRow_sortedI (n := q) (os := os) (ts := goT m R) hlg hbase hblk (by omega) h2 (by omega)
      rw [hlen] at this
      exact this
    · exact grownBy_sortedI _
set_option maxHeartbeats 400000 in
theorem order_any (p : Nat) (w : World) : Calls Try.prog 33 #[ptr p] w fun e w' => e = .returned (.func (.func 39) #[] #[ptr w.heap.size]) ∧ w' = w.alloc (.cells #[ptr p] 27) := by
  go_enter Try.func33, Try.ntmps33
  go_wp2
  go_ret
  exact ⟨rfl, rfl⟩
end Go.Proofs.Ytalojeblemhihaa
