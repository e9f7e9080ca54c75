/-
  Contracts of the program's ring: Put, Move (lay and the closures that it is handed).
-/
import Derived.Test.YtjaiagocbldbgaaRSmall
import Derived.Test.YtjaiagocbldbgaaForce
namespace Go.Proofs.Ytjaiagocbldbgaa
open Go.RowKit
set_option linter.unusedVariables false

/-- What the closures' walks know. -/
structure KS (q p s f c n z : Nat) (o : Int) (d : Nat) (bs : List (Nat × Value)) (W : World) : Prop where
  rg : RgCells W q p s f c n z o d
  bx : ∀ b ∈ bs, W.cell? ⟨b.1, 0, none⟩ = some b.2
theorem KS.below {q p s f c n z : Nat} {o : Int} {d : Nat} {bs : List (Nat × Value)} {W V : World} (h : KS q p s f c n z o d bs W) (hb : Below W.heap.size W V) : KS q p s f c n z o d bs V :=
  ⟨h.rg.below hb, fun b m => (hb.cell (p := ⟨b.1, 0, none⟩) (World.block_lt_of_cell? _ _ (h.bx b m))).trans (h.bx b m)⟩
theorem KS.kept {S : Nat → Prop} {q p s f c n z : Nat} {o : Int} {d : Nat} {bs : List (Nat × Value)} {W V : World} (h : KS q p s f c n z o d bs W) (hk : Kept S W V) (hq : ¬ S q) (hs : ∀ b ∈ bs, ¬ S b.1) : KS q p s f c n z o d bs V :=
  ⟨h.rg.kept hk hq, fun b m => (World.cell?_of_block (a := ⟨b.1, 0, none⟩) (hk.block b.1 (World.block_lt_of_cell? _ _ (h.bx b m)) (hs b m))).trans (h.bx b m)⟩
theorem RgCells.noG {q p s f c n z : Nat} {o : Int} {d : Nat} {w : World} (h : RgCells w q p s f c n z o d) {tp ts : TypeId} {g cp : Nat} {L : Slots} {F : Nat → Prop} (hp : PlAt tp ts w p g cp L F) (hL : 0 < L.length) : q ≠ g := by
  rintro rfl
  obtain ⟨cur, h2, h3, h4⟩ := hp.rows hL
  have e := h.c0
  obtain ⟨A, m, cc, a1, a2, _⟩ := h4 0 hL
  have e1 := hp.cell0 hL
  rw [Nat.zero_mul, e] at e1
  injection e1 with e1
  cases e1
set_option maxRecDepth 100000 in
set_option maxHeartbeats 2000000 in
theorem put1_any (q p s f c n z : Nat) (o : Int) (d : Nat) (bq bb : Nat) (A : Option Addr) (m cA B : Nat) (xs : List Int) (g cp : Nat) (L : Slots) (F : Nat → Prop) (w : World) (k : KS q p s f c n z o d [(bq, ptr q), (bb, .slice A m cA)] w) (hn : bq ≠ g ∧ bb ≠ g)
    (h : Pp w p g cp L F) (hr : Rd .u8 w B A m cA xs) (hL : 0 < L.length) (hB : B ≤ w.heap.size) (hF : ∀ b, w.heap.size ≤ b → F b) :
    Calls Try.prog 46 #[ptr bq, ptr bb] w (GivesT 67 77 w p g cp L F o m xs) := by
  have hqg := k.rg.noG h hL
  go_enter Try.func46, Try.ntmps46
  go_wp2
  refine wp_region_held_drew (S := fun w' => KS q p s f c n z o d [(bq, ptr q), (bb, .slice A m cA)] w') (by kernel_rfl) (k.below (below_drew _)) (fun hHeld => ?_)
  have h' := h.below (below_drew w)
  have r' := hr.below (below_drew w) hB
  have b := below_drew w
  change wpAnyH _ _ _ _ _ _ _ _ (World.drew _)
  generalize World.drew w = W0 at *
  have T := take_any p g cp L F o A m cA B xs W0 h' r' hL (Nat.le_trans hB b.size) (fun j hj => hF j (Nat.le_trans b.size hj))
  clear h hr h' r'
  refine wpAnyH_at (i := 0) (some 4) (v := ?v0z1) rfl rfl (by kernel_rfl) (by kernel_rfl) (by kernel_rfl) (fun _ _ _ h => h) (Or.inl ⟨by rfl, ?y0z1⟩) (by assumption) ?r0z1
  case y0z1 =>
    intro w9 hSw
    obtain ⟨⟨c0, c1, c2, c3, c4, c5, ff, lt1, lt2⟩, bx⟩ := hSw; have x0 := bx _ (.head _); have x1 := bx _ (.tail _ (.head _)); clear bx
    go_simp
    all_goals with_reducible rfl
  simp only [Act.put, List.setIfInBounds_toArray, List.set_cons_zero, List.set_cons_succ]
  refine wpAnyH_at (i := 1) (some 5) (v := ?v1z2) rfl rfl (by kernel_rfl) (by kernel_rfl) (by kernel_rfl) (fun _ _ _ h => h) (Or.inl ⟨by rfl, ?y1z2⟩) (by assumption) ?r1z2
  case y1z2 =>
    intro w9 hSw
    obtain ⟨⟨c0, c1, c2, c3, c4, c5, ff, lt1, lt2⟩, bx⟩ := hSw; have x0 := bx _ (.head _); have x1 := bx _ (.tail _ (.head _)); clear bx
    go_simp
    all_goals with_reducible rfl
  simp only [Act.put, List.setIfInBounds_toArray, List.set_cons_zero, List.set_cons_succ]
  refine wpAnyH_at (i := 2) (some 6) (v := ?v2z3) rfl rfl (by kernel_rfl) (by kernel_rfl) (by kernel_rfl) (fun _ _ _ h => h) (Or.inl ⟨by rfl, ?y2z3⟩) (by assumption) ?r2z3
  case y2z3 =>
    intro w9 hSw
    obtain ⟨⟨c0, c1, c2, c3, c4, c5, ff, lt1, lt2⟩, bx⟩ := hSw; have x0 := bx _ (.head _); have x1 := bx _ (.tail _ (.head _)); clear bx
    go_simp
    all_goals with_reducible rfl
  simp only [Act.put, List.setIfInBounds_toArray, List.set_cons_zero, List.set_cons_succ]
  refine wpAnyH_at (i := 3) (some 7) (v := ?v3z4) rfl rfl (by kernel_rfl) (by kernel_rfl) (by kernel_rfl) (fun _ _ _ h => h) (Or.inl ⟨by rfl, ?y3z4⟩) (by assumption) ?r3z4
  case y3z4 =>
    intro w9 hSw
    obtain ⟨⟨c0, c1, c2, c3, c4, c5, ff, lt1, lt2⟩, bx⟩ := hSw; have x0 := bx _ (.head _); have x1 := bx _ (.tail _ (.head _)); clear bx
    go_simp
    all_goals with_reducible rfl
  simp only [Act.put, List.setIfInBounds_toArray, List.set_cons_zero, List.set_cons_succ]
  refine wpAnyH_at (i := 4) (some 8) (v := ?v4z5) rfl rfl (by kernel_rfl) (by kernel_rfl) (by kernel_rfl) (fun _ _ _ h => h) (Or.inl ⟨by rfl, ?y4z5⟩) (by assumption) ?r4z5
  case y4z5 =>
    intro w9 hSw
    obtain ⟨⟨c0, c1, c2, c3, c4, c5, ff, lt1, lt2⟩, bx⟩ := hSw; have x0 := bx _ (.head _); have x1 := bx _ (.tail _ (.head _)); clear bx
    go_simp
    all_goals with_reducible rfl
  simp only [Act.put, List.setIfInBounds_toArray, List.set_cons_zero, List.set_cons_succ]
  refine wpAnyH_at (i := 5) (some 9) (v := ?v5z6) rfl rfl (by kernel_rfl) (by kernel_rfl) (by kernel_rfl) (fun _ _ _ h => h) (Or.inl ⟨by rfl, ?y5z6⟩) (by assumption) ?r5z6
  case y5z6 =>
    intro w9 hSw
    obtain ⟨⟨c0, c1, c2, c3, c4, c5, ff, lt1, lt2⟩, bx⟩ := hSw; have x0 := bx _ (.head _); have x1 := bx _ (.tail _ (.head _)); clear bx
    go_simp
    all_goals with_reducible rfl
  simp only [Act.put, List.setIfInBounds_toArray, List.set_cons_zero, List.set_cons_succ]
  refine wpAnyH_at (i := 6) (some 10) (v := ?v6z7) rfl rfl (by kernel_rfl) (by kernel_rfl) (by kernel_rfl) (fun _ _ _ h => h) (Or.inl ⟨by rfl, ?y6z7⟩) (by assumption) ?r6z7
  case y6z7 =>
    intro w9 hSw
    obtain ⟨⟨c0, c1, c2, c3, c4, c5, ff, lt1, lt2⟩, bx⟩ := hSw; have x0 := bx _ (.head _); have x1 := bx _ (.tail _ (.head _)); clear bx
    go_simp
    all_goals with_reducible rfl
  simp only [Act.put, List.setIfInBounds_toArray, List.set_cons_zero, List.set_cons_succ]
  refine wpAnyH_at (i := 7) (some 11) (v := ?v7z8) rfl rfl (by kernel_rfl) (by kernel_rfl) (by kernel_rfl) (fun _ _ _ h => h) (Or.inl ⟨by rfl, ?y7z8⟩) (by assumption) ?r7z8
  case y7z8 =>
    intro w9 hSw
    obtain ⟨⟨c0, c1, c2, c3, c4, c5, ff, lt1, lt2⟩, bx⟩ := hSw; have x0 := bx _ (.head _); have x1 := bx _ (.tail _ (.head _)); clear bx
    go_simp
    all_goals with_reducible rfl
  simp only [Act.put, List.setIfInBounds_toArray, List.set_cons_zero, List.set_cons_succ]
  refine wpAnyH_at (i := 8) (some 12) (v := ?v8z9) rfl rfl (by kernel_rfl) (by kernel_rfl) (by kernel_rfl) (fun _ _ _ h => h) (Or.inl ⟨by rfl, ?y8z9⟩) (by assumption) ?r8z9
  case y8z9 =>
    intro w9 hSw
    obtain ⟨⟨c0, c1, c2, c3, c4, c5, ff, lt1, lt2⟩, bx⟩ := hSw; have x0 := bx _ (.head _); have x1 := bx _ (.tail _ (.head _)); clear bx
    go_simp
    all_goals with_reducible rfl
  simp only [Act.put, List.setIfInBounds_toArray, List.set_cons_zero, List.set_cons_succ]
  refine wpAnyH_one (i := 9) (by kernel_rfl) rfl ?_
  go_wp2_with fail
  refine T.mono ?_
  rintro ev w2 ⟨rfl, hp2, hk2⟩
  have k2 := hHeld.kept hk2 hqg (fun b m => by
    rcases List.mem_cons.1 m with rfl | m
    · exact hn.1
    · obtain rfl := List.mem_singleton.1 m
      exact hn.2)
  clear hHeld T
  go_wp2
  have hHeld := k2
  refine ⟨hHeld, ?_⟩
  try simp only [Act.put, List.setIfInBounds_toArray, List.set_cons_zero, List.set_cons_succ]
  refine wpAnyH_at (i := 10) (some 14) (v := ?v10z10) rfl rfl (by kernel_rfl) (by kernel_rfl) (by kernel_rfl) (fun _ _ _ h => h) (Or.inl ⟨by rfl, ?y10z10⟩) (by assumption) ?r10z10
  case y10z10 =>
    intro w9 hSw
    clear hSw
    go_simp
    all_goals with_reducible rfl
  simp only [Act.put, List.setIfInBounds_toArray, List.set_cons_zero, List.set_cons_succ]
  refine wpAnyH_at (i := 11) (some 15) (v := ?v11z11) rfl rfl (by kernel_rfl) (by kernel_rfl) (by kernel_rfl) (fun _ _ _ h => h) (Or.inl ⟨by rfl, ?y11z11⟩) (by assumption) ?r11z11
  case y11z11 =>
    intro w9 hSw
    clear hSw
    go_simp
    all_goals with_reducible rfl
  simp only [Act.put, List.setIfInBounds_toArray, List.set_cons_zero, List.set_cons_succ]
  refine wpAnyH_at (i := 12) (some 2) (v := ?v12z12) rfl rfl (by kernel_rfl) (by kernel_rfl) (by kernel_rfl) (fun _ _ _ h => h) (Or.inl ⟨by rfl, ?y12z12⟩) (by assumption) ?r12z12
  case y12z12 =>
    intro w9 hSw
    clear hSw
    go_simp
    all_goals with_reducible rfl
  simp only [Act.put, List.setIfInBounds_toArray, List.set_cons_zero, List.set_cons_succ]
  refine wpAnyH_at (i := 13) (some 3) (v := ?v13z13) rfl rfl (by kernel_rfl) (by kernel_rfl) (by kernel_rfl) (fun _ _ _ h => h) (Or.inl ⟨by rfl, ?y13z13⟩) (by assumption) ?r13z13
  case y13z13 =>
    intro w9 hSw
    clear hSw
    go_simp
    all_goals with_reducible rfl
  simp only [Act.put, List.setIfInBounds_toArray, List.set_cons_zero, List.set_cons_succ]
  refine wpAnyH_done (by kernel_rfl) ?_ _
  go_wp2
  go_ret2
  exact ⟨rfl, hp2, Kept.ahead b hk2⟩
/-- What the closure of Move gives. -/
def GivesM (w : World) (p g cp : Nat) (L' : Slots) (F : Nat → Prop) (b E : Int) : Ending → World → Prop := fun e w' =>
  e = .returned (.tuple #[.int .i64 b, .int .i64 E]) ∧ Pp w' p g cp L' F ∧ Kept (· = g) w w'
set_option maxRecDepth 100000 in
set_option maxHeartbeats 2000000 in
theorem move1_any (q p s f c n z : Nat) (o : Int) (d : Nat) (b0 bq b2 : Nat) (b fr : Int) (g cp : Nat) (L : Slots) (F : Nat → Prop) (w : World) (k : KS q p s f c n z o d [(b0, .int .i64 b), (bq, ptr q), (b2, .int .i64 fr)] w) (hn : b0 ≠ g ∧ bq ≠ g ∧ b2 ≠ g)
    (h : Pp w p g cp L F) (hL : 0 < L.length) :
    Calls Try.prog 51 #[ptr b0, ptr bq, ptr b2] w (GivesM w p g cp (hdL L b fr o) F b (hdE L b fr o)) := by
  have hqg := k.rg.noG h hL
  go_enter Try.func51, Try.ntmps51
  go_wp2
  refine wp_region_held_drew (S := fun w' => KS q p s f c n z o d [(b0, .int .i64 b), (bq, ptr q), (b2, .int .i64 fr)] w') (by kernel_rfl) (k.below (below_drew _)) (fun hHeld => ?_)
  have h' := h.below (below_drew w)
  have bw := below_drew w
  change wpAnyH _ _ _ _ _ _ _ _ (World.drew _)
  generalize World.drew w = W0 at *
  have T := hand_any p g cp L F b fr o W0 h'
  clear h h'
  refine wpAnyH_at (i := 0) (some 5) (v := ?v0z14) rfl rfl (by kernel_rfl) (by kernel_rfl) (by kernel_rfl) (fun _ _ _ h => h) (Or.inl ⟨by rfl, ?y0z14⟩) (by assumption) ?r0z14
  case y0z14 =>
    intro w9 hSw
    obtain ⟨⟨c0, c1, c2, c3, c4, c5, ff, lt1, lt2⟩, bx⟩ := hSw; have x0 := bx _ (.head _); have x1 := bx _ (.tail _ (.head _)); have x2 := bx _ (.tail _ (.tail _ (.head _))); clear bx
    go_simp
    all_goals with_reducible rfl
  simp only [Act.put, List.setIfInBounds_toArray, List.set_cons_zero, List.set_cons_succ]
  refine wpAnyH_at (i := 1) (some 6) (v := ?v1z15) rfl rfl (by kernel_rfl) (by kernel_rfl) (by kernel_rfl) (fun _ _ _ h => h) (Or.inl ⟨by rfl, ?y1z15⟩) (by assumption) ?r1z15
  case y1z15 =>
    intro w9 hSw
    obtain ⟨⟨c0, c1, c2, c3, c4, c5, ff, lt1, lt2⟩, bx⟩ := hSw; have x0 := bx _ (.head _); have x1 := bx _ (.tail _ (.head _)); have x2 := bx _ (.tail _ (.tail _ (.head _))); clear bx
    go_simp
    all_goals with_reducible rfl
  simp only [Act.put, List.setIfInBounds_toArray, List.set_cons_zero, List.set_cons_succ]
  refine wpAnyH_at (i := 2) (some 7) (v := ?v2z16) rfl rfl (by kernel_rfl) (by kernel_rfl) (by kernel_rfl) (fun _ _ _ h => h) (Or.inl ⟨by rfl, ?y2z16⟩) (by assumption) ?r2z16
  case y2z16 =>
    intro w9 hSw
    obtain ⟨⟨c0, c1, c2, c3, c4, c5, ff, lt1, lt2⟩, bx⟩ := hSw; have x0 := bx _ (.head _); have x1 := bx _ (.tail _ (.head _)); have x2 := bx _ (.tail _ (.tail _ (.head _))); clear bx
    go_simp
    all_goals with_reducible rfl
  simp only [Act.put, List.setIfInBounds_toArray, List.set_cons_zero, List.set_cons_succ]
  refine wpAnyH_at (i := 3) (some 8) (v := ?v3z17) rfl rfl (by kernel_rfl) (by kernel_rfl) (by kernel_rfl) (fun _ _ _ h => h) (Or.inl ⟨by rfl, ?y3z17⟩) (by assumption) ?r3z17
  case y3z17 =>
    intro w9 hSw
    obtain ⟨⟨c0, c1, c2, c3, c4, c5, ff, lt1, lt2⟩, bx⟩ := hSw; have x0 := bx _ (.head _); have x1 := bx _ (.tail _ (.head _)); have x2 := bx _ (.tail _ (.tail _ (.head _))); clear bx
    go_simp
    all_goals with_reducible rfl
  simp only [Act.put, List.setIfInBounds_toArray, List.set_cons_zero, List.set_cons_succ]
  refine wpAnyH_at (i := 4) (some 9) (v := ?v4z18) rfl rfl (by kernel_rfl) (by kernel_rfl) (by kernel_rfl) (fun _ _ _ h => h) (Or.inl ⟨by rfl, ?y4z18⟩) (by assumption) ?r4z18
  case y4z18 =>
    intro w9 hSw
    obtain ⟨⟨c0, c1, c2, c3, c4, c5, ff, lt1, lt2⟩, bx⟩ := hSw; have x0 := bx _ (.head _); have x1 := bx _ (.tail _ (.head _)); have x2 := bx _ (.tail _ (.tail _ (.head _))); clear bx
    go_simp
    all_goals with_reducible rfl
  simp only [Act.put, List.setIfInBounds_toArray, List.set_cons_zero, List.set_cons_succ]
  refine wpAnyH_at (i := 5) (some 10) (v := ?v5z19) rfl rfl (by kernel_rfl) (by kernel_rfl) (by kernel_rfl) (fun _ _ _ h => h) (Or.inl ⟨by rfl, ?y5z19⟩) (by assumption) ?r5z19
  case y5z19 =>
    intro w9 hSw
    obtain ⟨⟨c0, c1, c2, c3, c4, c5, ff, lt1, lt2⟩, bx⟩ := hSw; have x0 := bx _ (.head _); have x1 := bx _ (.tail _ (.head _)); have x2 := bx _ (.tail _ (.tail _ (.head _))); clear bx
    go_simp
    all_goals with_reducible rfl
  simp only [Act.put, List.setIfInBounds_toArray, List.set_cons_zero, List.set_cons_succ]
  refine wpAnyH_at (i := 6) (some 11) (v := ?v6z20) rfl rfl (by kernel_rfl) (by kernel_rfl) (by kernel_rfl) (fun _ _ _ h => h) (Or.inl ⟨by rfl, ?y6z20⟩) (by assumption) ?r6z20
  case y6z20 =>
    intro w9 hSw
    obtain ⟨⟨c0, c1, c2, c3, c4, c5, ff, lt1, lt2⟩, bx⟩ := hSw; have x0 := bx _ (.head _); have x1 := bx _ (.tail _ (.head _)); have x2 := bx _ (.tail _ (.tail _ (.head _))); clear bx
    go_simp
    all_goals with_reducible rfl
  simp only [Act.put, List.setIfInBounds_toArray, List.set_cons_zero, List.set_cons_succ]
  refine wpAnyH_at (i := 7) (some 12) (v := ?v7z21) rfl rfl (by kernel_rfl) (by kernel_rfl) (by kernel_rfl) (fun _ _ _ h => h) (Or.inl ⟨by rfl, ?y7z21⟩) (by assumption) ?r7z21
  case y7z21 =>
    intro w9 hSw
    obtain ⟨⟨c0, c1, c2, c3, c4, c5, ff, lt1, lt2⟩, bx⟩ := hSw; have x0 := bx _ (.head _); have x1 := bx _ (.tail _ (.head _)); have x2 := bx _ (.tail _ (.tail _ (.head _))); clear bx
    go_simp
    all_goals with_reducible rfl
  simp only [Act.put, List.setIfInBounds_toArray, List.set_cons_zero, List.set_cons_succ]
  refine wpAnyH_at (i := 8) (some 13) (v := ?v8z22) rfl rfl (by kernel_rfl) (by kernel_rfl) (by kernel_rfl) (fun _ _ _ h => h) (Or.inl ⟨by rfl, ?y8z22⟩) (by assumption) ?r8z22
  case y8z22 =>
    intro w9 hSw
    obtain ⟨⟨c0, c1, c2, c3, c4, c5, ff, lt1, lt2⟩, bx⟩ := hSw; have x0 := bx _ (.head _); have x1 := bx _ (.tail _ (.head _)); have x2 := bx _ (.tail _ (.tail _ (.head _))); clear bx
    go_simp
    all_goals with_reducible rfl
  simp only [Act.put, List.setIfInBounds_toArray, List.set_cons_zero, List.set_cons_succ]
  refine wpAnyH_at (i := 9) (some 14) (v := ?v9z23) rfl rfl (by kernel_rfl) (by kernel_rfl) (by kernel_rfl) (fun _ _ _ h => h) (Or.inl ⟨by rfl, ?y9z23⟩) (by assumption) ?r9z23
  case y9z23 =>
    intro w9 hSw
    obtain ⟨⟨c0, c1, c2, c3, c4, c5, ff, lt1, lt2⟩, bx⟩ := hSw; have x0 := bx _ (.head _); have x1 := bx _ (.tail _ (.head _)); have x2 := bx _ (.tail _ (.tail _ (.head _))); clear bx
    go_simp
    all_goals with_reducible rfl
  simp only [Act.put, List.setIfInBounds_toArray, List.set_cons_zero, List.set_cons_succ]
  refine wpAnyH_at (i := 10) (some 15) (v := ?v10z24) rfl rfl (by kernel_rfl) (by kernel_rfl) (by kernel_rfl) (fun _ _ _ h => h) (Or.inl ⟨by rfl, ?y10z24⟩) (by assumption) ?r10z24
  case y10z24 =>
    intro w9 hSw
    obtain ⟨⟨c0, c1, c2, c3, c4, c5, ff, lt1, lt2⟩, bx⟩ := hSw; have x0 := bx _ (.head _); have x1 := bx _ (.tail _ (.head _)); have x2 := bx _ (.tail _ (.tail _ (.head _))); clear bx
    go_simp
    all_goals with_reducible rfl
  simp only [Act.put, List.setIfInBounds_toArray, List.set_cons_zero, List.set_cons_succ]
  refine wpAnyH_one (i := 11) (by kernel_rfl) rfl ?_
  go_wp2_with fail
  refine T.mono ?_
  rintro ev w2 ⟨rfl, hp2, hk2⟩
  have k2 := hHeld.kept hk2 hqg (fun b m => by
    rcases List.mem_cons.1 m with rfl | m
    · exact hn.1
    rcases List.mem_cons.1 m with rfl | m
    · exact hn.2.1
    · obtain rfl := List.mem_singleton.1 m
      exact hn.2.2)
  clear hHeld T
  go_wp2
  have hHeld := k2
  refine ⟨hHeld, ?_⟩
  try simp only [Act.put, List.setIfInBounds_toArray, List.set_cons_zero, List.set_cons_succ]
  refine wpAnyH_at (i := 12) (some 3) (v := ?v12z25) rfl rfl (by kernel_rfl) (by kernel_rfl) (by kernel_rfl) (fun _ _ _ h => h) (Or.inl ⟨by rfl, ?y12z25⟩) (by assumption) ?r12z25
  case y12z25 =>
    intro w9 hSw
    clear hSw
    go_simp
    all_goals with_reducible rfl
  simp only [Act.put, List.setIfInBounds_toArray, List.set_cons_zero, List.set_cons_succ]
  refine wpAnyH_at (i := 13) (some 4) (v := ?v13z26) rfl rfl (by kernel_rfl) (by kernel_rfl) (by kernel_rfl) (fun _ _ _ h => h) (Or.inl ⟨by rfl, ?y13z26⟩) (by assumption) ?r13z26
  case y13z26 =>
    intro w9 hSw
    clear hSw
    go_simp
    all_goals with_reducible rfl
  simp only [Act.put, List.setIfInBounds_toArray, List.set_cons_zero, List.set_cons_succ]
  refine wpAnyH_done (by kernel_rfl) ?_ _
  go_wp2
  go_ret2
  exact ⟨rfl, hp2, Kept.ahead bw hk2⟩
end Go.Proofs.Ytjaiagocbldbgaa
