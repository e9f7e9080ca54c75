/-
  The contract of the program's wheel's Clone; maps.Clone.
-/
import Derived.Test.YtalojeblemhihaaNew
import Derived.Shelf.SlMaps.Clone
namespace Go.Proofs.Ytalojeblemhihaa
open Go.RowKit
set_option linter.unusedVariables false

section
variable {w : World} {p lo hi now : Nat} {R : List Tm} {V : Nat → List Int} {bd : Nat} {g : Nat → Nat}
set_option maxRecDepth 100000 in
set_option maxHeartbeats 2000000 in
theorem mclone27 (b : Nat) (es : Array MapEntry) (clock : Nat) (w : World) (hb : w.heap[b]? = some (.map es clock)) :
    Calls Try.prog 27 #[.map (some b)] w fun e w' => e = .returned (.map (some w.heap.size)) ∧ w' = w.alloc (.map es clock) := by
  have hq := fun w => run_eql_map_nil_sl (P := Try.prog) w 56 _ _ (some b) Try.underlying56
  have hc := fun W (h : W.heap[b]? = some (.map es clock)) => run_maps_clone_sl (P := Try.prog) (w := W) 56 h
  have ha := fun W v => run_typeAssert_map_sl (P := Try.prog) W 56 20 _ _ v Try.underlying56
  go_enter Try.func27, Try.ntmps27
  go_wp2
  rw [run_callFunc_extern Try.func35 (by kernel_rfl) (by kernel_rfl) (by kernel_rfl) (e := Extern.MapsClone.clone) (by kernel_rfl), hc w hb]
  simp only [Result.andThen]
  rw [Oper.upon_value]
  go_wp2
  go_ret
  exact ⟨rfl, rfl⟩
set_option maxRecDepth 100000 in
set_option maxHeartbeats 2000000 in
theorem mclone28 (b : Nat) (es : Array MapEntry) (clock : Nat) (w : World) (hb : w.heap[b]? = some (.map es clock)) :
    Calls Try.prog 28 #[.map (some b)] w fun e w' => e = .returned (.map (some w.heap.size)) ∧ w' = w.alloc (.map es clock) := by
  have hq := fun w => run_eql_map_nil_sl (P := Try.prog) w 63 _ _ (some b) Try.underlying63
  have hc := fun W (h : W.heap[b]? = some (.map es clock)) => run_maps_clone_sl (P := Try.prog) (w := W) 63 h
  have ha := fun W v => run_typeAssert_map_sl (P := Try.prog) W 63 20 _ _ v Try.underlying63
  go_enter Try.func28, Try.ntmps28
  go_wp2
  rw [run_callFunc_extern Try.func35 (by kernel_rfl) (by kernel_rfl) (by kernel_rfl) (e := Extern.MapsClone.clone) (by kernel_rfl), hc w hb]
  simp only [Result.andThen]
  rw [Oper.upon_value]
  go_wp2
  go_ret
  exact ⟨rfl, rfl⟩
theorem DuAt.copied {b : Nat} {es : Array MapEntry} {clock : Nat} (h : DuAt w b R) (hb : w.heap[b]? = some (.map es clock)) : DuAt (w.alloc (.map es clock)) w.heap.size R := by
  obtain ⟨D, ⟨es', clock', hb', F, hs, hD⟩, h2⟩ := h
  rw [hb] at hb'
  injection hb' with hb'
  injection hb' with e1 e2
  subst e1 e2
  exact ⟨D, ⟨es, clock, (MapKept.heap_alloc w _).1, F, hs, hD⟩, h2⟩
theorem LvAt.copied {b : Nat} {es : Array MapEntry} {clock : Nat} {L : List Int} (h : LvAt w b L) (hb : w.heap[b]? = some (.map es clock)) : LvAt (w.alloc (.map es clock)) w.heap.size L := by
  obtain ⟨D, ⟨es', clock', hb', F, hs, hD⟩, h2⟩ := h
  rw [hb] at hb'
  injection hb' with hb'
  injection hb' with e1 e2
  subst e1 e2
  exact ⟨D, ⟨es, clock, (MapKept.heap_alloc w _).1, F, hs, hD⟩, h2⟩
set_option maxRecDepth 100000 in
set_option maxHeartbeats 2000000 in
theorem clone_any (h : WhR w p lo hi now R bd g) :
    Calls Try.prog 13 #[ptr p] w fun e w' => e = .returned (ptr (w.heap.size + 1)) ∧ WhR w' (w.heap.size + 1) w.heap.size (w.heap.size + 66) now R w.heap.size (fun i => w.heap.size + 2 + i) ∧ Below w.heap.size w w' := by
  obtain ⟨V, h, r⟩ := h
  obtain ⟨s, hs⟩ : ∃ s, w.heap.size = s := ⟨_, rfl⟩
  have hroom := h.room
  rw [hs]
  obtain ⟨Z, hZ, hZs⟩ : ∃ Z : Array Value, (∀ w, (zeroValue 66).run Try.prog w = .ok (.agg Z) w) ∧ Z.size = 66 := ⟨_, zero66, zero66s⟩
  have hZ0 : ¬ Z = #[] := by rintro rfl; simp at hZs
  have li := info64 g
  have ix := index64 g
  have h0 := h.drew1
  obtain ⟨es, clock, hes⟩ := h0.dues.blk
  have T := mclone27 bd es clock w.drew hes
  have hd1 := h0.dues.copied hes
  have b0 := below_drew w
  have b1 := alloc_below w.drew (.map es clock)
  have hdz : w.drew.heap.size = s := hs
  have b2 := b0.trans (b1.mono (by omega))
  have e1 : (w.drew.alloc (.map es clock)).heap.size = s + 1 := by simp [hdz]
  rw [hdz] at hd1 T
  rw [hs] at b2
  have h1 : WhB (w.drew.alloc (.map es clock)) p lo hi now R V bd g := h0.new b1
  have hNN : Hid (NewAt w s now R V 0 ((w.drew.alloc (.map es clock)).alloc (.cells ((Z.setIfInBounds 0 (.int .u64 now)).setIfInBounds 1 (.map (some s))) 66))) := Lib.hid (NewAt.first hZs e1 b2 hd1)
  have hS0 : ∃ V, WhB w.drew p lo hi now R V bd g := ⟨V, h0⟩
  have hS1 : ∃ V, WhB (w.drew.alloc (.map es clock)) p lo hi now R V bd g := ⟨V, h1⟩
  have hS2 : ∃ V, WhB ((w.drew.alloc (.map es clock)).alloc (.cells ((Z.setIfInBounds 0 (.int .u64 now)).setIfInBounds 1 (.map (some s))) 66)) p lo hi now R V bd g := ⟨V, h1.new (alloc_below _ _)⟩
  clear h1 h0 hd1 b0 b1 b2 hes
  go_enter Try.func13, Try.ntmps13
  go_wp2
  refine wp_region_held_drew (S := fun W => ∃ V, WhB W p lo hi now R V bd g) (by kernel_rfl) hS0 (fun hHeld => ?_)
  change wpAnyH _ _ _ _ _ _ _ _ (World.drew _)
  clear hS0
  generalize World.drew w = W0 at *
  refine wpAnyH_at (i := 0) (some 6) (v := ?v0z1) rfl rfl (by kernel_rfl) (by kernel_rfl) (by kernel_rfl) (fun _ _ _ h => h) (Or.inl ⟨by rfl, ?y0z1⟩) (by assumption) ?r0z1
  case y0z1 =>
    intro w9 hSw
    obtain ⟨V9, hSw⟩ := hSw; have c0 := hSw.c0; have c1 := hSw.c1; clear hSw
    go_simp
    all_goals with_reducible rfl
  simp only [Act.put, List.setIfInBounds_toArray, List.set_cons_zero, List.set_cons_succ]
  refine wpAnyH_at (i := 1) (some 7) (v := ?v1z2) rfl rfl (by kernel_rfl) (by kernel_rfl) (by kernel_rfl) (fun _ _ _ h => h) (Or.inl ⟨by rfl, ?y1z2⟩) (by assumption) ?r1z2
  case y1z2 =>
    intro w9 hSw
    obtain ⟨V9, hSw⟩ := hSw; have c0 := hSw.c0; have c1 := hSw.c1; clear hSw
    go_simp
    all_goals with_reducible rfl
  simp only [Act.put, List.setIfInBounds_toArray, List.set_cons_zero, List.set_cons_succ]
  refine wpAnyH_at (i := 2) (some 8) (v := ?v2z3) rfl rfl (by kernel_rfl) (by kernel_rfl) (by kernel_rfl) (fun _ _ _ h => h) (Or.inl ⟨by rfl, ?y2z3⟩) (by assumption) ?r2z3
  case y2z3 =>
    intro w9 hSw
    obtain ⟨V9, hSw⟩ := hSw; have c0 := hSw.c0; have c1 := hSw.c1; clear hSw
    go_simp
    all_goals with_reducible rfl
  simp only [Act.put, List.setIfInBounds_toArray, List.set_cons_zero, List.set_cons_succ]
  refine wpAnyH_at (i := 3) (some 9) (v := ?v3z4) rfl rfl (by kernel_rfl) (by kernel_rfl) (by kernel_rfl) (fun _ _ _ h => h) (Or.inl ⟨by rfl, ?y3z4⟩) (by assumption) ?r3z4
  case y3z4 =>
    intro w9 hSw
    obtain ⟨V9, hSw⟩ := hSw; have c0 := hSw.c0; have c1 := hSw.c1; clear hSw
    go_simp
    all_goals with_reducible rfl
  simp only [Act.put, List.setIfInBounds_toArray, List.set_cons_zero, List.set_cons_succ]
  refine wpAnyH_at (i := 4) (some 10) (v := ?v4z5) rfl rfl (by kernel_rfl) (by kernel_rfl) (by kernel_rfl) (fun _ _ _ h => h) (Or.inl ⟨by rfl, ?y4z5⟩) (by assumption) ?r4z5
  case y4z5 =>
    intro w9 hSw
    obtain ⟨V9, hSw⟩ := hSw; have c0 := hSw.c0; have c1 := hSw.c1; clear hSw
    go_simp
    all_goals with_reducible rfl
  simp only [Act.put, List.setIfInBounds_toArray, List.set_cons_zero, List.set_cons_succ]
  refine wpAnyH_at (i := 5) (some 11) (v := ?v5z6) rfl rfl (by kernel_rfl) (by kernel_rfl) (by kernel_rfl) (fun _ _ _ h => h) (Or.inl ⟨by rfl, ?y5z6⟩) (by assumption) ?r5z6
  case y5z6 =>
    intro w9 hSw
    obtain ⟨V9, hSw⟩ := hSw; have c0 := hSw.c0; have c1 := hSw.c1; clear hSw
    go_simp
    all_goals with_reducible rfl
  simp only [Act.put, List.setIfInBounds_toArray, List.set_cons_zero, List.set_cons_succ]
  refine wpAnyH_at (i := 6) (some 12) (v := ?v6z7) rfl rfl (by kernel_rfl) (by kernel_rfl) (by kernel_rfl) (fun _ _ _ h => h) (Or.inl ⟨by rfl, ?y6z7⟩) (by assumption) ?r6z7
  case y6z7 =>
    intro w9 hSw
    obtain ⟨V9, hSw⟩ := hSw; have c0 := hSw.c0; have c1 := hSw.c1; clear hSw
    go_simp
    all_goals with_reducible rfl
  simp only [Act.put, List.setIfInBounds_toArray, List.set_cons_zero, List.set_cons_succ]
  refine wpAnyH_at (i := 7) (some 13) (v := ?v7z8) rfl rfl (by kernel_rfl) (by kernel_rfl) (by kernel_rfl) (fun _ _ _ h => h) (Or.inl ⟨by rfl, ?y7z8⟩) (by assumption) ?r7z8
  case y7z8 =>
    intro w9 hSw
    obtain ⟨V9, hSw⟩ := hSw; have c0 := hSw.c0; have c1 := hSw.c1; clear hSw
    go_simp
    all_goals with_reducible rfl
  simp only [Act.put, List.setIfInBounds_toArray, List.set_cons_zero, List.set_cons_succ]
  refine wpAnyH_one (i := 8) (by kernel_rfl) rfl ?_
  go_wp2_with fail
  refine T.mono ?_
  rintro ev w2 ⟨rfl, rfl⟩
  go_wp2
  refine ⟨hS1, ?_⟩
  try simp only [Act.put, List.setIfInBounds_toArray, List.set_cons_zero, List.set_cons_succ]
  refine wpAnyH_at (i := 9) (some 15) (v := ?v9z9) rfl rfl (by kernel_rfl) (by kernel_rfl) (by kernel_rfl) (fun _ _ _ h => h) (Or.inl ⟨by rfl, ?y9z9⟩) (by assumption) ?r9z9
  case y9z9 =>
    intro w9 hSw
    clear hSw
    go_simp
    all_goals with_reducible rfl
  simp only [Act.put, List.setIfInBounds_toArray, List.set_cons_zero, List.set_cons_succ]
  refine wpAnyH_one (i := 10) (by kernel_rfl) rfl ?_
  go_wp2
  refine ⟨hS2, ?_⟩
  try simp only [Act.put, List.setIfInBounds_toArray, List.set_cons_zero, List.set_cons_succ]
  refine wpAnyH_at (i := 11) (some 3) (v := ?v11z10) rfl rfl (by kernel_rfl) (by kernel_rfl) (by kernel_rfl) (fun _ _ _ h => h) (Or.inl ⟨by rfl, ?y11z10⟩) (by assumption) ?r11z10
  case y11z10 =>
    intro w9 hSw
    clear hSw
    go_simp
    all_goals with_reducible rfl
  simp only [Act.put, List.setIfInBounds_toArray, List.set_cons_zero, List.set_cons_succ]
  refine wpAnyH_done (by kernel_rfl) ?_ _
  have hN := hNN.out
  clear hZ hZs hZ0 hS1 hS2 hHeld T hNN e1 hdz
  generalize (W0.alloc (.map es clock)).alloc (.cells ((Z.setIfInBounds 0 (.int .u64 now)).setIfInBounds 1 (.map (some s))) 66) = w0 at *
  have ld := (h.below hN.below (by omega)).range64
  have hp := h.lt
  go_wp2_with (refine wpList_load_mid rfl 64 (.tmp 19) rfl p 2 rfl (lvs g) _ ld Try.underlying64 rfl li ?_)
  clear ld li
  generalize (lvs g).toArray = vs at *
  go_loopw [21] (fun i wr => ∃ k : Nat, k ≤ 64 ∧ i = .int .i64 k ∧ NewAt w s now R V k wr) (fun i _ => 64 - (intOf i).toNat)
  case atStart => exact ⟨0, by omega, rfl, hN⟩
  case round =>
    obtain ⟨k, hk, rfl, hNk⟩ := hrel
    clear hN
    by_cases hk64 : k < 64
    · have hki : (k : Int) < 64 := by omega
      have i1 := fun W => ix W k hk64
      have b0 := below_drew wr
      have hLv := ((h.below hNk.below (by omega)).new b0).lev k hk64
      obtain ⟨es2, clock2, hes⟩ := hLv.blk
      have T := mclone28 (g k) es2 clock2 wr.drew hes
      have hL := hLv.copied hes
      have hdz : wr.drew.heap.size = s + 2 + k := hNk.size
      have b1 := alloc_below wr.drew (.map es2 clock2)
      rw [hdz] at hL T b1
      have b2 : Below wr.heap.size wr (wr.drew.alloc (.map es2 clock2)) := b0.trans (b1.mono (by have := hNk.size; omega))
      have hN' := Lib.hid (hNk.step hk64 b2 (by simp) hL)
      obtain ⟨v, cv, cf⟩ := hNk.cell hk64 b2
      clear hNk b0 b1 b2 hes hL hLv
      go_wp2
      refine wp_region_held_drew (S := fun _ => True) (by kernel_rfl) trivial (fun hHeld => ?_)
      change wpAnyH _ _ _ _ _ _ _ _ (World.drew _)
      generalize World.drew wr = W1 at *
      refine wpAnyH_at (i := 0) (some 25) (v := ?v0z11) rfl rfl (by kernel_rfl) (by kernel_rfl) (by kernel_rfl) (fun _ _ _ h => h) (Or.inl ⟨by rfl, ?y0z11⟩) (by assumption) ?r0z11
      case y0z11 =>
        intro w9 hSw
        clear hSw
        go_simp
        all_goals with_reducible rfl
      simp only [Act.put, List.setIfInBounds_toArray, List.set_cons_zero, List.set_cons_succ]
      refine wpAnyH_at (i := 1) (some 26) (v := ?v1z12) rfl rfl (by kernel_rfl) (by kernel_rfl) (by kernel_rfl) (fun _ _ _ h => h) (Or.inl ⟨by rfl, ?y1z12⟩) (by assumption) ?r1z12
      case y1z12 =>
        intro w9 hSw
        clear hSw
        go_simp
        all_goals with_reducible rfl
      simp only [Act.put, List.setIfInBounds_toArray, List.set_cons_zero, List.set_cons_succ]
      refine wpAnyH_at (i := 2) (some 27) (v := ?v2z13) rfl rfl (by kernel_rfl) (by kernel_rfl) (by kernel_rfl) (fun _ _ _ h => h) (Or.inl ⟨by rfl, ?y2z13⟩) (by assumption) ?r2z13
      case y2z13 =>
        intro w9 hSw
        clear hSw
        go_simp
        all_goals with_reducible rfl
      simp only [Act.put, List.setIfInBounds_toArray, List.set_cons_zero, List.set_cons_succ]
      refine wpAnyH_at (i := 4) (some 29) (v := ?v4z14) rfl rfl (by kernel_rfl) (by kernel_rfl) (by kernel_rfl) (fun _ _ _ h => h) (Or.inl ⟨by rfl, ?y4z14⟩) (by assumption) ?r4z14
      case y4z14 =>
        intro w9 hSw
        clear hSw
        go_simp
        all_goals with_reducible rfl
      simp only [Act.put, List.setIfInBounds_toArray, List.set_cons_zero, List.set_cons_succ]
      refine wpAnyH_at (i := 5) (some 30) (v := ?v5z15) rfl rfl (by kernel_rfl) (by kernel_rfl) (by kernel_rfl) (fun _ _ _ h => h) (Or.inl ⟨by rfl, ?y5z15⟩) (by assumption) ?r5z15
      case y5z15 =>
        intro w9 hSw
        clear hSw
        go_simp
        all_goals with_reducible rfl
      simp only [Act.put, List.setIfInBounds_toArray, List.set_cons_zero, List.set_cons_succ]
      refine wpAnyH_one (i := 3) (by kernel_rfl) rfl ?_
      go_wp2_with fail
      refine T.mono ?_
      rintro ev w2 ⟨rfl, rfl⟩
      go_wp2
      refine ⟨trivial, ?_⟩
      try simp only [Act.put, List.setIfInBounds_toArray, List.set_cons_zero, List.set_cons_succ]
      refine wpAnyH_at (i := 6) (some 31) (v := ?v6z16) rfl rfl (by kernel_rfl) (by kernel_rfl) (by kernel_rfl) (fun _ _ _ h => h) (Or.inl ⟨by rfl, ?y6z16⟩) (by assumption) ?r6z16
      case y6z16 =>
        intro w9 hSw
        clear hSw
        go_simp
        all_goals with_reducible rfl
      simp only [Act.put, List.setIfInBounds_toArray, List.set_cons_zero, List.set_cons_succ]
      refine wpAnyH_one (i := 7) (by kernel_rfl) rfl ?_
      go_wp2
      refine ⟨trivial, ?_⟩
      try simp only [Act.put, List.setIfInBounds_toArray, List.set_cons_zero, List.set_cons_succ]
      refine wpAnyH_done (by kernel_rfl) ?_ _
      go_wp2
      go_roundw
      case rel => exact ⟨k + 1, by omega, by go_num, hN'.out⟩
      case measure => simp [intOf]; omega
    · obtain rfl : k = 64 := by omega
      have hD : WhR wr (s + 1) s (s + 66) now R s (fun i => s + 2 + i) := ⟨_, hNk.done h.le h.ok h.len h.sub, r⟩
      have hB := hNk.below
      clear hNk h r ix
      go_wp2
      go_ret
      exact ⟨rfl, hD, hB⟩
end
end Go.Proofs.Ytalojeblemhihaa
