/-
  The contract of do: a call on both.
-/
import Derived.Test.YtjaiagocbldbgaaDo0
import Derived.Test.YtjaiagocbldbgaaForce
import Derived.Test.YtjaiagocbldbgaaRowsB
import Derived.Deep.QuietTactic
import Derived.BigQuiet
namespace Go.Proofs.Ytjaiagocbldbgaa
open Go.RowKit
set_option linter.unusedVariables false

set_option maxRecDepth 100000 in
set_option maxHeartbeats 4000000 in
theorem do_put (B p g cp q s r h cr t b z : Nat) (o : Int) (L : Slots) (R : List Nat) (d : Nat) (bu fr : Int) (A : Option Addr) (n c : Nat) (xs : List Int) (w : World) (k : Two B p g cp q s r h cr t b z o L R d L R d Tr w) (hR : ∀ x ∈ R, x < L.length) (hd : d ≤ 50000) (rd : Rd .u8 w B A n c xs) (hn : n ≤ 1600) : Calls Try.prog 13 #[ptr p, ptr q, ptr r, ptr t, .agg (box 0 bu fr A n c)] w (GivesDo w B p g cp q s r h cr t b z o L d) := by
  have hmx := rd.max
  have hcx := rd.cap
  have ba := alloc_below w (.cells (box 0 bu fr A n c) 25)
  have bx : (w.alloc (.cells (box 0 bu fr A n c) 25)).heap[w.heap.size]? = some (.cells (box 0 bu fr A n c) 25 (0, 0)) := heap_alloc_new w _
  have rd1 := rd.below (ba.mono k.lt) (Nat.le_refl _)
  have kl := k.lt
  have own := own_any A n c B xs (w.alloc (.cells (box 0 bu fr A n c) 25)) rd1 (by simp; omega) (by omega)
  have Own := Lib.hid own
  clear own
  go_enter Try.func13, Try.ntmps13
  go_wp2_with fail
  refine Own.out.mono ?_
  rintro ev w2 ⟨A1, n1, c1, rfl, o1, hb⟩
  obtain rfl : n = n1 := by rw [← o1.len, ← rd.len]
  rw [World.size_alloc] at o1 hb
  have b2 := ba.trans (hb.mono (by omega))
  have y : KDo B p g cp q s r h cr t b z o L R d L R d 0 bu fr A n c xs w.heap.size A1 c1 (w.heap.size + 1) w2 :=
    ⟨(k.widen (fun j hj _ ad e => by have := (o1.block ad e).1; omega)).below b2, o1, rd.below (b2.mono kl) (Nat.le_refl _), (hb.block _ (by omega)).trans bx, ⟨kl, by omega⟩⟩
  have bW := b2.mono kl
  clear k rd ba bx rd1 Own o1 hb b2 kl
  have a0 : w2.cell? ⟨w.heap.size, 0, none⟩ = some (.int .i64 0) := cell_of_row w2 w.heap.size 0 _ 25 (0, 0) y.bx
  have a1 : w2.cell? ⟨w.heap.size, 1, none⟩ = some (.int .i64 bu) := cell_of_row w2 w.heap.size 1 _ 25 (0, 0) y.bx
  have a2 : w2.cell? ⟨w.heap.size, 2, none⟩ = some (.int .i64 fr) := cell_of_row w2 w.heap.size 2 _ 25 (0, 0) y.bx
  have a3 : w2.cell? ⟨w.heap.size, 3, none⟩ = some (.slice A n c) := cell_of_row w2 w.heap.size 3 _ 25 (0, 0) y.bx
  go_wp2
  refine wp_region_held_drew (S := fun W => W.heap[w.heap.size]? = some (.cells (box 0 bu fr A n c) 25 (0, 0))) (by kernel_rfl) (y.below (below_drew _)).bx (fun hHeld => ?_)
  replace bW := bW.trans ((below_drew w2).mono y.tw.lt)
  replace y := y.below (below_drew w2)
  clear a0 a1 a2 a3
  change wpAnyH _ _ _ _ _ _ _ _ (World.drew _)
  generalize World.drew w2 = W0 at *
  refine wpAnyH_at (i := 0) (some 29) (v := ?v0z1) rfl rfl (by kernel_rfl) (by kernel_rfl) (by kernel_rfl) (fun _ _ _ h => h) (Or.inl ⟨by rfl, ?y0z1⟩) (by assumption) ?r0z1
  case y0z1 =>
    intro w9 hSw
    clear hSw
    go_simp
    all_goals with_reducible rfl
  simp only [Act.put, List.setIfInBounds_toArray, List.set_cons_zero, List.set_cons_succ]
  refine wpAnyH_at (i := 1) (some 30) (v := ?v1z2) rfl rfl (by kernel_rfl) (by kernel_rfl) (by kernel_rfl) (fun _ _ _ h => h) (Or.inl ⟨by rfl, ?y1z2⟩) (by assumption) ?r1z2
  case y1z2 =>
    intro w9 hSw
    clear hSw
    go_simp
    all_goals with_reducible rfl
  simp only [Act.put, List.setIfInBounds_toArray, List.set_cons_zero, List.set_cons_succ]
  refine wpAnyH_at (i := 3) (some 32) (v := ?v3z3) rfl rfl (by kernel_rfl) (by kernel_rfl) (by kernel_rfl) (fun _ _ _ h => h) (Or.inl ⟨by rfl, ?y3z3⟩) (by assumption) ?r3z3
  case y3z3 =>
    intro w9 hSw
    clear hSw
    go_simp
    all_goals with_reducible rfl
  simp only [Act.put, List.setIfInBounds_toArray, List.set_cons_zero, List.set_cons_succ]
  refine wpAnyH_at (i := 4) (some 33) (v := ?v4z4) rfl rfl (by kernel_rfl) (by kernel_rfl) (by kernel_rfl) (fun _ _ _ h => h) (Or.inl ⟨by rfl, ?y4z4⟩) (by assumption) ?r4z4
  case y4z4 =>
    intro w9 hSw
    have a1 : w9.cell? ⟨w.heap.size, 1, none⟩ = some (.int .i64 bu) := cell_of_row w9 w.heap.size 1 _ 25 (0, 0) hSw; have a2 : w9.cell? ⟨w.heap.size, 2, none⟩ = some (.int .i64 fr) := cell_of_row w9 w.heap.size 2 _ 25 (0, 0) hSw; have a3 : w9.cell? ⟨w.heap.size, 3, none⟩ = some (.slice A n c) := cell_of_row w9 w.heap.size 3 _ 25 (0, 0) hSw; clear hSw
    go_simp
    all_goals with_reducible rfl
  simp only [Act.put, List.setIfInBounds_toArray, List.set_cons_zero, List.set_cons_succ]
  refine wpAnyH_at (i := 5) (some 34) (v := ?v5z5) rfl rfl (by kernel_rfl) (by kernel_rfl) (by kernel_rfl) (fun _ _ _ h => h) (Or.inl ⟨by rfl, ?y5z5⟩) (by assumption) ?r5z5
  case y5z5 =>
    intro w9 hSw
    have a1 : w9.cell? ⟨w.heap.size, 1, none⟩ = some (.int .i64 bu) := cell_of_row w9 w.heap.size 1 _ 25 (0, 0) hSw; have a2 : w9.cell? ⟨w.heap.size, 2, none⟩ = some (.int .i64 fr) := cell_of_row w9 w.heap.size 2 _ 25 (0, 0) hSw; have a3 : w9.cell? ⟨w.heap.size, 3, none⟩ = some (.slice A n c) := cell_of_row w9 w.heap.size 3 _ 25 (0, 0) hSw; clear hSw
    go_simp
    all_goals with_reducible rfl
  simp only [Act.put, List.setIfInBounds_toArray, List.set_cons_zero, List.set_cons_succ]
  refine wpAnyH_one (i := 2) (by kernel_rfl) rfl ?_
  go_wp2_with fail
  refine (dPut y (by omega)).mono ?_
  rintro ev w3 ⟨rfl, y2, bb⟩
  replace bW := bW.trans bb
  clear y bb
  have y := y2
  clear y2
  go_wp2
  clear hHeld
  have hHeld := y.bx
  refine ⟨hHeld, ?_⟩
  try simp only [Act.put, List.setIfInBounds_toArray, List.set_cons_zero, List.set_cons_succ]
  refine wpAnyH_one (i := 6) (by kernel_rfl) rfl ?_
  go_wp2_with fail
  refine (dRPut y (by omega)).mono ?_
  rintro ev w4 ⟨rfl, y2, bb⟩
  replace bW := bW.trans bb
  clear y bb
  have y := y2
  clear y2
  go_wp2
  clear hHeld
  have hHeld := y.bx
  refine ⟨hHeld, ?_⟩
  try simp only [Act.put, List.setIfInBounds_toArray, List.set_cons_zero, List.set_cons_succ]
  refine wpAnyH_at (i := 7) (some 36) (v := ?v7z6) rfl rfl (by kernel_rfl) (by kernel_rfl) (by kernel_rfl) (fun _ _ _ h => h) (Or.inl ⟨by rfl, ?y7z6⟩) (by assumption) ?r7z6
  case y7z6 =>
    intro w9 hSw
    clear hSw
    go_simp
    all_goals with_reducible rfl
  simp only [Act.put, List.setIfInBounds_toArray, List.set_cons_zero, List.set_cons_succ]
  refine wpAnyH_at (i := 8) (some 12) (v := ?v8z7) rfl rfl (by kernel_rfl) (by kernel_rfl) (by kernel_rfl) (fun _ _ _ h => h) (Or.inl ⟨by rfl, ?y8z7⟩) (by assumption) ?r8z7
  case y8z7 =>
    intro w9 hSw
    clear hSw
    go_simp
    all_goals with_reducible rfl
  simp only [Act.put, List.setIfInBounds_toArray, List.set_cons_zero, List.set_cons_succ]
  refine wpAnyH_done (by kernel_rfl) ?_ _
  clear hHeld
  go_wp2
  generalize w4 = W5 at *
  have hlen := y.ow.len
  have F9 := Lib.hid (fun V hT => GivesDo.of (V := V) (w := w) (L0 := L) (d0 := d) y bW hT (ptL_len ..) (ptR_in hR) (by have := drp_le (ptE L R z o n) d; omega))
  have o9 := y.ow
  have hsz := bW.size
  clear y hR
  go_loopw [21] (fun i wr => ∃ (j : Nat) (ys : List Int), j ≤ n ∧ i = .int .i64 j ∧ Out .u8 5 wr (w.heap.size + 1) A1 n c1 ys ∧ Kept (fun k => ∃ ad, A1 = some ad ∧ ad.block = k) W5 wr) (fun i _ => n - (intOf i).toNat)
  case atStart => exact ⟨0, xs, Nat.zero_le _, rfl, o9, Kept.refl _ _⟩
  case round =>
    obtain ⟨j, ys, hj, rfl, ho, hT⟩ := hrel
    clear o9
    by_cases hjn : j < n
    · obtain ⟨x, rfl, hc, hf⟩ := ho.at_ hjn
      have hw := u8_bd (ho.rd.wf hjn)
      have o2 := ho.set j ((ys.getD j 0 + 1) % 256) (u8_mk (by omega))
      have hT2 : Kept (fun k => ∃ ad, some (⟨x, 0, none⟩ : Addr) = some ad ∧ ad.block = k) W5 (wr.setCell ⟨x, j, none⟩ (.int .u8 ((ys.getD j 0 + 1) % 256))) := hT.trans (Kept.setCell wr _ _ ⟨_, rfl, rfl⟩)
      generalize (ys.set j ((ys.getD j 0 + 1) % 256)) = zs at *
      generalize ys.getD j 0 = yy at *
      have O2 := Lib.hid o2
      have HT2 := Lib.hid hT2
      clear ho hT o2 hT2
      go_wp2
      go_roundw
      case rel => exact ⟨j + 1, zs, by omega, by go_num, O2.out, HT2.out⟩
      case measure => simp [intOf]; omega
    · have G9 := Lib.hid (F9.out wr hT)
      clear ho hT F9
      go_wp2
      go_ret
      exact G9.out
set_option maxRecDepth 100000 in
set_option maxHeartbeats 4000000 in
theorem do_own1 (B p g cp q s r h cr t b z : Nat) (o : Int) (L : Slots) (R : List Nat) (d : Nat) (bu fr : Int) (A : Option Addr) (n c : Nat) (xs : List Int) (w : World) (k : Two B p g cp q s r h cr t b z o L R d L R d Tr w) (hR : ∀ x ∈ R, x < L.length) (hd : d ≤ 50000) (rd : Rd .u8 w B A n c xs) (hn : n ≤ 1600) (hf : fr = o) : Calls Try.prog 13 #[ptr p, ptr q, ptr r, ptr t, .agg (box 1 bu fr A n c)] w (GivesDo w B p g cp q s r h cr t b z o L d) := by
  subst hf
  have hmx := rd.max
  have hcx := rd.cap
  have ba := alloc_below w (.cells (box 1 bu fr A n c) 25)
  have bx : (w.alloc (.cells (box 1 bu fr A n c) 25)).heap[w.heap.size]? = some (.cells (box 1 bu fr A n c) 25 (0, 0)) := heap_alloc_new w _
  have rd1 := rd.below (ba.mono k.lt) (Nat.le_refl _)
  have kl := k.lt
  have own := own_any A n c B xs (w.alloc (.cells (box 1 bu fr A n c) 25)) rd1 (by simp; omega) (by omega)
  have Own := Lib.hid own
  clear own
  go_enter Try.func13, Try.ntmps13
  go_wp2_with fail
  refine Own.out.mono ?_
  rintro ev w2 ⟨A1, n1, c1, rfl, o1, hb⟩
  obtain rfl : n = n1 := by rw [← o1.len, ← rd.len]
  rw [World.size_alloc] at o1 hb
  have b2 := ba.trans (hb.mono (by omega))
  have y : KDo B p g cp q s r h cr t b z fr L R d L R d 1 bu fr A n c xs w.heap.size A1 c1 (w.heap.size + 1) w2 :=
    ⟨(k.widen (fun j hj _ ad e => by have := (o1.block ad e).1; omega)).below b2, o1, rd.below (b2.mono kl) (Nat.le_refl _), (hb.block _ (by omega)).trans bx, ⟨kl, by omega⟩⟩
  have bW := b2.mono kl
  clear k rd ba bx rd1 Own o1 hb b2 kl
  have a0 : w2.cell? ⟨w.heap.size, 0, none⟩ = some (.int .i64 1) := cell_of_row w2 w.heap.size 0 _ 25 (0, 0) y.bx
  have a1 : w2.cell? ⟨w.heap.size, 1, none⟩ = some (.int .i64 bu) := cell_of_row w2 w.heap.size 1 _ 25 (0, 0) y.bx
  have a2 : w2.cell? ⟨w.heap.size, 2, none⟩ = some (.int .i64 fr) := cell_of_row w2 w.heap.size 2 _ 25 (0, 0) y.bx
  have a3 : w2.cell? ⟨w.heap.size, 3, none⟩ = some (.slice A n c) := cell_of_row w2 w.heap.size 3 _ 25 (0, 0) y.bx
  obtain ⟨_, _, _, hq⟩ := y.tw.rr
  have c2 := hq.cells.c2
  have hz := hq.lt.1
  have G9 : Hid (∀ m, GivesDo w B p g cp q s r h cr t b z fr L d (.returned (.bool true)) (w2.drewN m)) := Lib.hid (fun m => ⟨rfl, L, R, d, (y.tw.widen (fun _ _ _ => trivial)).below (dN w2 m), rfl, hR, by omega, bW.trans ((dN w2 m).mono y.tw.lt)⟩)
  clear hq y
  go_wp2
  go_quiet (fail)
  go_wp2
  go_ret
  exact G9.out _
set_option maxRecDepth 100000 in
set_option maxHeartbeats 4000000 in
theorem do_own3 (B p g cp q s r h cr t b z : Nat) (o : Int) (L : Slots) (R : List Nat) (d : Nat) (bu fr : Int) (A : Option Addr) (n c : Nat) (xs : List Int) (w : World) (k : Two B p g cp q s r h cr t b z o L R d L R d Tr w) (hR : ∀ x ∈ R, x < L.length) (hd : d ≤ 50000) (rd : Rd .u8 w B A n c xs) (hn : n ≤ 1600) (hf : fr = o) : Calls Try.prog 13 #[ptr p, ptr q, ptr r, ptr t, .agg (box 3 bu fr A n c)] w (GivesDo w B p g cp q s r h cr t b z o L d) := by
  subst hf
  have hmx := rd.max
  have hcx := rd.cap
  have ba := alloc_below w (.cells (box 3 bu fr A n c) 25)
  have bx : (w.alloc (.cells (box 3 bu fr A n c) 25)).heap[w.heap.size]? = some (.cells (box 3 bu fr A n c) 25 (0, 0)) := heap_alloc_new w _
  have rd1 := rd.below (ba.mono k.lt) (Nat.le_refl _)
  have kl := k.lt
  have own := own_any A n c B xs (w.alloc (.cells (box 3 bu fr A n c) 25)) rd1 (by simp; omega) (by omega)
  have Own := Lib.hid own
  clear own
  go_enter Try.func13, Try.ntmps13
  go_wp2_with fail
  refine Own.out.mono ?_
  rintro ev w2 ⟨A1, n1, c1, rfl, o1, hb⟩
  obtain rfl : n = n1 := by rw [← o1.len, ← rd.len]
  rw [World.size_alloc] at o1 hb
  have b2 := ba.trans (hb.mono (by omega))
  have y : KDo B p g cp q s r h cr t b z fr L R d L R d 3 bu fr A n c xs w.heap.size A1 c1 (w.heap.size + 1) w2 :=
    ⟨(k.widen (fun j hj _ ad e => by have := (o1.block ad e).1; omega)).below b2, o1, rd.below (b2.mono kl) (Nat.le_refl _), (hb.block _ (by omega)).trans bx, ⟨kl, by omega⟩⟩
  have bW := b2.mono kl
  clear k rd ba bx rd1 Own o1 hb b2 kl
  have a0 : w2.cell? ⟨w.heap.size, 0, none⟩ = some (.int .i64 3) := cell_of_row w2 w.heap.size 0 _ 25 (0, 0) y.bx
  have a1 : w2.cell? ⟨w.heap.size, 1, none⟩ = some (.int .i64 bu) := cell_of_row w2 w.heap.size 1 _ 25 (0, 0) y.bx
  have a2 : w2.cell? ⟨w.heap.size, 2, none⟩ = some (.int .i64 fr) := cell_of_row w2 w.heap.size 2 _ 25 (0, 0) y.bx
  have a3 : w2.cell? ⟨w.heap.size, 3, none⟩ = some (.slice A n c) := cell_of_row w2 w.heap.size 3 _ 25 (0, 0) y.bx
  obtain ⟨_, _, _, hq⟩ := y.tw.rr
  have c2 := hq.cells.c2
  have hz := hq.lt.1
  have G9 : Hid (∀ m, GivesDo w B p g cp q s r h cr t b z fr L d (.returned (.bool true)) (w2.drewN m)) := Lib.hid (fun m => ⟨rfl, L, R, d, (y.tw.widen (fun _ _ _ => trivial)).below (dN w2 m), rfl, hR, by omega, bW.trans ((dN w2 m).mono y.tw.lt)⟩)
  clear hq y
  go_wp2
  go_quiet (fail)
  go_wp2
  go_ret
  exact G9.out _
set_option maxRecDepth 100000 in
set_option maxHeartbeats 4000000 in
theorem do_move (B p g cp q s r h cr t b z : Nat) (o : Int) (L : Slots) (R : List Nat) (d : Nat) (bu fr : Int) (A : Option Addr) (n c : Nat) (xs : List Int) (w : World) (k : Two B p g cp q s r h cr t b z o L R d L R d Tr w) (hR : ∀ x ∈ R, x < L.length) (hd : d ≤ 50000) (rd : Rd .u8 w B A n c xs) (hn : n ≤ 1600) (hf : ¬ fr = o) : Calls Try.prog 13 #[ptr p, ptr q, ptr r, ptr t, .agg (box 3 bu fr A n c)] w (GivesDo w B p g cp q s r h cr t b z o L d) := by
  have hmx := rd.max
  have hcx := rd.cap
  have ba := alloc_below w (.cells (box 3 bu fr A n c) 25)
  have bx : (w.alloc (.cells (box 3 bu fr A n c) 25)).heap[w.heap.size]? = some (.cells (box 3 bu fr A n c) 25 (0, 0)) := heap_alloc_new w _
  have rd1 := rd.below (ba.mono k.lt) (Nat.le_refl _)
  have kl := k.lt
  have own := own_any A n c B xs (w.alloc (.cells (box 3 bu fr A n c) 25)) rd1 (by simp; omega) (by omega)
  have Own := Lib.hid own
  clear own
  go_enter Try.func13, Try.ntmps13
  go_wp2_with fail
  refine Own.out.mono ?_
  rintro ev w2 ⟨A1, n1, c1, rfl, o1, hb⟩
  obtain rfl : n = n1 := by rw [← o1.len, ← rd.len]
  rw [World.size_alloc] at o1 hb
  have b2 := ba.trans (hb.mono (by omega))
  have y : KDo B p g cp q s r h cr t b z o L R d L R d 3 bu fr A n c xs w.heap.size A1 c1 (w.heap.size + 1) w2 :=
    ⟨(k.widen (fun j hj _ ad e => by have := (o1.block ad e).1; omega)).below b2, o1, rd.below (b2.mono kl) (Nat.le_refl _), (hb.block _ (by omega)).trans bx, ⟨kl, by omega⟩⟩
  have bW := b2.mono kl
  clear k rd ba bx rd1 Own o1 hb b2 kl
  have a0 : w2.cell? ⟨w.heap.size, 0, none⟩ = some (.int .i64 3) := cell_of_row w2 w.heap.size 0 _ 25 (0, 0) y.bx
  have a1 : w2.cell? ⟨w.heap.size, 1, none⟩ = some (.int .i64 bu) := cell_of_row w2 w.heap.size 1 _ 25 (0, 0) y.bx
  have a2 : w2.cell? ⟨w.heap.size, 2, none⟩ = some (.int .i64 fr) := cell_of_row w2 w.heap.size 2 _ 25 (0, 0) y.bx
  have a3 : w2.cell? ⟨w.heap.size, 3, none⟩ = some (.slice A n c) := cell_of_row w2 w.heap.size 3 _ 25 (0, 0) y.bx
  obtain ⟨_, _, _, hq⟩ := y.tw.rr
  have c2 := hq.cells.c2
  have hz := hq.lt.1
  have hf' : (fr == o) = false := by simpa using hf
  clear hq hf
  go_wp2
  go_quiet (fail)
  go_wp2
  replace bW := bW.trans ((dN w2 nq).mono y.tw.lt)
  replace y := y.below (dN w2 nq)
  clear c2 hz hf' a0 a1 a2 a3
  generalize World.drewN w2 nq = W1 at *
  refine wp_region_held_drew (S := fun W => W.heap[w.heap.size]? = some (.cells (box 3 bu fr A n c) 25 (0, 0))) (by kernel_rfl) (y.below (below_drew _)).bx (fun hHeld => ?_)
  replace bW := bW.trans ((below_drew W1).mono y.tw.lt)
  replace y := y.below (below_drew W1)
  change wpAnyH _ _ _ _ _ _ _ _ (World.drew _)
  generalize World.drew W1 = W0 at *
  refine wpAnyH_at (i := 0) (some 113) (v := ?v0z8) rfl rfl (by kernel_rfl) (by kernel_rfl) (by kernel_rfl) (fun _ _ _ h => h) (Or.inl ⟨by rfl, ?y0z8⟩) (by assumption) ?r0z8
  case y0z8 =>
    intro w9 hSw
    clear hSw
    go_simp
    all_goals with_reducible rfl
  simp only [Act.put, List.setIfInBounds_toArray, List.set_cons_zero, List.set_cons_succ]
  refine wpAnyH_at (i := 1) (some 114) (v := ?v1z9) rfl rfl (by kernel_rfl) (by kernel_rfl) (by kernel_rfl) (fun _ _ _ h => h) (Or.inl ⟨by rfl, ?y1z9⟩) (by assumption) ?r1z9
  case y1z9 =>
    intro w9 hSw
    have a1 : w9.cell? ⟨w.heap.size, 1, none⟩ = some (.int .i64 bu) := cell_of_row w9 w.heap.size 1 _ 25 (0, 0) hSw; have a2 : w9.cell? ⟨w.heap.size, 2, none⟩ = some (.int .i64 fr) := cell_of_row w9 w.heap.size 2 _ 25 (0, 0) hSw; have a3 : w9.cell? ⟨w.heap.size, 3, none⟩ = some (.slice A n c) := cell_of_row w9 w.heap.size 3 _ 25 (0, 0) hSw; clear hSw
    go_simp
    all_goals with_reducible rfl
  simp only [Act.put, List.setIfInBounds_toArray, List.set_cons_zero, List.set_cons_succ]
  refine wpAnyH_at (i := 2) (some 115) (v := ?v2z10) rfl rfl (by kernel_rfl) (by kernel_rfl) (by kernel_rfl) (fun _ _ _ h => h) (Or.inl ⟨by rfl, ?y2z10⟩) (by assumption) ?r2z10
  case y2z10 =>
    intro w9 hSw
    have a1 : w9.cell? ⟨w.heap.size, 1, none⟩ = some (.int .i64 bu) := cell_of_row w9 w.heap.size 1 _ 25 (0, 0) hSw; have a2 : w9.cell? ⟨w.heap.size, 2, none⟩ = some (.int .i64 fr) := cell_of_row w9 w.heap.size 2 _ 25 (0, 0) hSw; have a3 : w9.cell? ⟨w.heap.size, 3, none⟩ = some (.slice A n c) := cell_of_row w9 w.heap.size 3 _ 25 (0, 0) hSw; clear hSw
    go_simp
    all_goals with_reducible rfl
  simp only [Act.put, List.setIfInBounds_toArray, List.set_cons_zero, List.set_cons_succ]
  refine wpAnyH_at (i := 3) (some 116) (v := ?v3z11) rfl rfl (by kernel_rfl) (by kernel_rfl) (by kernel_rfl) (fun _ _ _ h => h) (Or.inl ⟨by rfl, ?y3z11⟩) (by assumption) ?r3z11
  case y3z11 =>
    intro w9 hSw
    have a1 : w9.cell? ⟨w.heap.size, 1, none⟩ = some (.int .i64 bu) := cell_of_row w9 w.heap.size 1 _ 25 (0, 0) hSw; have a2 : w9.cell? ⟨w.heap.size, 2, none⟩ = some (.int .i64 fr) := cell_of_row w9 w.heap.size 2 _ 25 (0, 0) hSw; have a3 : w9.cell? ⟨w.heap.size, 3, none⟩ = some (.slice A n c) := cell_of_row w9 w.heap.size 3 _ 25 (0, 0) hSw; clear hSw
    go_simp
    all_goals with_reducible rfl
  simp only [Act.put, List.setIfInBounds_toArray, List.set_cons_zero, List.set_cons_succ]
  refine wpAnyH_at (i := 4) (some 117) (v := ?v4z12) rfl rfl (by kernel_rfl) (by kernel_rfl) (by kernel_rfl) (fun _ _ _ h => h) (Or.inl ⟨by rfl, ?y4z12⟩) (by assumption) ?r4z12
  case y4z12 =>
    intro w9 hSw
    have a1 : w9.cell? ⟨w.heap.size, 1, none⟩ = some (.int .i64 bu) := cell_of_row w9 w.heap.size 1 _ 25 (0, 0) hSw; have a2 : w9.cell? ⟨w.heap.size, 2, none⟩ = some (.int .i64 fr) := cell_of_row w9 w.heap.size 2 _ 25 (0, 0) hSw; have a3 : w9.cell? ⟨w.heap.size, 3, none⟩ = some (.slice A n c) := cell_of_row w9 w.heap.size 3 _ 25 (0, 0) hSw; clear hSw
    go_simp
    all_goals with_reducible rfl
  simp only [Act.put, List.setIfInBounds_toArray, List.set_cons_zero, List.set_cons_succ]
  refine wpAnyH_at (i := 6) (some 119) (v := ?v6z13) rfl rfl (by kernel_rfl) (by kernel_rfl) (by kernel_rfl) (fun _ _ _ h => h) (Or.inl ⟨by rfl, ?y6z13⟩) (by assumption) ?r6z13
  case y6z13 =>
    intro w9 hSw
    clear hSw
    go_simp
    all_goals with_reducible rfl
  simp only [Act.put, List.setIfInBounds_toArray, List.set_cons_zero, List.set_cons_succ]
  refine wpAnyH_at (i := 7) (some 120) (v := ?v7z14) rfl rfl (by kernel_rfl) (by kernel_rfl) (by kernel_rfl) (fun _ _ _ h => h) (Or.inl ⟨by rfl, ?y7z14⟩) (by assumption) ?r7z14
  case y7z14 =>
    intro w9 hSw
    have a1 : w9.cell? ⟨w.heap.size, 1, none⟩ = some (.int .i64 bu) := cell_of_row w9 w.heap.size 1 _ 25 (0, 0) hSw; have a2 : w9.cell? ⟨w.heap.size, 2, none⟩ = some (.int .i64 fr) := cell_of_row w9 w.heap.size 2 _ 25 (0, 0) hSw; have a3 : w9.cell? ⟨w.heap.size, 3, none⟩ = some (.slice A n c) := cell_of_row w9 w.heap.size 3 _ 25 (0, 0) hSw; clear hSw
    go_simp
    all_goals with_reducible rfl
  simp only [Act.put, List.setIfInBounds_toArray, List.set_cons_zero, List.set_cons_succ]
  refine wpAnyH_at (i := 8) (some 121) (v := ?v8z15) rfl rfl (by kernel_rfl) (by kernel_rfl) (by kernel_rfl) (fun _ _ _ h => h) (Or.inl ⟨by rfl, ?y8z15⟩) (by assumption) ?r8z15
  case y8z15 =>
    intro w9 hSw
    have a1 : w9.cell? ⟨w.heap.size, 1, none⟩ = some (.int .i64 bu) := cell_of_row w9 w.heap.size 1 _ 25 (0, 0) hSw; have a2 : w9.cell? ⟨w.heap.size, 2, none⟩ = some (.int .i64 fr) := cell_of_row w9 w.heap.size 2 _ 25 (0, 0) hSw; have a3 : w9.cell? ⟨w.heap.size, 3, none⟩ = some (.slice A n c) := cell_of_row w9 w.heap.size 3 _ 25 (0, 0) hSw; clear hSw
    go_simp
    all_goals with_reducible rfl
  simp only [Act.put, List.setIfInBounds_toArray, List.set_cons_zero, List.set_cons_succ]
  refine wpAnyH_at (i := 9) (some 122) (v := ?v9z16) rfl rfl (by kernel_rfl) (by kernel_rfl) (by kernel_rfl) (fun _ _ _ h => h) (Or.inl ⟨by rfl, ?y9z16⟩) (by assumption) ?r9z16
  case y9z16 =>
    intro w9 hSw
    have a1 : w9.cell? ⟨w.heap.size, 1, none⟩ = some (.int .i64 bu) := cell_of_row w9 w.heap.size 1 _ 25 (0, 0) hSw; have a2 : w9.cell? ⟨w.heap.size, 2, none⟩ = some (.int .i64 fr) := cell_of_row w9 w.heap.size 2 _ 25 (0, 0) hSw; have a3 : w9.cell? ⟨w.heap.size, 3, none⟩ = some (.slice A n c) := cell_of_row w9 w.heap.size 3 _ 25 (0, 0) hSw; clear hSw
    go_simp
    all_goals with_reducible rfl
  simp only [Act.put, List.setIfInBounds_toArray, List.set_cons_zero, List.set_cons_succ]
  refine wpAnyH_at (i := 10) (some 123) (v := ?v10z17) rfl rfl (by kernel_rfl) (by kernel_rfl) (by kernel_rfl) (fun _ _ _ h => h) (Or.inl ⟨by rfl, ?y10z17⟩) (by assumption) ?r10z17
  case y10z17 =>
    intro w9 hSw
    have a1 : w9.cell? ⟨w.heap.size, 1, none⟩ = some (.int .i64 bu) := cell_of_row w9 w.heap.size 1 _ 25 (0, 0) hSw; have a2 : w9.cell? ⟨w.heap.size, 2, none⟩ = some (.int .i64 fr) := cell_of_row w9 w.heap.size 2 _ 25 (0, 0) hSw; have a3 : w9.cell? ⟨w.heap.size, 3, none⟩ = some (.slice A n c) := cell_of_row w9 w.heap.size 3 _ 25 (0, 0) hSw; clear hSw
    go_simp
    all_goals with_reducible rfl
  simp only [Act.put, List.setIfInBounds_toArray, List.set_cons_zero, List.set_cons_succ]
  refine wpAnyH_one (i := 5) (by kernel_rfl) rfl ?_
  go_wp2_with fail
  refine (dMove y (by omega) bu fr).mono ?_
  rintro ev w3 ⟨rfl, y2, bb⟩
  replace bW := bW.trans bb
  clear y bb
  have y := y2
  clear y2
  go_wp2
  clear hHeld
  have hHeld := y.bx
  refine ⟨hHeld, ?_⟩
  try simp only [Act.put, List.setIfInBounds_toArray, List.set_cons_zero, List.set_cons_succ]
  refine wpAnyH_one (i := 11) (by kernel_rfl) rfl ?_
  go_wp2_with fail
  refine (dRMove y (by omega) bu fr).mono ?_
  rintro ev w4 ⟨rfl, y2, bb⟩
  replace bW := bW.trans bb
  clear y bb
  have y := y2
  clear y2
  go_wp2
  clear hHeld
  have hHeld := y.bx
  refine ⟨hHeld, ?_⟩
  try simp only [Act.put, List.setIfInBounds_toArray, List.set_cons_zero, List.set_cons_succ]
  refine wpAnyH_at (i := 12) (some 125) (v := ?v12z18) rfl rfl (by kernel_rfl) (by kernel_rfl) (by kernel_rfl) (fun _ _ _ h => h) (Or.inl ⟨by rfl, ?y12z18⟩) (by assumption) ?r12z18
  case y12z18 =>
    intro w9 hSw
    clear hSw
    go_simp
    all_goals with_reducible rfl
  simp only [Act.put, List.setIfInBounds_toArray, List.set_cons_zero, List.set_cons_succ]
  refine wpAnyH_at (i := 13) (some 12) (v := ?v13z19) rfl rfl (by kernel_rfl) (by kernel_rfl) (by kernel_rfl) (fun _ _ _ h => h) (Or.inl ⟨by rfl, ?y13z19⟩) (by assumption) ?r13z19
  case y13z19 =>
    intro w9 hSw
    clear hSw
    go_simp
    all_goals with_reducible rfl
  simp only [Act.put, List.setIfInBounds_toArray, List.set_cons_zero, List.set_cons_succ]
  refine wpAnyH_done (by kernel_rfl) ?_ _
  clear hHeld
  go_wp2
  generalize w4 = W5 at *
  have hlen := y.ow.len
  have F9 := Lib.hid (fun V hT => GivesDo.of (V := V) (w := w) (L0 := L) (d0 := d) y bW hT (mvL_len ..) (mvR_in hR) (by have := drp_le (mvE L R z o bu fr) d; omega))
  have o9 := y.ow
  have hsz := bW.size
  clear y hR
  go_loopw [21] (fun i wr => ∃ (j : Nat) (ys : List Int), j ≤ n ∧ i = .int .i64 j ∧ Out .u8 5 wr (w.heap.size + 1) A1 n c1 ys ∧ Kept (fun k => ∃ ad, A1 = some ad ∧ ad.block = k) W5 wr) (fun i _ => n - (intOf i).toNat)
  case atStart => exact ⟨0, xs, Nat.zero_le _, rfl, o9, Kept.refl _ _⟩
  case round =>
    obtain ⟨j, ys, hj, rfl, ho, hT⟩ := hrel
    clear o9
    by_cases hjn : j < n
    · obtain ⟨x, rfl, hc, hf⟩ := ho.at_ hjn
      have hw := u8_bd (ho.rd.wf hjn)
      have o2 := ho.set j ((ys.getD j 0 + 1) % 256) (u8_mk (by omega))
      have hT2 : Kept (fun k => ∃ ad, some (⟨x, 0, none⟩ : Addr) = some ad ∧ ad.block = k) W5 (wr.setCell ⟨x, j, none⟩ (.int .u8 ((ys.getD j 0 + 1) % 256))) := hT.trans (Kept.setCell wr _ _ ⟨_, rfl, rfl⟩)
      generalize (ys.set j ((ys.getD j 0 + 1) % 256)) = zs at *
      generalize ys.getD j 0 = yy at *
      have O2 := Lib.hid o2
      have HT2 := Lib.hid hT2
      clear ho hT o2 hT2
      go_wp2
      go_roundw
      case rel => exact ⟨j + 1, zs, by omega, by go_num, O2.out, HT2.out⟩
      case measure => simp [intOf]; omega
    · have G9 := Lib.hid (F9.out wr hT)
      clear ho hT F9
      go_wp2
      go_ret
      exact G9.out
set_option maxRecDepth 100000 in
set_option maxHeartbeats 4000000 in
theorem do_hand (B p g cp q s r h cr t b z : Nat) (o : Int) (L : Slots) (R : List Nat) (d : Nat) (bu fr : Int) (A : Option Addr) (n c : Nat) (xs : List Int) (w : World) (k : Two B p g cp q s r h cr t b z o L R d L R d Tr w) (hR : ∀ x ∈ R, x < L.length) (hd : d ≤ 50000) (rd : Rd .u8 w B A n c xs) (hn : n ≤ 1600) (hf : ¬ fr = o) : Calls Try.prog 13 #[ptr p, ptr q, ptr r, ptr t, .agg (box 1 bu fr A n c)] w (GivesDo w B p g cp q s r h cr t b z o L d) := by
  have hmx := rd.max
  have hcx := rd.cap
  have ba := alloc_below w (.cells (box 1 bu fr A n c) 25)
  have bx : (w.alloc (.cells (box 1 bu fr A n c) 25)).heap[w.heap.size]? = some (.cells (box 1 bu fr A n c) 25 (0, 0)) := heap_alloc_new w _
  have rd1 := rd.below (ba.mono k.lt) (Nat.le_refl _)
  have kl := k.lt
  have own := own_any A n c B xs (w.alloc (.cells (box 1 bu fr A n c) 25)) rd1 (by simp; omega) (by omega)
  have Own := Lib.hid own
  clear own
  go_enter Try.func13, Try.ntmps13
  go_wp2_with fail
  refine Own.out.mono ?_
  rintro ev w2 ⟨A1, n1, c1, rfl, o1, hb⟩
  obtain rfl : n = n1 := by rw [← o1.len, ← rd.len]
  rw [World.size_alloc] at o1 hb
  have b2 := ba.trans (hb.mono (by omega))
  have y : KDo B p g cp q s r h cr t b z o L R d L R d 1 bu fr A n c xs w.heap.size A1 c1 (w.heap.size + 1) w2 :=
    ⟨(k.widen (fun j hj _ ad e => by have := (o1.block ad e).1; omega)).below b2, o1, rd.below (b2.mono kl) (Nat.le_refl _), (hb.block _ (by omega)).trans bx, ⟨kl, by omega⟩⟩
  have bW := b2.mono kl
  clear k rd ba bx rd1 Own o1 hb b2 kl
  have a0 : w2.cell? ⟨w.heap.size, 0, none⟩ = some (.int .i64 1) := cell_of_row w2 w.heap.size 0 _ 25 (0, 0) y.bx
  have a1 : w2.cell? ⟨w.heap.size, 1, none⟩ = some (.int .i64 bu) := cell_of_row w2 w.heap.size 1 _ 25 (0, 0) y.bx
  have a2 : w2.cell? ⟨w.heap.size, 2, none⟩ = some (.int .i64 fr) := cell_of_row w2 w.heap.size 2 _ 25 (0, 0) y.bx
  have a3 : w2.cell? ⟨w.heap.size, 3, none⟩ = some (.slice A n c) := cell_of_row w2 w.heap.size 3 _ 25 (0, 0) y.bx
  obtain ⟨_, _, _, hq⟩ := y.tw.rr
  have c2 := hq.cells.c2
  have hz := hq.lt.1
  have hf' : (fr == o) = false := by simpa using hf
  clear hq hf
  go_wp2
  go_quiet (fail)
  go_wp2_with fail
  have a2' : (w2.drewN nq).cell? ⟨w.heap.size, 2, none⟩ = some (.int .i64 fr) := a2
  replace bW := bW.trans ((dN w2 nq).mono y.tw.lt)
  replace y := y.below (dN w2 nq)
  clear c2 hz hf' a0 a1 a2 a3 a2'
  generalize World.drewN w2 nq = W1 at *
  refine (dPTake y fr).mono ?_
  rintro ev w3 ⟨rfl, y2, bb⟩
  replace bW := bW.trans bb
  clear y bb
  have y := y2
  clear y2
  have a2 : w3.cell? ⟨w.heap.size, 2, none⟩ = some (.int .i64 fr) := cell_of_row w3 w.heap.size 2 _ 25 (0, 0) y.bx
  have a3 : w3.cell? ⟨w.heap.size, 3, none⟩ = some (.slice A n c) := cell_of_row w3 w.heap.size 3 _ 25 (0, 0) y.bx
  go_wp2_with fail
  refine (dRPTake y fr).mono ?_
  rintro ev w4 ⟨rfl, y2, bb⟩
  replace bW := bW.trans bb
  clear y bb
  have y := y2
  clear y2
  clear a2 a3
  have HT := Lib.hid (tkL_len L fr xs)
  have HTL : Hid (tkL L fr xs = tkL L fr xs) := Lib.hid rfl
  have hR1 : ∀ x ∈ R, x < (tkL L fr xs).length := by rw [HT.out]; exact hR
  generalize tkN L fr n = N at *
  generalize tkE L fr n = E at *
  go_wp2
  refine wp_region_held_drew (S := fun W => W.heap[w.heap.size]? = some (.cells (box 1 bu fr A n c) 25 (0, 0))) (by kernel_rfl) (y.below (below_drew _)).bx (fun hHeld => ?_)
  replace bW := bW.trans ((below_drew w4).mono y.tw.lt)
  replace y := y.below (below_drew w4)
  change wpAnyH _ _ _ _ _ _ _ _ (World.drew _)
  generalize World.drew w4 = W0 at *
  refine wpAnyH_at (i := 0) (some 63) (v := ?v0z20) rfl rfl (by kernel_rfl) (by kernel_rfl) (by kernel_rfl) (fun _ _ _ h => h) (Or.inl ⟨by rfl, ?y0z20⟩) (by assumption) ?r0z20
  case y0z20 =>
    intro w9 hSw
    clear hSw
    go_simp
    all_goals with_reducible rfl
  simp only [Act.put, List.setIfInBounds_toArray, List.set_cons_zero, List.set_cons_succ]
  refine wpAnyH_at (i := 1) (some 64) (v := ?v1z21) rfl rfl (by kernel_rfl) (by kernel_rfl) (by kernel_rfl) (fun _ _ _ h => h) (Or.inl ⟨by rfl, ?y1z21⟩) (by assumption) ?r1z21
  case y1z21 =>
    intro w9 hSw
    clear hSw
    go_simp
    all_goals with_reducible rfl
  simp only [Act.put, List.setIfInBounds_toArray, List.set_cons_zero, List.set_cons_succ]
  refine wpAnyH_at (i := 2) (some 65) (v := ?v2z22) rfl rfl (by kernel_rfl) (by kernel_rfl) (by kernel_rfl) (fun _ _ _ h => h) (Or.inl ⟨by rfl, ?y2z22⟩) (by assumption) ?r2z22
  case y2z22 =>
    intro w9 hSw
    clear hSw
    go_simp
    all_goals with_reducible rfl
  simp only [Act.put, List.setIfInBounds_toArray, List.set_cons_zero, List.set_cons_succ]
  refine wpAnyH_at (i := 3) (some 66) (v := ?v3z23) rfl rfl (by kernel_rfl) (by kernel_rfl) (by kernel_rfl) (fun _ _ _ h => h) (Or.inl ⟨by rfl, ?y3z23⟩) (by assumption) ?r3z23
  case y3z23 =>
    intro w9 hSw
    clear hSw
    go_simp
    all_goals with_reducible rfl
  simp only [Act.put, List.setIfInBounds_toArray, List.set_cons_zero, List.set_cons_succ]
  refine wpAnyH_at (i := 4) (some 67) (v := ?v4z24) rfl rfl (by kernel_rfl) (by kernel_rfl) (by kernel_rfl) (fun _ _ _ h => h) (Or.inl ⟨by rfl, ?y4z24⟩) (by assumption) ?r4z24
  case y4z24 =>
    intro w9 hSw
    clear hSw
    go_simp
    all_goals with_reducible rfl
  simp only [Act.put, List.setIfInBounds_toArray, List.set_cons_zero, List.set_cons_succ]
  refine wpAnyH_at (i := 5) (some 68) (v := ?v5z25) rfl rfl (by kernel_rfl) (by kernel_rfl) (by kernel_rfl) (fun _ _ _ h => h) (Or.inl ⟨by rfl, ?y5z25⟩) (by assumption) ?r5z25
  case y5z25 =>
    intro w9 hSw
    clear hSw
    go_simp
    all_goals with_reducible rfl
  simp only [Act.put, List.setIfInBounds_toArray, List.set_cons_zero, List.set_cons_succ]
  refine wpAnyH_at (i := 6) (some 69) (v := ?v6z26) rfl rfl (by kernel_rfl) (by kernel_rfl) (by kernel_rfl) (fun _ _ _ h => h) (Or.inl ⟨by rfl, ?y6z26⟩) (by assumption) ?r6z26
  case y6z26 =>
    intro w9 hSw
    clear hSw
    go_simp
    all_goals with_reducible rfl
  simp only [Act.put, List.setIfInBounds_toArray, List.set_cons_zero, List.set_cons_succ]
  refine wpAnyH_at (i := 7) (some 70) (v := ?v7z27) rfl rfl (by kernel_rfl) (by kernel_rfl) (by kernel_rfl) (fun _ _ _ h => h) (Or.inl ⟨by rfl, ?y7z27⟩) (by assumption) ?r7z27
  case y7z27 =>
    intro w9 hSw
    clear hSw
    go_simp
    all_goals with_reducible rfl
  simp only [Act.put, List.setIfInBounds_toArray, List.set_cons_zero, List.set_cons_succ]
  refine wpAnyH_at (i := 8) (some 71) (v := ?v8z28) rfl rfl (by kernel_rfl) (by kernel_rfl) (by kernel_rfl) (fun _ _ _ h => h) (Or.inl ⟨by rfl, ?y8z28⟩) (by assumption) ?r8z28
  case y8z28 =>
    intro w9 hSw
    clear hSw
    go_simp
    all_goals with_reducible rfl
  simp only [Act.put, List.setIfInBounds_toArray, List.set_cons_zero, List.set_cons_succ]
  refine wpAnyH_at (i := 9) (some 72) (v := ?v9z29) rfl rfl (by kernel_rfl) (by kernel_rfl) (by kernel_rfl) (fun _ _ _ h => h) (Or.inl ⟨by rfl, ?y9z29⟩) (by assumption) ?r9z29
  case y9z29 =>
    intro w9 hSw
    clear hSw
    go_simp
    all_goals with_reducible rfl
  simp only [Act.put, List.setIfInBounds_toArray, List.set_cons_zero, List.set_cons_succ]
  refine wpAnyH_at (i := 10) (some 73) (v := ?v10z30) rfl rfl (by kernel_rfl) (by kernel_rfl) (by kernel_rfl) (fun _ _ _ h => h) (Or.inl ⟨by rfl, ?y10z30⟩) (by assumption) ?r10z30
  case y10z30 =>
    intro w9 hSw
    clear hSw
    go_simp
    all_goals with_reducible rfl
  simp only [Act.put, List.setIfInBounds_toArray, List.set_cons_zero, List.set_cons_succ]
  refine wpAnyH_at (i := 11) (some 74) (v := ?v11z31) rfl rfl (by kernel_rfl) (by kernel_rfl) (by kernel_rfl) (fun _ _ _ h => h) (Or.inl ⟨by rfl, ?y11z31⟩) (by assumption) ?r11z31
  case y11z31 =>
    intro w9 hSw
    have a1 : w9.cell? ⟨w.heap.size, 1, none⟩ = some (.int .i64 bu) := cell_of_row w9 w.heap.size 1 _ 25 (0, 0) hSw; have a2 : w9.cell? ⟨w.heap.size, 2, none⟩ = some (.int .i64 fr) := cell_of_row w9 w.heap.size 2 _ 25 (0, 0) hSw; have a3 : w9.cell? ⟨w.heap.size, 3, none⟩ = some (.slice A n c) := cell_of_row w9 w.heap.size 3 _ 25 (0, 0) hSw; clear hSw
    go_simp
    all_goals with_reducible rfl
  simp only [Act.put, List.setIfInBounds_toArray, List.set_cons_zero, List.set_cons_succ]
  refine wpAnyH_at (i := 12) (some 75) (v := ?v12z32) rfl rfl (by kernel_rfl) (by kernel_rfl) (by kernel_rfl) (fun _ _ _ h => h) (Or.inl ⟨by rfl, ?y12z32⟩) (by assumption) ?r12z32
  case y12z32 =>
    intro w9 hSw
    have a1 : w9.cell? ⟨w.heap.size, 1, none⟩ = some (.int .i64 bu) := cell_of_row w9 w.heap.size 1 _ 25 (0, 0) hSw; have a2 : w9.cell? ⟨w.heap.size, 2, none⟩ = some (.int .i64 fr) := cell_of_row w9 w.heap.size 2 _ 25 (0, 0) hSw; have a3 : w9.cell? ⟨w.heap.size, 3, none⟩ = some (.slice A n c) := cell_of_row w9 w.heap.size 3 _ 25 (0, 0) hSw; clear hSw
    go_simp
    all_goals with_reducible rfl
  simp only [Act.put, List.setIfInBounds_toArray, List.set_cons_zero, List.set_cons_succ]
  refine wpAnyH_at (i := 14) (some 77) (v := ?v14z33) rfl rfl (by kernel_rfl) (by kernel_rfl) (by kernel_rfl) (fun _ _ _ h => h) (Or.inl ⟨by rfl, ?y14z33⟩) (by assumption) ?r14z33
  case y14z33 =>
    intro w9 hSw
    clear hSw
    go_simp
    all_goals with_reducible rfl
  simp only [Act.put, List.setIfInBounds_toArray, List.set_cons_zero, List.set_cons_succ]
  refine wpAnyH_at (i := 15) (some 78) (v := ?v15z34) rfl rfl (by kernel_rfl) (by kernel_rfl) (by kernel_rfl) (fun _ _ _ h => h) (Or.inl ⟨by rfl, ?y15z34⟩) (by assumption) ?r15z34
  case y15z34 =>
    intro w9 hSw
    clear hSw
    go_simp
    all_goals with_reducible rfl
  simp only [Act.put, List.setIfInBounds_toArray, List.set_cons_zero, List.set_cons_succ]
  refine wpAnyH_at (i := 16) (some 79) (v := ?v16z35) rfl rfl (by kernel_rfl) (by kernel_rfl) (by kernel_rfl) (fun _ _ _ h => h) (Or.inl ⟨by rfl, ?y16z35⟩) (by assumption) ?r16z35
  case y16z35 =>
    intro w9 hSw
    have a1 : w9.cell? ⟨w.heap.size, 1, none⟩ = some (.int .i64 bu) := cell_of_row w9 w.heap.size 1 _ 25 (0, 0) hSw; have a2 : w9.cell? ⟨w.heap.size, 2, none⟩ = some (.int .i64 fr) := cell_of_row w9 w.heap.size 2 _ 25 (0, 0) hSw; have a3 : w9.cell? ⟨w.heap.size, 3, none⟩ = some (.slice A n c) := cell_of_row w9 w.heap.size 3 _ 25 (0, 0) hSw; clear hSw
    go_simp
    all_goals with_reducible rfl
  simp only [Act.put, List.setIfInBounds_toArray, List.set_cons_zero, List.set_cons_succ]
  refine wpAnyH_at (i := 17) (some 80) (v := ?v17z36) rfl rfl (by kernel_rfl) (by kernel_rfl) (by kernel_rfl) (fun _ _ _ h => h) (Or.inl ⟨by rfl, ?y17z36⟩) (by assumption) ?r17z36
  case y17z36 =>
    intro w9 hSw
    have a1 : w9.cell? ⟨w.heap.size, 1, none⟩ = some (.int .i64 bu) := cell_of_row w9 w.heap.size 1 _ 25 (0, 0) hSw; have a2 : w9.cell? ⟨w.heap.size, 2, none⟩ = some (.int .i64 fr) := cell_of_row w9 w.heap.size 2 _ 25 (0, 0) hSw; have a3 : w9.cell? ⟨w.heap.size, 3, none⟩ = some (.slice A n c) := cell_of_row w9 w.heap.size 3 _ 25 (0, 0) hSw; clear hSw
    go_simp
    all_goals with_reducible rfl
  simp only [Act.put, List.setIfInBounds_toArray, List.set_cons_zero, List.set_cons_succ]
  refine wpAnyH_one (i := 13) (by kernel_rfl) rfl ?_
  go_wp2_with fail
  refine (dMove y (by omega) N fr).mono ?_
  rintro ev w5 ⟨rfl, y2, bb⟩
  replace bW := bW.trans bb
  clear y bb
  have y := y2
  clear y2
  go_wp2
  clear hHeld
  have hHeld := y.bx
  refine ⟨hHeld, ?_⟩
  try simp only [Act.put, List.setIfInBounds_toArray, List.set_cons_zero, List.set_cons_succ]
  refine wpAnyH_one (i := 18) (by kernel_rfl) rfl ?_
  go_wp2_with fail
  refine (dRMove y (by omega) N fr).mono ?_
  rintro ev w6 ⟨rfl, y2, bb⟩
  replace bW := bW.trans bb
  clear y bb
  have y := y2
  clear y2
  go_wp2
  clear hHeld
  have hHeld := y.bx
  refine ⟨hHeld, ?_⟩
  try simp only [Act.put, List.setIfInBounds_toArray, List.set_cons_zero, List.set_cons_succ]
  refine wpAnyH_at (i := 19) (some 82) (v := ?v19z37) rfl rfl (by kernel_rfl) (by kernel_rfl) (by kernel_rfl) (fun _ _ _ h => h) (Or.inl ⟨by rfl, ?y19z37⟩) (by assumption) ?r19z37
  case y19z37 =>
    intro w9 hSw
    clear hSw
    go_simp
    all_goals with_reducible rfl
  simp only [Act.put, List.setIfInBounds_toArray, List.set_cons_zero, List.set_cons_succ]
  refine wpAnyH_at (i := 20) (some 83) (v := ?v20z38) rfl rfl (by kernel_rfl) (by kernel_rfl) (by kernel_rfl) (fun _ _ _ h => h) (Or.inl ⟨by rfl, ?y20z38⟩) (by assumption) ?r20z38
  case y20z38 =>
    intro w9 hSw
    clear hSw
    go_simp
    all_goals with_reducible rfl
  simp only [Act.put, List.setIfInBounds_toArray, List.set_cons_zero, List.set_cons_succ]
  refine wpAnyH_at (i := 21) (some 12) (v := ?v21z39) rfl rfl (by kernel_rfl) (by kernel_rfl) (by kernel_rfl) (fun _ _ _ h => h) (Or.inl ⟨by rfl, ?y21z39⟩) (by assumption) ?r21z39
  case y21z39 =>
    intro w9 hSw
    clear hSw
    go_simp
    all_goals with_reducible rfl
  simp only [Act.put, List.setIfInBounds_toArray, List.set_cons_zero, List.set_cons_succ]
  refine wpAnyH_done (by kernel_rfl) ?_ _
  clear hHeld
  go_wp2
  generalize w6 = W5 at *
  have hlen := y.ow.len
  have F9 := Lib.hid (fun V hT => GivesDo.of (V := V) (w := w) (L0 := L) (d0 := d) y bW hT ((mvL_len ..).trans HT.out) (mvR_in hR1) (by have := drp_le (mvE (tkL L fr xs) R z o N fr) d; omega))
  have o9 := y.ow
  have hsz := bW.size
  clear y hR
  go_loopw [21] (fun i wr => ∃ (j : Nat) (ys : List Int), j ≤ n ∧ i = .int .i64 j ∧ Out .u8 5 wr (w.heap.size + 1) A1 n c1 ys ∧ Kept (fun k => ∃ ad, A1 = some ad ∧ ad.block = k) W5 wr) (fun i _ => n - (intOf i).toNat)
  case atStart => exact ⟨0, xs, Nat.zero_le _, rfl, o9, Kept.refl _ _⟩
  case round =>
    obtain ⟨j, ys, hj, rfl, ho, hT⟩ := hrel
    clear o9
    by_cases hjn : j < n
    · obtain ⟨x, rfl, hc, hf⟩ := ho.at_ hjn
      have hw := u8_bd (ho.rd.wf hjn)
      have o2 := ho.set j ((ys.getD j 0 + 1) % 256) (u8_mk (by omega))
      have hT2 : Kept (fun k => ∃ ad, some (⟨x, 0, none⟩ : Addr) = some ad ∧ ad.block = k) W5 (wr.setCell ⟨x, j, none⟩ (.int .u8 ((ys.getD j 0 + 1) % 256))) := hT.trans (Kept.setCell wr _ _ ⟨_, rfl, rfl⟩)
      generalize (ys.set j ((ys.getD j 0 + 1) % 256)) = zs at *
      generalize ys.getD j 0 = yy at *
      have O2 := Lib.hid o2
      have HT2 := Lib.hid hT2
      clear ho hT o2 hT2
      go_wp2
      go_roundw
      case rel => exact ⟨j + 1, zs, by omega, by go_num, O2.out, HT2.out⟩
      case measure => simp [intOf]; omega
    · have G9 := Lib.hid (F9.out wr hT)
      clear ho hT F9
      go_wp2
      go_ret
      exact G9.out
set_option maxRecDepth 100000 in
set_option maxHeartbeats 4000000 in
theorem do_take0 (B p g cp q s r h cr t b z : Nat) (o : Int) (L : Slots) (R : List Nat) (d : Nat) (bu fr : Int) (A : Option Addr) (n c : Nat) (xs : List Int) (w : World) (k : Two B p g cp q s r h cr t b z o L R d L R d Tr w) (hR : ∀ x ∈ R, x < L.length) (hd : d ≤ 50000) (rd : Rd .u8 w B A n c xs) (hn : n ≤ 1600) (he : R = []) : Calls Try.prog 13 #[ptr p, ptr q, ptr r, ptr t, .agg (box 2 bu fr A n c)] w (GivesDo w B p g cp q s r h cr t b z o L d) := by
  subst he
  have hmx := rd.max
  have hcx := rd.cap
  have ba := alloc_below w (.cells (box 2 bu fr A n c) 25)
  have bx : (w.alloc (.cells (box 2 bu fr A n c) 25)).heap[w.heap.size]? = some (.cells (box 2 bu fr A n c) 25 (0, 0)) := heap_alloc_new w _
  have rd1 := rd.below (ba.mono k.lt) (Nat.le_refl _)
  have kl := k.lt
  have own := own_any A n c B xs (w.alloc (.cells (box 2 bu fr A n c) 25)) rd1 (by simp; omega) (by omega)
  have Own := Lib.hid own
  clear own
  go_enter Try.func13, Try.ntmps13
  go_wp2_with fail
  refine Own.out.mono ?_
  rintro ev w2 ⟨A1, n1, c1, rfl, o1, hb⟩
  obtain rfl : n = n1 := by rw [← o1.len, ← rd.len]
  rw [World.size_alloc] at o1 hb
  have b2 := ba.trans (hb.mono (by omega))
  have y : KDo B p g cp q s r h cr t b z o L [] d L [] d 2 bu fr A n c xs w.heap.size A1 c1 (w.heap.size + 1) w2 :=
    ⟨(k.widen (fun j hj _ ad e => by have := (o1.block ad e).1; omega)).below b2, o1, rd.below (b2.mono kl) (Nat.le_refl _), (hb.block _ (by omega)).trans bx, ⟨kl, by omega⟩⟩
  have bW := b2.mono kl
  clear k rd ba bx rd1 Own o1 hb b2 kl
  have a0 : w2.cell? ⟨w.heap.size, 0, none⟩ = some (.int .i64 2) := cell_of_row w2 w.heap.size 0 _ 25 (0, 0) y.bx
  have a1 : w2.cell? ⟨w.heap.size, 1, none⟩ = some (.int .i64 bu) := cell_of_row w2 w.heap.size 1 _ 25 (0, 0) y.bx
  have a2 : w2.cell? ⟨w.heap.size, 2, none⟩ = some (.int .i64 fr) := cell_of_row w2 w.heap.size 2 _ 25 (0, 0) y.bx
  have a3 : w2.cell? ⟨w.heap.size, 3, none⟩ = some (.slice A n c) := cell_of_row w2 w.heap.size 3 _ 25 (0, 0) y.bx
  go_wp2_with fail
  refine (dTk0 y).mono ?_
  rintro ev w3 ⟨rfl, rfl⟩
  go_wp2_with fail
  refine (dRTk0 y).mono ?_
  rintro ev w4 ⟨rfl, rfl⟩
  go_wp2_with fail
  refine (same_any none none 0 0 0 0 [] 0 0 w2 Rd.nil Rd.nil).mono ?_
  rintro ev w5 ⟨rfl, hb5⟩
  replace bW := bW.trans (hb5.mono y.tw.lt)
  replace y := y.below hb5
  clear a0 a1 a2 a3 hb5
  go_wp2
  generalize w5 = W5 at *
  have hlen := y.ow.len
  have F9 := Lib.hid (fun V hT => GivesDo.of (V := V) (w := w) (L0 := L) (d0 := d) y bW hT (rfl) (hR) (by omega))
  have o9 := y.ow
  have hsz := bW.size
  clear y hR
  go_loopw [21] (fun i wr => ∃ (j : Nat) (ys : List Int), j ≤ n ∧ i = .int .i64 j ∧ Out .u8 5 wr (w.heap.size + 1) A1 n c1 ys ∧ Kept (fun k => ∃ ad, A1 = some ad ∧ ad.block = k) W5 wr) (fun i _ => n - (intOf i).toNat)
  case atStart => exact ⟨0, xs, Nat.zero_le _, rfl, o9, Kept.refl _ _⟩
  case round =>
    obtain ⟨j, ys, hj, rfl, ho, hT⟩ := hrel
    clear o9
    by_cases hjn : j < n
    · obtain ⟨x, rfl, hc, hf⟩ := ho.at_ hjn
      have hw := u8_bd (ho.rd.wf hjn)
      have o2 := ho.set j ((ys.getD j 0 + 1) % 256) (u8_mk (by omega))
      have hT2 : Kept (fun k => ∃ ad, some (⟨x, 0, none⟩ : Addr) = some ad ∧ ad.block = k) W5 (wr.setCell ⟨x, j, none⟩ (.int .u8 ((ys.getD j 0 + 1) % 256))) := hT.trans (Kept.setCell wr _ _ ⟨_, rfl, rfl⟩)
      generalize (ys.set j ((ys.getD j 0 + 1) % 256)) = zs at *
      generalize ys.getD j 0 = yy at *
      have O2 := Lib.hid o2
      have HT2 := Lib.hid hT2
      clear ho hT o2 hT2
      go_wp2
      go_roundw
      case rel => exact ⟨j + 1, zs, by omega, by go_num, O2.out, HT2.out⟩
      case measure => simp [intOf]; omega
    · have G9 := Lib.hid (F9.out wr hT)
      clear ho hT F9
      go_wp2
      go_ret
      exact G9.out
set_option maxRecDepth 100000 in
set_option maxHeartbeats 4000000 in
theorem do_take1 (B p g cp q s r h cr t b z : Nat) (o : Int) (L : Slots) (R : List Nat) (d : Nat) (bu fr : Int) (A : Option Addr) (n c : Nat) (xs : List Int) (w : World) (k : Two B p g cp q s r h cr t b z o L R d L R d Tr w) (hR : ∀ x ∈ R, x < L.length) (hd : d ≤ 50000) (rd : Rd .u8 w B A n c xs) (hn : n ≤ 1600) (x : Nat) (T : List Nat) (he : R = x :: T) : Calls Try.prog 13 #[ptr p, ptr q, ptr r, ptr t, .agg (box 2 bu fr A n c)] w (GivesDo w B p g cp q s r h cr t b z o L d) := by
  subst he
  have hx := hR x (.head _)
  have hTT : ∀ y ∈ T, y < (frL L (x : Int) o).length := fun y m => by rw [frL_len]; exact hR y (.tail _ m)
  have hmx := rd.max
  have hcx := rd.cap
  have ba := alloc_below w (.cells (box 2 bu fr A n c) 25)
  have bx : (w.alloc (.cells (box 2 bu fr A n c) 25)).heap[w.heap.size]? = some (.cells (box 2 bu fr A n c) 25 (0, 0)) := heap_alloc_new w _
  have rd1 := rd.below (ba.mono k.lt) (Nat.le_refl _)
  have kl := k.lt
  have own := own_any A n c B xs (w.alloc (.cells (box 2 bu fr A n c) 25)) rd1 (by simp; omega) (by omega)
  have Own := Lib.hid own
  clear own
  go_enter Try.func13, Try.ntmps13
  go_wp2_with fail
  refine Own.out.mono ?_
  rintro ev w2 ⟨A1, n1, c1, rfl, o1, hb⟩
  obtain rfl : n = n1 := by rw [← o1.len, ← rd.len]
  rw [World.size_alloc] at o1 hb
  have b2 := ba.trans (hb.mono (by omega))
  have y : KDo B p g cp q s r h cr t b z o L (x :: T) d L (x :: T) d 2 bu fr A n c xs w.heap.size A1 c1 (w.heap.size + 1) w2 :=
    ⟨(k.widen (fun j hj _ ad e => by have := (o1.block ad e).1; omega)).below b2, o1, rd.below (b2.mono kl) (Nat.le_refl _), (hb.block _ (by omega)).trans bx, ⟨kl, by omega⟩⟩
  have bW := b2.mono kl
  clear k rd ba bx rd1 Own o1 hb b2 kl
  have a0 : w2.cell? ⟨w.heap.size, 0, none⟩ = some (.int .i64 2) := cell_of_row w2 w.heap.size 0 _ 25 (0, 0) y.bx
  have a1 : w2.cell? ⟨w.heap.size, 1, none⟩ = some (.int .i64 bu) := cell_of_row w2 w.heap.size 1 _ 25 (0, 0) y.bx
  have a2 : w2.cell? ⟨w.heap.size, 2, none⟩ = some (.int .i64 fr) := cell_of_row w2 w.heap.size 2 _ 25 (0, 0) y.bx
  have a3 : w2.cell? ⟨w.heap.size, 3, none⟩ = some (.slice A n c) := cell_of_row w2 w.heap.size 3 _ 25 (0, 0) y.bx
  go_wp2_with fail
  refine (dTk1 y hx).mono ?_
  rintro ev w3 ⟨A2, n2, c2, rfl, o3, y2, bb⟩
  replace bW := bW.trans bb
  clear y bb a0 a1 a2 a3
  have y := y2
  clear y2
  go_wp2_with fail
  refine (dRTk1 y hx).mono ?_
  rintro ev w4 ⟨A3, n3, c3, rfl, o4, y2, bb, cc⟩
  have r3 := (cc _ _ _ _ _ o3).rd
  replace bW := bW.trans bb
  clear y bb cc o3
  have y := y2
  clear y2
  go_wp2_with fail
  refine (same_any A2 A3 n2 c2 n3 c3 (byt L x) _ _ w4 r3 o4.rd).mono ?_
  rintro ev w5 ⟨rfl, hb5⟩
  replace bW := bW.trans (hb5.mono y.tw.lt)
  replace y := y.below hb5
  clear hb5 r3 o4
  go_wp2
  generalize w5 = W5 at *
  have hlen := y.ow.len
  have F9 := Lib.hid (fun V hT => GivesDo.of (V := V) (w := w) (L0 := L) (d0 := d) y bW hT (frL_len ..) (hTT) (by omega))
  have o9 := y.ow
  have hsz := bW.size
  clear y hR hTT
  go_loopw [21] (fun i wr => ∃ (j : Nat) (ys : List Int), j ≤ n ∧ i = .int .i64 j ∧ Out .u8 5 wr (w.heap.size + 1) A1 n c1 ys ∧ Kept (fun k => ∃ ad, A1 = some ad ∧ ad.block = k) W5 wr) (fun i _ => n - (intOf i).toNat)
  case atStart => exact ⟨0, xs, Nat.zero_le _, rfl, o9, Kept.refl _ _⟩
  case round =>
    obtain ⟨j, ys, hj, rfl, ho, hT⟩ := hrel
    clear o9
    by_cases hjn : j < n
    · obtain ⟨x, rfl, hc, hf⟩ := ho.at_ hjn
      have hw := u8_bd (ho.rd.wf hjn)
      have o2 := ho.set j ((ys.getD j 0 + 1) % 256) (u8_mk (by omega))
      have hT2 : Kept (fun k => ∃ ad, some (⟨x, 0, none⟩ : Addr) = some ad ∧ ad.block = k) W5 (wr.setCell ⟨x, j, none⟩ (.int .u8 ((ys.getD j 0 + 1) % 256))) := hT.trans (Kept.setCell wr _ _ ⟨_, rfl, rfl⟩)
      generalize (ys.set j ((ys.getD j 0 + 1) % 256)) = zs at *
      generalize ys.getD j 0 = yy at *
      have O2 := Lib.hid o2
      have HT2 := Lib.hid hT2
      clear ho hT o2 hT2
      go_wp2
      go_roundw
      case rel => exact ⟨j + 1, zs, by omega, by go_num, O2.out, HT2.out⟩
      case measure => simp [intOf]; omega
    · have G9 := Lib.hid (F9.out wr hT)
      clear ho hT F9
      go_wp2
      go_ret
      exact G9.out
set_option maxRecDepth 100000 in
set_option maxHeartbeats 4000000 in
theorem do_else (B p g cp q s r h cr t b z : Nat) (o : Int) (L : Slots) (R : List Nat) (d : Nat) (bu fr : Int) (A : Option Addr) (n c : Nat) (xs : List Int) (w : World) (k : Two B p g cp q s r h cr t b z o L R d L R d Tr w) (hR : ∀ x ∈ R, x < L.length) (hd : d ≤ 50000) (rd : Rd .u8 w B A n c xs) (hn : n ≤ 1600) (wh : Int) (h0 : ¬ wh = 0) (h1 : ¬ wh = 1) (h2 : ¬ wh = 2) (h3 : ¬ wh = 3) : Calls Try.prog 13 #[ptr p, ptr q, ptr r, ptr t, .agg (box wh bu fr A n c)] w (GivesDo w B p g cp q s r h cr t b z o L d) := by
  have hmx := rd.max
  have hcx := rd.cap
  have ba := alloc_below w (.cells (box wh bu fr A n c) 25)
  have bx : (w.alloc (.cells (box wh bu fr A n c) 25)).heap[w.heap.size]? = some (.cells (box wh bu fr A n c) 25 (0, 0)) := heap_alloc_new w _
  have rd1 := rd.below (ba.mono k.lt) (Nat.le_refl _)
  have kl := k.lt
  have own := own_any A n c B xs (w.alloc (.cells (box wh bu fr A n c) 25)) rd1 (by simp; omega) (by omega)
  have Own := Lib.hid own
  clear own
  go_enter Try.func13, Try.ntmps13
  go_wp2_with fail
  refine Own.out.mono ?_
  rintro ev w2 ⟨A1, n1, c1, rfl, o1, hb⟩
  obtain rfl : n = n1 := by rw [← o1.len, ← rd.len]
  rw [World.size_alloc] at o1 hb
  have b2 := ba.trans (hb.mono (by omega))
  have y : KDo B p g cp q s r h cr t b z o L R d L R d wh bu fr A n c xs w.heap.size A1 c1 (w.heap.size + 1) w2 :=
    ⟨(k.widen (fun j hj _ ad e => by have := (o1.block ad e).1; omega)).below b2, o1, rd.below (b2.mono kl) (Nat.le_refl _), (hb.block _ (by omega)).trans bx, ⟨kl, by omega⟩⟩
  have bW := b2.mono kl
  clear k rd ba bx rd1 Own o1 hb b2 kl
  have a0 : w2.cell? ⟨w.heap.size, 0, none⟩ = some (.int .i64 wh) := cell_of_row w2 w.heap.size 0 _ 25 (0, 0) y.bx
  have a1 : w2.cell? ⟨w.heap.size, 1, none⟩ = some (.int .i64 bu) := cell_of_row w2 w.heap.size 1 _ 25 (0, 0) y.bx
  have a2 : w2.cell? ⟨w.heap.size, 2, none⟩ = some (.int .i64 fr) := cell_of_row w2 w.heap.size 2 _ 25 (0, 0) y.bx
  have a3 : w2.cell? ⟨w.heap.size, 3, none⟩ = some (.slice A n c) := cell_of_row w2 w.heap.size 3 _ 25 (0, 0) y.bx
  go_wp2
  clear a0 a1 a2 a3
  generalize w2 = W5 at *
  have hlen := y.ow.len
  have F9 := Lib.hid (fun V hT => GivesDo.of (V := V) (w := w) (L0 := L) (d0 := d) y bW hT (rfl) (hR) (by omega))
  have o9 := y.ow
  have hsz := bW.size
  clear y hR
  go_loopw [21] (fun i wr => ∃ (j : Nat) (ys : List Int), j ≤ n ∧ i = .int .i64 j ∧ Out .u8 5 wr (w.heap.size + 1) A1 n c1 ys ∧ Kept (fun k => ∃ ad, A1 = some ad ∧ ad.block = k) W5 wr) (fun i _ => n - (intOf i).toNat)
  case atStart => exact ⟨0, xs, Nat.zero_le _, rfl, o9, Kept.refl _ _⟩
  case round =>
    obtain ⟨j, ys, hj, rfl, ho, hT⟩ := hrel
    clear o9
    by_cases hjn : j < n
    · obtain ⟨x, rfl, hc, hf⟩ := ho.at_ hjn
      have hw := u8_bd (ho.rd.wf hjn)
      have o2 := ho.set j ((ys.getD j 0 + 1) % 256) (u8_mk (by omega))
      have hT2 : Kept (fun k => ∃ ad, some (⟨x, 0, none⟩ : Addr) = some ad ∧ ad.block = k) W5 (wr.setCell ⟨x, j, none⟩ (.int .u8 ((ys.getD j 0 + 1) % 256))) := hT.trans (Kept.setCell wr _ _ ⟨_, rfl, rfl⟩)
      generalize (ys.set j ((ys.getD j 0 + 1) % 256)) = zs at *
      generalize ys.getD j 0 = yy at *
      have O2 := Lib.hid o2
      have HT2 := Lib.hid hT2
      clear ho hT o2 hT2
      go_wp2
      go_roundw
      case rel => exact ⟨j + 1, zs, by omega, by go_num, O2.out, HT2.out⟩
      case measure => simp [intOf]; omega
    · have G9 := Lib.hid (F9.out wr hT)
      clear ho hT F9
      go_wp2
      go_ret
      exact G9.out
theorem do_any (B p g cp q s r h cr t b z : Nat) (o : Int) (L : Slots) (R : List Nat) (d : Nat) (bu fr : Int) (A : Option Addr) (n c : Nat) (xs : List Int) (w : World) (k : Two B p g cp q s r h cr t b z o L R d L R d Tr w) (hR : ∀ x ∈ R, x < L.length) (hd : d ≤ 50000) (rd : Rd .u8 w B A n c xs) (hn : n ≤ 1600) (wh : Int) : Calls Try.prog 13 #[ptr p, ptr q, ptr r, ptr t, .agg (box wh bu fr A n c)] w (GivesDo w B p g cp q s r h cr t b z o L d) := by
  by_cases h0 : wh = 0
  · subst h0; exact do_put B p g cp q s r h cr t b z o L R d bu fr A n c xs w k hR hd rd hn
  by_cases h1 : wh = 1
  · subst h1
    by_cases hf : fr = o
    · exact do_own1 B p g cp q s r h cr t b z o L R d bu fr A n c xs w k hR hd rd hn hf
    · exact do_hand B p g cp q s r h cr t b z o L R d bu fr A n c xs w k hR hd rd hn hf
  by_cases h2 : wh = 2
  · subst h2
    cases he : R with
    | nil => rw [he] at k hR; exact do_take0 B p g cp q s r h cr t b z o L [] d bu fr A n c xs w k hR hd rd hn rfl
    | cons x T => rw [he] at k hR; exact do_take1 B p g cp q s r h cr t b z o L (x :: T) d bu fr A n c xs w k hR hd rd hn x T rfl
  by_cases h3 : wh = 3
  · subst h3
    by_cases hf : fr = o
    · exact do_own3 B p g cp q s r h cr t b z o L R d bu fr A n c xs w k hR hd rd hn hf
    · exact do_move B p g cp q s r h cr t b z o L R d bu fr A n c xs w k hR hd rd hn hf
  exact do_else B p g cp q s r h cr t b z o L R d bu fr A n c xs w k hR hd rd hn wh h0 h1 h2 h3
end Go.Proofs.Ytjaiagocbldbgaa
