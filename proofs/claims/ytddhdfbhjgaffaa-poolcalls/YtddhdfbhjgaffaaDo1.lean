/-
  The contract of Do, walked.
-/
import Derived.Test.YtddhdfbhjgaffaaDo0
namespace Go.Proofs.Ytddhdfbhjgaffaa
open Go.RowKit
set_option linter.unusedVariables false

theorem doB_0 {L M : Slots} {bu o t : Int} {n : Nat} {x y : Bool} (h1 : (tkN L o n == tkN M o n) = x) (h2 : (tkE L o n == tkE M o n) = y) : doB L M 0 bu o t n = (x && y) := by
  subst h1 h2
  unfold doB
  simp
  rfl
theorem doB_1 {L M : Slots} {bu o t : Int} {n : Nat} {x : Bool} (h1 : (hdE L bu o t == hdE M bu o t) = x) : doB L M 1 bu o t n = x := by
  subst h1
  unfold doB
  simp
  rfl
theorem doB_2 {L M : Slots} {bu o t : Int} {n : Nat} {x : Bool} (h1 : (chE L bu o == chE M bu o) = x) : doB L M 2 bu o t n = x := by
  subst h1
  unfold doB
  simp
  rfl
set_option maxRecDepth 100000 in
set_option maxHeartbeats 4000000 in
theorem do_other (p g cp r gr cr : Nat) (L M : Slots) (bu o t : Int) (A : Option Addr) (n c B : Nat) (xs : List Int) (w : World) (hp : Pp w p g cp L (fun _ => True)) (hr : Rp w r gr cr M (fun _ => True)) (hL : 0 < L.length) (hM : gr = r ∨ 0 < M.length) (rd : Rd .u8 w B A n c xs) (hB : B ≤ g ∧ B ≤ gr) (hn : n ≤ 1600) (wh : Int) (h0 : ¬ wh = 0) (h1 : ¬ wh = 1) (h2 : ¬ wh = 2) : Calls Try.prog 11 #[ptr p, ptr r, .agg #[.int .i64 wh, .int .i64 bu, .int .i64 o, .int .i64 t, .slice A n c]] w (GivesDo w p g cp r gr cr L M wh bu o t n xs) := by
  have hx : Hid (doB L M wh bu o t n = true) := Lib.hid (by unfold doB; rw [if_neg h0, if_neg h1, if_neg h2])
  have e1 : Hid (stepL L wh bu o t xs = L) := Lib.hid (by unfold stepL; rw [if_neg h0, if_neg h1, if_neg h2])
  have e2 : Hid (stepL M wh bu o t xs = M) := Lib.hid (by unfold stepL; rw [if_neg h0, if_neg h1, if_neg h2])
  have z0 : (wh == 0) = false := by simpa using h0
  have z1 : (wh == 1) = false := by simpa using h1
  have z2 : (wh == 2) = false := by simpa using h2
  clear h0 h1 h2
  have hBl : B ≤ w.heap.size := by have := hp.lt.2; omega
  have hmx := rd.max
  have hcx := rd.cap
  have ba := alloc_below w (.cells #[.int .i64 wh, .int .i64 bu, .int .i64 o, .int .i64 t, .slice A n c] 25)
  have bx : (w.alloc (.cells #[.int .i64 wh, .int .i64 bu, .int .i64 o, .int .i64 t, .slice A n c] 25)).heap[w.heap.size]? = some (.cells #[.int .i64 wh, .int .i64 bu, .int .i64 o, .int .i64 t, .slice A n c] 25 (0, 0)) := heap_alloc_new w _
  have ap := apart_of hp hr hL hM
  have rd1 := rd.below ba hBl
  have own := own_any A n c B xs (w.alloc (.cells #[.int .i64 wh, .int .i64 bu, .int .i64 o, .int .i64 t, .slice A n c] 25)) rd1 (by simp; omega) (by omega)
  have Own := Lib.hid own
  clear own
  go_enter Try.func11, Try.ntmps11
  go_wp2_with fail
  refine Own.out.mono ?_
  rintro ev w2 ⟨A1, n1, c1, rfl, o1, hb⟩
  obtain rfl : n = n1 := by rw [← o1.len, ← rd.len]
  rw [World.size_alloc] at o1 hb
  have b2 := ba.trans (hb.mono (by omega))
  have bs2 : w.heap.size + 1 ≤ w2.heap.size := by have := hb.size; simpa using this
  have q : KD w.heap.size g p gr r cp cr L M wh bu o t A n c B xs A1 c1 (w.heap.size + 1) w2 := by
    refine ⟨(hp.old.below b2).widen (fun b _ h1 ad e h2 => ?_), (hr.old.below b2).widen (fun b _ h1 ad e h2 => ?_), o1, rd.below b2 hBl, (hb.block _ (by omega)).trans bx, ap, hL, hM, hB, ?_⟩
    · have := (o1.block ad e).1; omega
    · have := (o1.block ad e).1; omega
    · have := hp.lt; have := hr.lt; omega
  have K : Kept (fun k => k = g ∨ k = gr) w w2 := Kept.of_below b2
  clear hp hr rd hL hM hB ba bx ap rd1 Own o1 hb b2
  obtain ⟨a0, a1, a2, a3, a4⟩ := q.cells
  go_wp2
  clear a0 a1 a2 a3 a4
  obtain ⟨W5, hW5⟩ : ∃ W, w2 = W := ⟨_, rfl⟩
  subst hW5
  go_loopw [13] (fun i wr => ∃ (k : Nat) (ys : List Int), k ≤ n ∧ i = .int .i64 k ∧ Out .u8 5 wr (w.heap.size + 1) A1 n c1 ys ∧ Kept (fun k => ∃ ad, A1 = some ad ∧ ad.block = k) w2 wr) (fun i _ => n - (intOf i).toNat)
  case atStart => exact ⟨0, xs, Nat.zero_le _, rfl, q.ow, Kept.refl _ _⟩
  case round =>
    obtain ⟨k, ys, hk, rfl, ho, hT⟩ := hrel
    by_cases hkn : k < n
    · obtain ⟨x, rfl, hc, hf⟩ := ho.at_ hkn
      have hw := u8_bd (ho.rd.wf hkn)
      have o2 := ho.set k ((ys.getD k 0 + 1) % 256) (u8_mk (by omega))
      have hT2 : Kept (fun k => ∃ ad, some (⟨x, 0, none⟩ : Addr) = some ad ∧ ad.block = k) w2 (wr.setCell ⟨x, k, none⟩ (.int .u8 ((ys.getD k 0 + 1) % 256))) := hT.trans (Kept.setCell wr _ _ ⟨_, rfl, rfl⟩)
      generalize (ys.set k ((ys.getD k 0 + 1) % 256)) = zs at *
      generalize ys.getD k 0 = y at *
      have O2 := Lib.hid o2
      have HT2 := Lib.hid hT2
      clear ho hT o2 hT2
      go_wp2
      go_roundw
      case rel => exact ⟨k + 1, zs, by omega, by go_num, O2.out, HT2.out⟩
      case measure => simp [intOf]; omega
    · have R := Lib.hid (GivesDo.of (w := w) (base := w.heap.size + 1) (hx.out) (e1.out) (e2.out) q K (by omega) hT)
      clear ho hT q K
      go_wp2
      go_ret
      exact R.out

set_option maxRecDepth 100000 in
set_option maxHeartbeats 4000000 in
theorem do_hand (p g cp r gr cr : Nat) (L M : Slots) (bu o t : Int) (A : Option Addr) (n c B : Nat) (xs : List Int) (w : World) (hp : Pp w p g cp L (fun _ => True)) (hr : Rp w r gr cr M (fun _ => True)) (hL : 0 < L.length) (hM : gr = r ∨ 0 < M.length) (rd : Rd .u8 w B A n c xs) (hB : B ≤ g ∧ B ≤ gr) (hn : n ≤ 1600) (x : Bool) (hx : (hdE L bu o t == hdE M bu o t) = x) : Calls Try.prog 11 #[ptr p, ptr r, .agg #[.int .i64 1, .int .i64 bu, .int .i64 o, .int .i64 t, .slice A n c]] w (GivesDo w p g cp r gr cr L M 1 bu o t n xs) := by
  have e1 : Hid (stepL L 1 bu o t xs = hdL L bu o t) := Lib.hid (by unfold stepL; simp)
  have e2 : Hid (stepL M 1 bu o t xs = hdL M bu o t) := Lib.hid (by unfold stepL; simp)
  have hd := Lib.hid (doB_1 (n := n) (bu := bu) (o := o) (t := t) hx)
  have hBl : B ≤ w.heap.size := by have := hp.lt.2; omega
  have hmx := rd.max
  have hcx := rd.cap
  have ba := alloc_below w (.cells #[.int .i64 1, .int .i64 bu, .int .i64 o, .int .i64 t, .slice A n c] 25)
  have bx : (w.alloc (.cells #[.int .i64 1, .int .i64 bu, .int .i64 o, .int .i64 t, .slice A n c] 25)).heap[w.heap.size]? = some (.cells #[.int .i64 1, .int .i64 bu, .int .i64 o, .int .i64 t, .slice A n c] 25 (0, 0)) := heap_alloc_new w _
  have ap := apart_of hp hr hL hM
  have rd1 := rd.below ba hBl
  have own := own_any A n c B xs (w.alloc (.cells #[.int .i64 1, .int .i64 bu, .int .i64 o, .int .i64 t, .slice A n c] 25)) rd1 (by simp; omega) (by omega)
  have Own := Lib.hid own
  clear own
  go_enter Try.func11, Try.ntmps11
  go_wp2_with fail
  refine Own.out.mono ?_
  rintro ev w2 ⟨A1, n1, c1, rfl, o1, hb⟩
  obtain rfl : n = n1 := by rw [← o1.len, ← rd.len]
  rw [World.size_alloc] at o1 hb
  have b2 := ba.trans (hb.mono (by omega))
  have bs2 : w.heap.size + 1 ≤ w2.heap.size := by have := hb.size; simpa using this
  have q : KD w.heap.size g p gr r cp cr L M 1 bu o t A n c B xs A1 c1 (w.heap.size + 1) w2 := by
    refine ⟨(hp.old.below b2).widen (fun b _ h1 ad e h2 => ?_), (hr.old.below b2).widen (fun b _ h1 ad e h2 => ?_), o1, rd.below b2 hBl, (hb.block _ (by omega)).trans bx, ap, hL, hM, hB, ?_⟩
    · have := (o1.block ad e).1; omega
    · have := (o1.block ad e).1; omega
    · have := hp.lt; have := hr.lt; omega
  have K : Kept (fun k => k = g ∨ k = gr) w w2 := Kept.of_below b2
  clear hp hr rd hL hM hB ba bx ap rd1 Own o1 hb b2
  obtain ⟨a0, a1, a2, a3, a4⟩ := q.cells
  have c1 := Lib.hid (fun F W q => hand_any p g cp L F bu o t W q)
  have c2 := Lib.hid (fun F W q => refHand_any r gr cr M F bu o t W q)
  have l1 : Hid ((hdL L bu o t).length = L.length) := Lib.hid (hdL_len ..)
  have l2 : Hid ((hdL M bu o t).length = M.length) := Lib.hid (hdL_len ..)
  generalize hdL L bu o t = L2 at *
  generalize hdL M bu o t = M2 at *
  generalize hdE L bu o t = E1 at *
  generalize hdE M bu o t = E2 at *
  go_wp2
  clear a0 a1 a2 a3 a4
  refine wp_region_held_drew (S := fun w' => w'.heap[w.heap.size]? = some (.cells #[.int .i64 1, .int .i64 bu, .int .i64 o, .int .i64 t, .slice A n c] 25 (0, 0))) (by kernel_rfl) (q.step (below_drew _)).bx (fun hHeld => ?_)
  replace q := q.step (below_drew _)
  replace K := K.then (below_drew _)
  change wpAnyH _ _ _ _ _ _ _ _ (World.drew _)
  generalize World.drew w2 = W3 at *
  refine wpAnyH_at (i := 0) (some 48) (v := ?v0z1) rfl rfl (by kernel_rfl) (by kernel_rfl) (by kernel_rfl) (fun _ _ _ h => h) (Or.inl ⟨by rfl, ?y0z1⟩) (by assumption) ?r0z1
  case y0z1 =>
    intro w9 hSw
    have hSw2 : w9.heap[w.heap.size]? = some (.cells #[.int .i64 1, .int .i64 bu, .int .i64 o, .int .i64 t, .slice A n c] 25 (0, 0)) := hSw; have a1 : w9.cell? ⟨w.heap.size, 1, none⟩ = some (.int .i64 bu) := cell_of_row w9 w.heap.size 1 _ 25 (0, 0) hSw2; have a2 : w9.cell? ⟨w.heap.size, 2, none⟩ = some (.int .i64 o) := cell_of_row w9 w.heap.size 2 _ 25 (0, 0) hSw2; have a3 : w9.cell? ⟨w.heap.size, 3, none⟩ = some (.int .i64 t) := cell_of_row w9 w.heap.size 3 _ 25 (0, 0) hSw2; clear hSw hSw2
    go_simp
    all_goals with_reducible rfl
  simp only [Act.put, List.setIfInBounds_toArray, List.set_cons_zero, List.set_cons_succ]
  refine wpAnyH_at (i := 1) (some 49) (v := ?v1z2) rfl rfl (by kernel_rfl) (by kernel_rfl) (by kernel_rfl) (fun _ _ _ h => h) (Or.inl ⟨by rfl, ?y1z2⟩) (by assumption) ?r1z2
  case y1z2 =>
    intro w9 hSw
    have hSw2 : w9.heap[w.heap.size]? = some (.cells #[.int .i64 1, .int .i64 bu, .int .i64 o, .int .i64 t, .slice A n c] 25 (0, 0)) := hSw; have a1 : w9.cell? ⟨w.heap.size, 1, none⟩ = some (.int .i64 bu) := cell_of_row w9 w.heap.size 1 _ 25 (0, 0) hSw2; have a2 : w9.cell? ⟨w.heap.size, 2, none⟩ = some (.int .i64 o) := cell_of_row w9 w.heap.size 2 _ 25 (0, 0) hSw2; have a3 : w9.cell? ⟨w.heap.size, 3, none⟩ = some (.int .i64 t) := cell_of_row w9 w.heap.size 3 _ 25 (0, 0) hSw2; clear hSw hSw2
    go_simp
    all_goals with_reducible rfl
  simp only [Act.put, List.setIfInBounds_toArray, List.set_cons_zero, List.set_cons_succ]
  refine wpAnyH_at (i := 2) (some 50) (v := ?v2z3) rfl rfl (by kernel_rfl) (by kernel_rfl) (by kernel_rfl) (fun _ _ _ h => h) (Or.inl ⟨by rfl, ?y2z3⟩) (by assumption) ?r2z3
  case y2z3 =>
    intro w9 hSw
    have hSw2 : w9.heap[w.heap.size]? = some (.cells #[.int .i64 1, .int .i64 bu, .int .i64 o, .int .i64 t, .slice A n c] 25 (0, 0)) := hSw; have a1 : w9.cell? ⟨w.heap.size, 1, none⟩ = some (.int .i64 bu) := cell_of_row w9 w.heap.size 1 _ 25 (0, 0) hSw2; have a2 : w9.cell? ⟨w.heap.size, 2, none⟩ = some (.int .i64 o) := cell_of_row w9 w.heap.size 2 _ 25 (0, 0) hSw2; have a3 : w9.cell? ⟨w.heap.size, 3, none⟩ = some (.int .i64 t) := cell_of_row w9 w.heap.size 3 _ 25 (0, 0) hSw2; clear hSw hSw2
    go_simp
    all_goals with_reducible rfl
  simp only [Act.put, List.setIfInBounds_toArray, List.set_cons_zero, List.set_cons_succ]
  refine wpAnyH_at (i := 3) (some 51) (v := ?v3z4) rfl rfl (by kernel_rfl) (by kernel_rfl) (by kernel_rfl) (fun _ _ _ h => h) (Or.inl ⟨by rfl, ?y3z4⟩) (by assumption) ?r3z4
  case y3z4 =>
    intro w9 hSw
    have hSw2 : w9.heap[w.heap.size]? = some (.cells #[.int .i64 1, .int .i64 bu, .int .i64 o, .int .i64 t, .slice A n c] 25 (0, 0)) := hSw; have a1 : w9.cell? ⟨w.heap.size, 1, none⟩ = some (.int .i64 bu) := cell_of_row w9 w.heap.size 1 _ 25 (0, 0) hSw2; have a2 : w9.cell? ⟨w.heap.size, 2, none⟩ = some (.int .i64 o) := cell_of_row w9 w.heap.size 2 _ 25 (0, 0) hSw2; have a3 : w9.cell? ⟨w.heap.size, 3, none⟩ = some (.int .i64 t) := cell_of_row w9 w.heap.size 3 _ 25 (0, 0) hSw2; clear hSw hSw2
    go_simp
    all_goals with_reducible rfl
  simp only [Act.put, List.setIfInBounds_toArray, List.set_cons_zero, List.set_cons_succ]
  refine wpAnyH_at (i := 4) (some 52) (v := ?v4z5) rfl rfl (by kernel_rfl) (by kernel_rfl) (by kernel_rfl) (fun _ _ _ h => h) (Or.inl ⟨by rfl, ?y4z5⟩) (by assumption) ?r4z5
  case y4z5 =>
    intro w9 hSw
    have hSw2 : w9.heap[w.heap.size]? = some (.cells #[.int .i64 1, .int .i64 bu, .int .i64 o, .int .i64 t, .slice A n c] 25 (0, 0)) := hSw; have a1 : w9.cell? ⟨w.heap.size, 1, none⟩ = some (.int .i64 bu) := cell_of_row w9 w.heap.size 1 _ 25 (0, 0) hSw2; have a2 : w9.cell? ⟨w.heap.size, 2, none⟩ = some (.int .i64 o) := cell_of_row w9 w.heap.size 2 _ 25 (0, 0) hSw2; have a3 : w9.cell? ⟨w.heap.size, 3, none⟩ = some (.int .i64 t) := cell_of_row w9 w.heap.size 3 _ 25 (0, 0) hSw2; clear hSw hSw2
    go_simp
    all_goals with_reducible rfl
  simp only [Act.put, List.setIfInBounds_toArray, List.set_cons_zero, List.set_cons_succ]
  refine wpAnyH_at (i := 5) (some 53) (v := ?v5z6) rfl rfl (by kernel_rfl) (by kernel_rfl) (by kernel_rfl) (fun _ _ _ h => h) (Or.inl ⟨by rfl, ?y5z6⟩) (by assumption) ?r5z6
  case y5z6 =>
    intro w9 hSw
    have hSw2 : w9.heap[w.heap.size]? = some (.cells #[.int .i64 1, .int .i64 bu, .int .i64 o, .int .i64 t, .slice A n c] 25 (0, 0)) := hSw; have a1 : w9.cell? ⟨w.heap.size, 1, none⟩ = some (.int .i64 bu) := cell_of_row w9 w.heap.size 1 _ 25 (0, 0) hSw2; have a2 : w9.cell? ⟨w.heap.size, 2, none⟩ = some (.int .i64 o) := cell_of_row w9 w.heap.size 2 _ 25 (0, 0) hSw2; have a3 : w9.cell? ⟨w.heap.size, 3, none⟩ = some (.int .i64 t) := cell_of_row w9 w.heap.size 3 _ 25 (0, 0) hSw2; clear hSw hSw2
    go_simp
    all_goals with_reducible rfl
  simp only [Act.put, List.setIfInBounds_toArray, List.set_cons_zero, List.set_cons_succ]
  refine wpAnyH_at (i := 6) (some 54) (v := ?v6z7) rfl rfl (by kernel_rfl) (by kernel_rfl) (by kernel_rfl) (fun _ _ _ h => h) (Or.inl ⟨by rfl, ?y6z7⟩) (by assumption) ?r6z7
  case y6z7 =>
    intro w9 hSw
    have hSw2 : w9.heap[w.heap.size]? = some (.cells #[.int .i64 1, .int .i64 bu, .int .i64 o, .int .i64 t, .slice A n c] 25 (0, 0)) := hSw; have a1 : w9.cell? ⟨w.heap.size, 1, none⟩ = some (.int .i64 bu) := cell_of_row w9 w.heap.size 1 _ 25 (0, 0) hSw2; have a2 : w9.cell? ⟨w.heap.size, 2, none⟩ = some (.int .i64 o) := cell_of_row w9 w.heap.size 2 _ 25 (0, 0) hSw2; have a3 : w9.cell? ⟨w.heap.size, 3, none⟩ = some (.int .i64 t) := cell_of_row w9 w.heap.size 3 _ 25 (0, 0) hSw2; clear hSw hSw2
    go_simp
    all_goals with_reducible rfl
  simp only [Act.put, List.setIfInBounds_toArray, List.set_cons_zero, List.set_cons_succ]
  refine wpAnyH_at (i := 8) (some 56) (v := ?v8z8) rfl rfl (by kernel_rfl) (by kernel_rfl) (by kernel_rfl) (fun _ _ _ h => h) (Or.inl ⟨by rfl, ?y8z8⟩) (by assumption) ?r8z8
  case y8z8 =>
    intro w9 hSw
    have hSw2 : w9.heap[w.heap.size]? = some (.cells #[.int .i64 1, .int .i64 bu, .int .i64 o, .int .i64 t, .slice A n c] 25 (0, 0)) := hSw; have a1 : w9.cell? ⟨w.heap.size, 1, none⟩ = some (.int .i64 bu) := cell_of_row w9 w.heap.size 1 _ 25 (0, 0) hSw2; have a2 : w9.cell? ⟨w.heap.size, 2, none⟩ = some (.int .i64 o) := cell_of_row w9 w.heap.size 2 _ 25 (0, 0) hSw2; have a3 : w9.cell? ⟨w.heap.size, 3, none⟩ = some (.int .i64 t) := cell_of_row w9 w.heap.size 3 _ 25 (0, 0) hSw2; clear hSw hSw2
    go_simp
    all_goals with_reducible rfl
  simp only [Act.put, List.setIfInBounds_toArray, List.set_cons_zero, List.set_cons_succ]
  refine wpAnyH_at (i := 9) (some 57) (v := ?v9z9) rfl rfl (by kernel_rfl) (by kernel_rfl) (by kernel_rfl) (fun _ _ _ h => h) (Or.inl ⟨by rfl, ?y9z9⟩) (by assumption) ?r9z9
  case y9z9 =>
    intro w9 hSw
    have hSw2 : w9.heap[w.heap.size]? = some (.cells #[.int .i64 1, .int .i64 bu, .int .i64 o, .int .i64 t, .slice A n c] 25 (0, 0)) := hSw; have a1 : w9.cell? ⟨w.heap.size, 1, none⟩ = some (.int .i64 bu) := cell_of_row w9 w.heap.size 1 _ 25 (0, 0) hSw2; have a2 : w9.cell? ⟨w.heap.size, 2, none⟩ = some (.int .i64 o) := cell_of_row w9 w.heap.size 2 _ 25 (0, 0) hSw2; have a3 : w9.cell? ⟨w.heap.size, 3, none⟩ = some (.int .i64 t) := cell_of_row w9 w.heap.size 3 _ 25 (0, 0) hSw2; clear hSw hSw2
    go_simp
    all_goals with_reducible rfl
  simp only [Act.put, List.setIfInBounds_toArray, List.set_cons_zero, List.set_cons_succ]
  refine wpAnyH_at (i := 10) (some 58) (v := ?v10z10) rfl rfl (by kernel_rfl) (by kernel_rfl) (by kernel_rfl) (fun _ _ _ h => h) (Or.inl ⟨by rfl, ?y10z10⟩) (by assumption) ?r10z10
  case y10z10 =>
    intro w9 hSw
    have hSw2 : w9.heap[w.heap.size]? = some (.cells #[.int .i64 1, .int .i64 bu, .int .i64 o, .int .i64 t, .slice A n c] 25 (0, 0)) := hSw; have a1 : w9.cell? ⟨w.heap.size, 1, none⟩ = some (.int .i64 bu) := cell_of_row w9 w.heap.size 1 _ 25 (0, 0) hSw2; have a2 : w9.cell? ⟨w.heap.size, 2, none⟩ = some (.int .i64 o) := cell_of_row w9 w.heap.size 2 _ 25 (0, 0) hSw2; have a3 : w9.cell? ⟨w.heap.size, 3, none⟩ = some (.int .i64 t) := cell_of_row w9 w.heap.size 3 _ 25 (0, 0) hSw2; clear hSw hSw2
    go_simp
    all_goals with_reducible rfl
  simp only [Act.put, List.setIfInBounds_toArray, List.set_cons_zero, List.set_cons_succ]
  refine wpAnyH_at (i := 11) (some 59) (v := ?v11z11) rfl rfl (by kernel_rfl) (by kernel_rfl) (by kernel_rfl) (fun _ _ _ h => h) (Or.inl ⟨by rfl, ?y11z11⟩) (by assumption) ?r11z11
  case y11z11 =>
    intro w9 hSw
    have hSw2 : w9.heap[w.heap.size]? = some (.cells #[.int .i64 1, .int .i64 bu, .int .i64 o, .int .i64 t, .slice A n c] 25 (0, 0)) := hSw; have a1 : w9.cell? ⟨w.heap.size, 1, none⟩ = some (.int .i64 bu) := cell_of_row w9 w.heap.size 1 _ 25 (0, 0) hSw2; have a2 : w9.cell? ⟨w.heap.size, 2, none⟩ = some (.int .i64 o) := cell_of_row w9 w.heap.size 2 _ 25 (0, 0) hSw2; have a3 : w9.cell? ⟨w.heap.size, 3, none⟩ = some (.int .i64 t) := cell_of_row w9 w.heap.size 3 _ 25 (0, 0) hSw2; clear hSw hSw2
    go_simp
    all_goals with_reducible rfl
  simp only [Act.put, List.setIfInBounds_toArray, List.set_cons_zero, List.set_cons_succ]
  refine wpAnyH_at (i := 12) (some 60) (v := ?v12z12) rfl rfl (by kernel_rfl) (by kernel_rfl) (by kernel_rfl) (fun _ _ _ h => h) (Or.inl ⟨by rfl, ?y12z12⟩) (by assumption) ?r12z12
  case y12z12 =>
    intro w9 hSw
    have hSw2 : w9.heap[w.heap.size]? = some (.cells #[.int .i64 1, .int .i64 bu, .int .i64 o, .int .i64 t, .slice A n c] 25 (0, 0)) := hSw; have a1 : w9.cell? ⟨w.heap.size, 1, none⟩ = some (.int .i64 bu) := cell_of_row w9 w.heap.size 1 _ 25 (0, 0) hSw2; have a2 : w9.cell? ⟨w.heap.size, 2, none⟩ = some (.int .i64 o) := cell_of_row w9 w.heap.size 2 _ 25 (0, 0) hSw2; have a3 : w9.cell? ⟨w.heap.size, 3, none⟩ = some (.int .i64 t) := cell_of_row w9 w.heap.size 3 _ 25 (0, 0) hSw2; clear hSw hSw2
    go_simp
    all_goals with_reducible rfl
  simp only [Act.put, List.setIfInBounds_toArray, List.set_cons_zero, List.set_cons_succ]
  refine wpAnyH_at (i := 13) (some 61) (v := ?v13z13) rfl rfl (by kernel_rfl) (by kernel_rfl) (by kernel_rfl) (fun _ _ _ h => h) (Or.inl ⟨by rfl, ?y13z13⟩) (by assumption) ?r13z13
  case y13z13 =>
    intro w9 hSw
    have hSw2 : w9.heap[w.heap.size]? = some (.cells #[.int .i64 1, .int .i64 bu, .int .i64 o, .int .i64 t, .slice A n c] 25 (0, 0)) := hSw; have a1 : w9.cell? ⟨w.heap.size, 1, none⟩ = some (.int .i64 bu) := cell_of_row w9 w.heap.size 1 _ 25 (0, 0) hSw2; have a2 : w9.cell? ⟨w.heap.size, 2, none⟩ = some (.int .i64 o) := cell_of_row w9 w.heap.size 2 _ 25 (0, 0) hSw2; have a3 : w9.cell? ⟨w.heap.size, 3, none⟩ = some (.int .i64 t) := cell_of_row w9 w.heap.size 3 _ 25 (0, 0) hSw2; clear hSw hSw2
    go_simp
    all_goals with_reducible rfl
  simp only [Act.put, List.setIfInBounds_toArray, List.set_cons_zero, List.set_cons_succ]
  refine wpAnyH_at (i := 14) (some 62) (v := ?v14z14) rfl rfl (by kernel_rfl) (by kernel_rfl) (by kernel_rfl) (fun _ _ _ h => h) (Or.inl ⟨by rfl, ?y14z14⟩) (by assumption) ?r14z14
  case y14z14 =>
    intro w9 hSw
    have hSw2 : w9.heap[w.heap.size]? = some (.cells #[.int .i64 1, .int .i64 bu, .int .i64 o, .int .i64 t, .slice A n c] 25 (0, 0)) := hSw; have a1 : w9.cell? ⟨w.heap.size, 1, none⟩ = some (.int .i64 bu) := cell_of_row w9 w.heap.size 1 _ 25 (0, 0) hSw2; have a2 : w9.cell? ⟨w.heap.size, 2, none⟩ = some (.int .i64 o) := cell_of_row w9 w.heap.size 2 _ 25 (0, 0) hSw2; have a3 : w9.cell? ⟨w.heap.size, 3, none⟩ = some (.int .i64 t) := cell_of_row w9 w.heap.size 3 _ 25 (0, 0) hSw2; clear hSw hSw2
    go_simp
    all_goals with_reducible rfl
  simp only [Act.put, List.setIfInBounds_toArray, List.set_cons_zero, List.set_cons_succ]
  refine wpAnyH_one (i := 7) (by kernel_rfl) rfl ?_
  go_wp2_with fail
  refine (c1.out _ _ q.pp).mono ?_
  rintro ev W4 ⟨rfl, hP, hk⟩
  go_wp2
  replace q := q.turnP hP hk l1.out
  replace K := K.trans (hk.mono (fun k _ e => .inl e))
  clear hP hk hHeld c1 l1
  have hHeld := q.bx
  refine ⟨hHeld, ?_⟩
  try simp only [Act.put, List.setIfInBounds_toArray, List.set_cons_zero, List.set_cons_succ]
  refine wpAnyH_one (i := 15) (by kernel_rfl) rfl ?_
  go_wp2_with fail
  refine (c2.out _ _ q.rp).mono ?_
  rintro ev W5 ⟨rfl, hP, hk⟩
  go_wp2
  replace q := q.turnR hP hk l2.out
  replace K := K.trans (hk.mono (fun k _ e => .inr e))
  clear hP hk hHeld c2 l2
  have hHeld := q.bx
  refine ⟨hHeld, ?_⟩
  try simp only [Act.put, List.setIfInBounds_toArray, List.set_cons_zero, List.set_cons_succ]
  refine wpAnyH_at (i := 16) (some 64) (v := ?v16z15) rfl rfl (by kernel_rfl) (by kernel_rfl) (by kernel_rfl) (fun _ _ _ h => h) (Or.inl ⟨by rfl, ?y16z15⟩) (by assumption) ?r16z15
  case y16z15 =>
    intro w9 hSw
    clear hSw
    go_simp
    all_goals with_reducible rfl
  simp only [Act.put, List.setIfInBounds_toArray, List.set_cons_zero, List.set_cons_succ]
  refine wpAnyH_at (i := 17) (some 8) (v := ?v17z16) rfl rfl (by kernel_rfl) (by kernel_rfl) (by kernel_rfl) (fun _ _ _ h => h) (Or.inl ⟨by rfl, ?y17z16⟩) (by assumption) ?r17z16
  case y17z16 =>
    intro w9 hSw
    clear hSw
    go_simp
    all_goals with_reducible rfl
  simp only [Act.put, List.setIfInBounds_toArray, List.set_cons_zero, List.set_cons_succ]
  refine wpAnyH_done (by kernel_rfl) ?_ _
  try rw [hx]
  clear hHeld hx
  go_wp2
  go_loopw [13] (fun i wr => ∃ (k : Nat) (ys : List Int), k ≤ n ∧ i = .int .i64 k ∧ Out .u8 5 wr (w.heap.size + 1) A1 n c1 ys ∧ Kept (fun k => ∃ ad, A1 = some ad ∧ ad.block = k) W5 wr) (fun i _ => n - (intOf i).toNat)
  case atStart => exact ⟨0, xs, Nat.zero_le _, rfl, q.ow, Kept.refl _ _⟩
  case round =>
    obtain ⟨k, ys, hk, rfl, ho, hT⟩ := hrel
    by_cases hkn : k < n
    · obtain ⟨x, rfl, hc, hf⟩ := ho.at_ hkn
      have hw := u8_bd (ho.rd.wf hkn)
      have o2 := ho.set k ((ys.getD k 0 + 1) % 256) (u8_mk (by omega))
      have hT2 : Kept (fun k => ∃ ad, some (⟨x, 0, none⟩ : Addr) = some ad ∧ ad.block = k) W5 (wr.setCell ⟨x, k, none⟩ (.int .u8 ((ys.getD k 0 + 1) % 256))) := hT.trans (Kept.setCell wr _ _ ⟨_, rfl, rfl⟩)
      generalize (ys.set k ((ys.getD k 0 + 1) % 256)) = zs at *
      generalize ys.getD k 0 = y at *
      have O2 := Lib.hid o2
      have HT2 := Lib.hid hT2
      clear ho hT o2 hT2
      go_wp2
      go_roundw
      case rel => exact ⟨k + 1, zs, by omega, by go_num, O2.out, HT2.out⟩
      case measure => simp [intOf]; omega
    · have R := Lib.hid (GivesDo.of (w := w) (base := w.heap.size + 1) (hd.out) (e1.out) (e2.out) q K (by omega) hT)
      clear ho hT q K
      go_wp2
      go_ret
      exact R.out

set_option maxRecDepth 100000 in
set_option maxHeartbeats 4000000 in
theorem do_free (p g cp r gr cr : Nat) (L M : Slots) (bu o t : Int) (A : Option Addr) (n c B : Nat) (xs : List Int) (w : World) (hp : Pp w p g cp L (fun _ => True)) (hr : Rp w r gr cr M (fun _ => True)) (hL : 0 < L.length) (hM : gr = r ∨ 0 < M.length) (rd : Rd .u8 w B A n c xs) (hB : B ≤ g ∧ B ≤ gr) (hn : n ≤ 1600) (x : Bool) (hx : (chE L bu o == chE M bu o) = x) : Calls Try.prog 11 #[ptr p, ptr r, .agg #[.int .i64 2, .int .i64 bu, .int .i64 o, .int .i64 t, .slice A n c]] w (GivesDo w p g cp r gr cr L M 2 bu o t n xs) := by
  have e1 : Hid (stepL L 2 bu o t xs = frL L bu o) := Lib.hid (by unfold stepL; simp)
  have e2 : Hid (stepL M 2 bu o t xs = frL M bu o) := Lib.hid (by unfold stepL; simp)
  have hd := Lib.hid (doB_2 (n := n) (bu := bu) (o := o) (t := t) hx)
  have hBl : B ≤ w.heap.size := by have := hp.lt.2; omega
  have hmx := rd.max
  have hcx := rd.cap
  have ba := alloc_below w (.cells #[.int .i64 2, .int .i64 bu, .int .i64 o, .int .i64 t, .slice A n c] 25)
  have bx : (w.alloc (.cells #[.int .i64 2, .int .i64 bu, .int .i64 o, .int .i64 t, .slice A n c] 25)).heap[w.heap.size]? = some (.cells #[.int .i64 2, .int .i64 bu, .int .i64 o, .int .i64 t, .slice A n c] 25 (0, 0)) := heap_alloc_new w _
  have ap := apart_of hp hr hL hM
  have rd1 := rd.below ba hBl
  have own := own_any A n c B xs (w.alloc (.cells #[.int .i64 2, .int .i64 bu, .int .i64 o, .int .i64 t, .slice A n c] 25)) rd1 (by simp; omega) (by omega)
  have Own := Lib.hid own
  clear own
  go_enter Try.func11, Try.ntmps11
  go_wp2_with fail
  refine Own.out.mono ?_
  rintro ev w2 ⟨A1, n1, c1, rfl, o1, hb⟩
  obtain rfl : n = n1 := by rw [← o1.len, ← rd.len]
  rw [World.size_alloc] at o1 hb
  have b2 := ba.trans (hb.mono (by omega))
  have bs2 : w.heap.size + 1 ≤ w2.heap.size := by have := hb.size; simpa using this
  have q : KD w.heap.size g p gr r cp cr L M 2 bu o t A n c B xs A1 c1 (w.heap.size + 1) w2 := by
    refine ⟨(hp.old.below b2).widen (fun b _ h1 ad e h2 => ?_), (hr.old.below b2).widen (fun b _ h1 ad e h2 => ?_), o1, rd.below b2 hBl, (hb.block _ (by omega)).trans bx, ap, hL, hM, hB, ?_⟩
    · have := (o1.block ad e).1; omega
    · have := (o1.block ad e).1; omega
    · have := hp.lt; have := hr.lt; omega
  have K : Kept (fun k => k = g ∨ k = gr) w w2 := Kept.of_below b2
  clear hp hr rd hL hM hB ba bx ap rd1 Own o1 hb b2
  obtain ⟨a0, a1, a2, a3, a4⟩ := q.cells
  have c1 := Lib.hid (fun F W q => free_any p g cp L F bu o W q)
  have c2 := Lib.hid (fun F W q => refFree_any r gr cr M F bu o W q)
  have l1 : Hid ((frL L bu o).length = L.length) := Lib.hid (frL_len ..)
  have l2 : Hid ((frL M bu o).length = M.length) := Lib.hid (frL_len ..)
  generalize frL L bu o = L2 at *
  generalize frL M bu o = M2 at *
  generalize chE L bu o = E1 at *
  generalize chE M bu o = E2 at *
  go_wp2
  clear a0 a1 a2 a3 a4
  refine wp_region_held_drew (S := fun w' => w'.heap[w.heap.size]? = some (.cells #[.int .i64 2, .int .i64 bu, .int .i64 o, .int .i64 t, .slice A n c] 25 (0, 0))) (by kernel_rfl) (q.step (below_drew _)).bx (fun hHeld => ?_)
  replace q := q.step (below_drew _)
  replace K := K.then (below_drew _)
  change wpAnyH _ _ _ _ _ _ _ _ (World.drew _)
  generalize World.drew w2 = W3 at *
  refine wpAnyH_at (i := 0) (some 67) (v := ?v0z17) rfl rfl (by kernel_rfl) (by kernel_rfl) (by kernel_rfl) (fun _ _ _ h => h) (Or.inl ⟨by rfl, ?y0z17⟩) (by assumption) ?r0z17
  case y0z17 =>
    intro w9 hSw
    have hSw2 : w9.heap[w.heap.size]? = some (.cells #[.int .i64 2, .int .i64 bu, .int .i64 o, .int .i64 t, .slice A n c] 25 (0, 0)) := hSw; have a1 : w9.cell? ⟨w.heap.size, 1, none⟩ = some (.int .i64 bu) := cell_of_row w9 w.heap.size 1 _ 25 (0, 0) hSw2; have a2 : w9.cell? ⟨w.heap.size, 2, none⟩ = some (.int .i64 o) := cell_of_row w9 w.heap.size 2 _ 25 (0, 0) hSw2; have a3 : w9.cell? ⟨w.heap.size, 3, none⟩ = some (.int .i64 t) := cell_of_row w9 w.heap.size 3 _ 25 (0, 0) hSw2; clear hSw hSw2
    go_simp
    all_goals with_reducible rfl
  simp only [Act.put, List.setIfInBounds_toArray, List.set_cons_zero, List.set_cons_succ]
  refine wpAnyH_at (i := 1) (some 68) (v := ?v1z18) rfl rfl (by kernel_rfl) (by kernel_rfl) (by kernel_rfl) (fun _ _ _ h => h) (Or.inl ⟨by rfl, ?y1z18⟩) (by assumption) ?r1z18
  case y1z18 =>
    intro w9 hSw
    have hSw2 : w9.heap[w.heap.size]? = some (.cells #[.int .i64 2, .int .i64 bu, .int .i64 o, .int .i64 t, .slice A n c] 25 (0, 0)) := hSw; have a1 : w9.cell? ⟨w.heap.size, 1, none⟩ = some (.int .i64 bu) := cell_of_row w9 w.heap.size 1 _ 25 (0, 0) hSw2; have a2 : w9.cell? ⟨w.heap.size, 2, none⟩ = some (.int .i64 o) := cell_of_row w9 w.heap.size 2 _ 25 (0, 0) hSw2; have a3 : w9.cell? ⟨w.heap.size, 3, none⟩ = some (.int .i64 t) := cell_of_row w9 w.heap.size 3 _ 25 (0, 0) hSw2; clear hSw hSw2
    go_simp
    all_goals with_reducible rfl
  simp only [Act.put, List.setIfInBounds_toArray, List.set_cons_zero, List.set_cons_succ]
  refine wpAnyH_at (i := 2) (some 69) (v := ?v2z19) rfl rfl (by kernel_rfl) (by kernel_rfl) (by kernel_rfl) (fun _ _ _ h => h) (Or.inl ⟨by rfl, ?y2z19⟩) (by assumption) ?r2z19
  case y2z19 =>
    intro w9 hSw
    have hSw2 : w9.heap[w.heap.size]? = some (.cells #[.int .i64 2, .int .i64 bu, .int .i64 o, .int .i64 t, .slice A n c] 25 (0, 0)) := hSw; have a1 : w9.cell? ⟨w.heap.size, 1, none⟩ = some (.int .i64 bu) := cell_of_row w9 w.heap.size 1 _ 25 (0, 0) hSw2; have a2 : w9.cell? ⟨w.heap.size, 2, none⟩ = some (.int .i64 o) := cell_of_row w9 w.heap.size 2 _ 25 (0, 0) hSw2; have a3 : w9.cell? ⟨w.heap.size, 3, none⟩ = some (.int .i64 t) := cell_of_row w9 w.heap.size 3 _ 25 (0, 0) hSw2; clear hSw hSw2
    go_simp
    all_goals with_reducible rfl
  simp only [Act.put, List.setIfInBounds_toArray, List.set_cons_zero, List.set_cons_succ]
  refine wpAnyH_at (i := 3) (some 70) (v := ?v3z20) rfl rfl (by kernel_rfl) (by kernel_rfl) (by kernel_rfl) (fun _ _ _ h => h) (Or.inl ⟨by rfl, ?y3z20⟩) (by assumption) ?r3z20
  case y3z20 =>
    intro w9 hSw
    have hSw2 : w9.heap[w.heap.size]? = some (.cells #[.int .i64 2, .int .i64 bu, .int .i64 o, .int .i64 t, .slice A n c] 25 (0, 0)) := hSw; have a1 : w9.cell? ⟨w.heap.size, 1, none⟩ = some (.int .i64 bu) := cell_of_row w9 w.heap.size 1 _ 25 (0, 0) hSw2; have a2 : w9.cell? ⟨w.heap.size, 2, none⟩ = some (.int .i64 o) := cell_of_row w9 w.heap.size 2 _ 25 (0, 0) hSw2; have a3 : w9.cell? ⟨w.heap.size, 3, none⟩ = some (.int .i64 t) := cell_of_row w9 w.heap.size 3 _ 25 (0, 0) hSw2; clear hSw hSw2
    go_simp
    all_goals with_reducible rfl
  simp only [Act.put, List.setIfInBounds_toArray, List.set_cons_zero, List.set_cons_succ]
  refine wpAnyH_at (i := 4) (some 71) (v := ?v4z21) rfl rfl (by kernel_rfl) (by kernel_rfl) (by kernel_rfl) (fun _ _ _ h => h) (Or.inl ⟨by rfl, ?y4z21⟩) (by assumption) ?r4z21
  case y4z21 =>
    intro w9 hSw
    have hSw2 : w9.heap[w.heap.size]? = some (.cells #[.int .i64 2, .int .i64 bu, .int .i64 o, .int .i64 t, .slice A n c] 25 (0, 0)) := hSw; have a1 : w9.cell? ⟨w.heap.size, 1, none⟩ = some (.int .i64 bu) := cell_of_row w9 w.heap.size 1 _ 25 (0, 0) hSw2; have a2 : w9.cell? ⟨w.heap.size, 2, none⟩ = some (.int .i64 o) := cell_of_row w9 w.heap.size 2 _ 25 (0, 0) hSw2; have a3 : w9.cell? ⟨w.heap.size, 3, none⟩ = some (.int .i64 t) := cell_of_row w9 w.heap.size 3 _ 25 (0, 0) hSw2; clear hSw hSw2
    go_simp
    all_goals with_reducible rfl
  simp only [Act.put, List.setIfInBounds_toArray, List.set_cons_zero, List.set_cons_succ]
  refine wpAnyH_at (i := 6) (some 73) (v := ?v6z22) rfl rfl (by kernel_rfl) (by kernel_rfl) (by kernel_rfl) (fun _ _ _ h => h) (Or.inl ⟨by rfl, ?y6z22⟩) (by assumption) ?r6z22
  case y6z22 =>
    intro w9 hSw
    have hSw2 : w9.heap[w.heap.size]? = some (.cells #[.int .i64 2, .int .i64 bu, .int .i64 o, .int .i64 t, .slice A n c] 25 (0, 0)) := hSw; have a1 : w9.cell? ⟨w.heap.size, 1, none⟩ = some (.int .i64 bu) := cell_of_row w9 w.heap.size 1 _ 25 (0, 0) hSw2; have a2 : w9.cell? ⟨w.heap.size, 2, none⟩ = some (.int .i64 o) := cell_of_row w9 w.heap.size 2 _ 25 (0, 0) hSw2; have a3 : w9.cell? ⟨w.heap.size, 3, none⟩ = some (.int .i64 t) := cell_of_row w9 w.heap.size 3 _ 25 (0, 0) hSw2; clear hSw hSw2
    go_simp
    all_goals with_reducible rfl
  simp only [Act.put, List.setIfInBounds_toArray, List.set_cons_zero, List.set_cons_succ]
  refine wpAnyH_at (i := 7) (some 74) (v := ?v7z23) rfl rfl (by kernel_rfl) (by kernel_rfl) (by kernel_rfl) (fun _ _ _ h => h) (Or.inl ⟨by rfl, ?y7z23⟩) (by assumption) ?r7z23
  case y7z23 =>
    intro w9 hSw
    have hSw2 : w9.heap[w.heap.size]? = some (.cells #[.int .i64 2, .int .i64 bu, .int .i64 o, .int .i64 t, .slice A n c] 25 (0, 0)) := hSw; have a1 : w9.cell? ⟨w.heap.size, 1, none⟩ = some (.int .i64 bu) := cell_of_row w9 w.heap.size 1 _ 25 (0, 0) hSw2; have a2 : w9.cell? ⟨w.heap.size, 2, none⟩ = some (.int .i64 o) := cell_of_row w9 w.heap.size 2 _ 25 (0, 0) hSw2; have a3 : w9.cell? ⟨w.heap.size, 3, none⟩ = some (.int .i64 t) := cell_of_row w9 w.heap.size 3 _ 25 (0, 0) hSw2; clear hSw hSw2
    go_simp
    all_goals with_reducible rfl
  simp only [Act.put, List.setIfInBounds_toArray, List.set_cons_zero, List.set_cons_succ]
  refine wpAnyH_at (i := 8) (some 75) (v := ?v8z24) rfl rfl (by kernel_rfl) (by kernel_rfl) (by kernel_rfl) (fun _ _ _ h => h) (Or.inl ⟨by rfl, ?y8z24⟩) (by assumption) ?r8z24
  case y8z24 =>
    intro w9 hSw
    have hSw2 : w9.heap[w.heap.size]? = some (.cells #[.int .i64 2, .int .i64 bu, .int .i64 o, .int .i64 t, .slice A n c] 25 (0, 0)) := hSw; have a1 : w9.cell? ⟨w.heap.size, 1, none⟩ = some (.int .i64 bu) := cell_of_row w9 w.heap.size 1 _ 25 (0, 0) hSw2; have a2 : w9.cell? ⟨w.heap.size, 2, none⟩ = some (.int .i64 o) := cell_of_row w9 w.heap.size 2 _ 25 (0, 0) hSw2; have a3 : w9.cell? ⟨w.heap.size, 3, none⟩ = some (.int .i64 t) := cell_of_row w9 w.heap.size 3 _ 25 (0, 0) hSw2; clear hSw hSw2
    go_simp
    all_goals with_reducible rfl
  simp only [Act.put, List.setIfInBounds_toArray, List.set_cons_zero, List.set_cons_succ]
  refine wpAnyH_at (i := 9) (some 76) (v := ?v9z25) rfl rfl (by kernel_rfl) (by kernel_rfl) (by kernel_rfl) (fun _ _ _ h => h) (Or.inl ⟨by rfl, ?y9z25⟩) (by assumption) ?r9z25
  case y9z25 =>
    intro w9 hSw
    have hSw2 : w9.heap[w.heap.size]? = some (.cells #[.int .i64 2, .int .i64 bu, .int .i64 o, .int .i64 t, .slice A n c] 25 (0, 0)) := hSw; have a1 : w9.cell? ⟨w.heap.size, 1, none⟩ = some (.int .i64 bu) := cell_of_row w9 w.heap.size 1 _ 25 (0, 0) hSw2; have a2 : w9.cell? ⟨w.heap.size, 2, none⟩ = some (.int .i64 o) := cell_of_row w9 w.heap.size 2 _ 25 (0, 0) hSw2; have a3 : w9.cell? ⟨w.heap.size, 3, none⟩ = some (.int .i64 t) := cell_of_row w9 w.heap.size 3 _ 25 (0, 0) hSw2; clear hSw hSw2
    go_simp
    all_goals with_reducible rfl
  simp only [Act.put, List.setIfInBounds_toArray, List.set_cons_zero, List.set_cons_succ]
  refine wpAnyH_at (i := 10) (some 77) (v := ?v10z26) rfl rfl (by kernel_rfl) (by kernel_rfl) (by kernel_rfl) (fun _ _ _ h => h) (Or.inl ⟨by rfl, ?y10z26⟩) (by assumption) ?r10z26
  case y10z26 =>
    intro w9 hSw
    have hSw2 : w9.heap[w.heap.size]? = some (.cells #[.int .i64 2, .int .i64 bu, .int .i64 o, .int .i64 t, .slice A n c] 25 (0, 0)) := hSw; have a1 : w9.cell? ⟨w.heap.size, 1, none⟩ = some (.int .i64 bu) := cell_of_row w9 w.heap.size 1 _ 25 (0, 0) hSw2; have a2 : w9.cell? ⟨w.heap.size, 2, none⟩ = some (.int .i64 o) := cell_of_row w9 w.heap.size 2 _ 25 (0, 0) hSw2; have a3 : w9.cell? ⟨w.heap.size, 3, none⟩ = some (.int .i64 t) := cell_of_row w9 w.heap.size 3 _ 25 (0, 0) hSw2; clear hSw hSw2
    go_simp
    all_goals with_reducible rfl
  simp only [Act.put, List.setIfInBounds_toArray, List.set_cons_zero, List.set_cons_succ]
  refine wpAnyH_one (i := 5) (by kernel_rfl) rfl ?_
  go_wp2_with fail
  refine (c1.out _ _ q.pp).mono ?_
  rintro ev W4 ⟨rfl, hP, hk⟩
  go_wp2
  replace q := q.turnP hP hk l1.out
  replace K := K.trans (hk.mono (fun k _ e => .inl e))
  clear hP hk hHeld c1 l1
  have hHeld := q.bx
  refine ⟨hHeld, ?_⟩
  try simp only [Act.put, List.setIfInBounds_toArray, List.set_cons_zero, List.set_cons_succ]
  refine wpAnyH_one (i := 11) (by kernel_rfl) rfl ?_
  go_wp2_with fail
  refine (c2.out _ _ q.rp).mono ?_
  rintro ev W5 ⟨rfl, hP, hk⟩
  go_wp2
  replace q := q.turnR hP hk l2.out
  replace K := K.trans (hk.mono (fun k _ e => .inr e))
  clear hP hk hHeld c2 l2
  have hHeld := q.bx
  refine ⟨hHeld, ?_⟩
  try simp only [Act.put, List.setIfInBounds_toArray, List.set_cons_zero, List.set_cons_succ]
  refine wpAnyH_at (i := 12) (some 79) (v := ?v12z27) rfl rfl (by kernel_rfl) (by kernel_rfl) (by kernel_rfl) (fun _ _ _ h => h) (Or.inl ⟨by rfl, ?y12z27⟩) (by assumption) ?r12z27
  case y12z27 =>
    intro w9 hSw
    clear hSw
    go_simp
    all_goals with_reducible rfl
  simp only [Act.put, List.setIfInBounds_toArray, List.set_cons_zero, List.set_cons_succ]
  refine wpAnyH_at (i := 13) (some 8) (v := ?v13z28) rfl rfl (by kernel_rfl) (by kernel_rfl) (by kernel_rfl) (fun _ _ _ h => h) (Or.inl ⟨by rfl, ?y13z28⟩) (by assumption) ?r13z28
  case y13z28 =>
    intro w9 hSw
    clear hSw
    go_simp
    all_goals with_reducible rfl
  simp only [Act.put, List.setIfInBounds_toArray, List.set_cons_zero, List.set_cons_succ]
  refine wpAnyH_done (by kernel_rfl) ?_ _
  try rw [hx]
  clear hHeld hx
  go_wp2
  go_loopw [13] (fun i wr => ∃ (k : Nat) (ys : List Int), k ≤ n ∧ i = .int .i64 k ∧ Out .u8 5 wr (w.heap.size + 1) A1 n c1 ys ∧ Kept (fun k => ∃ ad, A1 = some ad ∧ ad.block = k) W5 wr) (fun i _ => n - (intOf i).toNat)
  case atStart => exact ⟨0, xs, Nat.zero_le _, rfl, q.ow, Kept.refl _ _⟩
  case round =>
    obtain ⟨k, ys, hk, rfl, ho, hT⟩ := hrel
    by_cases hkn : k < n
    · obtain ⟨x, rfl, hc, hf⟩ := ho.at_ hkn
      have hw := u8_bd (ho.rd.wf hkn)
      have o2 := ho.set k ((ys.getD k 0 + 1) % 256) (u8_mk (by omega))
      have hT2 : Kept (fun k => ∃ ad, some (⟨x, 0, none⟩ : Addr) = some ad ∧ ad.block = k) W5 (wr.setCell ⟨x, k, none⟩ (.int .u8 ((ys.getD k 0 + 1) % 256))) := hT.trans (Kept.setCell wr _ _ ⟨_, rfl, rfl⟩)
      generalize (ys.set k ((ys.getD k 0 + 1) % 256)) = zs at *
      generalize ys.getD k 0 = y at *
      have O2 := Lib.hid o2
      have HT2 := Lib.hid hT2
      clear ho hT o2 hT2
      go_wp2
      go_roundw
      case rel => exact ⟨k + 1, zs, by omega, by go_num, O2.out, HT2.out⟩
      case measure => simp [intOf]; omega
    · have R := Lib.hid (GivesDo.of (w := w) (base := w.heap.size + 1) (hd.out) (e1.out) (e2.out) q K (by omega) hT)
      clear ho hT q K
      go_wp2
      go_ret
      exact R.out

set_option maxRecDepth 100000 in
set_option maxHeartbeats 4000000 in
theorem do_take_false (p g cp r gr cr : Nat) (L M : Slots) (bu o t : Int) (A : Option Addr) (n c B : Nat) (xs : List Int) (w : World) (hp : Pp w p g cp L (fun _ => True)) (hr : Rp w r gr cr M (fun _ => True)) (hL : 0 < L.length) (hM : gr = r ∨ 0 < M.length) (rd : Rd .u8 w B A n c xs) (hB : B ≤ g ∧ B ≤ gr) (hn : n ≤ 1600) (y : Bool) (hx : (tkN L o n == tkN M o n) = false) (hy : (tkE L o n == tkE M o n) = y) : Calls Try.prog 11 #[ptr p, ptr r, .agg #[.int .i64 0, .int .i64 bu, .int .i64 o, .int .i64 t, .slice A n c]] w (GivesDo w p g cp r gr cr L M 0 bu o t n xs) := by
  have e1 : Hid (stepL L 0 bu o t xs = tkL L o xs) := Lib.hid (by unfold stepL; simp)
  have e2 : Hid (stepL M 0 bu o t xs = tkL M o xs) := Lib.hid (by unfold stepL; simp)
  have hd := Lib.hid ((doB_0 (n := n) (bu := bu) (o := o) (t := t) hx hy).trans (Bool.false_and _))
  have hBl : B ≤ w.heap.size := by have := hp.lt.2; omega
  have hmx := rd.max
  have hcx := rd.cap
  have ba := alloc_below w (.cells #[.int .i64 0, .int .i64 bu, .int .i64 o, .int .i64 t, .slice A n c] 25)
  have bx : (w.alloc (.cells #[.int .i64 0, .int .i64 bu, .int .i64 o, .int .i64 t, .slice A n c] 25)).heap[w.heap.size]? = some (.cells #[.int .i64 0, .int .i64 bu, .int .i64 o, .int .i64 t, .slice A n c] 25 (0, 0)) := heap_alloc_new w _
  have ap := apart_of hp hr hL hM
  have rd1 := rd.below ba hBl
  have own := own_any A n c B xs (w.alloc (.cells #[.int .i64 0, .int .i64 bu, .int .i64 o, .int .i64 t, .slice A n c] 25)) rd1 (by simp; omega) (by omega)
  have Own := Lib.hid own
  clear own
  go_enter Try.func11, Try.ntmps11
  go_wp2_with fail
  refine Own.out.mono ?_
  rintro ev w2 ⟨A1, n1, c1, rfl, o1, hb⟩
  obtain rfl : n = n1 := by rw [← o1.len, ← rd.len]
  rw [World.size_alloc] at o1 hb
  have b2 := ba.trans (hb.mono (by omega))
  have bs2 : w.heap.size + 1 ≤ w2.heap.size := by have := hb.size; simpa using this
  have q : KD w.heap.size g p gr r cp cr L M 0 bu o t A n c B xs A1 c1 (w.heap.size + 1) w2 := by
    refine ⟨(hp.old.below b2).widen (fun b _ h1 ad e h2 => ?_), (hr.old.below b2).widen (fun b _ h1 ad e h2 => ?_), o1, rd.below b2 hBl, (hb.block _ (by omega)).trans bx, ap, hL, hM, hB, ?_⟩
    · have := (o1.block ad e).1; omega
    · have := (o1.block ad e).1; omega
    · have := hp.lt; have := hr.lt; omega
  have K : Kept (fun k => k = g ∨ k = gr) w w2 := Kept.of_below b2
  clear hp hr rd hL hM hB ba bx ap rd1 Own o1 hb b2
  obtain ⟨a0, a1, a2, a3, a4⟩ := q.cells
  have hFF : ∀ W : World, KD w.heap.size g p gr r cp cr L M 0 bu o t A n c B xs A1 c1 (w.heap.size + 1) W → ∀ b, W.heap.size ≤ b → ∀ ad, A1 = some ad → ad.block ≠ b := fun W q b hb ad e h => by
    obtain ⟨_, cur, hc⟩ := q.ow.block ad e
    have := (Array.getElem?_eq_some_iff.1 hc).1
    omega
  have c1 := Lib.hid (fun (W : World) (q : KD w.heap.size g p gr r cp cr L M 0 bu o t A n c B xs A1 c1 (w.heap.size + 1) W) => take_any p g cp L _ o A1 n c1 W.heap.size xs W q.pp q.ow.rd q.hL (Nat.le_refl _) (hFF W q))
  have l1 : Hid ((tkL L o xs).length = L.length) := Lib.hid (tkL_len ..)
  have l2 : Hid ((tkL M o xs).length = M.length) := Lib.hid (tkL_len ..)
  have hFR : Hid (∀ W : World, A1.isSome = true → (w.heap.size + 1 ≤ W.heap.size) → True) := Lib.hid (fun _ _ _ => trivial)
  go_wp2_with fail
  refine (c1.out _ q).mono ?_
  rintro ev W4 ⟨rfl, hP, hk⟩
  replace q := q.turnP hP hk l1.out
  replace K := K.trans (hk.mono (fun k _ e => .inl e))
  clear hP hk c1 l1 a0 a1 a2 a3 a4 hFR
  have hFF2 : ∀ b, W4.heap.size ≤ b → ∀ ad, A1 = some ad → ad.block ≠ b := fun b hb ad e h => by
    obtain ⟨_, cur, hc⟩ := q.ow.block ad e
    have := (Array.getElem?_eq_some_iff.1 hc).1
    omega
  have c2 := Lib.hid (refTake_any r gr cr M _ o A n c B xs W4 q.rp q.rd (by have := q.hB; have := q.lt; omega) hFF2)
  clear hFF hFF2
  obtain ⟨a0, a1, a2, a3, a4⟩ := q.cells
  go_wp2_with fail
  refine c2.out.mono ?_
  rintro ev W5 ⟨rfl, hP, hk⟩
  replace q := q.turnR hP hk l2.out
  replace K := K.trans (hk.mono (fun k _ e => .inr e))
  clear hP hk c2 l2 a0 a1 a2 a3 a4
  generalize tkL L o xs = L2 at *
  generalize tkL M o xs = M2 at *
  generalize tkN L o n = N1 at *
  generalize tkN M o n = N2 at *
  generalize tkE L o n = E1 at *
  generalize tkE M o n = E2 at *
  go_wp2
  go_loopw [13] (fun i wr => ∃ (k : Nat) (ys : List Int), k ≤ n ∧ i = .int .i64 k ∧ Out .u8 5 wr (w.heap.size + 1) A1 n c1 ys ∧ Kept (fun k => ∃ ad, A1 = some ad ∧ ad.block = k) W5 wr) (fun i _ => n - (intOf i).toNat)
  case atStart => exact ⟨0, xs, Nat.zero_le _, rfl, q.ow, Kept.refl _ _⟩
  case round =>
    obtain ⟨k, ys, hk, rfl, ho, hT⟩ := hrel
    by_cases hkn : k < n
    · obtain ⟨x, rfl, hc, hf⟩ := ho.at_ hkn
      have hw := u8_bd (ho.rd.wf hkn)
      have o2 := ho.set k ((ys.getD k 0 + 1) % 256) (u8_mk (by omega))
      have hT2 : Kept (fun k => ∃ ad, some (⟨x, 0, none⟩ : Addr) = some ad ∧ ad.block = k) W5 (wr.setCell ⟨x, k, none⟩ (.int .u8 ((ys.getD k 0 + 1) % 256))) := hT.trans (Kept.setCell wr _ _ ⟨_, rfl, rfl⟩)
      generalize (ys.set k ((ys.getD k 0 + 1) % 256)) = zs at *
      generalize ys.getD k 0 = y at *
      have O2 := Lib.hid o2
      have HT2 := Lib.hid hT2
      clear ho hT o2 hT2
      go_wp2
      go_roundw
      case rel => exact ⟨k + 1, zs, by omega, by go_num, O2.out, HT2.out⟩
      case measure => simp [intOf]; omega
    · have R := Lib.hid (GivesDo.of (w := w) (base := w.heap.size + 1) (hd.out) (e1.out) (e2.out) q K (by omega) hT)
      clear ho hT q K
      go_wp2
      go_ret
      exact R.out

set_option maxRecDepth 100000 in
set_option maxHeartbeats 4000000 in
theorem do_take_true (p g cp r gr cr : Nat) (L M : Slots) (bu o t : Int) (A : Option Addr) (n c B : Nat) (xs : List Int) (w : World) (hp : Pp w p g cp L (fun _ => True)) (hr : Rp w r gr cr M (fun _ => True)) (hL : 0 < L.length) (hM : gr = r ∨ 0 < M.length) (rd : Rd .u8 w B A n c xs) (hB : B ≤ g ∧ B ≤ gr) (hn : n ≤ 1600) (y : Bool) (hx : (tkN L o n == tkN M o n) = true) (hy : (tkE L o n == tkE M o n) = y) : Calls Try.prog 11 #[ptr p, ptr r, .agg #[.int .i64 0, .int .i64 bu, .int .i64 o, .int .i64 t, .slice A n c]] w (GivesDo w p g cp r gr cr L M 0 bu o t n xs) := by
  have e1 : Hid (stepL L 0 bu o t xs = tkL L o xs) := Lib.hid (by unfold stepL; simp)
  have e2 : Hid (stepL M 0 bu o t xs = tkL M o xs) := Lib.hid (by unfold stepL; simp)
  have hd := Lib.hid ((doB_0 (n := n) (bu := bu) (o := o) (t := t) hx hy).trans (Bool.true_and _))
  have hBl : B ≤ w.heap.size := by have := hp.lt.2; omega
  have hmx := rd.max
  have hcx := rd.cap
  have ba := alloc_below w (.cells #[.int .i64 0, .int .i64 bu, .int .i64 o, .int .i64 t, .slice A n c] 25)
  have bx : (w.alloc (.cells #[.int .i64 0, .int .i64 bu, .int .i64 o, .int .i64 t, .slice A n c] 25)).heap[w.heap.size]? = some (.cells #[.int .i64 0, .int .i64 bu, .int .i64 o, .int .i64 t, .slice A n c] 25 (0, 0)) := heap_alloc_new w _
  have ap := apart_of hp hr hL hM
  have rd1 := rd.below ba hBl
  have own := own_any A n c B xs (w.alloc (.cells #[.int .i64 0, .int .i64 bu, .int .i64 o, .int .i64 t, .slice A n c] 25)) rd1 (by simp; omega) (by omega)
  have Own := Lib.hid own
  clear own
  go_enter Try.func11, Try.ntmps11
  go_wp2_with fail
  refine Own.out.mono ?_
  rintro ev w2 ⟨A1, n1, c1, rfl, o1, hb⟩
  obtain rfl : n = n1 := by rw [← o1.len, ← rd.len]
  rw [World.size_alloc] at o1 hb
  have b2 := ba.trans (hb.mono (by omega))
  have bs2 : w.heap.size + 1 ≤ w2.heap.size := by have := hb.size; simpa using this
  have q : KD w.heap.size g p gr r cp cr L M 0 bu o t A n c B xs A1 c1 (w.heap.size + 1) w2 := by
    refine ⟨(hp.old.below b2).widen (fun b _ h1 ad e h2 => ?_), (hr.old.below b2).widen (fun b _ h1 ad e h2 => ?_), o1, rd.below b2 hBl, (hb.block _ (by omega)).trans bx, ap, hL, hM, hB, ?_⟩
    · have := (o1.block ad e).1; omega
    · have := (o1.block ad e).1; omega
    · have := hp.lt; have := hr.lt; omega
  have K : Kept (fun k => k = g ∨ k = gr) w w2 := Kept.of_below b2
  clear hp hr rd hL hM hB ba bx ap rd1 Own o1 hb b2
  obtain ⟨a0, a1, a2, a3, a4⟩ := q.cells
  have hFF : ∀ W : World, KD w.heap.size g p gr r cp cr L M 0 bu o t A n c B xs A1 c1 (w.heap.size + 1) W → ∀ b, W.heap.size ≤ b → ∀ ad, A1 = some ad → ad.block ≠ b := fun W q b hb ad e h => by
    obtain ⟨_, cur, hc⟩ := q.ow.block ad e
    have := (Array.getElem?_eq_some_iff.1 hc).1
    omega
  have c1 := Lib.hid (fun (W : World) (q : KD w.heap.size g p gr r cp cr L M 0 bu o t A n c B xs A1 c1 (w.heap.size + 1) W) => take_any p g cp L _ o A1 n c1 W.heap.size xs W q.pp q.ow.rd q.hL (Nat.le_refl _) (hFF W q))
  have l1 : Hid ((tkL L o xs).length = L.length) := Lib.hid (tkL_len ..)
  have l2 : Hid ((tkL M o xs).length = M.length) := Lib.hid (tkL_len ..)
  have hFR : Hid (∀ W : World, A1.isSome = true → (w.heap.size + 1 ≤ W.heap.size) → True) := Lib.hid (fun _ _ _ => trivial)
  go_wp2_with fail
  refine (c1.out _ q).mono ?_
  rintro ev W4 ⟨rfl, hP, hk⟩
  replace q := q.turnP hP hk l1.out
  replace K := K.trans (hk.mono (fun k _ e => .inl e))
  clear hP hk c1 l1 a0 a1 a2 a3 a4 hFR
  have hFF2 : ∀ b, W4.heap.size ≤ b → ∀ ad, A1 = some ad → ad.block ≠ b := fun b hb ad e h => by
    obtain ⟨_, cur, hc⟩ := q.ow.block ad e
    have := (Array.getElem?_eq_some_iff.1 hc).1
    omega
  have c2 := Lib.hid (refTake_any r gr cr M _ o A n c B xs W4 q.rp q.rd (by have := q.hB; have := q.lt; omega) hFF2)
  clear hFF hFF2
  obtain ⟨a0, a1, a2, a3, a4⟩ := q.cells
  go_wp2_with fail
  refine c2.out.mono ?_
  rintro ev W5 ⟨rfl, hP, hk⟩
  replace q := q.turnR hP hk l2.out
  replace K := K.trans (hk.mono (fun k _ e => .inr e))
  clear hP hk c2 l2 a0 a1 a2 a3 a4
  generalize tkL L o xs = L2 at *
  generalize tkL M o xs = M2 at *
  generalize tkN L o n = N1 at *
  generalize tkN M o n = N2 at *
  generalize tkE L o n = E1 at *
  generalize tkE M o n = E2 at *
  go_wp2
  go_loopw [13] (fun i wr => ∃ (k : Nat) (ys : List Int), k ≤ n ∧ i = .int .i64 k ∧ Out .u8 5 wr (w.heap.size + 1) A1 n c1 ys ∧ Kept (fun k => ∃ ad, A1 = some ad ∧ ad.block = k) W5 wr) (fun i _ => n - (intOf i).toNat)
  case atStart => exact ⟨0, xs, Nat.zero_le _, rfl, q.ow, Kept.refl _ _⟩
  case round =>
    obtain ⟨k, ys, hk, rfl, ho, hT⟩ := hrel
    by_cases hkn : k < n
    · obtain ⟨x, rfl, hc, hf⟩ := ho.at_ hkn
      have hw := u8_bd (ho.rd.wf hkn)
      have o2 := ho.set k ((ys.getD k 0 + 1) % 256) (u8_mk (by omega))
      have hT2 : Kept (fun k => ∃ ad, some (⟨x, 0, none⟩ : Addr) = some ad ∧ ad.block = k) W5 (wr.setCell ⟨x, k, none⟩ (.int .u8 ((ys.getD k 0 + 1) % 256))) := hT.trans (Kept.setCell wr _ _ ⟨_, rfl, rfl⟩)
      generalize (ys.set k ((ys.getD k 0 + 1) % 256)) = zs at *
      generalize ys.getD k 0 = y at *
      have O2 := Lib.hid o2
      have HT2 := Lib.hid hT2
      clear ho hT o2 hT2
      go_wp2
      go_roundw
      case rel => exact ⟨k + 1, zs, by omega, by go_num, O2.out, HT2.out⟩
      case measure => simp [intOf]; omega
    · have R := Lib.hid (GivesDo.of (w := w) (base := w.heap.size + 1) (hd.out) (e1.out) (e2.out) q K (by omega) hT)
      clear ho hT q K
      go_wp2
      go_ret
      exact R.out

theorem do_any (p g cp r gr cr : Nat) (L M : Slots) (bu o t : Int) (A : Option Addr) (n c B : Nat) (xs : List Int) (w : World) (hp : Pp w p g cp L (fun _ => True)) (hr : Rp w r gr cr M (fun _ => True)) (hL : 0 < L.length) (hM : gr = r ∨ 0 < M.length) (rd : Rd .u8 w B A n c xs) (hB : B ≤ g ∧ B ≤ gr) (hn : n ≤ 1600) (wh : Int) : Calls Try.prog 11 #[ptr p, ptr r, .agg #[.int .i64 wh, .int .i64 bu, .int .i64 o, .int .i64 t, .slice A n c]] w (GivesDo w p g cp r gr cr L M wh bu o t n xs) := by
  by_cases h0 : wh = 0
  · subst h0
    cases hx : (tkN L o n == tkN M o n)
    · exact do_take_false p g cp r gr cr L M bu o t A n c B xs w hp hr hL hM rd hB hn _ hx rfl
    · exact do_take_true p g cp r gr cr L M bu o t A n c B xs w hp hr hL hM rd hB hn _ hx rfl
  by_cases h1 : wh = 1
  · subst h1
    exact do_hand p g cp r gr cr L M bu o t A n c B xs w hp hr hL hM rd hB hn _ rfl
  by_cases h2 : wh = 2
  · subst h2
    exact do_free p g cp r gr cr L M bu o t A n c B xs w hp hr hL hM rd hB hn _ rfl
  exact do_other p g cp r gr cr L M bu o t A n c B xs w hp hr hL hM rd hB hn wh h0 h1 h2
end Go.Proofs.Ytddhdfbhjgaffaa
