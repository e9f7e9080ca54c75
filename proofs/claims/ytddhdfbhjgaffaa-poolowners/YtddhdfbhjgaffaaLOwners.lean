/-
  The law PoolOwners: each buffer is free, or held by just one owner.
-/
import Derived.Test.YtddhdfbhjgaffaaAlive
import Derived.Test.YtddhdfbhjgaffaaLLeast
namespace Go.Proofs.Ytddhdfbhjgaffaa
open Go.RowKit
set_option linter.unusedVariables false

theorem wpList_off {P : Program} {w : World} {ops : Array Oper} {rest : List Oper} {o : Oper} {a : Act} {Q : Exit → Act → World → Prop} (dd : Option Tmp) (hd : o.dst = dd) (h : Region.wanted o (yielded ops a.tmps) = false) (hr : wpList P ops Q rest (a.put dd undef) w) : wpList P ops Q (o :: rest) a w := by
  subst hd
  rw [wpList]
  rw [if_neg (by rw [h]; decide)]
  exact hr
/-- How many buffers are owned by owners below x. -/
def cntTo (L : Slots) (x : Nat) : Nat := (List.range L.length).countP (fun i => decide (1 ≤ ow L i ∧ ow L i < (x : Int)))
theorem cntTo_le (L : Slots) (x : Nat) : cntTo L x ≤ L.length := by
  have := List.countP_le_length (p := fun i => decide (1 ≤ ow L i ∧ ow L i < (x : Int))) (l := List.range L.length)
  simpa [cntTo] using this
theorem cntTo_one (L : Slots) : cntTo L 1 = 0 := by
  unfold cntTo
  rw [List.countP_eq_zero]
  intro i _
  simp
theorem count_add (l : List Nat) (P Q R : Nat → Bool) (h : ∀ i, R i = (P i || Q i)) (hd : ∀ i, ¬ (P i = true ∧ Q i = true)) : l.countP R = l.countP P + l.countP Q := by
  induction l with
  | nil => rfl
  | cons i l ih =>
    rw [List.countP_cons, List.countP_cons, List.countP_cons, ih, h i]
    have := hd i
    cases hp : P i <;> cases hq : Q i <;> simp_all <;> omega
theorem held_count (L : Slots) (o : Int) : (held L o).length = (List.range L.length).countP (fun i => decide (ow L i = o)) := by
  simp [held, heldAt, List.countP_eq_length_filter]
theorem cntTo_succ (L : Slots) (x : Nat) (hx : 1 ≤ x) : cntTo L (x + 1) = cntTo L x + (held L (x : Int)).length := by
  rw [held_count]
  refine count_add _ _ _ _ (fun i => ?_) (fun i => ?_)
  · rw [Bool.eq_iff_iff]
    simp only [decide_eq_true_eq, Bool.or_eq_true]
    omega
  · simp only [decide_eq_true_eq]
    omega
theorem count_one (k : Nat) : ∀ n, k < n → (List.range n).countP (fun i => decide (i = k)) = 1
  | 0, h => by omega
  | n + 1, h => by
    rw [List.range_succ, List.countP_append]
    by_cases e : k = n
    · subst e
      have : (List.range k).countP (fun i => decide (i = k)) = 0 := by
        rw [List.countP_eq_zero]
        intro i hi
        have := List.mem_range.1 hi
        simp
        omega
      rw [this]
      simp
    · rw [count_one k n (by omega)]
      simp
      omega
theorem left_taken {L : Slots} {k : Nat} {o : Int} {b : List Int} (hk : k < L.length) (h0 : ow L k = 0) (ho : ¬ o = 0) : ((left (L.set k (o, b)) : Nat) : Int) = (left L : Int) - 1 := by
  have h : left L = left (L.set k (o, b)) + 1 := by
    unfold left
    rw [held_count, held_count, List.length_set]
    have h1 := count_add (List.range L.length) (fun i => decide (ow (L.set k (o, b)) i = 0)) (fun i => decide (i = k)) (fun i => decide (ow L i = 0)) (fun i => by
      rw [ow_set hk, Bool.eq_iff_iff]
      simp only [decide_eq_true_eq, Bool.or_eq_true]
      by_cases e : i = k
      · subst e; simp [h0]
      · simp [e]) (fun i => by
      rw [ow_set hk]
      simp only [decide_eq_true_eq]
      rintro ⟨h2, e⟩
      rw [if_pos e] at h2
      exact ho h2)
    rw [h1]
    congr 1
    exact count_one k _ hk
  omega
/-- What the walk knows of its pool, of its clone, of the call. -/
structure KO (w : World) (p g m : Nat) (L : Slots) (p2 g2 : Nat) (M : Slots) (gb : Nat) (wh bu o t : Int) (A1 : Option Addr) (n1 c1 : Nat) (W : World) : Prop where
  q : KM w p g m L p2 g2 M W
  bx : W.heap[gb]? = some (.cells #[.int .i64 wh, .int .i64 bu, .int .i64 o, .int .i64 t, .slice A1 n1 c1] 25 (0, 0))
  lt : g < gb
theorem KO.step {w W V : World} {p g m p2 g2 gb : Nat} {L M : Slots} {wh bu o t : Int} {A1 : Option Addr} {n1 c1 : Nat} (q : KO w p g m L p2 g2 M gb wh bu o t A1 n1 c1 W) (hb : Below W.heap.size W V) : KO w p g m L p2 g2 M gb wh bu o t A1 n1 c1 V :=
  ⟨q.q.step hb, (hb.block gb (Array.getElem?_eq_some_iff.1 q.bx).1).trans q.bx, q.lt⟩
theorem KO.turn {w W V : World} {p g m p2 g2 gb : Nat} {L L' M : Slots} {wh bu o t : Int} {A1 : Option Addr} {n1 c1 : Nat} (q : KO w p g m L p2 g2 M gb wh bu o t A1 n1 c1 W) (hL : 0 < L.length) (hp : Pp V p g m L' (fun _ => True)) (hk : Kept (· = g) W V) (hl : L'.length = L.length) : KO w p g m L' p2 g2 M gb wh bu o t A1 n1 c1 V :=
  ⟨q.q.turn hL hp hk hl, (hk.block gb (Array.getElem?_eq_some_iff.1 q.bx).1 (fun e => by have := q.lt; omega)).trans q.bx, q.lt⟩
theorem cntTo_all (L : Slots) (hG : Good L) : cntTo L 256 + left L = L.length := by
  unfold left
  rw [held_count]
  have h := count_add (List.range L.length) (fun i => decide (1 ≤ ow L i ∧ ow L i < ((256 : Nat) : Int))) (fun i => decide (ow L i = 0)) (fun _ => true) (fun i => by
    have := (hG.2 i).1
    rw [Bool.eq_iff_iff]
    simp only [decide_eq_true_eq, Bool.or_eq_true, true_iff]
    omega) (fun i => by
    simp only [decide_eq_true_eq]
    omega)
  rw [show List.countP (fun _ => true) (List.range L.length) = L.length by simp] at h
  exact h.symm

set_option maxRecDepth 100000 in
set_option maxHeartbeats 4000000 in
theorem own_big (m : Int) (A : Option Addr) (n c : Nat) (qs : Nat → Cal)  (w : World) (H : CallsAt w w.heap.size A n c qs) (h : (100 < m ∧ m ≤ 1024) ∨ 100 < n) : Calls Try.prog 4 #[.int .i64 m, .slice A n c] w fun e w' => e = .returned (.bool true) ∧ Below w.heap.size w w' := by
  have hc := Lib.hid (fun W => great_big m A n c W h H.1)
  clear H h
  go_enter Try.func4, Try.ntmps4
  go_wp2_with fail
  refine (alive_any _).mono ?_
  rintro ev w1 ⟨rfl, hb⟩
  go_wp2_with fail
  refine (hc.out _).mono ?_
  rintro ev w2 ⟨rfl, rfl⟩
  go_wp2
  go_ret
  exact ⟨rfl, hb⟩
set_option maxRecDepth 100000 in
set_option maxHeartbeats 4000000 in
theorem own_long (m : Int) (A : Option Addr) (n c : Nat) (qs : Nat → Cal)  (w : World) (H : CallsAt w w.heap.size A n c qs) (h1 : ¬ (100 < m ∧ m ≤ 1024)) (h2 : n ≤ 100) (h3 : longB n qs = true) : Calls Try.prog 4 #[.int .i64 m, .slice A n c] w fun e w' => e = .returned (.bool true) ∧ Below w.heap.size w w' := by
  have hc := Lib.hid (fun W q => great_in true m A n c w.heap.size qs W h3 h1 h2 q)
  have HH := Lib.hid H
  clear H h1 h2 h3
  go_enter Try.func4, Try.ntmps4
  go_wp2_with fail
  refine (alive_any _).mono ?_
  rintro ev w1 ⟨rfl, hb⟩
  go_wp2_with fail
  refine (hc.out _ (HH.out.below hb)).mono ?_
  rintro ev w2 ⟨rfl, rfl⟩
  go_wp2
  go_ret
  exact ⟨rfl, hb⟩
set_option maxRecDepth 100000 in
set_option maxHeartbeats 4000000 in
theorem own_bad (m : Int) (A : Option Addr) (n c : Nat) (qs : Nat → Cal)  (w : World) (H : CallsAt w w.heap.size A n c qs) (h2 : n ≤ 100) (h3 : longB n qs = false) (h7 : m < 1 ∨ 1024 < m) : Calls Try.prog 4 #[.int .i64 m, .slice A n c] w fun e w' => e = .returned (.bool true) ∧ Below w.heap.size w w' := by
  have hc := Lib.hid (fun W q => great_in false m A n c w.heap.size qs W h3 (by omega) h2 q)
  have HN := Lib.hid (fun W => new_no m W h7)
  have HH := Lib.hid H
  clear H h2 h3 h7
  go_enter Try.func4, Try.ntmps4
  go_wp2_with fail
  refine (alive_any _).mono ?_
  rintro ev w1 ⟨rfl, hb⟩
  go_wp2_with fail
  refine (hc.out _ (HH.out.below hb)).mono ?_
  rintro ev w2 ⟨rfl, rfl⟩
  go_wp2_with fail
  refine (HN.out _).mono ?_
  rintro ev w3 ⟨rfl, rfl⟩
  go_wp2
  go_ret
  exact ⟨rfl, hb⟩
set_option maxRecDepth 100000 in
set_option maxHeartbeats 4000000 in
theorem own_in (m : Nat) (A : Option Addr) (n c : Nat) (qs : Nat → Cal)  (w : World) (H : CallsAt w w.heap.size A n c qs) (h1 : 1 ≤ m) (h8 : m ≤ 100) (h2 : n ≤ 100) (h3 : longB n qs = false) : Calls Try.prog 4 #[.int .i64 (m : Int), .slice A n c] w fun e w' => e = .returned (.bool true) ∧ Below w.heap.size w w' := by
  have hc := Lib.hid (fun W q => great_in false (m : Int) A n c w.heap.size qs W h3 (by omega) h2 q)
  have HN := Lib.hid (fun W => new_yes m W h1 (by omega))
  have HH := Lib.hid H
  have HX : Hid (∀ j, j < n → (qs j).n ≤ 1600) := Lib.hid (fun j hj => longB_of h3 hj)
  have hcc := H.1.2
  clear H h3
  go_enter Try.func4, Try.ntmps4
  go_wp2_with fail
  refine (alive_any _).mono ?_
  rintro ev w1 ⟨rfl, hb⟩
  go_wp2_with fail
  refine (hc.out _ (HH.out.below hb)).mono ?_
  rintro ev w2 ⟨rfl, rfl⟩
  go_wp2_with fail
  refine (HN.out _).mono ?_
  rintro ev w3 ⟨p, g, rfl, hp, hlo, hb3⟩
  have q0 : KL w p g m (List.replicate m (0, [])) w3 := ⟨hp, hb.trans (hb3.mono hb.size), by have := hb.size; omega, by simp, by omega⟩
  clear hp hlo hb3 hb hc HN
  go_wp2
  go_loopw [7] (fun i wr => ∃ (k : Nat) (L : Slots), k ≤ n ∧ i = .int .i64 k ∧ KL w p g m L wr) (fun i _ => n - (intOf i).toNat)
  case atStart => exact ⟨0, _, Nat.zero_le _, rfl, q0⟩
  case round =>
    clear q0
    obtain ⟨k, L, hk, rfl, q⟩ := hrel
    by_cases hkn : k < n
    · obtain ⟨b0, o0, rfl, hbB, hcal, hrd⟩ := HH.out.2 k hkn
      have hn1 := HX.out k hkn
      generalize qs k = qk at *
      obtain ⟨wh, bu, o, t, A1, n1, c1, xs1⟩ := qk
      obtain ⟨c0, c1', c2, c3, c4⟩ := hcal
      dsimp only at c0 c1' c2 c3 c4 hrd hn1
      replace c0 := (q.b.cell hbB).trans c0
      replace c1' := (q.b.cell hbB).trans c1'
      replace c2 := (q.b.cell hbB).trans c2
      replace c3 := (q.b.cell hbB).trans c3
      replace c4 := (q.b.cell hbB).trans c4
      replace hrd := Lib.hid hrd
      have bx : (wr.alloc (.cells #[.int .i64 wh, .int .i64 bu, .int .i64 o, .int .i64 t, .slice A1 n1 c1] 25)).heap[wr.heap.size]? = some (.cells #[.int .i64 wh, .int .i64 bu, .int .i64 o, .int .i64 t, .slice A1 n1 c1] 25 (0, 0)) := heap_alloc_new wr _
      have ba := alloc_below wr (.cells #[.int .i64 wh, .int .i64 bu, .int .i64 o, .int .i64 t, .slice A1 n1 c1] 25)
      have hlg := q.pp.lt.2
      have q1 := q.step ba
      by_cases hwh : wh = 0
      · subst hwh
        obtain ⟨lf, hlf⟩ : ∃ lf, left L = lf := ⟨_, rfl⟩
        have HF := Lib.hid hlf
        have hlb : lf ≤ 1024 := by have := left_le L; have := q.pp.len; omega
        have cL := Lib.hid (left_any p g m L _ _ q1.pp)
        rw [hlf] at cL
        have hL : 0 < L.length := by rw [q.len]; exact q.pos
        have hG := q.pp.good
        clear q
        go_wp2_with fail
        refine cL.out.mono ?_
        rintro ev w5 ⟨rfl, b5⟩
        have q5 := q1.step b5
        have gl := (Array.getElem?_eq_some_iff.1 bx).1
        have bx5 := (b5.block _ gl).trans bx
        clear q1 cL b5 bx ba c0 c1' c2 c3 c4 gl
        have cC := Lib.hid (clonePool_any p g m L _ w5 q5.pp hL)
        go_wp2_with fail
        refine cC.out.mono ?_
        rintro ev w7 ⟨p2, g2, rfl, hC, hlo2, b6⟩
        have gl := (Array.getElem?_eq_some_iff.1 bx5).1
        have Q : KO w p g m L p2 g2 L wr.heap.size 0 bu o t A1 n1 c1 w7 := ⟨⟨q5.step b6, by have := hC.any; rwa [q5.len] at this, by have := q5.pp.lt; omega⟩, (b6.block _ gl).trans bx5, hlg⟩
        clear q5 cC hC hlo2 b6 bx5 gl
        go_wp2
        refine wp_region_held_drew (S := fun w' => w'.heap[wr.heap.size]? = some (.cells #[.int .i64 0, .int .i64 bu, .int .i64 o, .int .i64 t, .slice A1 n1 c1] 25 (0, 0))) (by kernel_rfl) Q.bx (fun hHeld => ?_)
        replace Q := Q.step (below_drew _)
        change wpAnyH _ _ _ _ _ _ _ _ (World.drew _)
        generalize World.drew w7 = W8 at *
        refine wpAnyH_at (i := 0) (some 53) (v := ?v0z57) rfl rfl (by kernel_rfl) (by kernel_rfl) (by kernel_rfl) (fun _ _ _ h => h) (Or.inl ⟨by rfl, ?y0z57⟩) (by assumption) ?r0z57
        case y0z57 =>
          intro w9 hSw
          have hSw2 : w9.heap[wr.heap.size]? = some (.cells #[.int .i64 0, .int .i64 bu, .int .i64 o, .int .i64 t, .slice A1 n1 c1] 25 (0, 0)) := hSw; have a2 : w9.cell? ⟨wr.heap.size, 2, none⟩ = some (.int .i64 o) := cell_of_row w9 wr.heap.size 2 _ 25 (0, 0) hSw2; have a4 : w9.cell? ⟨wr.heap.size, 4, none⟩ = some (.slice A1 n1 c1) := cell_of_row w9 wr.heap.size 4 _ 25 (0, 0) hSw2; clear hSw hSw2
          go_simp
          all_goals with_reducible rfl
        simp only [Act.put, List.setIfInBounds_toArray, List.set_cons_zero, List.set_cons_succ]
        refine wpAnyH_at (i := 1) (some 54) (v := ?v1z58) rfl rfl (by kernel_rfl) (by kernel_rfl) (by kernel_rfl) (fun _ _ _ h => h) (Or.inl ⟨by rfl, ?y1z58⟩) (by assumption) ?r1z58
        case y1z58 =>
          intro w9 hSw
          have hSw2 : w9.heap[wr.heap.size]? = some (.cells #[.int .i64 0, .int .i64 bu, .int .i64 o, .int .i64 t, .slice A1 n1 c1] 25 (0, 0)) := hSw; have a2 : w9.cell? ⟨wr.heap.size, 2, none⟩ = some (.int .i64 o) := cell_of_row w9 wr.heap.size 2 _ 25 (0, 0) hSw2; have a4 : w9.cell? ⟨wr.heap.size, 4, none⟩ = some (.slice A1 n1 c1) := cell_of_row w9 wr.heap.size 4 _ 25 (0, 0) hSw2; clear hSw hSw2
          go_simp
          all_goals with_reducible rfl
        simp only [Act.put, List.setIfInBounds_toArray, List.set_cons_zero, List.set_cons_succ]
        refine wpAnyH_at (i := 2) (some 55) (v := ?v2z59) rfl rfl (by kernel_rfl) (by kernel_rfl) (by kernel_rfl) (fun _ _ _ h => h) (Or.inl ⟨by rfl, ?y2z59⟩) (by assumption) ?r2z59
        case y2z59 =>
          intro w9 hSw
          have hSw2 : w9.heap[wr.heap.size]? = some (.cells #[.int .i64 0, .int .i64 bu, .int .i64 o, .int .i64 t, .slice A1 n1 c1] 25 (0, 0)) := hSw; have a2 : w9.cell? ⟨wr.heap.size, 2, none⟩ = some (.int .i64 o) := cell_of_row w9 wr.heap.size 2 _ 25 (0, 0) hSw2; have a4 : w9.cell? ⟨wr.heap.size, 4, none⟩ = some (.slice A1 n1 c1) := cell_of_row w9 wr.heap.size 4 _ 25 (0, 0) hSw2; clear hSw hSw2
          go_simp
          all_goals with_reducible rfl
        simp only [Act.put, List.setIfInBounds_toArray, List.set_cons_zero, List.set_cons_succ]
        refine wpAnyH_at (i := 3) (some 56) (v := ?v3z60) rfl rfl (by kernel_rfl) (by kernel_rfl) (by kernel_rfl) (fun _ _ _ h => h) (Or.inl ⟨by rfl, ?y3z60⟩) (by assumption) ?r3z60
        case y3z60 =>
          intro w9 hSw
          have hSw2 : w9.heap[wr.heap.size]? = some (.cells #[.int .i64 0, .int .i64 bu, .int .i64 o, .int .i64 t, .slice A1 n1 c1] 25 (0, 0)) := hSw; have a2 : w9.cell? ⟨wr.heap.size, 2, none⟩ = some (.int .i64 o) := cell_of_row w9 wr.heap.size 2 _ 25 (0, 0) hSw2; have a4 : w9.cell? ⟨wr.heap.size, 4, none⟩ = some (.slice A1 n1 c1) := cell_of_row w9 wr.heap.size 4 _ 25 (0, 0) hSw2; clear hSw hSw2
          go_simp
          all_goals with_reducible rfl
        simp only [Act.put, List.setIfInBounds_toArray, List.set_cons_zero, List.set_cons_succ]
        refine wpAnyH_at (i := 4) (some 57) (v := ?v4z61) rfl rfl (by kernel_rfl) (by kernel_rfl) (by kernel_rfl) (fun _ _ _ h => h) (Or.inl ⟨by rfl, ?y4z61⟩) (by assumption) ?r4z61
        case y4z61 =>
          intro w9 hSw
          have hSw2 : w9.heap[wr.heap.size]? = some (.cells #[.int .i64 0, .int .i64 bu, .int .i64 o, .int .i64 t, .slice A1 n1 c1] 25 (0, 0)) := hSw; have a2 : w9.cell? ⟨wr.heap.size, 2, none⟩ = some (.int .i64 o) := cell_of_row w9 wr.heap.size 2 _ 25 (0, 0) hSw2; have a4 : w9.cell? ⟨wr.heap.size, 4, none⟩ = some (.slice A1 n1 c1) := cell_of_row w9 wr.heap.size 4 _ 25 (0, 0) hSw2; clear hSw hSw2
          go_simp
          all_goals with_reducible rfl
        simp only [Act.put, List.setIfInBounds_toArray, List.set_cons_zero, List.set_cons_succ]
        refine wpAnyH_one (i := 5) (by kernel_rfl) rfl ?_
        go_wp2_with fail
        refine (own_any A1 n1 c1 w.heap.size xs1 W8 (hrd.out.below Q.q.k.b (Nat.le_refl _)) Q.q.k.b.size (by omega)).mono ?_
        rintro ev w9 ⟨A3, n3, c3, rfl, o3, b9⟩
        obtain rfl : n1 = n3 := by rw [← o3.len, ← hrd.out.len]
        go_wp2
        replace Q := Q.step b9
        clear b9 hHeld
        have hHeld := Q.bx
        refine ⟨hHeld, ?_⟩
        try simp only [Act.put, List.setIfInBounds_toArray, List.set_cons_zero, List.set_cons_succ]
        refine wpAnyH_one (i := 6) (by kernel_rfl) rfl ?_
        have cT := Lib.hid (take_any p g m L _ o A3 n1 c3 _ xs1 w9 Q.q.k.pp o3.rd (by rw [Q.q.k.len]; exact Q.q.k.pos) (Nat.le_refl _) (fun _ _ => trivial))
        by_cases h0 : tkE L o n1 = 0
        · obtain ⟨hoa, hn15, hfk⟩ := tkE_of h0
          obtain ⟨k', hk'⟩ : ∃ k, free1 L = k := ⟨_, rfl⟩
          have hkL : k' < L.length := by omega
          have hk0 : ow L k' = 0 := by rw [← hk']; exact free1_ow L hfk
          have hlen := hrd.out.len
          have cN : Hid (Calls Try.prog 19 #[ptr p, .int .i64 o, .slice A3 n1 c3] w9 fun e w' => e = .returned (.tuple #[.int .i64 (k' : Int), .int .i64 0]) ∧ KO w p g m (L.set k' (o, xs1)) p2 g2 L wr.heap.size 0 bu o t A1 n1 c1 w') := Lib.hid (cT.out.mono (by
            rintro e w' ⟨rfl, z1, z2⟩
            rw [tkL_yes (by rw [hlen]; exact h0), hk'] at z1
            exact ⟨by rw [tkN_yes h0, h0, hk'], Q.turn hL z1 z2 (by simp)⟩))
          have cA : Hid (∀ W, KO w p g m (L.set k' (o, xs1)) p2 g2 L wr.heap.size 0 bu o t A1 n1 c1 W → Calls Try.prog 21 #[ptr p2, .int .i64 (k' : Int)] W fun e w' => e = .returned (.int .i64 0) ∧ W = w') := Lib.hid (fun W q => by
            have := least_owner hkL q.q
            rwa [hk0] at this)
          have cB : Hid (∀ W, KO w p g m (L.set k' (o, xs1)) p2 g2 L wr.heap.size 0 bu o t A1 n1 c1 W → Calls Try.prog 21 #[ptr p, .int .i64 (k' : Int)] W fun e w' => e = .returned (.int .i64 o) ∧ W = w') := Lib.hid (fun W q => by
            have := least_owner' (j := k') (by simpa using hkL) q.q
            rwa [ow_set hkL, if_pos rfl] at this)
          have cF : Hid (∀ W, KO w p g m (L.set k' (o, xs1)) p2 g2 L wr.heap.size 0 bu o t A1 n1 c1 W → Calls Try.prog 18 #[ptr p] W fun e w' => e = .returned (.int .i64 ((lf : Int) - 1)) ∧ Below W.heap.size W w') := Lib.hid (fun W q => by
            have := left_any p g m _ _ W q.q.k.pp
            rwa [left_taken hkL hk0 (by have := hoa.1; omega), HF.out] at this)
          have hwrap : IntKind.i64.wrap ((lf : Int) - 1) = (lf : Int) - 1 := by rw [IntKind.wrap_i64]; omega
          generalize L.set k' (o, xs1) = L2 at *
          clear cT Q o3 h0 hk' hkL hk0 hfk hoa hn15 hlen hL hG hHeld hlf
          go_wp2_with fail
          refine cN.out.mono ?_
          rintro ev w10 ⟨rfl, Q⟩
          go_wp2
          have hHeld := Q.bx
          refine ⟨hHeld, ?_⟩
          try simp only [Act.put, List.setIfInBounds_toArray, List.set_cons_zero, List.set_cons_succ]
          refine wpAnyH_at (i := 7) (some 52) (v := ?v7z52) rfl rfl (by kernel_rfl) (by kernel_rfl) (by kernel_rfl) (fun _ _ _ h => h) (Or.inl ⟨by rfl, ?y7z52⟩) (by assumption) ?r7z52
          case y7z52 =>
            intro w9 hSw
            clear hSw
            go_simp
            all_goals with_reducible rfl
          simp only [Act.put, List.setIfInBounds_toArray, List.set_cons_zero, List.set_cons_succ]
          refine wpAnyH_at (i := 8) (some 60) (v := ?v8z53) rfl rfl (by kernel_rfl) (by kernel_rfl) (by kernel_rfl) (fun _ _ _ h => h) (Or.inl ⟨by rfl, ?y8z53⟩) (by assumption) ?r8z53
          case y8z53 =>
            intro w9 hSw
            clear hSw
            go_simp
            all_goals with_reducible rfl
          simp only [Act.put, List.setIfInBounds_toArray, List.set_cons_zero, List.set_cons_succ]
          refine wpAnyH_at (i := 9) (some 61) (v := ?v9z54) rfl rfl (by kernel_rfl) (by kernel_rfl) (by kernel_rfl) (fun _ _ _ h => h) (Or.inl ⟨by rfl, ?y9z54⟩) (by assumption) ?r9z54
          case y9z54 =>
            intro w9 hSw
            clear hSw
            go_simp
            all_goals with_reducible rfl
          simp only [Act.put, List.setIfInBounds_toArray, List.set_cons_zero, List.set_cons_succ]
          refine wpAnyH_at (i := 10) (some 11) (v := ?v10z55) rfl rfl (by kernel_rfl) (by kernel_rfl) (by kernel_rfl) (fun _ _ _ h => h) (Or.inl ⟨by rfl, ?y10z55⟩) (by assumption) ?r10z55
          case y10z55 =>
            intro w9 hSw
            clear hSw
            go_simp
            all_goals with_reducible rfl
          simp only [Act.put, List.setIfInBounds_toArray, List.set_cons_zero, List.set_cons_succ]
          refine wpAnyH_at (i := 11) (some 12) (v := ?v11z56) rfl rfl (by kernel_rfl) (by kernel_rfl) (by kernel_rfl) (fun _ _ _ h => h) (Or.inl ⟨by rfl, ?y11z56⟩) (by assumption) ?r11z56
          case y11z56 =>
            intro w9 hSw
            clear hSw
            go_simp
            all_goals with_reducible rfl
          simp only [Act.put, List.setIfInBounds_toArray, List.set_cons_zero, List.set_cons_succ]
          refine wpAnyH_done (by kernel_rfl) ?_ _
          go_wp2
          refine wp_region_held_drew (S := fun w' => w'.heap[wr.heap.size]? = some (.cells #[.int .i64 0, .int .i64 bu, .int .i64 o, .int .i64 t, .slice A1 n1 c1] 25 (0, 0))) (by kernel_rfl) Q.bx (fun hHeld => ?_)
          replace Q := Q.step (below_drew _)
          change wpAnyH _ _ _ _ _ _ _ _ (World.drew _)
          generalize World.drew _ = W11 at *
          refine wpAnyH_at (i := 0) (some 62) (v := ?v0z1) rfl rfl (by kernel_rfl) (by kernel_rfl) (by kernel_rfl) (fun _ _ _ h => h) (Or.inl ⟨by rfl, ?y0z1⟩) (by assumption) ?r0z1
          case y0z1 =>
            intro w9 hSw
            clear hSw
            go_simp
            all_goals with_reducible rfl
          simp only [Act.put, List.setIfInBounds_toArray, List.set_cons_zero, List.set_cons_succ]
          refine wpAnyH_at (i := 1) (some 63) (v := ?v1z2) rfl rfl (by kernel_rfl) (by kernel_rfl) (by kernel_rfl) (fun _ _ _ h => h) (Or.inl ⟨by rfl, ?y1z2⟩) (by assumption) ?r1z2
          case y1z2 =>
            intro w9 hSw
            clear hSw
            go_simp
            all_goals with_reducible rfl
          simp only [Act.put, List.setIfInBounds_toArray, List.set_cons_zero, List.set_cons_succ]
          refine wpAnyH_at (i := 2) (some 64) (v := ?v2z3) rfl rfl (by kernel_rfl) (by kernel_rfl) (by kernel_rfl) (fun _ _ _ h => h) (Or.inl ⟨by rfl, ?y2z3⟩) (by assumption) ?r2z3
          case y2z3 =>
            intro w9 hSw
            clear hSw
            go_simp
            all_goals with_reducible rfl
          simp only [Act.put, List.setIfInBounds_toArray, List.set_cons_zero, List.set_cons_succ]
          refine wpAnyH_at (i := 3) (some 65) (v := ?v3z4) rfl rfl (by kernel_rfl) (by kernel_rfl) (by kernel_rfl) (fun _ _ _ h => h) (Or.inl ⟨by rfl, ?y3z4⟩) (by assumption) ?r3z4
          case y3z4 =>
            intro w9 hSw
            clear hSw
            go_simp
            all_goals with_reducible rfl
          simp only [Act.put, List.setIfInBounds_toArray, List.set_cons_zero, List.set_cons_succ]
          refine wpAnyH_at (i := 4) (some 66) (v := ?v4z5) rfl rfl (by kernel_rfl) (by kernel_rfl) (by kernel_rfl) (fun _ _ _ h => h) (Or.inl ⟨by rfl, ?y4z5⟩) (by assumption) ?r4z5
          case y4z5 =>
            intro w9 hSw
            clear hSw
            go_simp
            all_goals with_reducible rfl
          simp only [Act.put, List.setIfInBounds_toArray, List.set_cons_zero, List.set_cons_succ]
          refine wpAnyH_at (i := 5) (some 67) (v := ?v5z6) rfl rfl (by kernel_rfl) (by kernel_rfl) (by kernel_rfl) (fun _ _ _ h => h) (Or.inl ⟨by rfl, ?y5z6⟩) (by assumption) ?r5z6
          case y5z6 =>
            intro w9 hSw
            clear hSw
            go_simp
            all_goals with_reducible rfl
          simp only [Act.put, List.setIfInBounds_toArray, List.set_cons_zero, List.set_cons_succ]
          refine wpAnyH_at (i := 6) (some 68) (v := ?v6z7) rfl rfl (by kernel_rfl) (by kernel_rfl) (by kernel_rfl) (fun _ _ _ h => h) (Or.inl ⟨by rfl, ?y6z7⟩) (by assumption) ?r6z7
          case y6z7 =>
            intro w9 hSw
            clear hSw
            go_simp
            all_goals with_reducible rfl
          simp only [Act.put, List.setIfInBounds_toArray, List.set_cons_zero, List.set_cons_succ]
          refine wpAnyH_at (i := 7) (some 69) (v := ?v7z8) rfl rfl (by kernel_rfl) (by kernel_rfl) (by kernel_rfl) (fun _ _ _ h => h) (Or.inl ⟨by rfl, ?y7z8⟩) (by assumption) ?r7z8
          case y7z8 =>
            intro w9 hSw
            clear hSw
            go_simp
            all_goals with_reducible rfl
          simp only [Act.put, List.setIfInBounds_toArray, List.set_cons_zero, List.set_cons_succ]
          refine wpAnyH_one (i := 8) (by kernel_rfl) rfl ?_
          go_wp2_with fail
          refine (cA.out _ Q).mono ?_
          rintro ev W20 ⟨rfl, rfl⟩
          go_wp2
          refine ⟨hHeld, ?_⟩
          try simp only [Act.put, List.setIfInBounds_toArray, List.set_cons_zero, List.set_cons_succ]
          refine wpAnyH_at (i := 9) (some 71) (v := ?v9z9) rfl rfl (by kernel_rfl) (by kernel_rfl) (by kernel_rfl) (fun _ _ _ h => h) (Or.inl ⟨by rfl, ?y9z9⟩) (by assumption) ?r9z9
          case y9z9 =>
            intro w9 hSw
            clear hSw
            go_simp
            all_goals with_reducible rfl
          simp only [Act.put, List.setIfInBounds_toArray, List.set_cons_zero, List.set_cons_succ]
          refine wpAnyH_at (i := 10) (some 72) (v := ?v10z10) rfl rfl (by kernel_rfl) (by kernel_rfl) (by kernel_rfl) (fun _ _ _ h => h) (Or.inl ⟨by rfl, ?y10z10⟩) (by assumption) ?r10z10
          case y10z10 =>
            intro w9 hSw
            clear hSw
            go_simp
            all_goals with_reducible rfl
          simp only [Act.put, List.setIfInBounds_toArray, List.set_cons_zero, List.set_cons_succ]
          refine wpAnyH_at (i := 11) (some 73) (v := ?v11z11) rfl rfl (by kernel_rfl) (by kernel_rfl) (by kernel_rfl) (fun _ _ _ h => h) (Or.inl ⟨by rfl, ?y11z11⟩) (by assumption) ?r11z11
          case y11z11 =>
            intro w9 hSw
            clear hSw
            go_simp
            all_goals with_reducible rfl
          simp only [Act.put, List.setIfInBounds_toArray, List.set_cons_zero, List.set_cons_succ]
          refine wpAnyH_at (i := 12) (some 74) (v := ?v12z12) rfl rfl (by kernel_rfl) (by kernel_rfl) (by kernel_rfl) (fun _ _ _ h => h) (Or.inl ⟨by rfl, ?y12z12⟩) (by assumption) ?r12z12
          case y12z12 =>
            intro w9 hSw
            clear hSw
            go_simp
            all_goals with_reducible rfl
          simp only [Act.put, List.setIfInBounds_toArray, List.set_cons_zero, List.set_cons_succ]
          refine wpAnyH_at (i := 14) (some 76) (v := ?v14z13) rfl rfl (by kernel_rfl) (by kernel_rfl) (by kernel_rfl) (fun _ _ _ h => h) (Or.inl ⟨by rfl, ?y14z13⟩) (by assumption) ?r14z13
          case y14z13 =>
            intro w9 hSw
            clear hSw
            go_simp
            all_goals with_reducible rfl
          simp only [Act.put, List.setIfInBounds_toArray, List.set_cons_zero, List.set_cons_succ]
          refine wpAnyH_at (i := 15) (some 77) (v := ?v15z14) rfl rfl (by kernel_rfl) (by kernel_rfl) (by kernel_rfl) (fun _ _ _ h => h) (Or.inl ⟨by rfl, ?y15z14⟩) (by assumption) ?r15z14
          case y15z14 =>
            intro w9 hSw
            have hSw2 : w9.heap[wr.heap.size]? = some (.cells #[.int .i64 0, .int .i64 bu, .int .i64 o, .int .i64 t, .slice A1 n1 c1] 25 (0, 0)) := hSw; have a2 : w9.cell? ⟨wr.heap.size, 2, none⟩ = some (.int .i64 o) := cell_of_row w9 wr.heap.size 2 _ 25 (0, 0) hSw2; have a4 : w9.cell? ⟨wr.heap.size, 4, none⟩ = some (.slice A1 n1 c1) := cell_of_row w9 wr.heap.size 4 _ 25 (0, 0) hSw2; clear hSw hSw2
            go_simp
            all_goals with_reducible rfl
          simp only [Act.put, List.setIfInBounds_toArray, List.set_cons_zero, List.set_cons_succ]
          refine wpAnyH_one (i := 13) (by kernel_rfl) rfl ?_
          go_wp2_with fail
          refine (cB.out _ Q).mono ?_
          rintro ev W21 ⟨rfl, rfl⟩
          go_wp2
          refine ⟨hHeld, ?_⟩
          try simp only [Act.put, List.setIfInBounds_toArray, List.set_cons_zero, List.set_cons_succ]
          refine wpAnyH_at (i := 16) (some 78) (v := ?v16z15) rfl rfl (by kernel_rfl) (by kernel_rfl) (by kernel_rfl) (fun _ _ _ h => h) (Or.inl ⟨by rfl, ?y16z15⟩) (by assumption) ?r16z15
          case y16z15 =>
            intro w9 hSw
            clear hSw
            go_simp
            all_goals with_reducible rfl
          simp only [Act.put, List.setIfInBounds_toArray, List.set_cons_zero, List.set_cons_succ]
          refine wpAnyH_at (i := 17) (some 79) (v := ?v17z16) rfl rfl (by kernel_rfl) (by kernel_rfl) (by kernel_rfl) (fun _ _ _ h => h) (Or.inl ⟨by rfl, ?y17z16⟩) (by assumption) ?r17z16
          case y17z16 =>
            intro w9 hSw
            clear hSw
            go_simp
            all_goals with_reducible rfl
          simp only [Act.put, List.setIfInBounds_toArray, List.set_cons_zero, List.set_cons_succ]
          refine wpAnyH_at (i := 18) (some 80) (v := ?v18z17) rfl rfl (by kernel_rfl) (by kernel_rfl) (by kernel_rfl) (fun _ _ _ h => h) (Or.inl ⟨by rfl, ?y18z17⟩) (by assumption) ?r18z17
          case y18z17 =>
            intro w9 hSw
            clear hSw
            go_simp
            all_goals with_reducible rfl
          simp only [Act.put, List.setIfInBounds_toArray, List.set_cons_zero, List.set_cons_succ]
          refine wpAnyH_at (i := 19) (some 81) (v := ?v19z18) rfl rfl (by kernel_rfl) (by kernel_rfl) (by kernel_rfl) (fun _ _ _ h => h) (Or.inl ⟨by rfl, ?y19z18⟩) (by assumption) ?r19z18
          case y19z18 =>
            intro w9 hSw
            clear hSw
            go_simp
            all_goals with_reducible rfl
          simp only [Act.put, List.setIfInBounds_toArray, List.set_cons_zero, List.set_cons_succ]
          refine wpAnyH_at (i := 21) (some 83) (v := ?v21z19) rfl rfl (by kernel_rfl) (by kernel_rfl) (by kernel_rfl) (fun _ _ _ h => h) (Or.inl ⟨by rfl, ?y21z19⟩) (by assumption) ?r21z19
          case y21z19 =>
            intro w9 hSw
            clear hSw
            go_simp
            all_goals with_reducible rfl
          simp only [Act.put, List.setIfInBounds_toArray, List.set_cons_zero, List.set_cons_succ]
          refine wpAnyH_at (i := 22) (some 84) (v := ?v22z20) rfl rfl (by kernel_rfl) (by kernel_rfl) (by kernel_rfl) (fun _ _ _ h => h) (Or.inl ⟨by rfl, ?y22z20⟩) (by assumption) ?r22z20
          case y22z20 =>
            intro w9 hSw
            clear hSw
            go_simp
            all_goals with_reducible rfl
          simp only [Act.put, List.setIfInBounds_toArray, List.set_cons_zero, List.set_cons_succ]
          refine wpAnyH_one (i := 20) (by kernel_rfl) rfl ?_
          go_wp2_with fail
          refine (cF.out _ Q).mono ?_
          rintro ev W22 ⟨rfl, bx⟩
          go_wp2
          replace Q := Q.step bx
          clear bx hHeld
          have hHeld := Q.bx
          refine ⟨hHeld, ?_⟩
          try simp only [Act.put, List.setIfInBounds_toArray, List.set_cons_zero, List.set_cons_succ]
          refine wpAnyH_at (i := 23) (some 85) (v := ?v23z21) rfl rfl (by kernel_rfl) (by kernel_rfl) (by kernel_rfl) (fun _ _ _ h => h) (Or.inl ⟨by rfl, ?y23z21⟩) (by assumption) ?r23z21
          case y23z21 =>
            intro w9 hSw
            clear hSw
            go_simp
            all_goals with_reducible rfl
          simp only [Act.put, List.setIfInBounds_toArray, List.set_cons_zero, List.set_cons_succ]
          refine wpAnyH_at (i := 24) (some 86) (v := ?v24z22) rfl rfl (by kernel_rfl) (by kernel_rfl) (by kernel_rfl) (fun _ _ _ h => h) (Or.inl ⟨by rfl, ?y24z22⟩) (by assumption) ?r24z22
          case y24z22 =>
            intro w9 hSw
            clear hSw
            go_simp
            all_goals with_reducible rfl
          simp only [Act.put, List.setIfInBounds_toArray, List.set_cons_zero, List.set_cons_succ]
          refine wpAnyH_at (i := 25) (some 87) (v := ?v25z23) rfl rfl (by kernel_rfl) (by kernel_rfl) (by kernel_rfl) (fun _ _ _ h => h) (Or.inl ⟨by rfl, ?y25z23⟩) (by assumption) ?r25z23
          case y25z23 =>
            intro w9 hSw
            clear hSw
            go_simp
            all_goals with_reducible rfl
          simp only [Act.put, List.setIfInBounds_toArray, List.set_cons_zero, List.set_cons_succ]
          refine wpAnyH_at (i := 26) (some 88) (v := ?v26z24) rfl rfl (by kernel_rfl) (by kernel_rfl) (by kernel_rfl) (fun _ _ _ h => h) (Or.inl ⟨by rfl, ?y26z24⟩) (by assumption) ?r26z24
          case y26z24 =>
            intro w9 hSw
            clear hSw
            go_simp
            all_goals with_reducible rfl
          simp only [Act.put, List.setIfInBounds_toArray, List.set_cons_zero, List.set_cons_succ]
          refine wpAnyH_at (i := 27) (some 89) (v := ?v27z25) rfl rfl (by kernel_rfl) (by kernel_rfl) (by kernel_rfl) (fun _ _ _ h => h) (Or.inl ⟨by rfl, ?y27z25⟩) (by assumption) ?r27z25
          case y27z25 =>
            intro w9 hSw
            clear hSw
            go_simp
            all_goals with_reducible rfl
          simp only [Act.put, List.setIfInBounds_toArray, List.set_cons_zero, List.set_cons_succ]
          refine wpAnyH_at (i := 28) (some 90) (v := ?v28z26) rfl rfl (by kernel_rfl) (by kernel_rfl) (by kernel_rfl) (fun _ _ _ h => h) (Or.inl ⟨by rfl, ?y28z26⟩) (by assumption) ?r28z26
          case y28z26 =>
            intro w9 hSw
            clear hSw
            go_simp
            all_goals with_reducible rfl
          simp only [Act.put, List.setIfInBounds_toArray, List.set_cons_zero, List.set_cons_succ]
          refine wpAnyH_at (i := 29) (some 91) (v := ?v29z27) rfl rfl (by kernel_rfl) (by kernel_rfl) (by kernel_rfl) (fun _ _ _ h => h) (Or.inl ⟨by rfl, ?y29z27⟩) (by assumption) ?r29z27
          case y29z27 =>
            intro w9 hSw
            clear hSw
            go_simp
            all_goals with_reducible rfl
          simp only [Act.put, List.setIfInBounds_toArray, List.set_cons_zero, List.set_cons_succ]
          refine wpAnyH_at (i := 30) (some 92) (v := ?v30z28) rfl rfl (by kernel_rfl) (by kernel_rfl) (by kernel_rfl) (fun _ _ _ h => h) (Or.inl ⟨by rfl, ?y30z28⟩) (by assumption) ?r30z28
          case y30z28 =>
            intro w9 hSw
            clear hSw
            go_simp
            all_goals with_reducible rfl
          simp only [Act.put, List.setIfInBounds_toArray, List.set_cons_zero, List.set_cons_succ]
          refine wpAnyH_at (i := 31) (some 93) (v := undef) rfl rfl (by kernel_rfl) (by kernel_rfl) (by kernel_rfl) (fun _ _ _ h => h) (Or.inr ⟨by rfl, rfl⟩) (by assumption) ?_
          simp only [Act.put, List.setIfInBounds_toArray, List.set_cons_zero, List.set_cons_succ]
          refine wpAnyH_at (i := 32) (some 94) (v := undef) rfl rfl (by kernel_rfl) (by kernel_rfl) (by kernel_rfl) (fun _ _ _ h => h) (Or.inr ⟨by rfl, rfl⟩) (by assumption) ?_
          simp only [Act.put, List.setIfInBounds_toArray, List.set_cons_zero, List.set_cons_succ]
          refine wpAnyH_at (i := 33) (some 95) (v := undef) rfl rfl (by kernel_rfl) (by kernel_rfl) (by kernel_rfl) (fun _ _ _ h => h) (Or.inr ⟨by rfl, rfl⟩) (by assumption) ?_
          simp only [Act.put, List.setIfInBounds_toArray, List.set_cons_zero, List.set_cons_succ]
          refine wpAnyH_at (i := 34) (some 96) (v := undef) rfl rfl (by kernel_rfl) (by kernel_rfl) (by kernel_rfl) (fun _ _ _ h => h) (Or.inr ⟨by rfl, rfl⟩) (by assumption) ?_
          simp only [Act.put, List.setIfInBounds_toArray, List.set_cons_zero, List.set_cons_succ]
          refine wpAnyH_at (i := 36) (some 98) (v := undef) rfl rfl (by kernel_rfl) (by kernel_rfl) (by kernel_rfl) (fun _ _ _ h => h) (Or.inr ⟨by rfl, rfl⟩) (by assumption) ?_
          simp only [Act.put, List.setIfInBounds_toArray, List.set_cons_zero, List.set_cons_succ]
          refine wpAnyH_one (i := 35) (by kernel_rfl) rfl ?_
          refine wpList_off (some 97) rfl (by rfl) ?_
          go_wp2
          refine ⟨hHeld, ?_⟩
          try simp only [Act.put, List.setIfInBounds_toArray, List.set_cons_zero, List.set_cons_succ]
          refine wpAnyH_at (i := 37) (some 99) (v := undef) rfl rfl (by kernel_rfl) (by kernel_rfl) (by kernel_rfl) (fun _ _ _ h => h) (Or.inr ⟨by rfl, rfl⟩) (by assumption) ?_
          simp only [Act.put, List.setIfInBounds_toArray, List.set_cons_zero, List.set_cons_succ]
          refine wpAnyH_at (i := 38) (some 100) (v := undef) rfl rfl (by kernel_rfl) (by kernel_rfl) (by kernel_rfl) (fun _ _ _ h => h) (Or.inr ⟨by rfl, rfl⟩) (by assumption) ?_
          simp only [Act.put, List.setIfInBounds_toArray, List.set_cons_zero, List.set_cons_succ]
          refine wpAnyH_at (i := 39) (some 101) (v := ?v39z29) rfl rfl (by kernel_rfl) (by kernel_rfl) (by kernel_rfl) (fun _ _ _ h => h) (Or.inl ⟨by rfl, ?y39z29⟩) (by assumption) ?r39z29
          case y39z29 =>
            intro w9 hSw
            clear hSw
            go_simp
            all_goals with_reducible rfl
          simp only [Act.put, List.setIfInBounds_toArray, List.set_cons_zero, List.set_cons_succ]
          refine wpAnyH_at (i := 40) (some 102) (v := ?v40z30) rfl rfl (by kernel_rfl) (by kernel_rfl) (by kernel_rfl) (fun _ _ _ h => h) (Or.inl ⟨by rfl, ?y40z30⟩) (by assumption) ?r40z30
          case y40z30 =>
            intro w9 hSw
            clear hSw
            go_simp
            all_goals with_reducible rfl
          simp only [Act.put, List.setIfInBounds_toArray, List.set_cons_zero, List.set_cons_succ]
          refine wpAnyH_done (by kernel_rfl) ?_ _
          have q2 := Q.q.k
          clear Q hHeld cN cF cA cB hwrap
          go_wp2
          go_loopw [13, 14] (fun hv ov wr => ∃ oo : Nat, 1 ≤ oo ∧ oo ≤ 256 ∧ ov = .int .i64 oo ∧ hv = .int .i64 (cntTo L2 oo : Int) ∧ KL w p g m L2 wr) (fun _ ov _ => 256 - (intOf ov).toNat)
          case atStart => exact ⟨1, by omega, by omega, rfl, by rw [cntTo_one]; rfl, q2⟩
          case round =>
            clear q2
            obtain ⟨oo, ho1, ho2, rfl, rfl, q3⟩ := hrel
            have hcl := cntTo_le L2 oo
            have hll := left_le L2
            have hlm := q3.len
            have hml := q3.pp.len
            by_cases hoo : oo ≤ 255
            · have hi1 : (oo : Int) ≤ 255 := by omega
              have cH := Lib.hid (held_any p g m L2 _ (oo : Int) wr q3.pp)
              have hx : heldV L2 (oo : Int) = held L2 (oo : Int) := by unfold heldV; rw [if_pos ⟨by omega, by omega⟩]
              have hs := Lib.hid (cntTo_succ L2 oo ho1)
              rw [hx] at cH
              clear hx
              go_wp2_with fail
              refine cH.out.mono ?_
              rintro ev w5 ⟨A5, m5, c5, rfl, o5, b5⟩
              have q5 := q3.step b5
              have r5 := o5.rd
              have hl5 := o5.len
              have hm5 := r5.cap
              have hx5 := r5.max
              have hle : (held L2 (oo : Int)).length ≤ L2.length := heldAt_len L2 _ _
              have Hm5 : Hid ((held L2 (oo : Int)).length = m5) := Lib.hid hl5
              have Hin : Hid (∀ j, j < m5 → ∃ i : Nat, (held L2 (oo : Int)).getD j 0 = (i : Int) ∧ i < L2.length ∧ ow L2 i = (oo : Int)) := Lib.hid (fun j hj => by
                refine heldAt_mem (k := L2.length) ?_
                rw [List.getD_eq_getElem?_getD, List.getElem?_eq_getElem (by omega : j < (held L2 (oo : Int)).length)]
                exact List.getElem_mem _)
              have R5 := Lib.hid r5
              have hm52 : m5 ≤ 1024 := by omega
              have hlm2 := Lib.hid hlm
              clear o5 b5 q3 cH r5 hl5 hle hlm
              go_wp2
              go_loopw [16] (fun kv wr => ∃ kk : Nat, kk ≤ m5 ∧ kv = .int .i64 kk ∧ wr = w5) (fun kv _ => m5 - (intOf kv).toNat)
              case atStart => exact ⟨0, Nat.zero_le _, rfl, rfl⟩
              case round =>
                obtain ⟨kk, hkk, rfl, rfl⟩ := hrel
                by_cases hkm : kk < m5
                · obtain ⟨i, hi1, hi2, hi3⟩ := Hin.out kk hkm
                  obtain ⟨b6, o6, rfl, _, hc6⟩ := R5.out.at_ hkm
                  rw [hi1] at hc6
                  have cO := owner_any p g m L2 _ (i : Int) wr q5.pp
                  rw [owV_yes hi2, hi3] at cO
                  have CO := Lib.hid cO
                  clear cO hi1 hi2 hi3
                  go_wp2_with fail
                  refine CO.out.mono ?_
                  rintro ev w6 ⟨rfl, rfl⟩
                  go_wp2
                  go_roundw
                  case rel => exact ⟨kk + 1, by omega, by go_num, by first | rfl | trivial⟩
                  case measure => simp [intOf]; omega
                · obtain rfl : kk = m5 := by omega
                  have hs2 : Hid (((cntTo L2 (oo + 1) : Nat) : Int) = (cntTo L2 oo : Int) + (kk : Int)) := Lib.hid (by rw [hs.out, Hm5.out]; simp)
                  have hb2 : cntTo L2 oo + kk ≤ 2048 := by omega
                  generalize cntTo L2 oo = cc at *
                  clear hkm
                  go_wp2
                  go_roundw
                  case rel => exact ⟨oo + 1, by omega, by omega, by go_num, by first | (rw [hs2.out]; done) | (rw [hs2.out]; go_num) | (rw [hs2.out]), q5⟩
                  case measure => simp [intOf]; omega
            · obtain rfl : oo = 256 := by omega
              have cL := Lib.hid (left_any p g m L2 _ wr q3.pp)
              have hs := cntTo_all L2 q3.pp.good
              have hs2 : ((cntTo L2 256 : Nat) : Int) + (left L2 : Int) = (m : Int) := by omega
              have HS := Lib.hid hs2
              generalize cntTo L2 256 = cc at *
              generalize left L2 = ll at *
              clear hs hlm hoo
              go_wp2_with fail
              refine cL.out.mono ?_
              rintro ev w5 ⟨rfl, b5⟩
              have q5 := q3.step b5
              clear q3 b5 cL
              go_wp2
              go_roundw
              case rel => exact ⟨k + 1, L2, by omega, by go_num, q5⟩
              case measure => simp [intOf]; omega
        · have h0' : (tkE L o n1 == 0) = false := by simpa using h0
          obtain ⟨E, hE⟩ : ∃ E, tkE L o n1 = E := ⟨_, rfl⟩
          have cN : Hid (Calls Try.prog 19 #[ptr p, .int .i64 o, .slice A3 n1 c3] w9 fun e w' => e = .returned (.tuple #[.int .i64 (-1), .int .i64 E]) ∧ KO w p g m L p2 g2 L wr.heap.size 0 bu o t A1 n1 c1 w') := Lib.hid (cT.out.mono (by
            rintro e w' ⟨rfl, z1, z2⟩
            rw [tkL_no (by rw [hrd.out.len]; exact h0)] at z1
            exact ⟨by rw [tkN_no h0, hE], Q.turn hL z1 z2 rfl⟩))
          rw [hE] at h0'
          have hE2 : (E != 0) = true := by simpa using h0'
          have cF : Hid (∀ W, KO w p g m L p2 g2 L wr.heap.size 0 bu o t A1 n1 c1 W → Calls Try.prog 18 #[ptr p] W fun e w' => e = .returned (.int .i64 (lf : Int)) ∧ Below W.heap.size W w') := Lib.hid (fun W q => by
            have := left_any p g m L _ W q.q.k.pp
            rwa [HF.out] at this)
          clear cT Q o3 h0 hE hL hG hHeld hlf
          go_wp2_with fail
          refine cN.out.mono ?_
          rintro ev w10 ⟨rfl, Q⟩
          go_wp2
          have hHeld := Q.bx
          refine ⟨hHeld, ?_⟩
          try simp only [Act.put, List.setIfInBounds_toArray, List.set_cons_zero, List.set_cons_succ]
          refine wpAnyH_at (i := 7) (some 52) (v := ?v7z62) rfl rfl (by kernel_rfl) (by kernel_rfl) (by kernel_rfl) (fun _ _ _ h => h) (Or.inl ⟨by rfl, ?y7z62⟩) (by assumption) ?r7z62
          case y7z62 =>
            intro w9 hSw
            clear hSw
            go_simp
            all_goals with_reducible rfl
          simp only [Act.put, List.setIfInBounds_toArray, List.set_cons_zero, List.set_cons_succ]
          refine wpAnyH_at (i := 8) (some 60) (v := ?v8z63) rfl rfl (by kernel_rfl) (by kernel_rfl) (by kernel_rfl) (fun _ _ _ h => h) (Or.inl ⟨by rfl, ?y8z63⟩) (by assumption) ?r8z63
          case y8z63 =>
            intro w9 hSw
            clear hSw
            go_simp
            all_goals with_reducible rfl
          simp only [Act.put, List.setIfInBounds_toArray, List.set_cons_zero, List.set_cons_succ]
          refine wpAnyH_at (i := 9) (some 61) (v := ?v9z64) rfl rfl (by kernel_rfl) (by kernel_rfl) (by kernel_rfl) (fun _ _ _ h => h) (Or.inl ⟨by rfl, ?y9z64⟩) (by assumption) ?r9z64
          case y9z64 =>
            intro w9 hSw
            clear hSw
            go_simp
            all_goals with_reducible rfl
          simp only [Act.put, List.setIfInBounds_toArray, List.set_cons_zero, List.set_cons_succ]
          refine wpAnyH_at (i := 10) (some 11) (v := ?v10z65) rfl rfl (by kernel_rfl) (by kernel_rfl) (by kernel_rfl) (fun _ _ _ h => h) (Or.inl ⟨by rfl, ?y10z65⟩) (by assumption) ?r10z65
          case y10z65 =>
            intro w9 hSw
            clear hSw
            go_simp
            all_goals with_reducible rfl
          simp only [Act.put, List.setIfInBounds_toArray, List.set_cons_zero, List.set_cons_succ]
          refine wpAnyH_at (i := 11) (some 12) (v := ?v11z66) rfl rfl (by kernel_rfl) (by kernel_rfl) (by kernel_rfl) (fun _ _ _ h => h) (Or.inl ⟨by rfl, ?y11z66⟩) (by assumption) ?r11z66
          case y11z66 =>
            intro w9 hSw
            clear hSw
            go_simp
            all_goals with_reducible rfl
          simp only [Act.put, List.setIfInBounds_toArray, List.set_cons_zero, List.set_cons_succ]
          refine wpAnyH_done (by kernel_rfl) ?_ _
          go_wp2
          refine wp_region_held_drew (S := fun w' => w'.heap[wr.heap.size]? = some (.cells #[.int .i64 0, .int .i64 bu, .int .i64 o, .int .i64 t, .slice A1 n1 c1] 25 (0, 0))) (by kernel_rfl) Q.bx (fun hHeld => ?_)
          replace Q := Q.step (below_drew _)
          change wpAnyH _ _ _ _ _ _ _ _ (World.drew _)
          generalize World.drew _ = W11 at *
          refine wpAnyH_at (i := 0) (some 62) (v := ?v0z31) rfl rfl (by kernel_rfl) (by kernel_rfl) (by kernel_rfl) (fun _ _ _ h => h) (Or.inl ⟨by rfl, ?y0z31⟩) (by assumption) ?r0z31
          case y0z31 =>
            intro w9 hSw
            clear hSw
            go_simp
            all_goals with_reducible rfl
          simp only [Act.put, List.setIfInBounds_toArray, List.set_cons_zero, List.set_cons_succ]
          refine wpAnyH_at (i := 1) (some 63) (v := ?v1z32) rfl rfl (by kernel_rfl) (by kernel_rfl) (by kernel_rfl) (fun _ _ _ h => h) (Or.inl ⟨by rfl, ?y1z32⟩) (by assumption) ?r1z32
          case y1z32 =>
            intro w9 hSw
            clear hSw
            go_simp
            all_goals with_reducible rfl
          simp only [Act.put, List.setIfInBounds_toArray, List.set_cons_zero, List.set_cons_succ]
          refine wpAnyH_at (i := 2) (some 64) (v := ?v2z33) rfl rfl (by kernel_rfl) (by kernel_rfl) (by kernel_rfl) (fun _ _ _ h => h) (Or.inl ⟨by rfl, ?y2z33⟩) (by assumption) ?r2z33
          case y2z33 =>
            intro w9 hSw
            clear hSw
            go_simp
            all_goals with_reducible rfl
          simp only [Act.put, List.setIfInBounds_toArray, List.set_cons_zero, List.set_cons_succ]
          refine wpAnyH_at (i := 3) (some 65) (v := ?v3z34) rfl rfl (by kernel_rfl) (by kernel_rfl) (by kernel_rfl) (fun _ _ _ h => h) (Or.inl ⟨by rfl, ?y3z34⟩) (by assumption) ?r3z34
          case y3z34 =>
            intro w9 hSw
            clear hSw
            go_simp
            all_goals with_reducible rfl
          simp only [Act.put, List.setIfInBounds_toArray, List.set_cons_zero, List.set_cons_succ]
          refine wpAnyH_at (i := 4) (some 66) (v := ?v4z35) rfl rfl (by kernel_rfl) (by kernel_rfl) (by kernel_rfl) (fun _ _ _ h => h) (Or.inl ⟨by rfl, ?y4z35⟩) (by assumption) ?r4z35
          case y4z35 =>
            intro w9 hSw
            clear hSw
            go_simp
            all_goals with_reducible rfl
          simp only [Act.put, List.setIfInBounds_toArray, List.set_cons_zero, List.set_cons_succ]
          refine wpAnyH_at (i := 5) (some 67) (v := ?v5z36) rfl rfl (by kernel_rfl) (by kernel_rfl) (by kernel_rfl) (fun _ _ _ h => h) (Or.inl ⟨by rfl, ?y5z36⟩) (by assumption) ?r5z36
          case y5z36 =>
            intro w9 hSw
            clear hSw
            go_simp
            all_goals with_reducible rfl
          simp only [Act.put, List.setIfInBounds_toArray, List.set_cons_zero, List.set_cons_succ]
          refine wpAnyH_at (i := 6) (some 68) (v := undef) rfl rfl (by kernel_rfl) (by kernel_rfl) (by kernel_rfl) (fun _ _ _ h => h) (Or.inr ⟨by rfl, rfl⟩) (by assumption) ?_
          simp only [Act.put, List.setIfInBounds_toArray, List.set_cons_zero, List.set_cons_succ]
          refine wpAnyH_at (i := 7) (some 69) (v := undef) rfl rfl (by kernel_rfl) (by kernel_rfl) (by kernel_rfl) (fun _ _ _ h => h) (Or.inr ⟨by rfl, rfl⟩) (by assumption) ?_
          simp only [Act.put, List.setIfInBounds_toArray, List.set_cons_zero, List.set_cons_succ]
          refine wpAnyH_one (i := 8) (by kernel_rfl) rfl ?_
          refine wpList_off (some 70) rfl (by rfl) ?_
          go_wp2
          refine ⟨hHeld, ?_⟩
          try simp only [Act.put, List.setIfInBounds_toArray, List.set_cons_zero, List.set_cons_succ]
          refine wpAnyH_at (i := 9) (some 71) (v := undef) rfl rfl (by kernel_rfl) (by kernel_rfl) (by kernel_rfl) (fun _ _ _ h => h) (Or.inr ⟨by rfl, rfl⟩) (by assumption) ?_
          simp only [Act.put, List.setIfInBounds_toArray, List.set_cons_zero, List.set_cons_succ]
          refine wpAnyH_at (i := 10) (some 72) (v := undef) rfl rfl (by kernel_rfl) (by kernel_rfl) (by kernel_rfl) (fun _ _ _ h => h) (Or.inr ⟨by rfl, rfl⟩) (by assumption) ?_
          simp only [Act.put, List.setIfInBounds_toArray, List.set_cons_zero, List.set_cons_succ]
          refine wpAnyH_at (i := 11) (some 73) (v := undef) rfl rfl (by kernel_rfl) (by kernel_rfl) (by kernel_rfl) (fun _ _ _ h => h) (Or.inr ⟨by rfl, rfl⟩) (by assumption) ?_
          simp only [Act.put, List.setIfInBounds_toArray, List.set_cons_zero, List.set_cons_succ]
          refine wpAnyH_at (i := 12) (some 74) (v := undef) rfl rfl (by kernel_rfl) (by kernel_rfl) (by kernel_rfl) (fun _ _ _ h => h) (Or.inr ⟨by rfl, rfl⟩) (by assumption) ?_
          simp only [Act.put, List.setIfInBounds_toArray, List.set_cons_zero, List.set_cons_succ]
          refine wpAnyH_at (i := 14) (some 76) (v := undef) rfl rfl (by kernel_rfl) (by kernel_rfl) (by kernel_rfl) (fun _ _ _ h => h) (Or.inr ⟨by rfl, rfl⟩) (by assumption) ?_
          simp only [Act.put, List.setIfInBounds_toArray, List.set_cons_zero, List.set_cons_succ]
          refine wpAnyH_at (i := 15) (some 77) (v := undef) rfl rfl (by kernel_rfl) (by kernel_rfl) (by kernel_rfl) (fun _ _ _ h => h) (Or.inr ⟨by rfl, rfl⟩) (by assumption) ?_
          simp only [Act.put, List.setIfInBounds_toArray, List.set_cons_zero, List.set_cons_succ]
          refine wpAnyH_one (i := 13) (by kernel_rfl) rfl ?_
          refine wpList_off (some 75) rfl (by rfl) ?_
          go_wp2
          refine ⟨hHeld, ?_⟩
          try simp only [Act.put, List.setIfInBounds_toArray, List.set_cons_zero, List.set_cons_succ]
          refine wpAnyH_at (i := 16) (some 78) (v := undef) rfl rfl (by kernel_rfl) (by kernel_rfl) (by kernel_rfl) (fun _ _ _ h => h) (Or.inr ⟨by rfl, rfl⟩) (by assumption) ?_
          simp only [Act.put, List.setIfInBounds_toArray, List.set_cons_zero, List.set_cons_succ]
          refine wpAnyH_at (i := 17) (some 79) (v := undef) rfl rfl (by kernel_rfl) (by kernel_rfl) (by kernel_rfl) (fun _ _ _ h => h) (Or.inr ⟨by rfl, rfl⟩) (by assumption) ?_
          simp only [Act.put, List.setIfInBounds_toArray, List.set_cons_zero, List.set_cons_succ]
          refine wpAnyH_at (i := 18) (some 80) (v := undef) rfl rfl (by kernel_rfl) (by kernel_rfl) (by kernel_rfl) (fun _ _ _ h => h) (Or.inr ⟨by rfl, rfl⟩) (by assumption) ?_
          simp only [Act.put, List.setIfInBounds_toArray, List.set_cons_zero, List.set_cons_succ]
          refine wpAnyH_at (i := 19) (some 81) (v := undef) rfl rfl (by kernel_rfl) (by kernel_rfl) (by kernel_rfl) (fun _ _ _ h => h) (Or.inr ⟨by rfl, rfl⟩) (by assumption) ?_
          simp only [Act.put, List.setIfInBounds_toArray, List.set_cons_zero, List.set_cons_succ]
          refine wpAnyH_at (i := 21) (some 83) (v := undef) rfl rfl (by kernel_rfl) (by kernel_rfl) (by kernel_rfl) (fun _ _ _ h => h) (Or.inr ⟨by rfl, rfl⟩) (by assumption) ?_
          simp only [Act.put, List.setIfInBounds_toArray, List.set_cons_zero, List.set_cons_succ]
          refine wpAnyH_at (i := 22) (some 84) (v := undef) rfl rfl (by kernel_rfl) (by kernel_rfl) (by kernel_rfl) (fun _ _ _ h => h) (Or.inr ⟨by rfl, rfl⟩) (by assumption) ?_
          simp only [Act.put, List.setIfInBounds_toArray, List.set_cons_zero, List.set_cons_succ]
          refine wpAnyH_one (i := 20) (by kernel_rfl) rfl ?_
          refine wpList_off (some 82) rfl (by rfl) ?_
          go_wp2
          refine ⟨hHeld, ?_⟩
          try simp only [Act.put, List.setIfInBounds_toArray, List.set_cons_zero, List.set_cons_succ]
          refine wpAnyH_at (i := 23) (some 85) (v := undef) rfl rfl (by kernel_rfl) (by kernel_rfl) (by kernel_rfl) (fun _ _ _ h => h) (Or.inr ⟨by rfl, rfl⟩) (by assumption) ?_
          simp only [Act.put, List.setIfInBounds_toArray, List.set_cons_zero, List.set_cons_succ]
          refine wpAnyH_at (i := 24) (some 86) (v := undef) rfl rfl (by kernel_rfl) (by kernel_rfl) (by kernel_rfl) (fun _ _ _ h => h) (Or.inr ⟨by rfl, rfl⟩) (by assumption) ?_
          simp only [Act.put, List.setIfInBounds_toArray, List.set_cons_zero, List.set_cons_succ]
          refine wpAnyH_at (i := 25) (some 87) (v := ?v25z37) rfl rfl (by kernel_rfl) (by kernel_rfl) (by kernel_rfl) (fun _ _ _ h => h) (Or.inl ⟨by rfl, ?y25z37⟩) (by assumption) ?r25z37
          case y25z37 =>
            intro w9 hSw
            clear hSw
            go_simp
            all_goals with_reducible rfl
          simp only [Act.put, List.setIfInBounds_toArray, List.set_cons_zero, List.set_cons_succ]
          refine wpAnyH_at (i := 26) (some 88) (v := ?v26z38) rfl rfl (by kernel_rfl) (by kernel_rfl) (by kernel_rfl) (fun _ _ _ h => h) (Or.inl ⟨by rfl, ?y26z38⟩) (by assumption) ?r26z38
          case y26z38 =>
            intro w9 hSw
            clear hSw
            go_simp
            all_goals with_reducible rfl
          simp only [Act.put, List.setIfInBounds_toArray, List.set_cons_zero, List.set_cons_succ]
          refine wpAnyH_at (i := 27) (some 89) (v := ?v27z39) rfl rfl (by kernel_rfl) (by kernel_rfl) (by kernel_rfl) (fun _ _ _ h => h) (Or.inl ⟨by rfl, ?y27z39⟩) (by assumption) ?r27z39
          case y27z39 =>
            intro w9 hSw
            clear hSw
            go_simp
            all_goals with_reducible rfl
          simp only [Act.put, List.setIfInBounds_toArray, List.set_cons_zero, List.set_cons_succ]
          refine wpAnyH_at (i := 28) (some 90) (v := ?v28z40) rfl rfl (by kernel_rfl) (by kernel_rfl) (by kernel_rfl) (fun _ _ _ h => h) (Or.inl ⟨by rfl, ?y28z40⟩) (by assumption) ?r28z40
          case y28z40 =>
            intro w9 hSw
            clear hSw
            go_simp
            all_goals with_reducible rfl
          simp only [Act.put, List.setIfInBounds_toArray, List.set_cons_zero, List.set_cons_succ]
          refine wpAnyH_at (i := 29) (some 91) (v := ?v29z41) rfl rfl (by kernel_rfl) (by kernel_rfl) (by kernel_rfl) (fun _ _ _ h => h) (Or.inl ⟨by rfl, ?y29z41⟩) (by assumption) ?r29z41
          case y29z41 =>
            intro w9 hSw
            clear hSw
            go_simp
            all_goals with_reducible rfl
          simp only [Act.put, List.setIfInBounds_toArray, List.set_cons_zero, List.set_cons_succ]
          refine wpAnyH_at (i := 30) (some 92) (v := ?v30z42) rfl rfl (by kernel_rfl) (by kernel_rfl) (by kernel_rfl) (fun _ _ _ h => h) (Or.inl ⟨by rfl, ?y30z42⟩) (by assumption) ?r30z42
          case y30z42 =>
            intro w9 hSw
            clear hSw
            go_simp
            all_goals with_reducible rfl
          simp only [Act.put, List.setIfInBounds_toArray, List.set_cons_zero, List.set_cons_succ]
          refine wpAnyH_at (i := 31) (some 93) (v := ?v31z43) rfl rfl (by kernel_rfl) (by kernel_rfl) (by kernel_rfl) (fun _ _ _ h => h) (Or.inl ⟨by rfl, ?y31z43⟩) (by assumption) ?r31z43
          case y31z43 =>
            intro w9 hSw
            clear hSw
            go_simp
            all_goals with_reducible rfl
          simp only [Act.put, List.setIfInBounds_toArray, List.set_cons_zero, List.set_cons_succ]
          refine wpAnyH_at (i := 32) (some 94) (v := ?v32z44) rfl rfl (by kernel_rfl) (by kernel_rfl) (by kernel_rfl) (fun _ _ _ h => h) (Or.inl ⟨by rfl, ?y32z44⟩) (by assumption) ?r32z44
          case y32z44 =>
            intro w9 hSw
            clear hSw
            go_simp
            all_goals with_reducible rfl
          simp only [Act.put, List.setIfInBounds_toArray, List.set_cons_zero, List.set_cons_succ]
          refine wpAnyH_at (i := 33) (some 95) (v := ?v33z45) rfl rfl (by kernel_rfl) (by kernel_rfl) (by kernel_rfl) (fun _ _ _ h => h) (Or.inl ⟨by rfl, ?y33z45⟩) (by assumption) ?r33z45
          case y33z45 =>
            intro w9 hSw
            clear hSw
            go_simp
            all_goals with_reducible rfl
          simp only [Act.put, List.setIfInBounds_toArray, List.set_cons_zero, List.set_cons_succ]
          refine wpAnyH_at (i := 34) (some 96) (v := ?v34z46) rfl rfl (by kernel_rfl) (by kernel_rfl) (by kernel_rfl) (fun _ _ _ h => h) (Or.inl ⟨by rfl, ?y34z46⟩) (by assumption) ?r34z46
          case y34z46 =>
            intro w9 hSw
            clear hSw
            go_simp
            all_goals with_reducible rfl
          simp only [Act.put, List.setIfInBounds_toArray, List.set_cons_zero, List.set_cons_succ]
          refine wpAnyH_at (i := 36) (some 98) (v := ?v36z47) rfl rfl (by kernel_rfl) (by kernel_rfl) (by kernel_rfl) (fun _ _ _ h => h) (Or.inl ⟨by rfl, ?y36z47⟩) (by assumption) ?r36z47
          case y36z47 =>
            intro w9 hSw
            clear hSw
            go_simp
            all_goals with_reducible rfl
          simp only [Act.put, List.setIfInBounds_toArray, List.set_cons_zero, List.set_cons_succ]
          refine wpAnyH_one (i := 35) (by kernel_rfl) rfl ?_
          go_wp2_with fail
          refine (cF.out _ Q).mono ?_
          rintro ev W22 ⟨rfl, bx⟩
          go_wp2
          replace Q := Q.step bx
          clear bx hHeld
          have hHeld := Q.bx
          refine ⟨hHeld, ?_⟩
          try simp only [Act.put, List.setIfInBounds_toArray, List.set_cons_zero, List.set_cons_succ]
          refine wpAnyH_at (i := 37) (some 99) (v := ?v37z48) rfl rfl (by kernel_rfl) (by kernel_rfl) (by kernel_rfl) (fun _ _ _ h => h) (Or.inl ⟨by rfl, ?y37z48⟩) (by assumption) ?r37z48
          case y37z48 =>
            intro w9 hSw
            clear hSw
            go_simp
            all_goals with_reducible rfl
          simp only [Act.put, List.setIfInBounds_toArray, List.set_cons_zero, List.set_cons_succ]
          refine wpAnyH_at (i := 38) (some 100) (v := ?v38z49) rfl rfl (by kernel_rfl) (by kernel_rfl) (by kernel_rfl) (fun _ _ _ h => h) (Or.inl ⟨by rfl, ?y38z49⟩) (by assumption) ?r38z49
          case y38z49 =>
            intro w9 hSw
            clear hSw
            go_simp
            all_goals with_reducible rfl
          simp only [Act.put, List.setIfInBounds_toArray, List.set_cons_zero, List.set_cons_succ]
          refine wpAnyH_at (i := 39) (some 101) (v := ?v39z50) rfl rfl (by kernel_rfl) (by kernel_rfl) (by kernel_rfl) (fun _ _ _ h => h) (Or.inl ⟨by rfl, ?y39z50⟩) (by assumption) ?r39z50
          case y39z50 =>
            intro w9 hSw
            clear hSw
            go_simp
            all_goals with_reducible rfl
          simp only [Act.put, List.setIfInBounds_toArray, List.set_cons_zero, List.set_cons_succ]
          refine wpAnyH_at (i := 40) (some 102) (v := ?v40z51) rfl rfl (by kernel_rfl) (by kernel_rfl) (by kernel_rfl) (fun _ _ _ h => h) (Or.inl ⟨by rfl, ?y40z51⟩) (by assumption) ?r40z51
          case y40z51 =>
            intro w9 hSw
            clear hSw
            go_simp
            all_goals with_reducible rfl
          simp only [Act.put, List.setIfInBounds_toArray, List.set_cons_zero, List.set_cons_succ]
          refine wpAnyH_done (by kernel_rfl) ?_ _
          have q2 := Q.q.k
          clear Q hHeld cN cF
          obtain ⟨L2, hL2⟩ : ∃ L2, L = L2 := ⟨_, rfl⟩
          subst hL2
          go_wp2
          go_loopw [13, 14] (fun hv ov wr => ∃ oo : Nat, 1 ≤ oo ∧ oo ≤ 256 ∧ ov = .int .i64 oo ∧ hv = .int .i64 (cntTo L oo : Int) ∧ KL w p g m L wr) (fun _ ov _ => 256 - (intOf ov).toNat)
          case atStart => exact ⟨1, by omega, by omega, rfl, by rw [cntTo_one]; rfl, q2⟩
          case round =>
            clear q2
            obtain ⟨oo, ho1, ho2, rfl, rfl, q3⟩ := hrel
            have hcl := cntTo_le L oo
            have hll := left_le L
            have hlm := q3.len
            have hml := q3.pp.len
            by_cases hoo : oo ≤ 255
            · have hi1 : (oo : Int) ≤ 255 := by omega
              have cH := Lib.hid (held_any p g m L _ (oo : Int) wr q3.pp)
              have hx : heldV L (oo : Int) = held L (oo : Int) := by unfold heldV; rw [if_pos ⟨by omega, by omega⟩]
              have hs := Lib.hid (cntTo_succ L oo ho1)
              rw [hx] at cH
              clear hx
              go_wp2_with fail
              refine cH.out.mono ?_
              rintro ev w5 ⟨A5, m5, c5, rfl, o5, b5⟩
              have q5 := q3.step b5
              have r5 := o5.rd
              have hl5 := o5.len
              have hm5 := r5.cap
              have hx5 := r5.max
              have hle : (held L (oo : Int)).length ≤ L.length := heldAt_len L _ _
              have Hm5 : Hid ((held L (oo : Int)).length = m5) := Lib.hid hl5
              have Hin : Hid (∀ j, j < m5 → ∃ i : Nat, (held L (oo : Int)).getD j 0 = (i : Int) ∧ i < L.length ∧ ow L i = (oo : Int)) := Lib.hid (fun j hj => by
                refine heldAt_mem (k := L.length) ?_
                rw [List.getD_eq_getElem?_getD, List.getElem?_eq_getElem (by omega : j < (held L (oo : Int)).length)]
                exact List.getElem_mem _)
              have R5 := Lib.hid r5
              have hm52 : m5 ≤ 1024 := by omega
              have hlm2 := Lib.hid hlm
              clear o5 b5 q3 cH r5 hl5 hle hlm
              go_wp2
              go_loopw [16] (fun kv wr => ∃ kk : Nat, kk ≤ m5 ∧ kv = .int .i64 kk ∧ wr = w5) (fun kv _ => m5 - (intOf kv).toNat)
              case atStart => exact ⟨0, Nat.zero_le _, rfl, rfl⟩
              case round =>
                obtain ⟨kk, hkk, rfl, rfl⟩ := hrel
                by_cases hkm : kk < m5
                · obtain ⟨i, hi1, hi2, hi3⟩ := Hin.out kk hkm
                  obtain ⟨b6, o6, rfl, _, hc6⟩ := R5.out.at_ hkm
                  rw [hi1] at hc6
                  have cO := owner_any p g m L _ (i : Int) wr q5.pp
                  rw [owV_yes hi2, hi3] at cO
                  have CO := Lib.hid cO
                  clear cO hi1 hi2 hi3
                  go_wp2_with fail
                  refine CO.out.mono ?_
                  rintro ev w6 ⟨rfl, rfl⟩
                  go_wp2
                  go_roundw
                  case rel => exact ⟨kk + 1, by omega, by go_num, by first | rfl | trivial⟩
                  case measure => simp [intOf]; omega
                · obtain rfl : kk = m5 := by omega
                  have hs2 : Hid (((cntTo L (oo + 1) : Nat) : Int) = (cntTo L oo : Int) + (kk : Int)) := Lib.hid (by rw [hs.out, Hm5.out]; simp)
                  have hb2 : cntTo L oo + kk ≤ 2048 := by omega
                  generalize cntTo L oo = cc at *
                  clear hkm
                  go_wp2
                  go_roundw
                  case rel => exact ⟨oo + 1, by omega, by omega, by go_num, by first | (rw [hs2.out]; done) | (rw [hs2.out]; go_num) | (rw [hs2.out]), q5⟩
                  case measure => simp [intOf]; omega
            · obtain rfl : oo = 256 := by omega
              have cL := Lib.hid (left_any p g m L _ wr q3.pp)
              have hs := cntTo_all L q3.pp.good
              have hs2 : ((cntTo L 256 : Nat) : Int) + (left L : Int) = (m : Int) := by omega
              have HS := Lib.hid hs2
              generalize cntTo L 256 = cc at *
              generalize left L = ll at *
              clear hs hlm hoo
              go_wp2_with fail
              refine cL.out.mono ?_
              rintro ev w5 ⟨rfl, b5⟩
              have q5 := q3.step b5
              clear q3 b5 cL
              go_wp2
              go_roundw
              case rel => exact ⟨k + 1, L, by omega, by go_num, q5⟩
              case measure => simp [intOf]; omega
      · have hw0 : (wh == 0) = false := by simpa using hwh
        have hd0 := do_alone wh bu o t A1 n1 c1 xs1 q1 hrd.out hn1
        rw [World.size_alloc] at hd0
        have hd := Lib.hid hd0
        clear hd0
        generalize hL2 : stepL L wh bu o t xs1 = L2 at *
        clear hL2 q q1 hwh
        go_wp2_with fail
        refine hd.out.mono ?_
        rintro ev w5 ⟨⟨x, rfl⟩, q2⟩
        clear hd c0 c1' c2 c3 c4 bx ba
        go_wp2
        go_loopw [13, 14] (fun hv ov wr => ∃ oo : Nat, 1 ≤ oo ∧ oo ≤ 256 ∧ ov = .int .i64 oo ∧ hv = .int .i64 (cntTo L2 oo : Int) ∧ KL w p g m L2 wr) (fun _ ov _ => 256 - (intOf ov).toNat)
        case atStart => exact ⟨1, by omega, by omega, rfl, by rw [cntTo_one]; rfl, q2⟩
        case round =>
          clear q2
          obtain ⟨oo, ho1, ho2, rfl, rfl, q3⟩ := hrel
          have hcl := cntTo_le L2 oo
          have hll := left_le L2
          have hlm := q3.len
          have hml := q3.pp.len
          by_cases hoo : oo ≤ 255
          · have hi1 : (oo : Int) ≤ 255 := by omega
            have cH := Lib.hid (held_any p g m L2 _ (oo : Int) wr q3.pp)
            have hx : heldV L2 (oo : Int) = held L2 (oo : Int) := by unfold heldV; rw [if_pos ⟨by omega, by omega⟩]
            have hs := Lib.hid (cntTo_succ L2 oo ho1)
            rw [hx] at cH
            clear hx
            go_wp2_with fail
            refine cH.out.mono ?_
            rintro ev w5 ⟨A5, m5, c5, rfl, o5, b5⟩
            have q5 := q3.step b5
            have r5 := o5.rd
            have hl5 := o5.len
            have hm5 := r5.cap
            have hx5 := r5.max
            have hle : (held L2 (oo : Int)).length ≤ L2.length := heldAt_len L2 _ _
            have Hm5 : Hid ((held L2 (oo : Int)).length = m5) := Lib.hid hl5
            have Hin : Hid (∀ j, j < m5 → ∃ i : Nat, (held L2 (oo : Int)).getD j 0 = (i : Int) ∧ i < L2.length ∧ ow L2 i = (oo : Int)) := Lib.hid (fun j hj => by
              refine heldAt_mem (k := L2.length) ?_
              rw [List.getD_eq_getElem?_getD, List.getElem?_eq_getElem (by omega : j < (held L2 (oo : Int)).length)]
              exact List.getElem_mem _)
            have R5 := Lib.hid r5
            have hm52 : m5 ≤ 1024 := by omega
            have hlm2 := Lib.hid hlm
            clear o5 b5 q3 cH r5 hl5 hle hlm
            go_wp2
            go_loopw [16] (fun kv wr => ∃ kk : Nat, kk ≤ m5 ∧ kv = .int .i64 kk ∧ wr = w5) (fun kv _ => m5 - (intOf kv).toNat)
            case atStart => exact ⟨0, Nat.zero_le _, rfl, rfl⟩
            case round =>
              obtain ⟨kk, hkk, rfl, rfl⟩ := hrel
              by_cases hkm : kk < m5
              · obtain ⟨i, hi1, hi2, hi3⟩ := Hin.out kk hkm
                obtain ⟨b6, o6, rfl, _, hc6⟩ := R5.out.at_ hkm
                rw [hi1] at hc6
                have cO := owner_any p g m L2 _ (i : Int) wr q5.pp
                rw [owV_yes hi2, hi3] at cO
                have CO := Lib.hid cO
                clear cO hi1 hi2 hi3
                go_wp2_with fail
                refine CO.out.mono ?_
                rintro ev w6 ⟨rfl, rfl⟩
                go_wp2
                go_roundw
                case rel => exact ⟨kk + 1, by omega, by go_num, by first | rfl | trivial⟩
                case measure => simp [intOf]; omega
              · obtain rfl : kk = m5 := by omega
                have hs2 : Hid (((cntTo L2 (oo + 1) : Nat) : Int) = (cntTo L2 oo : Int) + (kk : Int)) := Lib.hid (by rw [hs.out, Hm5.out]; simp)
                have hb2 : cntTo L2 oo + kk ≤ 2048 := by omega
                generalize cntTo L2 oo = cc at *
                clear hkm
                go_wp2
                go_roundw
                case rel => exact ⟨oo + 1, by omega, by omega, by go_num, by first | (rw [hs2.out]; done) | (rw [hs2.out]; go_num) | (rw [hs2.out]), q5⟩
                case measure => simp [intOf]; omega
          · obtain rfl : oo = 256 := by omega
            have cL := Lib.hid (left_any p g m L2 _ wr q3.pp)
            have hs := cntTo_all L2 q3.pp.good
            have hs2 : ((cntTo L2 256 : Nat) : Int) + (left L2 : Int) = (m : Int) := by omega
            have HS := Lib.hid hs2
            generalize cntTo L2 256 = cc at *
            generalize left L2 = ll at *
            clear hs hlm hoo
            go_wp2_with fail
            refine cL.out.mono ?_
            rintro ev w5 ⟨rfl, b5⟩
            have q5 := q3.step b5
            clear q3 b5 cL
            go_wp2
            go_roundw
            case rel => exact ⟨k + 1, L2, by omega, by go_num, q5⟩
            case measure => simp [intOf]; omega
    · have cH := Lib.hid (held_any p g m L _ 0 wr q.pp)
      have hx : heldV L 0 = [] := by unfold heldV; rw [if_neg (by intro z; have := z.1; omega)]
      rw [hx] at cH
      clear hx
      go_wp2_with fail
      refine cH.out.mono ?_
      rintro ev w5 ⟨A5, m5, c5, rfl, o5, b5⟩
      obtain rfl : m5 = 0 := by rw [← o5.len]; rfl
      have q5 := q.step b5
      clear o5 b5 q cH
      go_wp2
      go_ret
      exact ⟨rfl, q5.b⟩
theorem own_law (m : Int) (A : Option Addr) (n c : Nat) (qs : Nat → Cal)  (w : World) (H : CallsAt w w.heap.size A n c qs) : Calls Try.prog 4 #[.int .i64 m, .slice A n c] w fun e w' => e = .returned (.bool true) ∧ Below w.heap.size w w' := by
  by_cases h1 : (100 < m ∧ m ≤ 1024) ∨ 100 < n
  · exact own_big m A n c qs  w H h1
  have h1' : ¬ (100 < m ∧ m ≤ 1024) := fun q => h1 (.inl q)
  have h2 : n ≤ 100 := by omega
  by_cases h3 : longB n qs = true
  · exact own_long m A n c qs  w H h1' h2 h3
  have h3' : longB n qs = false := by simpa using h3
  by_cases h7 : m < 1 ∨ 1024 < m
  · exact own_bad m A n c qs  w H h2 h3' h7
  obtain ⟨k, rfl⟩ : ∃ k : Nat, m = (k : Int) := ⟨m.toNat, by omega⟩
  exact own_in k A n c qs  w H (by omega) (by omega) h2 h3'
end Go.Proofs.Ytddhdfbhjgaffaa
