/-
  Contracts of the document's wheel: New, Copy, Find, Cancel.
-/
import Derived.Test.YtalojeblemhihaaRefB
namespace Go.Proofs.Ytalojeblemhihaa
open Go.RowKit
set_option linter.unusedVariables false

theorem OutT.at0 {w : World} {base n c : Nat} {A : Option Addr} {R : List Tm} (h : OutT w base A n c R) {i : Nat} (hi : i < n) : ∃ x, A = some ⟨x, 0, none⟩ ∧ base ≤ x ∧ x < w.heap.size ∧ w.cell? ⟨x, i * 2, none⟩ = some (.int .i64 (R.getD i (0, 0)).1) ∧ w.cell? ⟨x, i * 2 + 1, none⟩ = some (.int .u64 ((R.getD i (0, 0)).2 : Nat)) := by
  rcases h.form with ⟨_, e, _⟩ | ⟨x, cur, rfl, hb, hh, _⟩
  · omega
  obtain ⟨b, o, e, hlt, h1, h2⟩ := h.rd.at_ i hi
  injection e with e
  injection e with e1 e2
  subst e1 e2
  rw [Nat.zero_add] at h1 h2
  exact ⟨_, rfl, hb, hlt, h1, h2⟩
/-- Where a timer is. -/
def fndT (t : Int) (R : List Tm) : Int := match R.findIdx? (fun x => x.1 == t) with | some i => (i : Int) | none => -1
theorem getD_memT {R : List Tm} {k : Nat} (hk : k < R.length) : R.getD k (0, 0) ∈ R := by simp [List.getD, List.getElem?_eq_getElem hk]
theorem fndT_at {t : Int} {R : List Tm} {k : Nat} (hk : k < R.length) (h : (R.getD k (0, 0)).1 = t) (hno : ∀ j, j < k → (R.getD j (0, 0)).1 ≠ t) : fndT t R = (k : Int) := by
  unfold fndT
  have : R.findIdx? (fun x => x.1 == t) = some k := by
    rw [List.findIdx?_eq_some_iff_getElem]
    refine ⟨hk, ?_, fun j hj => ?_⟩
    · have : R[k] = R.getD k (0, 0) := by simp [List.getD, List.getElem?_eq_getElem hk]
      rw [this]
      simpa using h
    · have : R[j]'(by omega) = R.getD j (0, 0) := by simp [List.getD, List.getElem?_eq_getElem (show j < R.length by omega)]
      rw [this]
      simpa using hno j hj
  rw [this]
theorem fndT_none {t : Int} {R : List Tm} (hno : ∀ j, j < R.length → (R.getD j (0, 0)).1 ≠ t) : fndT t R = -1 := by
  unfold fndT
  have : R.findIdx? (fun x => x.1 == t) = none := by
    rw [List.findIdx?_eq_none_iff]
    intro x hx
    obtain ⟨j, hj, rfl⟩ := List.getElem_of_mem hx
    have := hno j hj
    have e : R[j] = R.getD j (0, 0) := by simp [List.getD, List.getElem?_eq_getElem hj]
    rw [e]
    simpa using this
  rw [this]
theorem fndT_cases (t : Int) (R : List Tm) : (hasT t R = false ∧ fndT t R = -1) ∨ ∃ k, k < R.length ∧ fndT t R = (k : Int) ∧ (R.getD k (0, 0)).1 = t ∧ hasT t R = true := by
  cases e : R.findIdx? (fun x => x.1 == t) with
  | none =>
    refine .inl ⟨hasT_false.2 fun d hd => ?_, by unfold fndT; rw [e]⟩
    have := List.findIdx?_eq_none_iff.1 e _ hd
    simp at this
  | some k =>
    obtain ⟨hk, h1, _⟩ := List.findIdx?_eq_some_iff_getElem.1 e
    have h2 : R[k] = R.getD k (0, 0) := by simp [List.getD, List.getElem?_eq_getElem hk]
    rw [h2] at h1
    have h3 : (R.getD k (0, 0)).1 = t := by simpa using h1
    exact .inr ⟨k, hk, by unfold fndT; rw [e], h3, hasT_iff.2 ⟨(R.getD k (0, 0)).2, by rw [← h3]; exact getD_memT hk⟩⟩
theorem delT_at {t : Int} {R : List Tm} (hO : Ok R) {k : Nat} (hk : k < R.length) (h : (R.getD k (0, 0)).1 = t) : R.take k ++ R.drop (k + 1) = delT t R := by
  have e : R = R.take k ++ R.getD k (0, 0) :: R.drop (k + 1) := by
    conv => lhs; rw [← List.take_append_drop k R]
    congr 1
    rw [List.drop_eq_getElem_cons hk]
    simp [List.getD, List.getElem?_eq_getElem hk]
  have hp := hO.apart
  rw [e] at hp
  obtain ⟨_, h2, h3⟩ := List.pairwise_append.1 hp
  obtain ⟨h4, _⟩ := List.pairwise_cons.1 h2
  conv => rhs; rw [e]
  unfold delT
  rw [List.filter_append, List.filter_cons]
  have e1 : (R.take k).filter (fun x => x.1 != t) = R.take k := List.filter_eq_self.2 fun x hx => by
    have := h3 x hx _ (List.mem_cons_self ..)
    rw [h] at this
    simpa using this
  have e2 : (R.drop (k + 1)).filter (fun x => x.1 != t) = R.drop (k + 1) := List.filter_eq_self.2 fun x hx => by
    have := h4 x hx
    rw [h] at this
    have : x.1 ≠ t := fun e => this e.symm
    simpa using this
  have e3 : ((R.getD k (0, 0)).1 != t) = false := by rw [h]; simp
  rw [e1, e2, e3]
  simp
section
variable {w : World} {q base now : Nat} {R : List Tm}
theorem rnewBig_any (n : Nat) (hn : 4611686018427387904 < n) (w : World) : Calls Try.prog 10 #[.int .u64 n] w fun e w' => e = .returned (.tuple #[.pointer none, .int .i64 11]) ∧ w' = w := by
  have hni : (4611686018427387904 : Int) < (n : Int) := by omega
  go_enter Try.func10, Try.ntmps10
  go_wp2
  go_ret2
  exact ⟨rfl, rfl⟩
theorem zero69 (w : World) : (zeroValue 69).run Try.prog w = .ok (.agg #[.int .u64 0, .slice none 0 0]) w := by kernel_rfl
set_option maxHeartbeats 400000 in
theorem rnew_any (n : Nat) (hn : n ≤ 4611686018427387904) (w : World) : Calls Try.prog 10 #[.int .u64 n] w fun e w' => e = .returned (.tuple #[ptr w.heap.size, .int .i64 0]) ∧ RwAt w' w.heap.size w.heap.size n [] ∧ Below w.heap.size w w' := by
  have hni : ¬ (4611686018427387904 : Int) < (n : Int) := by omega
  have hz := zero69
  have hN : RwAt (w.alloc (.cells #[.int .u64 (n : Nat), .slice none 0 0] 69)) w.heap.size w.heap.size n [] := ⟨none, 0, 0, heap_alloc_new w _, OutT.nil, Nat.le_refl _, hn, Ok.nil, by simp⟩
  have hb := alloc_below w (.cells #[.int .u64 (n : Nat), .slice none 0 0] 69)
  go_enter Try.func10, Try.ntmps10
  go_wp2
  go_ret2
  exact ⟨rfl, hN, hb⟩
set_option maxHeartbeats 1000000 in
theorem find_any (h : RwAt w q base now R) (t : Int) : Calls Try.prog 16 #[ptr q, .int .i64 t] w fun e w' => e = .returned (.int .i64 (fndT t R)) ∧ w' = w := by
  obtain ⟨A, n, c, h⟩ := h
  have c1 := h.c1
  have hl := h.rows.len
  have hle := h.len
  have hn : n ≤ 16384 := by omega
  go_enter Try.func16, Try.ntmps16
  go_wp2
  go_loopw [5] (fun i wr => ∃ k : Nat, k ≤ n ∧ i = .int .i64 k ∧ wr = w ∧ ∀ j, j < k → (R.getD j (0, 0)).1 ≠ t) (fun i _ => n - (intOf i).toNat)
  case atStart => exact ⟨0, Nat.zero_le _, rfl, by first | rfl | trivial, fun j hj => absurd hj (by omega)⟩
  case round =>
    obtain ⟨k, hk, rfl, rfl, hno⟩ := hrel
    by_cases hkn : k < n
    · have hki : (k : Int) < (n : Int) := by omega
      obtain ⟨x, rfl, hxb, hxl, x0, x1⟩ := h.rows.at0 hkn
      by_cases he : (R.getD k (0, 0)).1 = t
      · have G : Hid (fndT t R = (k : Int)) := Lib.hid (fndT_at (by omega) he hno)
        rw [he] at x0
        clear h hno hl x1 he
        go_wp2
        go_ret
        exact ⟨by rw [G.out]; rfl, rfl⟩
      · have hno' : ∀ j, j < k + 1 → (R.getD j (0, 0)).1 ≠ t := fun j hj => by
          by_cases e : j = k
          · rw [e]; exact he
          · exact hno j (by omega)
        have he' : ((R.getD k (0, 0)).1 == t) = false := by simpa using he
        obtain ⟨z, hz⟩ : ∃ z, (R.getD k (0, 0)).1 = z := ⟨_, rfl⟩
        rw [hz] at x0 he'
        clear hz hno hl x1 he
        go_wp2
        go_roundw
        case rel => exact ⟨k + 1, by omega, by go_num, by first | rfl | trivial, hno'⟩
        case measure => simp [intOf]; omega
    · obtain rfl : k = n := by omega
      rw [← hl] at hno
      have G : Hid (fndT t R = -1) := Lib.hid (fndT_none hno)
      clear h hno hl
      go_wp2
      go_ret
      exact ⟨by rw [G.out]; rfl, rfl⟩
set_option maxRecDepth 100000 in
set_option maxHeartbeats 2000000 in
theorem rcopy_any (h : RwAt w q base now R) : Calls Try.prog 15 #[ptr q] w fun e w' => ∃ q', e = .returned (ptr q') ∧ RwAt w' q' w.heap.size now R ∧ w.heap.size ≤ q' ∧ Below w.heap.size w w' := by
  obtain ⟨A, n, c, h⟩ := h
  have hz := zero69
  have hlen := h.rows.len
  have hle := h.len
  have h0 := h.new (below_drew w)
  have b0 := below_drew w
  have hdz : w.drew.heap.size = w.heap.size := rfl
  go_enter Try.func15, Try.ntmps15
  go_wp2
  refine wp_region_held_drew (S := fun W => W.cell? ⟨q, 0, none⟩ = some (.int .u64 (now : Nat)) ∧ W.cell? ⟨q, 1, none⟩ = some (.slice A n c)) (by kernel_rfl) ⟨h0.c0, h0.c1⟩ (fun hHeld => ?_)
  change wpAnyH _ _ _ _ _ _ _ _ (World.drew _)
  clear h
  generalize World.drew w = W0 at *
  have ba := alloc_below W0 (.cells #[] 71)
  have h1 := h0.new ba
  have oL := OutT.lit0 W0 w.heap.size (by omega)
  rw [hdz] at oL
  have hHeld1 : (W0.alloc (.cells #[] 71)).cell? ⟨q, 0, none⟩ = some (.int .u64 (now : Nat)) ∧ (W0.alloc (.cells #[] 71)).cell? ⟨q, 1, none⟩ = some (.slice A n c) := ⟨h1.c0, h1.c1⟩
  have rd := h1.rows.rd
  have b1 : Below w.heap.size w (W0.alloc (.cells #[] 71)) := b0.trans (ba.mono (by omega))
  refine wpAnyH_at (i := 0) (some 3) (v := ?v0z1) rfl rfl (by kernel_rfl) (by kernel_rfl) (by kernel_rfl) (fun _ _ _ h => h) (Or.inl ⟨by rfl, ?y0z1⟩) (by assumption) ?r0z1
  case y0z1 =>
    intro w9 hSw
    obtain ⟨c0, c1⟩ := hSw
    go_simp
    all_goals with_reducible rfl
  simp only [Act.put, List.setIfInBounds_toArray, List.set_cons_zero, List.set_cons_succ]
  refine wpAnyH_at (i := 1) (some 4) (v := ?v1z2) rfl rfl (by kernel_rfl) (by kernel_rfl) (by kernel_rfl) (fun _ _ _ h => h) (Or.inl ⟨by rfl, ?y1z2⟩) (by assumption) ?r1z2
  case y1z2 =>
    intro w9 hSw
    obtain ⟨c0, c1⟩ := hSw
    go_simp
    all_goals with_reducible rfl
  simp only [Act.put, List.setIfInBounds_toArray, List.set_cons_zero, List.set_cons_succ]
  refine wpAnyH_at (i := 2) (some 5) (v := ?v2z3) rfl rfl (by kernel_rfl) (by kernel_rfl) (by kernel_rfl) (fun _ _ _ h => h) (Or.inl ⟨by rfl, ?y2z3⟩) (by assumption) ?r2z3
  case y2z3 =>
    intro w9 hSw
    obtain ⟨c0, c1⟩ := hSw
    go_simp
    all_goals with_reducible rfl
  simp only [Act.put, List.setIfInBounds_toArray, List.set_cons_zero, List.set_cons_succ]
  refine wpAnyH_at (i := 3) (some 6) (v := ?v3z4) rfl rfl (by kernel_rfl) (by kernel_rfl) (by kernel_rfl) (fun _ _ _ h => h) (Or.inl ⟨by rfl, ?y3z4⟩) (by assumption) ?r3z4
  case y3z4 =>
    intro w9 hSw
    obtain ⟨c0, c1⟩ := hSw
    go_simp
    all_goals with_reducible rfl
  simp only [Act.put, List.setIfInBounds_toArray, List.set_cons_zero, List.set_cons_succ]
  refine wpAnyH_at (i := 5) (some 8) (v := ?v5z5) rfl rfl (by kernel_rfl) (by kernel_rfl) (by kernel_rfl) (fun _ _ _ h => h) (Or.inl ⟨by rfl, ?y5z5⟩) (by assumption) ?r5z5
  case y5z5 =>
    intro w9 hSw
    obtain ⟨c0, c1⟩ := hSw
    go_simp
    all_goals with_reducible rfl
  simp only [Act.put, List.setIfInBounds_toArray, List.set_cons_zero, List.set_cons_succ]
  refine wpAnyH_at (i := 6) (some 9) (v := ?v6z6) rfl rfl (by kernel_rfl) (by kernel_rfl) (by kernel_rfl) (fun _ _ _ h => h) (Or.inl ⟨by rfl, ?y6z6⟩) (by assumption) ?r6z6
  case y6z6 =>
    intro w9 hSw
    obtain ⟨c0, c1⟩ := hSw
    go_simp
    all_goals with_reducible rfl
  simp only [Act.put, List.setIfInBounds_toArray, List.set_cons_zero, List.set_cons_succ]
  refine wpAnyH_at (i := 7) (some 10) (v := ?v7z7) rfl rfl (by kernel_rfl) (by kernel_rfl) (by kernel_rfl) (fun _ _ _ h => h) (Or.inl ⟨by rfl, ?y7z7⟩) (by assumption) ?r7z7
  case y7z7 =>
    intro w9 hSw
    obtain ⟨c0, c1⟩ := hSw
    go_simp
    all_goals with_reducible rfl
  simp only [Act.put, List.setIfInBounds_toArray, List.set_cons_zero, List.set_cons_succ]
  refine wpAnyH_at (i := 8) (some 11) (v := ?v8z8) rfl rfl (by kernel_rfl) (by kernel_rfl) (by kernel_rfl) (fun _ _ _ h => h) (Or.inl ⟨by rfl, ?y8z8⟩) (by assumption) ?r8z8
  case y8z8 =>
    intro w9 hSw
    obtain ⟨c0, c1⟩ := hSw
    go_simp
    all_goals with_reducible rfl
  simp only [Act.put, List.setIfInBounds_toArray, List.set_cons_zero, List.set_cons_succ]
  refine wpAnyH_one (i := 4) (by kernel_rfl) rfl ?_
  go_wp2
  have hHeld := hHeld1
  refine ⟨hHeld, ?_⟩
  try simp only [Act.put, List.setIfInBounds_toArray, List.set_cons_zero, List.set_cons_succ]
  refine wpAnyH_one (i := 9) (by kernel_rfl) rfl ?_
  refine wpList_appT (some 12) rfl rfl (.tmp 7) (.tmp 11) rfl w.heap.size (some ⟨w.heap.size, 0, none⟩) 0 0 [] rfl oL A n c _ R rfl rd (by omega) b1.size ?_
  intro A' n' c' w2 o2 g2
  have b2 := b1.grown g2 b1.size (fun g hg => oL.own_ge g hg)
  have g2' : ∀ k, k < W0.heap.size → w2.heap[k]? = (W0.alloc (.cells #[] 71)).heap[k]? := fun k hk => g2.block k (by have := ba.size; omega) (by simp [Value.ownBlock]; omega)
  have hHeld2 : w2.cell? ⟨q, 0, none⟩ = some (.int .u64 (now : Nat)) ∧ w2.cell? ⟨q, 1, none⟩ = some (.slice A n c) := by
    have e := g2' q h0.lt
    exact ⟨(World.cell?_of_block (a := ⟨q, 0, none⟩) e).trans hHeld1.1, (World.cell?_of_block (a := ⟨q, 1, none⟩) e).trans hHeld1.2⟩
  rw [List.nil_append] at o2
  clear hHeld1 g2 g2' rd oL b1 ba h1
  go_wp2
  have hHeld := hHeld2
  refine ⟨hHeld, ?_⟩
  try simp only [Act.put, List.setIfInBounds_toArray, List.set_cons_zero, List.set_cons_succ]
  refine wpAnyH_at (i := 10) (some 13) (v := ?v10z9) rfl rfl (by kernel_rfl) (by kernel_rfl) (by kernel_rfl) (fun _ _ _ h => h) (Or.inl ⟨by rfl, ?y10z9⟩) (by assumption) ?r10z9
  case y10z9 =>
    intro w9 hSw
    clear hSw
    go_simp
    all_goals with_reducible rfl
  simp only [Act.put, List.setIfInBounds_toArray, List.set_cons_zero, List.set_cons_succ]
  have b3 := alloc_below w2 (.cells #[.int .u64 (now : Nat), .slice A' n' c'] 69)
  have hN : RwAt (w2.alloc (.cells #[.int .u64 (now : Nat), .slice A' n' c'] 69)) w2.heap.size w.heap.size now R := ⟨A', n', c', heap_alloc_new w2 _, o2.below b3 (Nat.le_refl _), b2.size, h0.le, h0.ok, hle⟩
  have b4 := b2.trans (b3.mono b2.size)
  have hs := b2.size
  have hHeld3 : (w2.alloc (.cells #[.int .u64 (now : Nat), .slice A' n' c'] 69)).cell? ⟨q, 0, none⟩ = some (.int .u64 (now : Nat)) ∧ (w2.alloc (.cells #[.int .u64 (now : Nat), .slice A' n' c'] 69)).cell? ⟨q, 1, none⟩ = some (.slice A n c) := by
    have hq := World.block_lt_of_cell? _ _ hHeld2.1
    exact ⟨(b3.cell (p := ⟨q, 0, none⟩) hq).trans hHeld2.1, (b3.cell (p := ⟨q, 1, none⟩) hq).trans hHeld2.2⟩
  clear b2 b3 o2 hHeld hHeld2
  refine wpAnyH_one (i := 11) (by kernel_rfl) rfl ?_
  go_wp2
  have hHeld := hHeld3
  refine ⟨hHeld, ?_⟩
  try simp only [Act.put, List.setIfInBounds_toArray, List.set_cons_zero, List.set_cons_succ]
  refine wpAnyH_at (i := 12) (some 2) (v := ?v12z10) rfl rfl (by kernel_rfl) (by kernel_rfl) (by kernel_rfl) (fun _ _ _ h => h) (Or.inl ⟨by rfl, ?y12z10⟩) (by assumption) ?r12z10
  case y12z10 =>
    intro w9 hSw
    clear hSw
    go_simp
    all_goals with_reducible rfl
  simp only [Act.put, List.setIfInBounds_toArray, List.set_cons_zero, List.set_cons_succ]
  refine wpAnyH_done (by kernel_rfl) ?_ _
  clear hHeld hHeld3
  go_wp2
  go_ret
  exact ⟨_, rfl, hN, hs, b4⟩
end
end Go.Proofs.Ytalojeblemhihaa
