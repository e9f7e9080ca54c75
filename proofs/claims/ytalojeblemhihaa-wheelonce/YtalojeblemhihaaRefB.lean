/-
  Rows of timers in memory, and the document's wheel.
-/
import Derived.Test.YtalojeblemhihaaGoW
namespace Go.Proofs.Ytalojeblemhihaa
open Go.RowKit
set_option linter.unusedVariables false

def cellsT (R : List Tm) : List Value := R.flatMap fun x => [.int .i64 x.1, .int .u64 (x.2 : Nat)]
theorem cellsT_len : ∀ R : List Tm, (cellsT R).length = R.length * 2
  | [] => rfl
  | x :: r => by
    have := cellsT_len r
    simp [cellsT] at this ⊢
    omega
theorem cellsT_app (R S : List Tm) : cellsT (R ++ S) = cellsT R ++ cellsT S := by simp [cellsT]
theorem cellsT_one (R : List Tm) : ∀ u ∈ cellsT R, u.oneCell' = true := by
  intro u hu
  obtain ⟨x, _, h⟩ := List.mem_flatMap.1 hu
  simp at h
  rcases h with rfl | rfl <;> rfl
theorem cellsT_get : ∀ (R : List Tm) (i : Nat), i < R.length → (cellsT R)[i * 2]? = some (.int .i64 (R.getD i (0, 0)).1) ∧ (cellsT R)[i * 2 + 1]? = some (.int .u64 ((R.getD i (0, 0)).2 : Nat))
  | x :: r, 0, _ => by simp [cellsT]
  | x :: r, i + 1, h => by
    have := cellsT_get r i (by simp at h; omega)
    have e : cellsT (x :: r) = .int .i64 x.1 :: .int .u64 (x.2 : Nat) :: cellsT r := by simp [cellsT]
    rw [e, show (i + 1) * 2 = i * 2 + 1 + 1 by omega]
    simpa using this

/-- A slice that reads as timers. -/
structure RdT (w : World) (B : Nat) (A : Option Addr) (n c : Nat) (R : List Tm) : Prop where
  len : R.length = n
  cap : n ≤ c
  max : c ≤ maxLen
  nil0 : A = none → c = 0
  at_ : ∀ i, i < n → ∃ b o, A = some ⟨b, o, none⟩ ∧ b < B ∧ w.cell? ⟨b, o + i * 2, none⟩ = some (.int .i64 (R.getD i (0, 0)).1) ∧ w.cell? ⟨b, o + (i * 2 + 1), none⟩ = some (.int .u64 ((R.getD i (0, 0)).2 : Nat))
/-- A row of timers of one's own. -/
structure OutT (w : World) (base : Nat) (A : Option Addr) (n c : Nat) (R : List Tm) : Prop where
  own : w.ownsRow base 71 2 (.slice A n c) n (cellsT R)
  len : R.length = n

section
variable {w w' : World} {base B : Nat} {A : Option Addr} {n c : Nat} {R : List Tm}
theorem RdT.below (h : RdT w B A n c R) (hb : Below B w w') : RdT w' B A n c R :=
  ⟨h.len, h.cap, h.max, h.nil0, fun i hi => by
    obtain ⟨b, o, e, hl, h1, h2⟩ := h.at_ i hi
    exact ⟨b, o, e, hl, (hb.cell (p := ⟨b, o + i * 2, none⟩) hl).trans h1, (hb.cell (p := ⟨b, o + (i * 2 + 1), none⟩) hl).trans h2⟩⟩
theorem RdT.more {B' : Nat} (h : RdT w B A n c R) (hB : B ≤ B') : RdT w B' A n c R := ⟨h.len, h.cap, h.max, h.nil0, fun i hi => by
  obtain ⟨b, o, e, hl, r⟩ := h.at_ i hi
  exact ⟨b, o, e, by omega, r⟩⟩
theorem OutT.form (h : OutT w base A n c R) : (A = none ∧ n = 0 ∧ c = 0) ∨ ∃ g cur, A = some ⟨g, 0, none⟩ ∧ base ≤ g ∧ w.heap[g]? = some (.cells cur 71 (0, 0)) ∧ n ≤ c ∧ c ≤ maxLen ∧ cur.size = c * 2 ∧ cur.toList.take (n * 2) = cellsT R := by
  rcases h.own.2 with ⟨hv, hn⟩ | ⟨g, cap, cur, hv, hb, hh, h1, h2, h3, h4⟩
  · injection hv with e1 e2 e3
    exact .inl ⟨e1, e2, e3⟩
  · injection hv with e1 e2 e3
    subst e3
    exact .inr ⟨g, cur, e1, hb, hh, h1, h2, h3, h4⟩
theorem OutT.rd (h : OutT w base A n c R) : RdT w w.heap.size A n c R := by
  have hl := h.len
  rcases h.form with ⟨rfl, rfl, rfl⟩ | ⟨g, cur, rfl, hb, hh, h1, h2, h3, h4⟩
  · exact ⟨hl, Nat.le_refl _, by unfold maxLen; omega, fun _ => rfl, fun i hi => absurd hi (by omega)⟩
  · refine ⟨hl, h1, h2, fun e => (by cases e), fun i hi => ⟨g, 0, rfl, (Array.getElem?_eq_some_iff.1 hh).1, ?_, ?_⟩⟩
    · have := (cellsT_get R i (by omega)).1
      rw [← h4, List.getElem?_take_of_lt (by omega), Array.getElem?_toList] at this
      rw [Nat.zero_add, cell_of_row w g _ _ 71 (0, 0) hh, this]
    · have := (cellsT_get R i (by omega)).2
      rw [← h4, List.getElem?_take_of_lt (by omega), Array.getElem?_toList] at this
      rw [Nat.zero_add, cell_of_row w g _ _ 71 (0, 0) hh, this]
theorem OutT.nil : OutT w base none 0 0 [] := ⟨World.ownsRow_nil _ _ _ _, rfl⟩
theorem OutT.lit0 (w : World) (base : Nat) (hb : base ≤ w.heap.size) : OutT (w.alloc (.cells #[] 71)) base (some ⟨w.heap.size, 0, none⟩) 0 0 [] :=
  ⟨World.ownsRow_made w #[] 0 hb (by unfold maxLen; omega) rfl, rfl⟩
theorem OutT.block (h : OutT w base A n c R) : ∀ ad, A = some ad → base ≤ ad.block ∧ ∃ cur, w.heap[ad.block]? = some (.cells cur 71 (0, 0)) := by
  intro ad hA
  rcases h.form with ⟨e1, _⟩ | ⟨g, cur, e1, hb, hh, _⟩
  · rw [e1] at hA; cases hA
  · rw [e1] at hA
    injection hA with hA
    subst hA
    exact ⟨hb, cur, hh⟩
theorem OutT.kept {S : Nat → Prop} (h : OutT w base A n c R) (hk : Kept S w w') (hs : ∀ ad, A = some ad → ¬ S ad.block) : OutT w' base A n c R := by
  refine ⟨⟨h.own.1, ?_⟩, h.len⟩
  rcases h.own.2 with hv | ⟨g, cap, cur, hv, hbg, hh, r⟩
  · exact .inl hv
  · refine .inr ⟨g, cap, cur, hv, hbg, ?_, r⟩
    have hlt := (Array.getElem?_eq_some_iff.1 hh).1
    injection hv with e1
    rw [hk.block g hlt (hs _ e1)]
    exact hh
theorem OutT.below (h : OutT w base A n c R) (hb : Below B w w') (hB : w.heap.size ≤ B) : OutT w' base A n c R :=
  h.kept (S := fun k => B ≤ k) ⟨hb.os, hb.tape, hb.output, hb.size, fun k hk hs => hb.block k (by omega)⟩ (fun ad e => by
    obtain ⟨_, cur, hh⟩ := h.block ad e
    have := (Array.getElem?_eq_some_iff.1 hh).1
    omega)
theorem OutT.lower {base' : Nat} (h : OutT w base A n c R) (hb : base' ≤ base) : OutT w base' A n c R := by
  refine ⟨⟨h.own.1, ?_⟩, h.len⟩
  rcases h.own.2 with hv | ⟨g, cap, cur, hv, hbg, r⟩
  · exact .inl hv
  · exact .inr ⟨g, cap, cur, hv, by omega, r⟩
theorem OutT.own_ge (h : OutT w base A n c R) : ∀ g, (Value.slice A n c).ownBlock = some g → base ≤ g := fun g hg => (h.own.lt g hg).1
theorem info71 : (Try.prog.info? 71).map (fun i => (i.zero, i.size, i.bytes)) = some (some (.agg #[.int .i64 0, .int .u64 0]), 2, 16) := by kernel_rfl
theorem RdT.cells {ad : Addr} (h : RdT w B (some ad) n c R) : ∀ j u, (cellsT R)[j]? = some u → w.cell? (ad.add j) = some u := by
  intro j u hu
  have hl := h.len
  have hj := (List.getElem?_eq_some_iff.1 hu).1
  rw [cellsT_len] at hj
  obtain ⟨b, o, e, _, h1, h2⟩ := h.at_ (j / 2) (by omega)
  injection e with e
  subst e
  obtain ⟨g1, g2⟩ := cellsT_get R (j / 2) (by omega)
  rw [Addr.add_mid]
  rcases (show j = j / 2 * 2 ∨ j = j / 2 * 2 + 1 by omega) with e | e
  · rw [← e] at h1 g1
    rw [h1, ← g1, hu]
  · rw [← e] at h2 g2
    rw [h2, ← g2, hu]
/-- 'append(own row of timers, any...)', as a step of the walk. -/
theorem wpList_appT {ops : Array Oper} {rest : List Oper} {o : Oper} {a : Act} {Q : Exit → Act → World → Prop} (dd : Option Tmp) (hgd : o.guard = none) (hdd : o.dst = dd) (s x : Operand)
    (ho : o.op = .call { callee := .builtin .append, args := #[s, x], argTypes := #[67, 67] }) (base : Nat)
    (A0 : Option Addr) (n0 c0 : Nat) (R : List Tm) (hs : a.eval s = .slice A0 n0 c0) (hown : OutT w base A0 n0 c0 R)
    (A : Option Addr) (m c B : Nat) (S : List Tm) (hx : a.eval x = .slice A m c) (hr : RdT w B A m c S) (hsum : n0 + m ≤ 1000000) (hbase : base ≤ w.heap.size)
    (h : ∀ A' n' c' w', OutT w' base A' n' c' (R ++ S) → w.grownBy w' (Value.slice A0 n0 c0).ownBlock → wpList Try.prog ops Q rest (a.put dd (.slice A' n' c')) w') : wpList Try.prog ops Q (o :: rest) a w := by
  subst hdd
  obtain ⟨i, hi, hz⟩ := Option.map_eq_some_iff.1 info71
  simp only [Prod.mk.injEq] at hz
  have hl := hr.len
  cases A with
  | none =>
    have hc0 := hr.nil0 rfl
    have hmc := hr.cap
    obtain rfl : c = 0 := hc0
    obtain rfl : m = 0 := by omega
    obtain rfl : S = [] := List.eq_nil_of_length_eq_zero hl
    have hrun := run_append_owned_none (P := Try.prog) (w := w) base 67 o.type 71 i 2 Try.underlying67 hi _ n0 _ hown.own
    refine wpList_plain hgd fun _ hK => ?_
    unfold Oper.wp
    simp [execOp, ho, resolve, invoke, builtin, hs, hx, hrun, Result.andThen]
    exact hK _ _ (h A0 n0 c0 w (by simpa using hown) ⟨rfl, rfl, rfl, Nat.le_refl _, fun _ _ _ => rfl⟩)
  | some ad =>
    refine wpList_append_own w hgd s x 67 ho base 71 i (.agg #[.int .i64 0, .int .u64 0]) 2 16 Try.underlying67 hi hz.1 hz.2.1 hz.2.2 rfl (by decide) _ n0 _ hs hown.own ad m c (cellsT S) hx (by rw [cellsT_len, hl]) hr.cells (cellsT_one S) (by unfold maxLen; omega) (by omega) hbase ?_
    intro v' w' hown' hg _
    have hex : ∃ A' n' c', v' = .slice A' n' c' ∧ n' = n0 + m := by
      rcases hown'.2 with ⟨hv, hn⟩ | ⟨g, cap, cur, hv, _⟩
      · exact ⟨_, _, _, hv, hn.symm⟩
      · exact ⟨_, _, _, hv, rfl⟩
    obtain ⟨A', n', c', rfl, rfl⟩ := hex
    exact h A' _ c' w' ⟨by rw [cellsT_app]; exact hown', by rw [List.length_append, hown.len, hl]⟩ hg
/-- A timer that has just been laid as a row. -/
theorem RdT.lit (w : World) (t : Int) (d : Nat) : RdT (w.alloc (.cells #[.int .i64 t, .int .u64 (d : Nat)] 71)) (w.heap.size + 1) (some ⟨w.heap.size, 0, none⟩) 1 1 [(t, d)] := by
  refine ⟨rfl, Nat.le_refl _, by unfold maxLen; omega, fun e => (by cases e), fun i hi => ⟨w.heap.size, 0, rfl, by omega, ?_, ?_⟩⟩
  · obtain rfl : i = 0 := by omega
    rw [cell_of_row _ _ _ _ _ _ (heap_alloc_new w _)]
    rfl
  · obtain rfl : i = 0 := by omega
    rw [cell_of_row _ _ _ _ _ _ (heap_alloc_new w _)]
    rfl
end

def cutT (A : Option Addr) (c q : Nat) : Option Addr := if c = q then A else A.map (·.add (q * 2))
theorem cutT_eq {A : Option Addr} {c q : Nat} (h : c = q) : cutT A c q = A := by unfold cutT; rw [if_pos h]
theorem cutT_ne {A : Option Addr} {c q : Nat} (h : ¬ c = q) : cutT A c q = A.map (·.add (q * 2)) := by unfold cutT; rw [if_neg h]
section
variable {w w' : World} {base B : Nat} {A : Option Addr} {n c : Nat} {R : List Tm}
theorem RdT.head (h : RdT w B A n c R) {t : Nat} (ht : t ≤ n) : RdT w B A t c (R.take t) := by
  have hl := h.len
  have hc := h.cap
  refine ⟨by simp; omega, by omega, h.max, h.nil0, fun i hi => ?_⟩
  obtain ⟨b, o, e, hb, h1, h2⟩ := h.at_ i (by omega)
  have : (R.take t).getD i (0, 0) = R.getD i (0, 0) := by simp [List.getD, hi]
  exact ⟨b, o, e, hb, by rw [this]; exact h1, by rw [this]; exact h2⟩
theorem RdT.tail (h : RdT w B A n c R) {f : Nat} (hf : f ≤ n) : RdT w B (cutT A c f) (n - f) (c - f) (R.drop f) := by
  have hl := h.len
  have hc := h.cap
  refine ⟨by simp; omega, by omega, by have := h.max; unfold maxLen at *; omega, fun e => ?_, fun i hi => ?_⟩
  · by_cases hcf : c = f
    · omega
    · rw [cutT_ne hcf] at e
      have := h.nil0 (by simpa using e)
      omega
  · obtain ⟨b, o, e, hb, h1, h2⟩ := h.at_ (f + i) (by omega)
    have e2 : (R.drop f).getD i (0, 0) = R.getD (f + i) (0, 0) := by simp [List.getD]
    refine ⟨b, o + f * 2, ?_, hb, ?_, ?_⟩
    · rw [cutT_ne (by omega), e]
      simp only [Option.map_some, Addr.add_mid]
    · rw [e2, ← h1]
      congr 2
      omega
    · rw [e2, ← h2]
      congr 2
      omega
end

/-- The document's wheel. -/
structure RwB (w : World) (q base now : Nat) (R : List Tm) (A : Option Addr) (n c : Nat) : Prop where
  blk : w.heap[q]? = some (.cells #[.int .u64 (now : Nat), .slice A n c] 69 (0, 0))
  rows : OutT w base A n c R
  low : base ≤ q
  le : now ≤ 4611686018427387904
  ok : Ok R
  len : R.length ≤ 16384
def RwAt (w : World) (q base now : Nat) (R : List Tm) : Prop := ∃ A n c, RwB w q base now R A n c
section
variable {w w' : World} {q base now : Nat} {R R' : List Tm} {A A' : Option Addr} {n n' c c' : Nat} {S : Nat → Prop}
theorem RwB.c0 (h : RwB w q base now R A n c) : w.cell? ⟨q, 0, none⟩ = some (.int .u64 (now : Nat)) := by rw [cell_of_row _ _ _ _ _ _ h.blk]; rfl
theorem RwB.c1 (h : RwB w q base now R A n c) : w.cell? ⟨q, 1, none⟩ = some (.slice A n c) := by rw [cell_of_row _ _ _ _ _ _ h.blk]; rfl
theorem RwB.fr (h : RwB w q base now R A n c) (k : Nat) : w.frozen? ⟨q, k, none⟩ = false := by simp [World.frozen?, h.blk]
theorem RwB.lt (h : RwB w q base now R A n c) : q < w.heap.size := (Array.getElem?_eq_some_iff.1 h.blk).1
theorem RwB.kept (h : RwB w q base now R A n c) (hk : Kept S w w') (hs : ∀ k, base ≤ k → k < w.heap.size → ¬ S k) : RwB w' q base now R A n c :=
  ⟨(hk.block q h.lt (hs q h.low h.lt)).trans h.blk, h.rows.kept hk (fun ad e => by
    obtain ⟨h1, cur, h2⟩ := h.rows.block ad e
    exact hs _ h1 (Array.getElem?_eq_some_iff.1 h2).1), h.low, h.le, h.ok, h.len⟩
theorem RwB.new (h : RwB w q base now R A n c) (hb : Below w.heap.size w w') : RwB w' q base now R A n c := h.kept (S := fun _ => False) (Kept.of_below hb) (by simp)
theorem RwAt.kept (h : RwAt w q base now R) (hk : Kept S w w') (hs : ∀ k, base ≤ k → k < w.heap.size → ¬ S k) : RwAt w' q base now R := let ⟨A, n, c, h⟩ := h; ⟨A, n, c, h.kept hk hs⟩
theorem RwAt.new (h : RwAt w q base now R) (hb : Below w.heap.size w w') : RwAt w' q base now R := let ⟨A, n, c, h⟩ := h; ⟨A, n, c, h.new hb⟩
theorem RwB.rowsNe (h : RwB w q base now R A n c) : ∀ ad, A = some ad → ad.block ≠ q := fun ad e e' => by
  obtain ⟨_, cur, h2⟩ := h.rows.block ad e
  rw [e', h.blk] at h2
  injection h2 with h2
  injection h2 with _ h2
  cases h2
/-- The rows are laid anew. -/
theorem RwB.setRows (h : RwB w q base now R A n c) (hr : OutT w base A' n' c' R') (ho : Ok R') (hl : R'.length ≤ 16384) : RwB (w.setCell ⟨q, 1, none⟩ (.slice A' n' c')) q base now R' A' n' c' := by
  have hne : ∀ ad, A' = some ad → ad.block ≠ q := fun ad e e' => by
    obtain ⟨_, cur, h2⟩ := hr.block ad e
    rw [e', h.blk] at h2
    injection h2 with h2
    injection h2 with _ h2
    cases h2
  exact ⟨by simp [World.setCell, Array.getElem?_modify, h.blk], hr.kept (S := (· = q)) (Kept.setCell w _ _ rfl) hne, h.low, h.le, ho, hl⟩
theorem RwB.setNow (h : RwB w q base now R A n c) {m : Nat} (hm : m ≤ 4611686018427387904) : RwB (w.setCell ⟨q, 0, none⟩ (.int .u64 (m : Nat))) q base m R A n c :=
  ⟨by simp [World.setCell, Array.getElem?_modify, h.blk], h.rows.kept (S := (· = q)) (Kept.setCell w _ _ rfl) h.rowsNe, h.low, hm, h.ok, h.len⟩
end
end Go.Proofs.Ytalojeblemhihaa
