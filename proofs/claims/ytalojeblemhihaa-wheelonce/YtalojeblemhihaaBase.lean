/-
  Plain words for slices of integers, and their lemmas: nothing of the program is said here.
-/
import Derived.WalkKit
import Derived.WalkSpells
import Derived.WalkLawsBesides
import Derived.Laws.CopyOwn
import Derived.Laws.AppendOwnNone
import Derived.Deep.Draws
import Derived.Lib.Hide
namespace Go.Proofs.Ytalojeblemhihaa
open Go.RowKit

/-- The slice value '.slice A n c' reads in w as the integers xs (kind k), and lies below block B. -/
def Rd (k : IntKind) (w : World) (B : Nat) (A : Option Addr) (n c : Nat) (xs : List Int) : Prop :=
  xs.length = n ∧ n ≤ c ∧ (c ≤ maxLen ∧ (A = none → c = 0)) ∧ (∀ x ∈ xs, (Lit.int k x).wf = true) ∧
  ∀ i, i < n → ∃ b o, A = some ⟨b, o, none⟩ ∧ b < B ∧ w.cell? ⟨b, o + i, none⟩ = some (.int k (xs.getD i 0))

/-- The slice value '.slice A n c' is the call's own row (blocks from 'base' on) of integers xs (kind k, element type e). -/
def Out (k : IntKind) (e : TypeId) (w : World) (base : Nat) (A : Option Addr) (n c : Nat) (xs : List Int) : Prop :=
  w.ownsRow base e 1 (.slice A n c) n (xs.map (Value.int k)) ∧ ∀ x ∈ xs, (Lit.int k x).wf = true

theorem u8_bd {x : Int} (h : (Lit.int .u8 x).wf = true) : 0 ≤ x ∧ x ≤ 255 := by
  simpa [Lit.wf, IntKind.min, IntKind.max, IntKind.signed, IntKind.bits] using h
theorem u8_mk {x : Int} (h : 0 ≤ x ∧ x ≤ 255) : (Lit.int .u8 x).wf = true := by
  simpa [Lit.wf, IntKind.min, IntKind.max, IntKind.signed, IntKind.bits] using h
theorem u64_bd {x : Int} (h : (Lit.int .u64 x).wf = true) : 0 ≤ x ∧ x ≤ 18446744073709551615 := by
  simpa [Lit.wf, IntKind.min, IntKind.max, IntKind.signed, IntKind.bits] using h
theorem i64_bd {x : Int} (h : (Lit.int .i64 x).wf = true) : -9223372036854775808 ≤ x ∧ x ≤ 9223372036854775807 := by
  simpa [Lit.wf, IntKind.min, IntKind.max, IntKind.signed, IntKind.bits] using h

section
variable {k : IntKind} {w w' : World} {B B' : Nat} {A : Option Addr} {n c : Nat} {xs : List Int}

theorem Rd.len (h : Rd k w B A n c xs) : xs.length = n := h.1
theorem Rd.cap (h : Rd k w B A n c xs) : n ≤ c := h.2.1
theorem Rd.max (h : Rd k w B A n c xs) : c ≤ 9223372036854775807 := by have := h.2.2.1.1; unfold maxLen at this; omega
theorem Rd.wf (h : Rd k w B A n c xs) {i : Nat} (hi : i < n) : (Lit.int k (xs.getD i 0)).wf = true := by
  have hl := h.1
  have : xs.getD i 0 = xs[i]'(by omega) := by simp [List.getD, List.getElem?_eq_getElem (show i < xs.length by omega)]
  rw [this]
  exact h.2.2.2.1 _ (List.getElem_mem _)
theorem Rd.at_ (h : Rd k w B A n c xs) {i : Nat} (hi : i < n) : ∃ b o, A = some ⟨b, o, none⟩ ∧ b < B ∧ w.cell? ⟨b, o + i, none⟩ = some (.int k (xs.getD i 0)) := h.2.2.2.2 i hi

theorem Rd.keep (h : Rd k w B A n c xs) (hk : ∀ p : Addr, p.block < B → w'.cell? p = w.cell? p) : Rd k w' B A n c xs :=
  ⟨h.1, h.2.1, h.2.2.1, h.2.2.2.1, fun i hi => by
    obtain ⟨b, o, e, hb, hc⟩ := h.2.2.2.2 i hi
    exact ⟨b, o, e, hb, (hk ⟨b, o + i, none⟩ hb).trans hc⟩⟩
theorem Rd.more (h : Rd k w B A n c xs) (hB : B ≤ B') : Rd k w B' A n c xs :=
  ⟨h.1, h.2.1, h.2.2.1, h.2.2.2.1, fun i hi => by
    obtain ⟨b, o, e, hb, hc⟩ := h.2.2.2.2 i hi
    exact ⟨b, o, e, by omega, hc⟩⟩
theorem Rd.below (h : Rd k w B A n c xs) (hb : Below B' w w') (hB : B ≤ B') : Rd k w' B A n c xs := h.keep fun _ hp => hb.cell (by omega)
theorem Rd.nil : Rd k w B none 0 0 [] := ⟨rfl, Nat.le_refl _, ⟨by unfold maxLen; omega, fun _ => rfl⟩, by simp, fun i hi => absurd hi (by omega)⟩

/-- A piece of a slice, as Go cuts it. -/
theorem Rd.cut (h : Rd k w B A n c xs) {f t : Nat} (hf : f ≤ t) (ht : t ≤ n) :
    Rd k w B (if c = f then A else A.map (·.add f)) (t - f) (c - f) ((xs.drop f).take (t - f)) := by
  have hl := h.1
  have hc := h.cap
  refine ⟨by simp; omega, by omega, ⟨by have := h.2.2.1.1; unfold maxLen at *; omega, fun e => ?_⟩, fun x hx => h.2.2.2.1 x (List.mem_of_mem_drop (List.mem_of_mem_take hx)), fun i hi => ?_⟩
  · by_cases hcf : c = f
    · omega
    · rw [if_neg hcf] at e
      have := h.2.2.1.2 (by simpa using e)
      omega
  obtain ⟨b, o, e, hb, hcell⟩ := h.at_ (i := f + i) (by omega)
  refine ⟨b, o + f, ?_, hb, ?_⟩
  · rw [if_neg (by omega), e]
    simp only [Option.map_some, Addr.add]
    split <;> simp_all
  · rw [Nat.add_assoc, hcell]
    have : ((xs.drop f).take (t - f)).getD i 0 = xs.getD (f + i) 0 := by
      simp [List.getD, hi]
    rw [this]
end

section
variable {k : IntKind} {e : TypeId} {w w' : World} {base B : Nat} {A : Option Addr} {n c : Nat} {xs : List Int}
theorem Out.nil : Out k e w base none 0 0 [] := ⟨World.ownsRow_nil _ _ _ _, by simp⟩
theorem Out.len (h : Out k e w base A n c xs) : xs.length = n := by simpa using h.1.1
theorem Out.form (h : Out k e w base A n c xs) : (A = none ∧ n = 0 ∧ c = 0) ∨ ∃ g cur, A = some ⟨g, 0, none⟩ ∧ base ≤ g ∧ w.heap[g]? = some (.cells cur e (0, 0)) ∧ n ≤ c ∧ c ≤ maxLen ∧ cur.size = c ∧ cur.toList.take n = xs.map (Value.int k) := by
  rcases h.1.2 with ⟨hv, hn⟩ | ⟨g, cap, cur, hv, hb, hh, h1, h2, h3, h4⟩
  · injection hv with e1 e2 e3
    exact .inl ⟨e1, e2, e3⟩
  · injection hv with e1 e2 e3
    subst e3
    exact .inr ⟨g, cur, e1, hb, hh, h1, h2, by simpa using h3, by simpa using h4⟩
theorem Out.cap (h : Out k e w base A n c xs) : n ≤ c := by
  rcases h.form with ⟨_, h1, h2⟩ | ⟨g, cur, _, _, _, h1, _⟩ <;> omega
theorem Out.max (h : Out k e w base A n c xs) : c ≤ maxLen := by
  rcases h.form with ⟨_, h1, h2⟩ | ⟨g, cur, _, _, _, _, h1, _⟩
  · unfold maxLen; omega
  · exact h1
theorem Out.rd (h : Out k e w base A n c xs) : Rd k w w.heap.size A n c xs := by
  refine ⟨h.len, h.cap, ⟨h.max, fun e0 => ?_⟩, h.2, fun i hi => ?_⟩
  · rcases h.form with ⟨_, _, h2⟩ | ⟨g, cur, e', _⟩
    · exact h2
    · rw [e0] at e'; cases e'
  rcases h.form with ⟨_, h1, h2⟩ | ⟨g, cur, rfl, hb, hh, h1, h2, h3, h4⟩
  · omega
  · refine ⟨g, 0, rfl, (Array.getElem?_eq_some_iff.1 hh).1, ?_⟩
    have hl := h.len
    have := h.1.cells (g := g) rfl i (.int k (xs.getD i 0)) (by simp [List.getD, List.getElem?_eq_getElem (show i < xs.length by omega)])
    have ha : (⟨g, 0, none⟩ : Addr).add i = ⟨g, 0 + i, none⟩ := by unfold Addr.add; split <;> simp_all
    rw [ha] at this
    exact this
theorem Out.below (h : Out k e w base A n c xs) (hb : Below B w w') (hB : w.heap.size ≤ B) : Out k e w' base A n c xs := by
  refine ⟨⟨h.1.1, ?_⟩, h.2⟩
  rcases h.1.2 with hv | ⟨g, cap, cur, hv, hbg, hh, r⟩
  · exact .inl hv
  · refine .inr ⟨g, cap, cur, hv, hbg, ?_, r⟩
    have hlt := (Array.getElem?_eq_some_iff.1 hh).1
    rw [hb.block g (by omega)]
    exact hh
theorem Out.grown {row : Option Nat} (h : Out k e w base A n c xs) (hg : w.grownBy w' row) (hne : ∀ r, row = some r → A = none ∨ ∃ ad, A = some ad ∧ ad.block ≠ r) : Out k e w' base A n c xs := by
  refine ⟨h.1.kept hg ?_, h.2⟩
  cases row with
  | none => cases A <;> simp [Value.ownBlock]
  | some r =>
    rcases hne r rfl with rfl | ⟨ad, rfl, hk⟩
    · simp [Value.ownBlock]
    · right; simpa [Value.ownBlock] using hk
end

theorem info_of {P : Program} {e : TypeId} {k : IntKind} {by_ : Nat} (hinfo : (P.info? e).map (fun i => (i.zero, i.size, i.bytes)) = some (some (.int k 0), 1, by_)) :
    ∃ i, P.info? e = some i ∧ i.zero = some (.int k 0) ∧ i.size = 1 ∧ i.bytes = by_ := by
  cases h : P.info? e with
  | none => rw [h] at hinfo; cases hinfo
  | some i =>
    rw [h] at hinfo
    simp at hinfo
    exact ⟨i, rfl, hinfo.1, hinfo.2.1, hinfo.2.2⟩

theorem cells_of_rd {k : IntKind} {w : World} {B : Nat} {ad : Addr} {m c : Nat} {ys : List Int} (hr : Rd k w B (some ad) m c ys) :
    ∀ j u, (ys.map (Value.int k))[j]? = some u → w.cell? (ad.add j) = some u := by
  intro j u hu
  have hl := hr.len
  simp only [List.getElem?_map, Option.map_eq_some_iff] at hu
  obtain ⟨x, hx, rfl⟩ := hu
  obtain ⟨hj, hx'⟩ := List.getElem?_eq_some_iff.1 hx
  obtain ⟨b, o, e, _, hc⟩ := hr.at_ (i := j) (by omega)
  injection e with e
  subst e
  have ha : (⟨b, o, none⟩ : Addr).add j = ⟨b, o + j, none⟩ := by unfold Addr.add; split <;> simp_all
  rw [ha, hc]
  simp [List.getD, hx]

theorem ints_one (k : IntKind) (ys : List Int) : ∀ u ∈ ys.map (Value.int k), u.oneCell' = true := by
  intro u hu
  simp at hu
  obtain ⟨x, _, rfl⟩ := hu
  rfl

/-- 'append(own row of integers, any...)', as one operation. -/
theorem wp_app {P : Program} {w : World} {o : Oper} {a : Act} {K : Act → World → Prop} {Q : Exit → Act → World → Prop} (s x : Operand) (t : TypeId)
    (ho : o.op = .call { callee := .builtin .append, args := #[s, x], argTypes := #[t, t] }) (base : Nat) {k : IntKind} {e : TypeId} {by_ : Nat} (ht : P.underlying t = some (.slice e))
    (hinfo : (P.info? e).map (fun i => (i.zero, i.size, i.bytes)) = some (some (.int k 0), 1, by_)) (hby8 : by_ ≤ 8)
    (A0 : Option Addr) (n0 c0 : Nat) (xs : List Int) (hs : a.eval s = .slice A0 n0 c0) (hown : Out k e w base A0 n0 c0 xs)
    (A : Option Addr) (m c B : Nat) (ys : List Int) (hx : a.eval x = .slice A m c) (hr : Rd k w B A m c ys) (hsum : n0 + m ≤ 100000000) (hbase : base ≤ w.heap.size)
    (h : ∀ A' n' c' w', Out k e w' base A' n' c' (xs ++ ys) → w.grownBy w' (Value.slice A0 n0 c0).ownBlock → K (a.put o.dst (.slice A' n' c')) w') : o.wp P a w K Q := by
  obtain ⟨i, hi, hz, hsize, hby⟩ := info_of hinfo
  have hl := hr.len
  cases A with
  | none =>
    have hc0 := hr.2.2.1.2 rfl
    have hmc := hr.cap
    obtain rfl : c = 0 := hc0
    obtain rfl : m = 0 := by omega
    obtain rfl : ys = [] := List.eq_nil_of_length_eq_zero hl
    have hrun := run_append_owned_none (P := P) (w := w) base t o.type e i 1 ht hi _ n0 _ hown.1
    unfold Oper.wp
    simp [execOp, ho, resolve, invoke, builtin, hs, hx, hrun, Result.andThen]
    exact h A0 n0 c0 w (by simpa using hown) ⟨rfl, rfl, rfl, Nat.le_refl _, fun _ _ _ => rfl⟩
  | some ad =>
    refine wp_append_own w s x t ho base e i (.int k 0) 1 by_ ht hi hz hsize hby rfl (by decide) _ n0 _ hs hown.1 ad m c (ys.map (Value.int k)) hx (by simpa using hl) (cells_of_rd hr) (ints_one k ys) (by unfold maxLen; omega) (Nat.le_trans (Nat.mul_le_mul hsum hby8) (by omega)) hbase ?_
    intro v' w' hown' hg _
    have hex : ∃ A' n' c', v' = .slice A' n' c' ∧ n' = n0 + m := by
      rcases hown'.2 with ⟨hv, hn⟩ | ⟨g, cap, cur, hv, _⟩
      · exact ⟨_, _, _, hv, hn.symm⟩
      · exact ⟨_, _, _, hv, rfl⟩
    obtain ⟨A', n', c', rfl, rfl⟩ := hex
    refine h A' _ c' w' ⟨by simpa using hown', fun y hy => ?_⟩ hg
    rcases List.mem_append.1 hy with hy | hy
    · exact hown.2 y hy
    · exact hr.2.2.2.1 y hy

/-- 'append(own row of integers, any...)', as a step of the walk. -/
theorem wpList_app {P : Program} {w : World} {ops : Array Oper} {rest : List Oper} {o : Oper} {a : Act} {Q : Exit → Act → World → Prop} (hgd : o.guard = none) (s x : Operand) (t : TypeId)
    (ho : o.op = .call { callee := .builtin .append, args := #[s, x], argTypes := #[t, t] }) (base : Nat) {k : IntKind} {e : TypeId} {by_ : Nat} (ht : P.underlying t = some (.slice e))
    (hinfo : (P.info? e).map (fun i => (i.zero, i.size, i.bytes)) = some (some (.int k 0), 1, by_)) (hby8 : by_ ≤ 8)
    (A0 : Option Addr) (n0 c0 : Nat) (xs : List Int) (hs : a.eval s = .slice A0 n0 c0) (hown : Out k e w base A0 n0 c0 xs)
    (A : Option Addr) (m c B : Nat) (ys : List Int) (hx : a.eval x = .slice A m c) (hr : Rd k w B A m c ys) (hsum : n0 + m ≤ 100000000) (hbase : base ≤ w.heap.size)
    (h : ∀ A' n' c' w', Out k e w' base A' n' c' (xs ++ ys) → w.grownBy w' (Value.slice A0 n0 c0).ownBlock → wpList P ops Q rest (a.put o.dst (.slice A' n' c')) w') : wpList P ops Q (o :: rest) a w :=
  wpList_plain hgd fun _ hK => wp_app s x t ho base ht hinfo hby8 A0 n0 c0 xs hs hown A m c B ys hx hr hsum hbase fun A' n' c' w' h1 h2 => hK _ _ (h A' n' c' w' h1 h2)

/-- The same where the operation stands behind a guard that says yes. -/
theorem wpList_appG {P : Program} {w : World} {ops : Array Oper} {rest : List Oper} {o : Oper} {a : Act} {Q : Exit → Act → World → Prop} (hgd : Region.wanted o (yielded ops a.tmps) = true) (s x : Operand) (t : TypeId)
    (ho : o.op = .call { callee := .builtin .append, args := #[s, x], argTypes := #[t, t] }) (base : Nat) {k : IntKind} {e : TypeId} {by_ : Nat} (ht : P.underlying t = some (.slice e))
    (hinfo : (P.info? e).map (fun i => (i.zero, i.size, i.bytes)) = some (some (.int k 0), 1, by_)) (hby8 : by_ ≤ 8)
    (A0 : Option Addr) (n0 c0 : Nat) (xs : List Int) (hs : a.eval s = .slice A0 n0 c0) (hown : Out k e w base A0 n0 c0 xs)
    (A : Option Addr) (m c B : Nat) (ys : List Int) (hx : a.eval x = .slice A m c) (hr : Rd k w B A m c ys) (hsum : n0 + m ≤ 100000000) (hbase : base ≤ w.heap.size)
    (h : ∀ A' n' c' w', Out k e w' base A' n' c' (xs ++ ys) → w.grownBy w' (Value.slice A0 n0 c0).ownBlock → wpList P ops Q rest (a.put o.dst (.slice A' n' c')) w') : wpList P ops Q (o :: rest) a w :=
  wpList_step fun K hK => by
    rw [if_pos hgd]
    exact wp_app s x t ho base ht hinfo hby8 A0 n0 c0 xs hs hown A m c B ys hx hr hsum hbase fun A' n' c' w' h1 h2 => hK _ _ (h A' n' c' w' h1 h2)

/-- An empty slice literal. -/
theorem Out.lit0 (k : IntKind) (e : TypeId) (w : World) (base : Nat) (hb : base ≤ w.heap.size) : Out k e (w.alloc (.cells #[] e)) base (some ⟨w.heap.size, 0, none⟩) 0 0 [] :=
  ⟨World.ownsRow_made w #[] 0 hb (by unfold maxLen; omega) rfl, by simp⟩
end Go.Proofs.Ytalojeblemhihaa
