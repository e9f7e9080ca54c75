/-
  A row of slices of bytes that is cut at its head and appended to; and what RingOrder's walk knows.
-/
import Derived.Test.YtjaiagocbldbgaaRLaw
import Derived.Test.YtjaiagocbldbgaaCount
import Derived.ArgAppend
namespace Go.Proofs.Ytjaiagocbldbgaa
open Go.RowKit
set_option linter.unusedVariables false

/-- A slice of slices of bytes in a block of its own; its bytes lay in w already. -/
structure InAt (w W : World) (A : Option Addr) (n c : Nat) (xss : List (List Int)) : Prop where
  len : xss.length = n
  cap : n ≤ c ∧ c ≤ maxLen
  row : ∃ b off cur, A = some ⟨b, off, none⟩ ∧ w.heap.size ≤ b ∧ W.heap[b]? = some (.cells cur 23 (0, 0)) ∧ off + c ≤ cur.size ∧ ∀ i, i < n → ∃ Ai ni ci, cur[off + i]? = some (.slice Ai ni ci) ∧ Rd .u8 w w.heap.size Ai ni ci (xss.getD i [])
/-- The blocks of such rows. -/
def RowB (w W : World) (j : Nat) : Prop := w.heap.size ≤ j ∧ ∃ cur, W.heap[j]? = some (.cells cur 23 (0, 0))
section
variable {S : Nat → Prop} {w W V : World} {A : Option Addr} {n c : Nat} {xss : List (List Int)} {xs : List Int}
theorem InAt.kept (h : InAt w W A n c xss) (hk : Kept S W V) (hS : ∀ j, S j → ∀ cur, W.heap[j]? ≠ some (.cells cur 23 (0, 0))) : InAt w V A n c xss := by
  obtain ⟨b, off, cur, h1, h2, h3, h4, h5⟩ := h.row
  exact ⟨h.len, h.cap, b, off, cur, h1, h2, (hk.block b (Array.getElem?_eq_some_iff.1 h3).1 (fun e => hS b e cur h3)).trans h3, h4, h5⟩
theorem InAt.below (h : InAt w W A n c xss) (hb : Below W.heap.size W V) : InAt w V A n c xss := h.kept (S := fun _ => False) (Kept.of_below hb) (fun _ e => e.elim)
theorem InAt.lit0 (w W : World) (hb : w.heap.size ≤ W.heap.size) : InAt w (W.alloc (.cells #[] 23)) (some ⟨W.heap.size, 0, none⟩) 0 0 [] :=
  ⟨rfl, ⟨Nat.le_refl _, by unfold maxLen; omega⟩, W.heap.size, 0, #[], rfl, hb, heap_alloc_new W _, by simp, fun i hi => by omega⟩
theorem InAt.brows (h : InAt w W A n c xss) (hb : Below w.heap.size w W) : BRows W W.heap.size A n c xss := by
  obtain ⟨b, off, cur, h1, h2, h3, h4, h5⟩ := h.row
  refine ⟨h.len, h.cap, fun i hi => ?_⟩
  obtain ⟨Ai, ni, ci, a, r⟩ := h5 i hi
  refine ⟨b, off, Ai, ni, ci, h1, (Array.getElem?_eq_some_iff.1 h3).1, ?_, (r.below hb (Nat.le_refl _)).more hb.size⟩
  rw [cell_of_row W b _ _ 23 (0, 0) h3]
  exact a
/-- The head is cut off. -/
theorem InAt.cut (h : InAt w W A n c xss) (hn : 0 < n) : InAt w W (if c = 1 then A else A.map (·.add 1)) (n - 1) (c - 1) xss.tail := by
  obtain ⟨b, off, cur, rfl, h2, h3, h4, h5⟩ := h.row
  have hl := h.len
  have hc := h.cap
  refine ⟨by rw [List.length_tail, hl], ⟨by omega, by omega⟩, ?_⟩
  by_cases e : c = 1
  · rw [if_pos e]
    exact ⟨b, off, cur, rfl, h2, h3, by omega, fun i hi => by omega⟩
  · rw [if_neg e]
    refine ⟨b, off + 1, cur, by simp [Addr.add], h2, h3, by omega, fun i hi => ?_⟩
    obtain ⟨Ai, ni, ci, a, r⟩ := h5 (i + 1) (by omega)
    refine ⟨Ai, ni, ci, by rw [← a]; congr 1; omega, ?_⟩
    have e2 : xss.tail.getD i [] = xss.getD (i + 1) [] := by cases xss <;> simp [List.getD]
    rw [e2]
    exact r
/-- One more is appended. -/
theorem InAt.app (h : InAt w W A n c xss) (hn : n ≤ 1000) (hbw : w.heap.size ≤ W.heap.size) {Ak : Option Addr} {nk ck g : Nat} (hr : Rd .u8 w w.heap.size Ak nk ck xs) (hg : W.cell? ⟨g, 0, none⟩ = some (.slice Ak nk ck)) (ty : TypeId) :
    ∃ A' c' V, (Builtin.append_ #[48, 48] ty #[.slice A n c, .slice (some ⟨g, 0, none⟩) 1 1]).run Try.prog W = .ok (.slice A' (n + 1) c') V ∧ InAt w V A' (n + 1) c' (xss ++ [xs]) ∧ Kept (RowB w W) W V := by
  obtain ⟨i, hi, hzz⟩ := Option.map_eq_some_iff.1 info23
  simp only [Prod.mk.injEq] at hzz
  obtain ⟨hz, hs, hby⟩ := hzz
  obtain ⟨b, off, cur, rfl, h2, h3, h4, h5⟩ := h.row
  have hl := h.len
  have hcap := h.cap
  have hnews : ∀ j u, [Value.slice Ak nk ck][j]? = some u → W.cell? ((⟨g, 0, none⟩ : Addr).add j) = some u := by
    intro j u hj
    cases j with
    | zero => simp at hj; subst hj; exact hg
    | succ j => simp at hj
  have hone : ∀ u ∈ [Value.slice Ak nk ck], u.oneCell' = true := by intro u hu; obtain rfl := List.mem_singleton.1 hu; rfl
  by_cases hroom : n + 1 ≤ c
  · have hcell : W.cell? ⟨b, off + n, none⟩ = cur[off + n]? := cell_of_row W b _ _ 23 (0, 0) h3
    have hlt : off + n < cur.size := by omega
    have hrun := run_append_room_cells (P := Try.prog) W 48 ty 23 i Try.underlying48 hi b off n c ⟨g, 0, none⟩ 1 1 [.slice Ak nk ck] (by rw [hs]; rfl) hnews hone hroom
      (fun j hj => by obtain rfl : j = 0 := by simpa using hj
                      rw [hs, Nat.mul_one, Nat.add_zero, hcell, Array.getElem?_eq_getElem hlt]; rfl) (fun j hj => by simp [World.frozen?, h3])
    rw [hs, Nat.mul_one] at hrun
    have hk : Kept (· = b) W (W.setCells b (off + n) [.slice Ak nk ck]) := Kept.setCells (S := (· = b)) b rfl _ _ _
    refine ⟨_, c, _, hrun, ⟨by simp [hl], ⟨hroom, hcap.2⟩, b, off, cur.setIfInBounds (off + n) (.slice Ak nk ck), rfl, h2, ?_, by simpa using h4, fun j hj => ?_⟩, hk.mono (fun j _ e => by rw [e]; exact ⟨h2, cur, h3⟩)⟩
    · simp only [World.setCells]
      rw [setCell_eq_setRow W b _ _ 23 (0, 0) _ h3]
      exact setRow_heap W b _ _ 23 (0, 0) h3
    · by_cases e : j < n
      · obtain ⟨Ai, ni, ci, a, r⟩ := h5 j e
        refine ⟨Ai, ni, ci, by rw [Array.getElem?_setIfInBounds_ne (by omega)]; exact a, ?_⟩
        rw [show (xss ++ [xs]).getD j [] = xss.getD j [] by simp [List.getD, List.getElem?_append_left (show j < xss.length by omega)]]
        exact r
      · obtain rfl : j = n := by omega
        refine ⟨Ak, nk, ck, Array.getElem?_setIfInBounds_self_of_lt hlt, ?_⟩
        rw [show (xss ++ [xs]).getD j [] = xs by simp [List.getD, ← hl]]
        exact hr
  · have hcn : c = n := by omega
    have hlt : off + n ≤ cur.size := by omega
    have holds : ∀ j u, ((cur.toList.drop off).take n)[j]? = some u → W.cell? ((⟨b, off, none⟩ : Addr).add j) = some u := by
      intro j u hj
      have hjn : j < n := by have := (List.getElem?_eq_some_iff.1 hj).1; simp at this; omega
      rw [List.getElem?_take_of_lt hjn, List.getElem?_drop, Array.getElem?_toList] at hj
      rw [Addr.add_mid, cell_of_row W b _ _ 23 (0, 0) h3]
      exact hj
    obtain ⟨v', V, hrun, hown, hg'⟩ := run_append_arg_grows (P := Try.prog) W 48 ty 23 i (.slice none 0 0) 1 24 Try.underlying48 hi hz hs hby rfl (by decide) ⟨b, off, none⟩ n c ((cur.toList.drop off).take n) (by simp; omega) holds
      ⟨g, 0, none⟩ 1 1 [.slice Ak nk ck] rfl hnews (by omega) (by unfold maxLen; omega) (by omega)
    rcases hown.2 with ⟨_, h0⟩ | ⟨b', cap', cur', rfl, hb', hh, hnc, hcm, hsz, ht⟩
    · omega
    refine ⟨_, cap', V, hrun, ⟨by simp [hl], ⟨hnc, hcm⟩, b', 0, cur', rfl, by omega, hh, by omega, fun j hj => ?_⟩, Kept.grown hg' (fun k e => by cases e)⟩
    have hjc : cur'[0 + j]? = ((cur.toList.drop off).take n ++ [Value.slice Ak nk ck])[j]? := by
      rw [← ht, Nat.zero_add, Nat.mul_one, List.getElem?_take_of_lt hj, Array.getElem?_toList]
    have hlen : ((cur.toList.drop off).take n).length = n := by simp; omega
    by_cases e : j < n
    · obtain ⟨Ai, ni, ci, a, r⟩ := h5 j e
      refine ⟨Ai, ni, ci, ?_, ?_⟩
      · rw [hjc, List.getElem?_append_left (by omega), List.getElem?_take_of_lt e, List.getElem?_drop, Array.getElem?_toList]
        exact a
      · rw [show (xss ++ [xs]).getD j [] = xss.getD j [] by simp [List.getD, List.getElem?_append_left (show j < xss.length by omega)]]
        exact r
    · obtain rfl : j = n := by omega
      refine ⟨Ak, nk, ck, by rw [hjc, List.getElem?_append_right (by omega), hlen]; simp, ?_⟩
      rw [show (xss ++ [xs]).getD j [] = xs by simp [List.getD, ← hl]]
      exact hr
end
/-- The step of a walk. -/
theorem wpList_in {w W : World} {ops : Array Oper} {rest : List Oper} {o : Oper} {a : Act} {Q : Exit → Act → World → Prop} (hgd : o.guard = none) (s x : Operand) (ho : o.op = .call { callee := .builtin .append, args := #[s, x], argTypes := #[48, 48] })
    (A : Option Addr) (n c : Nat) (xss : List (List Int)) (hs : a.eval s = .slice A n c) (g : Nat) (hx : a.eval x = .slice (some ⟨g, 0, none⟩) 1 1) (h : InAt w W A n c xss) (hn : n ≤ 1000) (hbw : w.heap.size ≤ W.heap.size)
    {Ak : Option Addr} {nk ck : Nat} {xs : List Int} (hr : Rd .u8 w w.heap.size Ak nk ck xs) (hg : W.cell? ⟨g, 0, none⟩ = some (.slice Ak nk ck))
    (hK : ∀ A' c' V, InAt w V A' (n + 1) c' (xss ++ [xs]) → Kept (RowB w W) W V → wpList Try.prog ops Q rest (a.put o.dst (.slice A' (n + 1) c')) V) : wpList Try.prog ops Q (o :: rest) a W := by
  obtain ⟨A', c', V, hrun, h1, h2⟩ := h.app hn hbw hr hg o.type
  refine wpList_plain hgd fun K hK' => ?_
  unfold Oper.wp
  simp [execOp, ho, resolve, invoke, builtin, hs, hx, hrun, Result.andThen]
  exact hK' _ _ (hK A' c' V h1 h2)

/-- What RingOrder's walk knows. -/
structure KO (w : World) (p g m q s z : Nat) (L : Slots) (R : List Nat) (l d : Nat) (A : Option Addr) (c : Nat) (W : World) : Prop where
  k : KA w p g m q s z 9 L R d W
  i : Inv L R 9
  hl : R.length = l
  tot : (held L 0).length + l = m
  a : InAt w W A l c (bytsOf L R)
section
variable {w W V : World} {p g m q s z l d c d' : Nat} {L L' : Slots} {R R' : List Nat} {A : Option Addr}
theorem KA.no23 {o : Int} (k : KA w p g m q s z o L R d W) : ∀ j, (j = g ∨ j = q ∨ j = s) → ∀ c, W.heap[j]? ≠ some (.cells c 23 (0, 0)) := by
  obtain ⟨cur, h2, _⟩ := k.pp.rows k.hL
  obtain ⟨⟨cq, hq⟩, ⟨cs, hs⟩⟩ := k.rg.blks
  rintro j (rfl | rfl | rfl) c hc
  · exact blk_ne hc h2 (by decide) rfl
  · exact blk_ne hc hq (by decide) rfl
  · exact blk_ne hc hs (by decide) rfl
theorem KA.rowB {o : Int} (k : KA w p g m q s z o L R d W) (hk : Kept (RowB w W) W V) : KA w p g m q s z o L R d V := by
  obtain ⟨G, h1, _⟩ := k.pp.ptr
  obtain ⟨cur, h2, _⟩ := k.pp.rows k.hL
  obtain ⟨⟨cq, hq⟩, ⟨cs, hs⟩⟩ := k.rg.blks
  refine ⟨k.pp.kept hk ?_ ?_ ?_, k.rg.kept hk ?_ ?_, k.b.trans (hk.below k.b.size (fun j e => e.1)), k.lo, k.hL⟩
  · rintro ⟨_, c, e⟩; exact blk_ne h1 e (by decide) rfl
  · rintro ⟨_, c, e⟩; exact blk_ne h2 e (by decide) rfl
  · rintro j ⟨_, c, e⟩; exact .inr (fun c' hc => blk_ne hc e (by decide) rfl)
  · rintro ⟨_, c, e⟩; exact blk_ne hq e (by decide) rfl
  · rintro ⟨_, c, e⟩; exact blk_ne hs e (by decide) rfl
theorem KO.step (k : KO w p g m q s z L R l d A c W) (hb : Below W.heap.size W V) : KO w p g m q s z L R l d A c V := ⟨k.k.step hb, k.i, k.hl, k.tot, k.a.below hb⟩
theorem oLen (k : KO w p g m q s z L R l d A c W) : Calls Try.prog 23 #[ptr q] W fun e w' => e = .returned (.int .i64 (l : Int)) ∧ W = w' := by
  have := kLen k.k; rwa [k.hl] at this
theorem oDropped (k : KO w p g m q s z L R l d A c W) : Calls Try.prog 24 #[ptr q] W fun e w' => e = .returned (.int .i64 (d : Int)) ∧ W = w' := kDropped k.k
theorem oLeft (k : KO w p g m q s z L R l d A c W) : Calls Try.prog 25 #[ptr p] W fun e w' => ∃ lf : Nat, e = .returned (.int .i64 (lf : Int)) ∧ (m : Int) - (l : Int) = (lf : Int) ∧ KO w p g m q s z L R l d A c w' := by
  refine (kLeft k.k).mono ?_
  rintro e w' ⟨rfl, h2, hb⟩
  have := k.tot
  exact ⟨left L, rfl, by unfold left; omega, k.step hb⟩
theorem oHeld (k : KO w p g m q s z L R l d A c W) : Calls Try.prog 28 #[ptr p, .int .i64 9] W fun e w' => ∃ A' c', e = .returned (.slice A' l c') ∧ KO w p g m q s z L R l d A c w' := by
  refine (kHeld k.k 9).mono ?_
  rintro e w' ⟨A', n, c', rfl, h1, h2, hb⟩
  rw [heldV_own (by decide), k.i.cnt, k.hl] at h1
  subst h1
  exact ⟨A', c', rfl, k.step hb⟩
theorem oAll (k : KO w p g m q s z L R l d A c W) : Calls Try.prog 27 #[ptr q] W fun e w' => ∃ A' c', e = .returned (.slice A' l c') ∧ BRows w' w'.heap.size A' l c' (bytsOf L R) ∧ BRows w' w'.heap.size A l c (bytsOf L R) ∧ KO w p g m q s z L R l d A c w' := by
  refine (kAll k.k k.i.lt).mono ?_
  rintro e w' ⟨A', c', rfl, h1, h2, hb⟩
  have k2 := k.step hb
  rw [k.hl] at h1
  exact ⟨A', c', by rw [k.hl], h1, k2.a.brows k2.k.b, k2⟩
end
end Go.Proofs.Ytjaiagocbldbgaa
