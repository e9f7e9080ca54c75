/-
  What do's walk knows, and the contracts of all calls over that.
-/
import Derived.Test.YtjaiagocbldbgaaTwo
import Derived.Test.YtjaiagocbldbgaaArgu
namespace Go.Proofs.Ytjaiagocbldbgaa
open Go.RowKit
set_option linter.unusedVariables false

theorem Kept.thenNew {S T : Nat → Prop} {w w' w'' : World} (h : Kept S w w') (h' : Kept T w' w'') (hT : ∀ k, T k → w.heap.size ≤ k) : Kept S w w'' :=
  ⟨h'.os.trans h.os, h'.tape.trans h.tape, h'.output.trans h.output, Nat.le_trans h.size h'.size, fun k hk hs => (h'.block k (Nat.lt_of_lt_of_le hk h.size) (fun q => by have := hT k q; omega)).trans (h.block k hk hs)⟩
theorem Out.at_ {w : World} {base n c : Nat} {A : Option Addr} {ys : List Int} (h : Out .u8 5 w base A n c ys) {i : Nat} (hi : i < n) : ∃ x, A = some ⟨x, 0, none⟩ ∧ w.cell? ⟨x, i, none⟩ = some (.int .u8 (ys.getD i 0)) ∧ w.frozen? ⟨x, i, none⟩ = false := by
  rcases h.form with ⟨_, h1, _⟩ | ⟨x, cur, rfl, _, hh, _⟩
  · omega
  · obtain ⟨b, o', e, _, hc⟩ := h.rd.at_ hi
    injection e with e
    injection e with e1 e2
    subst e1 e2
    rw [Nat.zero_add] at hc
    exact ⟨x, rfl, hc, by simp [World.frozen?, hh]⟩
theorem Out.set {w : World} {base g n c : Nat} {xs : List Int} (h : Out .u8 5 w base (some ⟨g, 0, none⟩) n c xs) (j : Nat) (x : Int) (hx : (Lit.int .u8 x).wf = true) :
    Out .u8 5 (w.setCell ⟨g, j, none⟩ (.int .u8 x)) base (some ⟨g, 0, none⟩) n c (xs.set j x) := by
  obtain ⟨h1, h2⟩ := h.1.stored j (.int .u8 x)
  refine ⟨by rw [List.map_set]; exact h1, fun y hy => ?_⟩
  rcases List.mem_or_eq_of_mem_set hy with hy | rfl
  · exact h.2 y hy
  · exact hx

/-- Blocks that are not A1's. -/
abbrev Off (A1 : Option Addr) : Nat → Prop := fun b => ∀ ad, A1 = some ad → ad.block ≠ b
structure KDo (B p g cp q s r h cr t b z : Nat) (o : Int) (L : Slots) (R : List Nat) (d : Nat) (M : Slots) (Q : List Nat) (e : Nat) (wh bu fr : Int) (A : Option Addr) (n c : Nat) (xs : List Int) (gb : Nat) (A1 : Option Addr) (c1 base : Nat) (W : World) : Prop where
  tw : Two B p g cp q s r h cr t b z o L R d M Q e (Off A1) W
  ow : Out .u8 5 W base A1 n c1 xs
  rd : Rd .u8 W B A n c xs
  bx : W.heap[gb]? = some (.cells (box wh bu fr A n c) 25 (0, 0))
  lt : B ≤ gb ∧ B ≤ base
section
variable {B p g cp q s r h cr t b z : Nat} {o : Int} {L L' M M' : Slots} {R R' Q Q' : List Nat} {d d' e e' : Nat} {wh bu fr : Int} {A : Option Addr} {n c : Nat} {xs : List Int} {gb : Nat} {A1 : Option Addr} {c1 base : Nat} {W V : World}
abbrev no525 (B : Nat) (W : World) : Nat → Prop := fun j => B ≤ j ∧ ∀ c, W.heap[j]? ≠ some (.cells c 5 (0, 0)) ∧ W.heap[j]? ≠ some (.cells c 25 (0, 0))
theorem KDo.move (k : KDo B p g cp q s r h cr t b z o L R d M Q e wh bu fr A n c xs gb A1 c1 base W) (tw : Two B p g cp q s r h cr t b z o L' R' d' M' Q' e' (Off A1) V) (hk : Below B W V ∧ Kept (no525 B W) W V) : KDo B p g cp q s r h cr t b z o L' R' d' M' Q' e' wh bu fr A n c xs gb A1 c1 base V :=
  ⟨tw, k.ow.kept hk.2 (fun ad e h2 => by obtain ⟨_, cur, hc⟩ := k.ow.block ad e; exact (h2.2 cur).1 hc), k.rd.below hk.1 (Nat.le_refl _), (hk.2.block gb (Array.getElem?_eq_some_iff.1 k.bx).1 (fun h2 => (h2.2 _).2 k.bx)).trans k.bx, k.lt⟩
theorem KDo.below (k : KDo B p g cp q s r h cr t b z o L R d M Q e wh bu fr A n c xs gb A1 c1 base W) (hb : Below W.heap.size W V) : KDo B p g cp q s r h cr t b z o L R d M Q e wh bu fr A n c xs gb A1 c1 base V :=
  ⟨k.tw.below hb, k.ow.below hb (Nat.le_refl _), k.rd.below (hb.mono k.tw.lt) (Nat.le_refl _), (hb.block gb (Array.getElem?_eq_some_iff.1 k.bx).1).trans k.bx, k.lt⟩
theorem KDo.newF (k : KDo B p g cp q s r h cr t b z o L R d M Q e wh bu fr A n c xs gb A1 c1 base W) : ∀ j, W.heap.size ≤ j → Off A1 j := fun j hj ad e => by
  obtain ⟨_, cur, hc⟩ := k.ow.block ad e
  have := (Array.getElem?_eq_some_iff.1 hc).1
  omega
theorem dPut (k : KDo B p g cp q s r h cr t b z o L R d M Q e wh bu fr A n c xs gb A1 c1 base W) (hd : d ≤ 100000) :
    Calls Try.prog 21 #[ptr q, .slice A1 n c1] W fun ev w' => ev = .returned (.int .i64 (ptE L R z o n)) ∧ KDo B p g cp q s r h cr t b z o (ptL L R z o xs) (ptR L R z o n) (drp (ptE L R z o n) d) M Q e wh bu fr A n c xs gb A1 c1 base w' ∧ Below B W w' := by
  refine (put_any q p s z o R d A1 n c1 _ xs g cp L _ W k.tw.rg hd k.ow.rd (Nat.le_refl _) k.newF k.tw.pp k.tw.hL.1).mono ?_
  rintro ev w' ⟨rfl, h1, h2, h3⟩
  exact ⟨rfl, k.move (k.tw.turnP h1 h2 h3 (ptL_len ..)) (k.tw.keepP h3), (k.tw.keepP h3).1⟩
theorem dRPut (k : KDo B p g cp q s r h cr t b z o L R d M Q e wh bu fr A n c xs gb A1 c1 base W) (hd : e ≤ 100000) :
    Calls Try.prog 34 #[ptr t, .slice A n c] W fun ev w' => ev = .returned (.int .i64 (ptE M Q z o n)) ∧ KDo B p g cp q s r h cr t b z o L R d (ptL M Q z o xs) (ptR M Q z o n) (drp (ptE M Q z o n) e) wh bu fr A n c xs gb A1 c1 base w' ∧ Below B W w' := by
  refine (rput_any t r b z o Q e A n c B xs h cr M _ W k.tw.rr hd k.rd k.tw.lt k.newF k.tw.rp k.tw.hL.2).mono ?_
  rintro ev w' ⟨rfl, h1, h2, h3⟩
  exact ⟨rfl, k.move (k.tw.turnR h1 h2 h3 (ptL_len ..)) (k.tw.keepR h3), (k.tw.keepR h3).1⟩
theorem dMove (k : KDo B p g cp q s r h cr t b z o L R d M Q e wh bu fr A n c xs gb A1 c1 base W) (hd : d ≤ 100000) (x y : Int) :
    Calls Try.prog 30 #[ptr q, .int .i64 x, .int .i64 y] W fun ev w' => ev = .returned (.int .i64 (mvE L R z o x y)) ∧ KDo B p g cp q s r h cr t b z o (mvL L R z o x y) (mvR L R z o x y) (drp (mvE L R z o x y) d) M Q e wh bu fr A n c xs gb A1 c1 base w' ∧ Below B W w' := by
  refine (move_any q p s z o R d x y g cp L _ W k.tw.rg hd k.tw.pp k.tw.hL.1).mono ?_
  rintro ev w' ⟨rfl, h1, h2, h3⟩
  exact ⟨rfl, k.move (k.tw.turnP h1 h2 h3 (mvL_len ..)) (k.tw.keepP h3), (k.tw.keepP h3).1⟩
theorem dRMove (k : KDo B p g cp q s r h cr t b z o L R d M Q e wh bu fr A n c xs gb A1 c1 base W) (hd : e ≤ 100000) (x y : Int) :
    Calls Try.prog 36 #[ptr t, .int .i64 x, .int .i64 y] W fun ev w' => ev = .returned (.int .i64 (mvE M Q z o x y)) ∧ KDo B p g cp q s r h cr t b z o L R d (mvL M Q z o x y) (mvR M Q z o x y) (drp (mvE M Q z o x y) e) wh bu fr A n c xs gb A1 c1 base w' ∧ Below B W w' := by
  refine (rmove_any t r b z o Q e x y h cr M _ W k.tw.rr hd k.tw.rp k.tw.hL.2).mono ?_
  rintro ev w' ⟨rfl, h1, h2, h3⟩
  exact ⟨rfl, k.move (k.tw.turnR h1 h2 h3 (mvL_len ..)) (k.tw.keepR h3), (k.tw.keepR h3).1⟩
theorem Two.keepG (k : Two B p g cp q s r h cr t b z o L R d M Q e (Off A1) W) (hk : Kept (· = g) W V) : Below B W V ∧ Kept (no525 B W) W V := k.keepP (hk.mono (fun _ _ e => .inl e))
theorem Two.keepH (k : Two B p g cp q s r h cr t b z o L R d M Q e (Off A1) W) (hk : Kept (· = h) W V) : Below B W V ∧ Kept (no525 B W) W V := k.keepR (hk.mono (fun _ _ e => .inl e))
theorem dPTake (k : KDo B p g cp q s r h cr t b z o L R d M Q e wh bu fr A n c xs gb A1 c1 base W) (x : Int) :
    Calls Try.prog 29 #[ptr p, .int .i64 x, .slice A1 n c1] W fun ev w' => ev = .returned (.tuple #[.int .i64 (tkN L x n), .int .i64 (tkE L x n)]) ∧ KDo B p g cp q s r h cr t b z o (tkL L x xs) R d M Q e wh bu fr A n c xs gb A1 c1 base w' ∧ Below B W w' := by
  refine (take_any p g cp L _ x A1 n c1 _ xs W k.tw.pp k.ow.rd k.tw.hL.1 (Nat.le_refl _) k.newF).mono ?_
  rintro ev w' ⟨rfl, h1, h2⟩
  exact ⟨rfl, k.move (k.tw.poolP h1 h2 (tkL_len ..)) (k.tw.keepG h2), (k.tw.keepG h2).1⟩
theorem dRPTake (k : KDo B p g cp q s r h cr t b z o L R d M Q e wh bu fr A n c xs gb A1 c1 base W) (x : Int) :
    Calls Try.prog 35 #[ptr r, .int .i64 x, .slice A n c] W fun ev w' => ev = .returned (.tuple #[.int .i64 (tkN M x n), .int .i64 (tkE M x n)]) ∧ KDo B p g cp q s r h cr t b z o L R d (tkL M x xs) Q e wh bu fr A n c xs gb A1 c1 base w' ∧ Below B W w' := by
  refine (refTake_any r h cr M _ x A n c B xs W k.tw.rp k.rd k.tw.lt k.newF).mono ?_
  rintro ev w' ⟨rfl, h1, h2⟩
  exact ⟨rfl, k.move (k.tw.poolR h1 h2 (tkL_len ..)) (k.tw.keepH h2), (k.tw.keepH h2).1⟩
theorem dTk0 (k : KDo B p g cp q s r h cr t b z o L [] d M Q e wh bu fr A n c xs gb A1 c1 base W) : Calls Try.prog 19 #[ptr q] W fun ev w' => ev = .returned (.tuple #[.slice none 0 0, .bool false]) ∧ W = w' := take0_any q p s z o d W k.tw.rg
theorem dRTk0 (k : KDo B p g cp q s r h cr t b z o L R d M [] e wh bu fr A n c xs gb A1 c1 base W) : Calls Try.prog 37 #[ptr t] W fun ev w' => ev = .returned (.tuple #[.slice none 0 0, .bool false]) ∧ W = w' := rtake0_any t r b z o e W k.tw.rr
theorem dTk1 {x : Nat} {T : List Nat} (k : KDo B p g cp q s r h cr t b z o L (x :: T) d M Q e wh bu fr A n c xs gb A1 c1 base W) (hx : x < L.length) :
    Calls Try.prog 19 #[ptr q] W fun ev w' => ∃ A2 m c2, ev = .returned (.tuple #[.slice A2 m c2, .bool true]) ∧ Out .u8 5 w' W.heap.size A2 m c2 (byt L x) ∧ KDo B p g cp q s r h cr t b z o (frL L (x : Int) o) T d M Q e wh bu fr A n c xs gb A1 c1 base w' ∧ Below B W w' := by
  refine (take1_any q p s z o x T d g cp L _ W k.tw.rg k.tw.pp hx).mono ?_
  rintro ev w' ⟨A2, m, c2, rfl, ho, h1, h2, h3⟩
  exact ⟨A2, m, c2, rfl, ho, k.move (k.tw.turnP h1 h2 h3 (frL_len ..)) (k.tw.keepP h3), (k.tw.keepP h3).1⟩
theorem dRTk1 {x : Nat} {T : List Nat} (k : KDo B p g cp q s r h cr t b z o L R d M (x :: T) e wh bu fr A n c xs gb A1 c1 base W) (hx : x < M.length) :
    Calls Try.prog 37 #[ptr t] W fun ev w' => ∃ A2 m c2, ev = .returned (.tuple #[.slice A2 m c2, .bool true]) ∧ Out .u8 5 w' W.heap.size A2 m c2 (byt M x) ∧ KDo B p g cp q s r h cr t b z o L R d (frL M (x : Int) o) T e wh bu fr A n c xs gb A1 c1 base w' ∧ Below B W w' ∧
      ∀ bb A n c xs, Out .u8 5 W bb A n c xs → Out .u8 5 w' bb A n c xs := by
  refine (rtake1_any t r b z o x T e h cr M _ W k.tw.rr k.tw.rp hx).mono ?_
  rintro ev w' ⟨A2, m, c2, rfl, ho, h1, h2, h3⟩
  have K := k.tw.keepR h3
  exact ⟨A2, m, c2, rfl, ho, k.move (k.tw.turnR h1 h2 h3 (frL_len ..)) K, K.1, fun bb A n c xs q => q.kept K.2 (fun ad e h2 => by obtain ⟨_, cur, hc⟩ := q.block ad e; exact (h2.2 cur).1 hc)⟩
/-- What do gives, where both sides are the same. -/
def GivesDo (w : World) (B p g cp q s r h cr t b z : Nat) (o : Int) (L : Slots) (d : Nat) : Ending → World → Prop := fun ev w' =>
  ev = .returned (.bool true) ∧ ∃ L' R' d', Two B p g cp q s r h cr t b z o L' R' d' L' R' d' Tr w' ∧ L'.length = L.length ∧ (∀ x ∈ R', x < L'.length) ∧ d' ≤ d + 1 ∧ Below B w w'
theorem GivesDo.of {w : World} {L0 : Slots} {d0 : Nat} (k : KDo B p g cp q s r h cr t b z o L R d L R d wh bu fr A n c xs gb A1 c1 base W) (hb : Below B w W) (hT : Kept (fun k => ∃ ad, A1 = some ad ∧ ad.block = k) W V) (hl : L.length = L0.length) (hR : ∀ x ∈ R, x < L.length) (hd : d ≤ d0 + 1) :
    GivesDo w B p g cp q s r h cr t b z o L0 d0 (.returned (.bool true)) V := by
  refine ⟨rfl, L, R, d, (k.tw.bytes hT (fun j ⟨ad, e, h2⟩ => ⟨fun f => f ad e h2, ?_⟩)).widen (fun _ _ _ => trivial), hl, hR, hd, hb.trans (hT.below (Nat.le_trans k.tw.lt (Nat.le_refl _)) (fun j ⟨ad, e, h2⟩ => ?_))⟩
  · obtain ⟨_, cur, hc⟩ := k.ow.block ad e
    rw [← h2]
    exact ⟨cur, hc⟩
  · have := (k.ow.block ad e).1
    have := k.lt
    omega
end
theorem ptR_in {L : Slots} {R : List Nat} {z : Nat} {o : Int} {n : Nat} {xs : List Int} (hR : ∀ x ∈ R, x < L.length) : ∀ x ∈ ptR L R z o n, x < (ptL L R z o xs).length := by
  intro x hx
  rw [ptL_len]
  unfold ptR at hx
  split at hx
  · next hE =>
    rcases List.mem_append.1 hx with h | h
    · exact hR x h
    · obtain rfl := List.mem_singleton.1 h
      unfold ptE at hE
      split at hE
      · exact (tkE_of hE).2.2
      · omega
  · exact hR x hx
theorem mvR_in {L : Slots} {R : List Nat} {z : Nat} {o b f : Int} (hR : ∀ x ∈ R, x < L.length) : ∀ x ∈ mvR L R z o b f, x < (mvL L R z o b f).length := by
  intro x hx
  rw [mvL_len]
  unfold mvR at hx
  split at hx
  · next hE =>
    rcases List.mem_append.1 hx with h | h
    · exact hR x h
    · obtain rfl := List.mem_singleton.1 h
      unfold mvE at hE
      split at hE
      · exact hdE_lt hE
      · omega
  · exact hR x hx
end Go.Proofs.Ytjaiagocbldbgaa
