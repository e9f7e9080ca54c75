/-
  Contracts of the document's New, Wrap and Reason.
-/
import Derived.Test.YtmapfpjinfjojaaDoorAt
import Derived.Deep.RegionHeld3
import Derived.Deep.AppendLies
namespace Go.Proofs.YtmapfpjinfjojaaDoor
open Go.RowKit

/-- The row at A is that at A0, or none, or new. -/
def New (w w' : World) (A0 A : Option Addr) : Prop := A = A0 ∨ A = none ∨ ∃ ad, A = some ad ∧ w.heap.size ≤ ad.block ∧ ad.block < w'.heap.size
theorem out_new {k : IntKind} {t : TypeId} {w w2 w' : World} {base : Nat} {A0 A : Option Addr} {n c : Nat} {xs : List Int} (h : Out k t w2 base A n c xs) (hb : w.heap.size ≤ base) (hw : w2.heap.size ≤ w'.heap.size) : New w w' A0 A := by
  rcases h.form with ⟨h, _⟩ | ⟨g, _, h, h', hh, _⟩
  · exact .inr (.inl h)
  · have hlt := (Array.getElem?_eq_some_iff.1 hh).1
    exact .inr (.inr ⟨_, h, by show w.heap.size ≤ g; omega, by show g < w'.heap.size; omega⟩)
/-- A fault of the document's: its reasons read as xs, its error is e; its row is that at A0, or new. -/
def GivesF (w : World) (A0 : Option Addr) (xs : List Int) (e : Int) (ev : Ending) (w' : World) : Prop :=
  ∃ A n c, ev = .returned (.agg #[.slice A n c, .int .i64 e]) ∧ Rd .i64 w' w'.heap.size A n c xs ∧ New w w' A0 A ∧ Below w.heap.size w w'

theorem rd_setCell {k : IntKind} {w : World} {B : Nat} {A : Option Addr} {n c : Nat} {xs : List Int} {g o : Nat} {u : Value} (h : Rd k w B A n c xs) (hg : A = none ∨ ∃ ad, A = some ad ∧ ad.block ≠ g) : Rd k (w.setCell ⟨g, o, none⟩ u) B A n c xs :=
  ⟨h.1, h.2.1, h.2.2.1, h.2.2.2.1, fun i hi => by
    obtain ⟨b, o', e, hb, hc⟩ := h.2.2.2.2 i hi
    refine ⟨b, o', e, hb, ?_⟩
    rw [World.cell?_setCell_other _ _ _ _ ?_]
    · exact hc
    · intro h'
      rcases hg with hg | ⟨ad, hg, hne⟩
      · rw [hg] at e; cases e
      · rw [e] at hg
        injection hg with hg
        subst hg
        injection h' with h1
        exact hne h1.symm⟩

theorem grown_keep {w w' : World} {row : Option Nat} (hg : w.grownBy w' row) {a : Addr} (h : a.block < w.heap.size) (hne : some a.block ≠ row) : w'.cell? a = w.cell? a ∧ w'.frozen? a = w.frozen? a :=
  ⟨World.cell?_of_block (hg.block _ h hne), World.frozen?_of_block (hg.block _ h hne)⟩
theorem step_app {P : Program} {w : World} {ops : Array Oper} {o : Oper} {a : Act} {K : Act → World → Prop} {Q : Exit → Act → World → Prop} {E : Prop} (hgd : o.guard = none) (s x : Operand) (t : TypeId)
    (ho : o.op = .call { callee := .builtin .append, args := #[s, x], argTypes := #[t, t] }) (base : Nat) {k : IntKind} {e : TypeId} {by_ : Nat} (ht : P.underlying t = some (.slice e))
    (hinfo : (P.info? e).map (fun i => (i.zero, i.size, i.bytes)) = some (some (.int k 0), 1, by_)) (hby8 : by_ ≤ 8)
    (A0 : Option Addr) (n0 c0 : Nat) (xs : List Int) (hs : a.eval s = .slice A0 n0 c0) (hown : Out k e w base A0 n0 c0 xs)
    (A : Option Addr) (m c B : Nat) (ys : List Int) (hx : a.eval x = .slice A m c) (hr : Rd k w B A m c ys) (hsum : n0 + m ≤ 100000000) (hbase : base ≤ w.heap.size)
    (h : ∀ A' n' c' w', Out k e w' base A' n' c' (xs ++ ys) → w.grownBy w' (Value.slice A0 n0 c0).ownBlock → K (a.put o.dst (.slice A' n' c')) w') :
    if Region.wanted o (yielded ops a.tmps) = true then Oper.wp P o a w K Q else E := by
  have hw : Region.wanted o (yielded ops a.tmps) = true := by simp [Region.wanted, hgd]
  rw [if_pos hw]
  exact wp_app s x t ho base ht hinfo hby8 A0 n0 c0 xs hs hown A m c B ys hx hr hsum hbase h

set_option maxHeartbeats 1000000 in
theorem refNew_any (r e : Int) (w : World) (hwf : (Lit.int .i64 r).wf = true) :
    Calls Tryd.prog 24 #[.int .i64 r, .int .i64 e] w (GivesF w none (if e = 0 ∨ isR r = false then [] else [r]) (if e = 0 ∨ isR r = false then 0 else e)) := by
  by_cases he : e = 0
  · rw [if_pos (.inl he), if_pos (.inl he)]
    subst he
    go_enter Tryd.func24, Tryd.ntmps24
    go_wp2
    exact bodyPost_ret (v := .agg #[.slice none 0 0, .int .i64 0]) (by simp [results, Tryd.results24, go_sem]) rfl ⟨none, 0, 0, rfl, Rd.nil, .inl rfl, alloc_below w _⟩
  · have he' : (e == 0) = false := by simpa using he
    have hE := word_isEmpty r
    by_cases hr : isR r = true
    · rw [if_neg (by simp [he, hr]), if_neg (by simp [he, hr])]
      rw [hr] at hE
      clear he
      go_enter Tryd.func24, Tryd.ntmps24
      go_wp2_with fail
      with_reducible refine (refWord_any _ _).mono ?_
      rintro ev w1 ⟨rfl, hb⟩
      have hb0 := (alloc_below w _).trans (hb.mono (by simp))
      have hz : w.heap.size < w1.heap.size := by have := hb.size; simp at this; omega
      have d0 : w1.cell? ⟨w.heap.size, 0, none⟩ = some (.slice none 0 0) := by rw [hb.cell (by simp)]; simp
      have d1 : w1.cell? ⟨w.heap.size, 1, none⟩ = some (.int .i64 0) := by rw [hb.cell (by simp)]; simp
      have e0 : w1.frozen? ⟨w.heap.size, 0, none⟩ = false := by rw [hb.frozen (by simp)]; simp
      have e1 : w1.frozen? ⟨w.heap.size, 1, none⟩ = false := by rw [hb.frozen (by simp)]; simp
      clear hb
      go_wp2
      refine bodyPost_ret (v := .agg #[.slice (some ⟨w1.heap.size, 0, none⟩) 1 1, .int .i64 e]) (by simp [results, Tryd.results24, go_sem, d0, d1, hz]) rfl ⟨_, _, _, rfl, ?_, .inr (.inr ⟨_, rfl, by simp; omega, by simp⟩), ?_⟩
      · have := rd_lit .i64 3 ((w1.setCell ⟨w.heap.size, 0, none⟩ (.slice (some ⟨w1.heap.size, 0, none⟩) 1 1)).setCell ⟨w.heap.size, 1, none⟩ (.int .i64 e)) [r] 1 rfl (by omega) (by simpa using hwf)
        simpa using this
      · exact ((hb0.setCell (Nat.le_refl _) _).setCell (Nat.le_refl _) _).alloc (by simp; omega) _
    · have hr : isR r = false := by simpa using hr
      rw [if_pos (.inr hr), if_pos (.inr hr)]
      rw [hr] at hE
      clear he
      go_enter Tryd.func24, Tryd.ntmps24
      go_wp2_with fail
      with_reducible refine (refWord_any _ _).mono ?_
      rintro ev w1 ⟨rfl, hb⟩
      have hb0 := (alloc_below w _).trans (hb.mono (by simp))
      have d0 : w1.cell? ⟨w.heap.size, 0, none⟩ = some (.slice none 0 0) := by rw [hb.cell (by simp)]; simp
      have d1 : w1.cell? ⟨w.heap.size, 1, none⟩ = some (.int .i64 0) := by rw [hb.cell (by simp)]; simp
      have e0 : w1.frozen? ⟨w.heap.size, 0, none⟩ = false := by rw [hb.frozen (by simp)]; simp
      have e1 : w1.frozen? ⟨w.heap.size, 1, none⟩ = false := by rw [hb.frozen (by simp)]; simp
      clear hb
      go_wp2
      exact bodyPost_ret (v := .agg #[.slice none 0 0, .int .i64 0]) (by simp [results, Tryd.results24, go_sem, d0, d1]) rfl ⟨_, _, _, rfl, Rd.nil, .inl rfl, (hb0.setCell (Nat.le_refl _) _).setCell (Nat.le_refl _) _⟩

set_option maxHeartbeats 2000000 in
theorem refWrap_any (A : Option Addr) (n c : Nat) (xs : List Int) (e r : Int) (w : World) (hr0 : Rd .i64 w w.heap.size A n c xs) (hwf : (Lit.int .i64 r).wf = true) (hn : n ≤ 1000) :
    Calls Tryd.prog 23 #[.agg #[.slice A n c, .int .i64 e], .int .i64 r] w (GivesF w A (if e = 0 then xs else wrapL xs r) e) := by
  by_cases he : e = 0
  · rw [if_pos he]
    subst he
    go_enter Tryd.func23, Tryd.ntmps23
    go_wp2
    have hb := (alloc_below w (.cells #[.slice A n c, .int .i64 0] 28)).alloc (by simp) (.cells #[.slice A n c, .int .i64 0] 28)
    exact bodyPost_ret (v := .agg #[.slice A n c, .int .i64 0]) (by simp [results, Tryd.results23, go_sem]) rfl ⟨A, n, c, rfl, (hr0.below hb (Nat.le_refl _)).more hb.size, .inl rfl, hb⟩
  · rw [if_neg he]
    have he' : (e == 0) = false := by simpa using he
    have hE := word_isEmpty r
    by_cases hr : isR r = true
    · rw [show wrapL xs r = r :: xs by simp only [wrapL, if_pos hr]]
      rw [hr] at hE
      clear he
      go_enter Tryd.func23, Tryd.ntmps23
      go_wp2_with fail
      with_reducible refine (refWord_any _ _).mono ?_
      rintro ev w1 ⟨rfl, hb⟩
      have hb0 := ((alloc_below w _).alloc (by simp) _).trans (hb.mono (by simp; omega))
      have hz : w.heap.size + 1 < w1.heap.size := by have := hb.size; simp at this; omega
      have c0 : w1.cell? ⟨w.heap.size, 0, none⟩ = some (.slice A n c) := by rw [hb.cell (by simp; omega)]; simp
      have c1 : w1.cell? ⟨w.heap.size, 1, none⟩ = some (.int .i64 e) := by rw [hb.cell (by simp; omega)]; simp
      have d0 : w1.cell? ⟨w.heap.size + 1, 0, none⟩ = some (.slice none 0 0) := by rw [hb.cell (by simp)]; simp
      have d1 : w1.cell? ⟨w.heap.size + 1, 1, none⟩ = some (.int .i64 0) := by rw [hb.cell (by simp)]; simp
      have e0 : w1.frozen? ⟨w.heap.size + 1, 0, none⟩ = false := by rw [hb.frozen (by simp)]; simp
      have e1 : w1.frozen? ⟨w.heap.size + 1, 1, none⟩ = false := by rw [hb.frozen (by simp)]; simp
      have hr2 : Rd .i64 w1 w.heap.size A n c xs := hr0.below hb0 (Nat.le_refl _)
      clear hb hr0
      have ol : Out .i64 3 (w1.alloc (.cells #[.int .i64 r] 3)) (w.heap.size + 2) (some ⟨w1.heap.size, 0, none⟩) 1 1 [r] :=
        ⟨World.ownsRow_lit w1 #[.int .i64 r] 1 (by omega) (by unfold maxLen; omega) rfl, by simpa using hwf⟩
      have rl : Rd .i64 (w1.alloc (.cells #[.int .i64 r] 3)) w.heap.size A n c xs := hr2.below (alloc_below w1 _) (by omega)
      clear hr2
      go_wp2_with fail
      have q0 : (w1.alloc (.cells #[.int .i64 r] 3)).cell? ⟨w.heap.size + 1, 0, none⟩ = some (.slice none 0 0) := by rw [World.cell?_alloc_lt _ _ _ (by simpa using hz)]; exact d0
      have q1 : (w1.alloc (.cells #[.int .i64 r] 3)).cell? ⟨w.heap.size + 1, 1, none⟩ = some (.int .i64 0) := by rw [World.cell?_alloc_lt _ _ _ (by simpa using hz)]; exact d1
      have p0 : (w1.alloc (.cells #[.int .i64 r] 3)).frozen? ⟨w.heap.size + 1, 0, none⟩ = false := by rw [World.frozen?_alloc_old _ _ _ (by simp; omega)]; exact e0
      have p1 : (w1.alloc (.cells #[.int .i64 r] 3)).frozen? ⟨w.heap.size + 1, 1, none⟩ = false := by rw [World.frozen?_alloc_old _ _ _ (by simp; omega)]; exact e1
      go_region_held3 (fun w' => w'.cell? ⟨w.heap.size, 0, none⟩ = some (.slice A n c) ∧ w'.cell? ⟨w.heap.size, 1, none⟩ = some (.int .i64 e))
        (first
          | go_keep
          | (go_split_ands
             refine ⟨?_, ?_⟩
             · (rw [(grown_keep hg (by simp; omega) (by simp [Value.ownBlock]; omega)).1]; assumption)
             · (rw [(grown_keep hg (by simp; omega) (by simp [Value.ownBlock]; omega)).1]; assumption)))
        ((refine step_app (by rfl) _ _ _ (by rfl) (w.heap.size + 2) Tryd.underlying23 info3 (by omega) (some ⟨w1.heap.size, 0, none⟩) 1 1 [r] (by rfl) ol A n c w.heap.size xs (by rfl) rl (by omega) (by simp; omega) ?_; intro A' n' c' w2 o2 hg;
          have x0 := (grown_keep hg (a := ⟨w.heap.size + 1, 0, none⟩) (by simp; omega) (by simp [Value.ownBlock]; omega)).1.trans q0;
          have x1 := (grown_keep hg (a := ⟨w.heap.size + 1, 1, none⟩) (by simp; omega) (by simp [Value.ownBlock]; omega)).1.trans q1;
          have y0 := (grown_keep hg (a := ⟨w.heap.size + 1, 0, none⟩) (by simp; omega) (by simp [Value.ownBlock]; omega)).2.trans p0;
          have y1 := (grown_keep hg (a := ⟨w.heap.size + 1, 1, none⟩) (by simp; omega) (by simp [Value.ownBlock]; omega)).2.trans p1))
      have hb1 : Below w.heap.size w (w1.alloc (.cells #[.int .i64 r] 3)).drew := (hb0.alloc hb0.size _).trans ⟨rfl, rfl, rfl, Nat.le_refl _, fun _ _ => rfl⟩
      have hb2 : Below w.heap.size w w2 := hb1.grown hg hb1.size (fun k hk => by simp [Value.ownBlock] at hk; omega)
      have hb3 := (hb2.setCell (p := ⟨w.heap.size + 1, 0, none⟩) (by simp) (.slice A' n' c')).setCell (p := ⟨w.heap.size + 1, 1, none⟩) (by simp) (.int .i64 e)
      have hfar : A' = none ∨ ∃ ad, A' = some ad ∧ ad.block ≠ w.heap.size + 1 := Out.far (base := w.heap.size + 1) o2 (Nat.le_refl _)
      have hnew : New w ((w2.setCell ⟨w.heap.size + 1, 0, none⟩ (.slice A' n' c')).setCell ⟨w.heap.size + 1, 1, none⟩ (.int .i64 e)) A A' := out_new o2 (by omega) (by simp)
      have hrd := rd_setCell (o := 1) (u := .int .i64 e) (rd_setCell (o := 0) (u := .slice A' n' c') o2.rd hfar) hfar
      clear hg ol rl q0 q1 p0 p1 o2 hfar hb2
      go_wp2
      refine bodyPost_ret (v := .agg #[.slice A' n' c', .int .i64 e]) (by simp [results, Tryd.results23, go_sem, x0, x1]) rfl ⟨A', n', c', rfl, ?_, hnew, hb3⟩
      simpa using hrd
    · have hr : isR r = false := by simpa using hr
      rw [show wrapL xs r = xs by simp only [wrapL, hr]; rfl]
      rw [hr] at hE
      clear he
      go_enter Tryd.func23, Tryd.ntmps23
      go_wp2_with fail
      with_reducible refine (refWord_any _ _).mono ?_
      rintro ev w1 ⟨rfl, hb⟩
      have hb0 := ((alloc_below w _).alloc (by simp) _).trans (hb.mono (by simp; omega))
      have hz : w.heap.size + 1 < w1.heap.size := by have := hb.size; simp at this; omega
      have c0 : w1.cell? ⟨w.heap.size, 0, none⟩ = some (.slice A n c) := by rw [hb.cell (by simp; omega)]; simp
      have c1 : w1.cell? ⟨w.heap.size, 1, none⟩ = some (.int .i64 e) := by rw [hb.cell (by simp; omega)]; simp
      have d0 : w1.cell? ⟨w.heap.size + 1, 0, none⟩ = some (.slice none 0 0) := by rw [hb.cell (by simp)]; simp
      have d1 : w1.cell? ⟨w.heap.size + 1, 1, none⟩ = some (.int .i64 0) := by rw [hb.cell (by simp)]; simp
      have e0 : w1.frozen? ⟨w.heap.size + 1, 0, none⟩ = false := by rw [hb.frozen (by simp)]; simp
      have e1 : w1.frozen? ⟨w.heap.size + 1, 1, none⟩ = false := by rw [hb.frozen (by simp)]; simp
      have hr2 : Rd .i64 w1 w.heap.size A n c xs := hr0.below hb0 (Nat.le_refl _)
      clear hb
      go_wp2
      have hb := (hb0.setCell (p := ⟨w.heap.size + 1, 0, none⟩) (by simp) (.slice A n c)).setCell (p := ⟨w.heap.size + 1, 1, none⟩) (by simp) (.int .i64 e)
      exact bodyPost_ret (v := .agg #[.slice A n c, .int .i64 e]) (by simp [results, Tryd.results23, go_sem, d0, d1]) rfl ⟨A, n, c, rfl, (hr0.below hb (Nat.le_refl _)).more hb.size, .inl rfl, hb⟩

set_option maxHeartbeats 400000 in
theorem refReason_any (A : Option Addr) (n c : Nat) (xs : List Int) (e : Int) (w : World) (hr : Rd .i64 w w.heap.size A n c xs) :
    Calls Tryd.prog 14 #[.agg #[.slice A n c, .int .i64 e]] w fun ev w' => ev = .returned (.int .i64 (reasonV e xs)) ∧ Below w.heap.size w w' := by
  have hmax := hr.max
  have hcap := hr.cap
  have hlen := hr.len
  cases xs with
  | nil =>
    obtain rfl : 0 = n := hlen
    go_enter Tryd.func14, Tryd.ntmps14
    go_wp2_with (go_at_call 18; refine (refOf_any _ _).mono ?_; rintro ev w' ⟨rfl, rfl⟩)
    go_ret
    exact ⟨rfl, alloc_below w _⟩
  | cons r xs =>
    have hn : 0 < n := by simp at hlen; omega
    obtain ⟨b, o, rfl, hb, hc⟩ := (hr.below (alloc_below w (.cells #[.slice A n c, .int .i64 e] 28)) (Nat.le_refl _)).at_ hn
    simp at hc
    clear hlen
    go_enter Tryd.func14, Tryd.ntmps14
    go_wp2
    go_ret
    exact ⟨rfl, alloc_below w _⟩
end Go.Proofs.YtmapfpjinfjojaaDoor
