/-
  Contracts of the document's Ends and Sums.
-/
import Derived.Test.YtggnkmllbpgfoaaDoorRApp
import Derived.Test.YtggnkmllbpgfoaaDoorSRefs
import Derived.Test.YtggnkmllbpgfoaaDoorRefF
import Derived.Test.YtggnkmllbpgfoaaDoorForce
import Derived.Deep.CutRange
namespace Go.Proofs.YtggnkmllbpgfoaaDoor
open Go.RowKit
set_option linter.unusedVariables false

theorem refNew_at (r e : Int) (hwf : (Lit.int .i64 r).wf = true) (hr : isR r = true) (he : ¬ e = 0) (w : World) : Calls Tryd.prog 24 #[.int .i64 r, .int .i64 e] w (GivesF w none [r] e) := by
  have := refNew_any r e w hwf
  rwa [if_neg (by simp [he, hr]), if_neg (by simp [he, hr])] at this
@[reducible] def flC (A : Option Addr) (n c : Nat) (e : Int) : Array Value := #[.slice A n c, .int .i64 e]
theorem flC_one (A : Option Addr) (n c : Nat) (e : Int) : (flC A n c e).all (·.oneCell') = true := by simp [Value.oneCell']
theorem Rd.other {k : IntKind} {w w' : World} {g B : Nat} {A : Option Addr} {n c : Nat} {xs : List Int} (h : Rd k w B A n c xs) (ho : ∀ j, j ≠ g → w'.heap[j]? = w.heap[j]?) (hg : A = none ∨ ∃ ad, A = some ad ∧ ad.block ≠ g) : Rd k w' B A n c xs :=
  ⟨h.1, h.2.1, h.2.2.1, h.2.2.2.1, fun i hi => by
    obtain ⟨b, o', e, hb, hc⟩ := h.2.2.2.2 i hi
    refine ⟨b, o', e, hb, ?_⟩
    rcases hg with hg | ⟨ad, hg, hne⟩
    · rw [hg] at e; cases e
    · rw [e] at hg
      injection hg with hg
      subst hg
      exact (World.cell?_of_block (a := ⟨b, o' + i, none⟩) (ho b hne)).trans hc⟩
/-- append as a step of the walk, behind a guard that says yes, its slot as a letter. -/
theorem wpList_appGD (dd : Option Tmp) {P : Program} {w : World} {ops : Array Oper} {rest : List Oper} {o : Oper} {a : Act} {Q : Exit → Act → World → Prop} (hgd : Region.wanted o (yielded ops a.tmps) = true) (hdd : o.dst = dd) (s x : Operand) (t : TypeId)
    (ho : o.op = .call { callee := .builtin .append, args := #[s, x], argTypes := #[t, t] }) (base : Nat) {k : IntKind} {e : TypeId} {by_ : Nat} (ht : P.underlying t = some (.slice e))
    (hinfo : (P.info? e).map (fun i => (i.zero, i.size, i.bytes)) = some (some (.int k 0), 1, by_)) (hby8 : by_ ≤ 8)
    (A0 : Option Addr) (n0 c0 : Nat) (xs : List Int) (hs : a.eval s = .slice A0 n0 c0) (hown : Out k e w base A0 n0 c0 xs)
    (A : Option Addr) (m c B : Nat) (ys : List Int) (hx : a.eval x = .slice A m c) (hr : Rd k w B A m c ys) (hsum : n0 + m ≤ 100000000) (hbase : base ≤ w.heap.size)
    (h : ∀ A' n' c' w', Out k e w' base A' n' c' (xs ++ ys) → w.grownBy w' (Value.slice A0 n0 c0).ownBlock → wpList P ops Q rest (a.put dd (.slice A' n' c')) w') : wpList P ops Q (o :: rest) a w := by
  subst hdd
  exact wpList_appG hgd s x t ho base ht hinfo hby8 A0 n0 c0 xs hs hown A m c B ys hx hr hsum hbase h
/-- A slice that lies in no block below B. -/
def Far (B : Nat) (A : Option Addr) : Prop := A = none ∨ ∃ ad, A = some ad ∧ B ≤ ad.block
theorem Far.less {B B' : Nat} {A : Option Addr} (h : Far B A) (hB : B' ≤ B) : Far B' A := h.imp id fun ⟨ad, e, q⟩ => ⟨ad, e, by omega⟩

set_option maxRecDepth 100000 in
set_option maxHeartbeats 4000000 in
theorem ends_any (f t : Int) (n : Int) (w : World) (hf : Ip f) (ht : Ip t) (hn : 0 ≤ n ∧ n ≤ 65535) : Calls Tryd.prog 32 #[.int .u32 f, .int .u32 t, .int .i64 6, .int .i64 n] w fun ev w' => ∃ A c, ev = .returned (.slice A 12 c) ∧ Out .u8 5 w' w.heap.size A 12 c (epR f t n) ∧ Below w.heap.size w w' := by
  have w6x : ∀ x ∈ two2 6, (Lit.int .u8 x).wf = true := two2_wf (by omega)
  go_enter Tryd.func32, Tryd.ntmps32
  go_wp2_with fail
  refine (four_any f _ hf).mono ?_
  rintro ev w1 ⟨g1, rfl, r1, hg1, b⟩
  go_wp2_with fail
  refine (four_any t _ ht).mono ?_
  rintro ev w2 ⟨g2, rfl, r2, -, hb2⟩
  replace r1 := r1.below hb2 r1.lt
  replace b := b.trans (hb2.mono b.size)
  have o1 := r1.own (n := 4) hg1 rfl (by omega) (four_wf hf)
  have d2 := r2.rdW (n := 4) rfl (by omega) (four_wf ht)
  clear hb2 r1 r2 hg1
  go_wp2_with (at_builtin; refine wpList_app rfl (.tmp 11) (.tmp 13) 22 rfl w.heap.size Tryd.underlying22 info5 (by omega) (some ⟨g1, 0, none⟩) 4 4 _ rfl o1 (some ⟨g2, 0, none⟩) 4 4 _ _ rfl d2 (by omega) b.size ?_; intro A3 n3 c3 w3 o3 hgr; replace b := b.trans (grown_low o1 hgr b.size))
  obtain rfl : 8 = n3 := o3.len
  clear o1 d2 hgr
  refine (refTwo_any 6 _ (by omega)).mono ?_
  rintro ev w4 ⟨g4, rfl, r4, -, hb4⟩
  replace o3 := o3.below hb4 (Nat.le_refl _)
  replace b := b.trans (hb4.mono b.size)
  have d4 := r4.rdW (n := 2) rfl (by omega) w6x
  clear hb4 r4
  go_wp2_with (at_builtin; refine wpList_app rfl (.tmp 15) (.tmp 17) 22 rfl w.heap.size Tryd.underlying22 info5 (by omega) A3 8 c3 _ rfl o3 (some ⟨g4, 0, none⟩) 2 2 _ _ rfl d4 (by omega) b.size ?_; intro A5 n5 c5 w5 o5 hgr; replace b := b.trans (grown_low o3 hgr b.size))
  obtain rfl : 10 = n5 := o5.len
  clear o3 d4 hgr
  refine (refTwo_any n _ hn).mono ?_
  rintro ev w6 ⟨g6, rfl, r6, -, hb6⟩
  replace o5 := o5.below hb6 (Nat.le_refl _)
  replace b := b.trans (hb6.mono b.size)
  have d6 := r6.rdW (n := 2) rfl (by omega) (two2_wf hn)
  clear hb6 r6
  go_wp2_with (at_builtin; refine wpList_app rfl (.tmp 18) (.tmp 20) 22 rfl w.heap.size Tryd.underlying22 info5 (by omega) A5 10 c5 _ rfl o5 (some ⟨g6, 0, none⟩) 2 2 _ _ rfl d6 (by omega) b.size ?_; intro A7 n7 c7 w7 o7 hgr; replace b := b.trans (grown_low o5 hgr b.size))
  obtain rfl : 12 = n7 := o7.len
  clear o5 d6 hgr
  go_ret
  exact ⟨A7, c7, rfl, o7, b⟩


set_option maxHeartbeats 2000000 in
theorem refSums_any (A : Option Addr) (n c : Nat) (xs : List Int) (f t : Int) (w : World) (hr : Rd .u8 w w.heap.size A n c xs) (hf : Ip f) (ht : Ip t) (hn : n ≤ 65535) :
    Calls Tryd.prog 15 #[.slice A n c, .int .u32 f, .int .u32 t] w fun e w' => e = .returned (.bool (sumB f t xs)) ∧ Below w.heap.size w w' := by
  have hl := hr.len
  unfold sumB
  rw [hl]
  have ca := ends_any f t n w hf ht (by omega)
  have EL : (epR f t n).length = 12 := rfl
  clear hl
  generalize epR f t n = EE at *
  go_enter Tryd.func15, Tryd.ntmps15
  go_wp2_with fail
  refine ca.mono ?_
  rintro ev w1 ⟨A1, c1, rfl, o1, b⟩
  have r1 := (hr.below b (Nat.le_refl _)).more b.size
  clear ca hr
  go_wp2_with (at_builtin; refine wpList_app rfl (.tmp 11) (.tmp 12) 22 rfl w.heap.size Tryd.underlying22 info5 (by omega) A1 12 c1 _ rfl o1 A n c _ _ rfl r1 (by omega) b.size ?_; intro A3 n3 c3 w3 o3 hgr; replace b := b.trans (grown_low o1 hgr b.size))
  have r3 := o3.rd
  have hn3 := o3.len
  rw [List.length_append, EL, r1.len] at hn3
  clear o3 o1 hgr r1
  refine (refTotal_any A3 n3 c3 _ _ _ r3 (by omega)).mono ?_
  rintro ev w4 ⟨rfl, rfl⟩
  clear r3
  go_wp2
  go_ret
  exact ⟨rfl, b⟩
end Go.Proofs.YtggnkmllbpgfoaaDoor
