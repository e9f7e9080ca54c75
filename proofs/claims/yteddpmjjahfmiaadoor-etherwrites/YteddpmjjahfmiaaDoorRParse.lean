/-
  Contract of the document's Parse, where all is well.
-/
import Derived.Test.YteddpmjjahfmiaaDoorRParseE
namespace Go.Proofs.YteddpmjjahfmiaaDoor
open Go.RowKit

theorem wpList_appD (dd : Option Tmp) {P : Program} {w : World} {ops : Array Oper} {rest : List Oper} {o : Oper} {a : Act} {Q : Exit → Act → World → Prop} (hgd : o.guard = none) (hdd : o.dst = dd) (s x : Operand) (t : TypeId)
    (ho : o.op = .call { callee := .builtin .append, args := #[s, x], argTypes := #[t, t] }) (base : Nat) {k : IntKind} {e : TypeId} {by_ : Nat} (ht : P.underlying t = some (.slice e))
    (hinfo : (P.info? e).map (fun i => (i.zero, i.size, i.bytes)) = some (some (.int k 0), 1, by_)) (hby8 : by_ ≤ 8)
    (A0 : Option Addr) (n0 c0 : Nat) (xs : List Int) (hs : a.eval s = .slice A0 n0 c0) (hown : Out k e w base A0 n0 c0 xs)
    (A : Option Addr) (m c B : Nat) (ys : List Int) (hx : a.eval x = .slice A m c) (hr : Rd k w B A m c ys) (hsum : n0 + m ≤ 100000000) (hbase : base ≤ w.heap.size)
    (h : ∀ A' n' c' w', Out k e w' base A' n' c' (xs ++ ys) → w.grownBy w' (Value.slice A0 n0 c0).ownBlock → wpList P ops Q rest (a.put dd (.slice A' n' c')) w') : wpList P ops Q (o :: rest) a w := by
  subst hdd
  exact wpList_app hgd s x t ho base ht hinfo hby8 A0 n0 c0 xs hs hown A m c B ys hx hr hsum hbase h
theorem Out.own {k : IntKind} {e : TypeId} {w : World} {base : Nat} {A : Option Addr} {n c : Nat} {xs : List Int} (h : Out k e w base A n c xs) : (Value.slice A n c).ownBlock = none ∨ ∃ g, (Value.slice A n c).ownBlock = some g ∧ base ≤ g := by
  rcases h.form with ⟨rfl, _⟩ | ⟨g, cur, rfl, hb, _⟩
  · exact .inl rfl
  · exact .inr ⟨g, rfl, hb⟩
theorem grown_low {w w' : World} {k : IntKind} {e : TypeId} {base : Nat} {A : Option Addr} {n c : Nat} {xs : List Int} (h : Out k e w base A n c xs) (hg : w.grownBy w' (Value.slice A n c).ownBlock) (hb : base ≤ w.heap.size) : Below base w w' :=
  (Below.refl base w).grown hg hb (fun k hk => by rcases h.own with e0 | ⟨g, e0, hg⟩ <;> rw [e0] at hk <;> cases hk; exact hg)
theorem Out.far35 {w : World} {base g : Nat} {A : Option Addr} {n c : Nat} {xs : List Int} {cs : Array Value} {T : TypeId} (h : Out .u8 5 w base A n c xs) (hf : w.heap[g]? = some (.cells cs T (0, 0))) (hT : T ≠ 5) : A = none ∨ ∃ ad, A = some ad ∧ ad.block ≠ g := by
  rcases h.form with ⟨rfl, _⟩ | ⟨q, cur, rfl, _, hh, _⟩
  · exact .inl rfl
  · refine .inr ⟨_, rfl, fun (e : q = g) => ?_⟩
    subst e
    rw [hh] at hf
    injection hf with hf
    injection hf with _ h2
    exact hT h2.symm
theorem Out.only {k : IntKind} {e : TypeId} {w w' : World} {base g : Nat} {A : Option Addr} {n c : Nat} {xs : List Int} (h : Out k e w base A n c xs) (ho : ∀ j, j ≠ g → w'.heap[j]? = w.heap[j]?) (hf : A = none ∨ ∃ ad, A = some ad ∧ ad.block ≠ g) : Out k e w' base A n c xs := by
  refine ⟨⟨h.1.1, ?_⟩, h.2⟩
  rcases h.1.2 with hv | ⟨q, cap, cur, hv, hbg, hh, r⟩
  · exact .inl hv
  · refine .inr ⟨q, cap, cur, hv, hbg, ?_, r⟩
    injection hv with e1 _ _
    rcases hf with hf | ⟨ad, hf, hne⟩
    · rw [hf] at e1; cases e1
    · rw [hf] at e1
      injection e1 with e1
      subst e1
      exact (ho q hne).trans hh
theorem FrAt.grown {w w' : World} {g : Nat} {T : TypeId} {t f : Mac6} {k : Int} {A : Option Addr} {n c : Nat} {row : Option Nat} (h : FrAt w g T t f k A n c) (hg : w.grownBy w' row) (hne : some g ≠ row) : FrAt w' g T t f k A n c := (hg.block _ h.lt hne).trans h

/-- What the walk knows ahead of the frame: the answers' blocks, the bytes that came in. -/
structure Q0 (w : World) (A : Option Addr) (n c : Nat) (xs : List Int) (x y : Int) (b o : Nat) (W : World) : Prop where
  z : RZ w W
  rd : Rd .u8 W w.heap.size A n c xs
  c12 : W.cell? ⟨b, o + 12, none⟩ = some (.int .u8 x)
  c13 : W.cell? ⟨b, o + 13, none⟩ = some (.int .u8 y)
  hb : b < w.heap.size
  sz : w.heap.size + 2 ≤ W.heap.size
theorem Q0.low {w W V : World} {A : Option Addr} {n c b o : Nat} {xs : List Int} {x y : Int} (h : Q0 w A n c xs x y b o W) (hb : Below (w.heap.size + 2) W V) : Q0 w A n c xs x y b o V :=
  ⟨⟨h.z.z.below hb (by omega), (hb.block _ (by omega)).trans h.z.y, h.z.below.trans (hb.mono (by omega))⟩, h.rd.below hb (by omega), (hb.cell (by have := h.hb; show b < _; omega)).trans h.c12, (hb.cell (by have := h.hb; show b < _; omega)).trans h.c13, h.hb, Nat.le_trans h.sz hb.size⟩
theorem Q0.step {w W V : World} {A : Option Addr} {n c b o : Nat} {xs : List Int} {x y : Int} (h : Q0 w A n c xs x y b o W) (hb : Below W.heap.size W V) : Q0 w A n c xs x y b o V := h.low (hb.mono h.sz)
/-- What the walk knows of the frame: its block g, its body's row. -/
structure RK (w : World) (A : Option Addr) (n c : Nat) (xs : List Int) (g : Nat) (A' : Option Addr) (n' c' : Nat) (t f : Mac6) (W : World) : Prop where
  z : RZ w W
  fr : FrAt W g 35 t f (kOf xs) A' n' c'
  out : Out .u8 5 W (w.heap.size + 2) A' n' c' (xs.drop 14)
  rd : Rd .u8 W w.heap.size A n c xs
  far : A' = none ∨ ∃ ad, A' = some ad ∧ ad.block ≠ g
  ng : w.heap.size + 1 < g
theorem Only.setCell (g i : Nat) (W : World) (v : Value) : Only g W (W.setCell ⟨g, i, none⟩ v) :=
  ⟨(Below.refl g W).setCell (p := ⟨g, i, none⟩) (Nat.le_refl _) _, fun j hj => by simp [World.setCell, Array.getElem?_modify, Ne.symm hj], by simp⟩
theorem Only.trans {g : Nat} {w w' w'' : World} (h : Only g w w') (h' : Only g w' w'') : Only g w w'' := ⟨h.below.trans h'.below, fun j hj => (h'.other j hj).trans (h.other j hj), h'.size.trans h.size⟩
theorem blk_set {w : World} {g : Nat} {cs : Array Value} {t : TypeId} (h : w.heap[g]? = some (.cells cs t (0, 0))) (i : Nat) (v : Value) : (w.setCell ⟨g, i, none⟩ v).heap[g]? = some (.cells (cs.setIfInBounds i v) t (0, 0)) := by
  simp [World.setCell, Array.getElem?_modify, h]
theorem RK.only {w W V : World} {A : Option Addr} {n c : Nat} {xs : List Int} {g : Nat} {A' : Option Addr} {n' c' : Nat} {t f t' f' : Mac6} (h : RK w A n c xs g A' n' c' t f W) (ho : Only g W V) (hf : FrAt V g 35 t' f' (kOf xs) A' n' c') : RK w A n c xs g A' n' c' t' f' V :=
  ⟨⟨h.z.z.below ho.below (by have := h.ng; omega), (ho.other _ (by have := h.ng; omega)).trans h.z.y, h.z.below.trans (ho.below.mono (by have := h.ng; omega))⟩, hf, h.out.only ho.other h.far, h.rd.below ho.below (by have := h.ng; omega), h.far, h.ng⟩
/-- The first j of six, noughts behind them. -/
def fill (j : Nat) (m : Mac6) : Mac6 := ⟨if 0 < j then m.a else 0, if 1 < j then m.b else 0, if 2 < j then m.c else 0, if 3 < j then m.d else 0, if 4 < j then m.e else 0, if 5 < j then m.f else 0⟩
theorem fill_6 (m : Mac6) : fill 6 m = m := by simp [fill]
theorem RK.put0 {w W : World} {A : Option Addr} {n c : Nat} {xs : List Int} {g : Nat} {A' : Option Addr} {n' c' : Nat} {t f : Mac6} (h : RK w A n c xs g A' n' c' (fill 0 t) (fill 0 f) W) : RK w A n c xs g A' n' c' (fill 1 t) (fill 1 f) ((W.setCell ⟨g, 0, none⟩ (.int .u8 t.a)).setCell ⟨g, 6, none⟩ (.int .u8 f.a)) :=
  h.only ((Only.setCell g 0 W _).trans (Only.setCell g 6 _ _)) (blk_set (blk_set h.fr 0 _) 6 _)
theorem RK.put1 {w W : World} {A : Option Addr} {n c : Nat} {xs : List Int} {g : Nat} {A' : Option Addr} {n' c' : Nat} {t f : Mac6} (h : RK w A n c xs g A' n' c' (fill 1 t) (fill 1 f) W) : RK w A n c xs g A' n' c' (fill 2 t) (fill 2 f) ((W.setCell ⟨g, 1, none⟩ (.int .u8 t.b)).setCell ⟨g, 7, none⟩ (.int .u8 f.b)) :=
  h.only ((Only.setCell g 1 W _).trans (Only.setCell g 7 _ _)) (blk_set (blk_set h.fr 1 _) 7 _)
theorem RK.put2 {w W : World} {A : Option Addr} {n c : Nat} {xs : List Int} {g : Nat} {A' : Option Addr} {n' c' : Nat} {t f : Mac6} (h : RK w A n c xs g A' n' c' (fill 2 t) (fill 2 f) W) : RK w A n c xs g A' n' c' (fill 3 t) (fill 3 f) ((W.setCell ⟨g, 2, none⟩ (.int .u8 t.c)).setCell ⟨g, 8, none⟩ (.int .u8 f.c)) :=
  h.only ((Only.setCell g 2 W _).trans (Only.setCell g 8 _ _)) (blk_set (blk_set h.fr 2 _) 8 _)
theorem RK.put3 {w W : World} {A : Option Addr} {n c : Nat} {xs : List Int} {g : Nat} {A' : Option Addr} {n' c' : Nat} {t f : Mac6} (h : RK w A n c xs g A' n' c' (fill 3 t) (fill 3 f) W) : RK w A n c xs g A' n' c' (fill 4 t) (fill 4 f) ((W.setCell ⟨g, 3, none⟩ (.int .u8 t.d)).setCell ⟨g, 9, none⟩ (.int .u8 f.d)) :=
  h.only ((Only.setCell g 3 W _).trans (Only.setCell g 9 _ _)) (blk_set (blk_set h.fr 3 _) 9 _)
theorem RK.put4 {w W : World} {A : Option Addr} {n c : Nat} {xs : List Int} {g : Nat} {A' : Option Addr} {n' c' : Nat} {t f : Mac6} (h : RK w A n c xs g A' n' c' (fill 4 t) (fill 4 f) W) : RK w A n c xs g A' n' c' (fill 5 t) (fill 5 f) ((W.setCell ⟨g, 4, none⟩ (.int .u8 t.e)).setCell ⟨g, 10, none⟩ (.int .u8 f.e)) :=
  h.only ((Only.setCell g 4 W _).trans (Only.setCell g 10 _ _)) (blk_set (blk_set h.fr 4 _) 10 _)
theorem RK.put5 {w W : World} {A : Option Addr} {n c : Nat} {xs : List Int} {g : Nat} {A' : Option Addr} {n' c' : Nat} {t f : Mac6} (h : RK w A n c xs g A' n' c' (fill 5 t) (fill 5 f) W) : RK w A n c xs g A' n' c' (fill 6 t) (fill 6 f) ((W.setCell ⟨g, 5, none⟩ (.int .u8 t.f)).setCell ⟨g, 11, none⟩ (.int .u8 f.f)) :=
  h.only ((Only.setCell g 5 W _).trans (Only.setCell g 11 _ _)) (blk_set (blk_set h.fr 5 _) 11 _)

set_option maxRecDepth 100000 in
set_option maxHeartbeats 4000000 in
theorem refParse_ok (A : Option Addr) (n c : Nat) (xs : List Int) (w : World) (hr : Rd .u8 w w.heap.size A n c xs) (h14 : 14 ≤ n) (hmx : n ≤ 1514) (hg : grpV (six (xs.drop 6)) = false) :
    Calls Tryd.prog 10 #[.slice A n c] w fun ev w' => ∃ A' n' c', ev = .returned (.tuple #[frV (six xs) (six (xs.drop 6)) (kOf xs) A' n' c', .agg #[.slice none 0 0, .int .i64 0]]) ∧ Out .u8 5 w' w.heap.size A' n' c' (xs.drop 14) ∧ Below w.heap.size w w' := by
  obtain ⟨b, o, rfl, hb, hc12⟩ := hr.at_ (i := 12) (by omega)
  obtain ⟨b', o', e', hb', hc13⟩ := hr.at_ (i := 13) (by omega)
  injection e' with e'
  injection e' with e1 e2
  subst e1 e2
  obtain ⟨b', o', e', -, hc6⟩ := hr.at_ (i := 6) (by omega)
  injection e' with e'
  injection e' with e1 e2
  subst e1 e2
  clear hb'
  have hx12 := u8_bd (hr.wf (i := 12) (by omega))
  have hx13 := u8_bd (hr.wf (i := 13) (by omega))
  have hx6 := u8_bd (hr.wf (i := 6) (by omega))
  have hg6 : (xs.getD 6 0 % 2 == 1) = false := by
    have e : (six (xs.drop 6)).a = xs.getD 6 0 := by simp [six, List.getD]
    have h := hg
    unfold grpV at h
    rwa [e] at h
  obtain ⟨v, hv⟩ : ∃ v : Nat → Int, ∀ i, v i = xs.getD i 0 := ⟨_, fun _ => rfl⟩
  have hT : six xs = ⟨v 0, v 1, v 2, v 3, v 4, v 5⟩ := by simp [six, hv, List.getD]
  have hF : six (xs.drop 6) = ⟨v 6, v 7, v 8, v 9, v 10, v 11⟩ := by simp [six, hv, List.getD]
  have hcell : ∀ W, Rd .u8 W w.heap.size (some ⟨b, o, none⟩) n c xs → ∀ i, i < 14 → W.cell? ⟨b, o + i, none⟩ = some (.int .u8 (v i)) := by
    intro W h i hi
    obtain ⟨b', o', e', -, hc⟩ := h.at_ (i := i) (by omega)
    injection e' with e'
    injection e' with e1 e2
    subst e1 e2
    rw [hv]
    exact hc
  rw [hT, hF]
  have Hc := Lib.hid hcell
  clear hcell hT hF hv
  have hcap := hr.cap
  have hmax := hr.max
  have HL := Lib.hid hr.len
  have Hk : Hid (kOf xs = xs.getD 12 0 * 256 + xs.getD 13 0) := Lib.hid rfl
  generalize xs.getD 12 0 = x at *
  generalize xs.getD 13 0 = y at *
  generalize xs.getD 6 0 = x6 at *
  have wxy : IntKind.u16.wrap (x * 256 + y) = x * 256 + y := by rw [IntKind.wrap_u16]; omega
  have v1 : IntKind.i64.wrap x = x := by rw [IntKind.wrap_i64]; omega
  have v2 : IntKind.i64.wrap y = y := by rw [IntKind.wrap_i64]; omega
  have v3 : IntKind.i64.wrap (x * 256) = x * 256 := by rw [IntKind.wrap_i64]; omega
  have v4 : IntKind.i64.wrap (x * 256 + y) = x * 256 + y := by rw [IntKind.wrap_i64]; omega
  have i0 : (6 : Int) < (n : Int) := by omega
  have i1 : (12 : Int) < (n : Int) := by omega
  have i2 : (13 : Int) < (n : Int) := by omega
  have j14 : (14 : Int) ≤ (n : Int) := by omega
  have hbl : Below w.heap.size w ((w.alloc (.cells (frC zero6 zero6 0 none 0 0) 35)).alloc (.cells (flC none 0 0 0) 39)) := (RZ.start w).below
  have q0 : Q0 w (some ⟨b, o, none⟩) n c xs x y b o ((w.alloc (.cells (frC zero6 zero6 0 none 0 0) 35)).alloc (.cells (flC none 0 0 0) 39)) := ⟨RZ.start w, hr.below hbl (Nat.le_refl _), (hbl.cell hb).trans hc12, (hbl.cell hb).trans hc13, hb, by simp⟩
  replace q0 := q0.step (below_drew _)
  go_enter Tryd.func10, Tryd.ntmps10
  go_wp2_with fail
  clear hc6 hg6 hc12 hc13 hr hbl
  go_cut [4] from 23 to 38 (fun x4 wc => ∃ g A' n' c', x4 = .pointer (some ⟨g, 0, none⟩) ∧ RK w (some ⟨b, o, none⟩) n c xs g A' n' c' zero6 zero6 wc)
  case first =>
    refine wp_region_held_drew (S := fun w' => Q0 w (some ⟨b, o, none⟩) n c xs x y b o w') (by kernel_rfl) q0 (fun hHeld => ?_)
    change wpAnyH _ _ _ _ _ _ _ _ ((w.alloc (.cells (frC zero6 zero6 0 none 0 0) 35)).alloc (.cells (flC none 0 0 0) 39)).drew
    clear hHeld
    generalize ((w.alloc (.cells (frC zero6 zero6 0 none 0 0) 35)).alloc (.cells (flC none 0 0 0) 39)).drew = W1 at *
    refine wpAnyH_at (i := 0) (some 23) (v := ?v0z1) rfl rfl (by kernel_rfl) (by kernel_rfl) (by kernel_rfl) (fun _ _ _ h => h) (Or.inl ⟨by rfl, ?y0z1⟩) (by assumption) ?r0z1
    case y0z1 =>
      intro w9 hSw
      (have q1 := hSw.c12); (have q2 := hSw.c13); clear hSw
      go_simp
      all_goals with_reducible rfl
    simp only [Act.put, List.setIfInBounds_toArray, List.set_cons_zero, List.set_cons_succ]
    refine wpAnyH_at (i := 1) (some 24) (v := ?v1z2) rfl rfl (by kernel_rfl) (by kernel_rfl) (by kernel_rfl) (fun _ _ _ h => h) (Or.inl ⟨by rfl, ?y1z2⟩) (by assumption) ?r1z2
    case y1z2 =>
      intro w9 hSw
      (have q1 := hSw.c12); (have q2 := hSw.c13); clear hSw
      go_simp
      all_goals with_reducible rfl
    simp only [Act.put, List.setIfInBounds_toArray, List.set_cons_zero, List.set_cons_succ]
    refine wpAnyH_at (i := 2) (some 25) (v := ?v2z3) rfl rfl (by kernel_rfl) (by kernel_rfl) (by kernel_rfl) (fun _ _ _ h => h) (Or.inl ⟨by rfl, ?y2z3⟩) (by assumption) ?r2z3
    case y2z3 =>
      intro w9 hSw
      (have q1 := hSw.c12); (have q2 := hSw.c13); clear hSw
      go_simp
      all_goals with_reducible rfl
    simp only [Act.put, List.setIfInBounds_toArray, List.set_cons_zero, List.set_cons_succ]
    refine wpAnyH_at (i := 3) (some 26) (v := ?v3z4) rfl rfl (by kernel_rfl) (by kernel_rfl) (by kernel_rfl) (fun _ _ _ h => h) (Or.inl ⟨by rfl, ?y3z4⟩) (by assumption) ?r3z4
    case y3z4 =>
      intro w9 hSw
      (have q1 := hSw.c12); (have q2 := hSw.c13); clear hSw
      go_simp
      all_goals with_reducible rfl
    simp only [Act.put, List.setIfInBounds_toArray, List.set_cons_zero, List.set_cons_succ]
    refine wpAnyH_at (i := 4) (some 27) (v := ?v4z5) rfl rfl (by kernel_rfl) (by kernel_rfl) (by kernel_rfl) (fun _ _ _ h => h) (Or.inl ⟨by rfl, ?y4z5⟩) (by assumption) ?r4z5
    case y4z5 =>
      intro w9 hSw
      (have q1 := hSw.c12); (have q2 := hSw.c13); clear hSw
      go_simp
      all_goals with_reducible rfl
    simp only [Act.put, List.setIfInBounds_toArray, List.set_cons_zero, List.set_cons_succ]
    refine wpAnyH_at (i := 5) (some 28) (v := ?v5z6) rfl rfl (by kernel_rfl) (by kernel_rfl) (by kernel_rfl) (fun _ _ _ h => h) (Or.inl ⟨by rfl, ?y5z6⟩) (by assumption) ?r5z6
    case y5z6 =>
      intro w9 hSw
      (have q1 := hSw.c12); (have q2 := hSw.c13); clear hSw
      go_simp
      all_goals with_reducible rfl
    simp only [Act.put, List.setIfInBounds_toArray, List.set_cons_zero, List.set_cons_succ]
    refine wpAnyH_at (i := 6) (some 29) (v := ?v6z7) rfl rfl (by kernel_rfl) (by kernel_rfl) (by kernel_rfl) (fun _ _ _ h => h) (Or.inl ⟨by rfl, ?y6z7⟩) (by assumption) ?r6z7
    case y6z7 =>
      intro w9 hSw
      (have q1 := hSw.c12); (have q2 := hSw.c13); clear hSw
      go_simp
      all_goals with_reducible rfl
    simp only [Act.put, List.setIfInBounds_toArray, List.set_cons_zero, List.set_cons_succ]
    refine wpAnyH_at (i := 7) (some 30) (v := ?v7z8) rfl rfl (by kernel_rfl) (by kernel_rfl) (by kernel_rfl) (fun _ _ _ h => h) (Or.inl ⟨by rfl, ?y7z8⟩) (by assumption) ?r7z8
    case y7z8 =>
      intro w9 hSw
      (have q1 := hSw.c12); (have q2 := hSw.c13); clear hSw
      go_simp
      all_goals with_reducible rfl
    simp only [Act.put, List.setIfInBounds_toArray, List.set_cons_zero, List.set_cons_succ]
    refine wpAnyH_at (i := 8) (some 31) (v := ?v8z9) rfl rfl (by kernel_rfl) (by kernel_rfl) (by kernel_rfl) (fun _ _ _ h => h) (Or.inl ⟨by rfl, ?y8z9⟩) (by assumption) ?r8z9
    case y8z9 =>
      intro w9 hSw
      (have q1 := hSw.c12); (have q2 := hSw.c13); clear hSw
      go_simp
      all_goals with_reducible rfl
    simp only [Act.put, List.setIfInBounds_toArray, List.set_cons_zero, List.set_cons_succ]
    refine wpAnyH_at (i := 9) (some 32) (v := ?v9z10) rfl rfl (by kernel_rfl) (by kernel_rfl) (by kernel_rfl) (fun _ _ _ h => h) (Or.inl ⟨by rfl, ?y9z10⟩) (by assumption) ?r9z10
    case y9z10 =>
      intro w9 hSw
      (have q1 := hSw.c12); (have q2 := hSw.c13); clear hSw
      go_simp
      all_goals with_reducible rfl
    simp only [Act.put, List.setIfInBounds_toArray, List.set_cons_zero, List.set_cons_succ]
    refine wpAnyH_at (i := 10) (some 33) (v := ?v10z11) rfl rfl (by kernel_rfl) (by kernel_rfl) (by kernel_rfl) (fun _ _ _ h => h) (Or.inl ⟨by rfl, ?y10z11⟩) (by assumption) ?r10z11
    case y10z11 =>
      intro w9 hSw
      (have q1 := hSw.c12); (have q2 := hSw.c13); clear hSw
      go_simp
      all_goals with_reducible rfl
    simp only [Act.put, List.setIfInBounds_toArray, List.set_cons_zero, List.set_cons_succ]
    refine wpAnyH_at (i := 12) (some 35) (v := ?v12z12) rfl rfl (by kernel_rfl) (by kernel_rfl) (by kernel_rfl) (fun _ _ _ h => h) (Or.inl ⟨by rfl, ?y12z12⟩) (by assumption) ?r12z12
    case y12z12 =>
      intro w9 hSw
      clear hSw
      go_simp
      all_goals with_reducible rfl
    simp only [Act.put, List.setIfInBounds_toArray, List.set_cons_zero, List.set_cons_succ]
    refine wpAnyH_at (i := 13) (some 36) (v := .slice (cutA (some ⟨b, o, none⟩) c 14) (n - 14) (c - 14)) rfl rfl (by kernel_rfl) (by kernel_rfl) (by kernel_rfl) (fun _ _ _ h => h) (Or.inl ⟨by rfl, ?y13z13⟩) (by assumption) ?r13z13
    case y13z13 =>
      intro w9 hSw
      clear hSw
      by_cases hq : c = 14
      · rw [cutA_eq hq]
        subst hq
        go_simp
      · rw [cutA_ne hq]
        go_simp
    simp only [Act.put, List.setIfInBounds_toArray, List.set_cons_zero, List.set_cons_succ]
    have hs1 := q0.sz
    refine wpAnyH_two (i := 11) (j := 16) (by kernel_rfl) rfl rfl ?_ ?_
    · have o0 := Out.lit0 .u8 5 W1 (w.heap.size + 2) q0.sz
      have bb := alloc_below W1 (.cells #[] 5)
      have hv : (W1.alloc (.cells #[] 5)).heap.size = W1.heap.size + 1 := by simp
      replace q0 := q0.step bb
      skip
      go_wp2
      refine ⟨q0, ?_⟩
      change wpAnyH _ _ _ _ _ _ _ _ (W1.alloc (.cells #[] 5))
      generalize W1.alloc (.cells #[] 5) = w2 at *
      clear bb
      refine wpAnyH_two (i := 14) (j := 16) (by kernel_rfl) rfl rfl ?_ ?_
      · refine wpList_appD (some 37) rfl rfl (.tmp 34) (.tmp 36) 22 rfl (w.heap.size + 2) Tryd.underlying22 info5 (by omega) (some ⟨W1.heap.size, 0, none⟩) 0 0 [] rfl o0 (cutA (some ⟨b, o, none⟩) c 14) (n - 14) (c - 14) w.heap.size (xs.drop 14) rfl (q0.rd.cutFrom 14 (by omega)) (by omega) q0.sz ?_
        intro A' n' c' w3 o1 hgr
        rw [List.nil_append] at o1
        replace q0 := q0.low (grown_low o0 hgr q0.sz)
        skip
        have grow_sz : w2.heap.size ≤ w3.heap.size := hgr.size
        clear o0 hgr
        go_wp2
        refine ⟨q0, ?_⟩
        refine wpAnyH_at (i := 15) (some 38) (v := ?v15z14) rfl rfl (by kernel_rfl) (by kernel_rfl) (by kernel_rfl) (fun _ _ _ h => h) (Or.inl ⟨by rfl, ?y15z14⟩) (by assumption) ?r15z14
        case y15z14 =>
          intro w9 hSw
          clear hSw
          go_simp
          all_goals with_reducible rfl
        simp only [Act.put, List.setIfInBounds_toArray, List.set_cons_zero, List.set_cons_succ]
        refine wpAnyH_one (i := 16) (by kernel_rfl) rfl ?_
        have f0 := FrAt.new w3 35 zero6 zero6 0 none 0 0
        have bb := alloc_below w3 (.cells (frC zero6 zero6 0 none 0 0) 35)
        have hv : (w3.alloc (.cells (frC zero6 zero6 0 none 0 0) 35)).heap.size = w3.heap.size + 1 := by simp
        replace q0 := q0.step bb
        replace o1 := o1.below bb (Nat.le_refl _)
        have hw3 := q0.sz
        have hw3' : w.heap.size + 2 ≤ w3.heap.size := by have := grow_sz; omega
        go_wp2
        refine ⟨q0, ?_⟩
        change wpAnyH _ _ _ _ _ _ _ _ (w3.alloc (.cells (frC zero6 zero6 0 none 0 0) 35))
        generalize w3.alloc (.cells (frC zero6 zero6 0 none 0 0) 35) = w4 at *
        refine wpAnyH_one (i := 17) (by kernel_rfl) rfl ?_
        refine wpList_stF rfl rfl 35 _ _ rfl (w3.heap.size) (frC zero6 zero6 (kOf xs) A' n' c') rfl ?_ 35 _ f0 (by kernel_rfl) rfl (frC_one ..) ?_
        · rw [Hk.out]
          rfl
        intro w9 f9 hb9 ho9 hs9
        have far := o1.far35 f0 (by decide)
        have rk : RK w (some ⟨b, o, none⟩) n c xs (w3.heap.size) A' n' c' zero6 zero6 w9 :=
          ⟨(q0.low (hb9.mono (by omega))).z, f9, o1.only ho9 far, (q0.low (hb9.mono (by omega))).rd, far, by omega⟩
        replace q0 := q0.low (hb9.mono (by omega))
        clear f9 hb9 ho9 hs9 far o1 f0
        go_wp2
        refine ⟨q0, ?_⟩
        refine wpAnyH_done (by kernel_rfl) ?_ _
        go_wp2_with fail
        go_meet
        case rel => exact ⟨_, _, _, _, rfl, rk⟩

      · have hv2 := hv
        clear hv
        have f0 := FrAt.new w2 35 zero6 zero6 0 none 0 0
        have bb := alloc_below w2 (.cells (frC zero6 zero6 0 none 0 0) 35)
        have hv : (w2.alloc (.cells (frC zero6 zero6 0 none 0 0) 35)).heap.size = w2.heap.size + 1 := by simp
        replace q0 := q0.step bb
        replace o0 := o0.below bb (Nat.le_refl _)
        go_wp2
        refine ⟨q0, ?_⟩
        change wpAnyH _ _ _ _ _ _ _ _ (w2.alloc (.cells (frC zero6 zero6 0 none 0 0) 35))
        generalize w2.alloc (.cells (frC zero6 zero6 0 none 0 0) 35) = w3 at *
        refine wpAnyH_one (i := 14) (by kernel_rfl) rfl ?_
        refine wpList_appD (some 37) rfl rfl (.tmp 34) (.tmp 36) 22 rfl (w.heap.size + 2) Tryd.underlying22 info5 (by omega) (some ⟨W1.heap.size, 0, none⟩) 0 0 [] rfl o0 (cutA (some ⟨b, o, none⟩) c 14) (n - 14) (c - 14) w.heap.size (xs.drop 14) rfl (q0.rd.cutFrom 14 (by omega)) (by omega) q0.sz ?_
        intro A' n' c' w4 o1 hgr
        rw [List.nil_append] at o1
        replace q0 := q0.low (grown_low o0 hgr q0.sz)
        replace f0 := f0.grown hgr (by simp [Value.ownBlock]; omega)
        rw [hv2] at f0
        clear o0 hgr
        go_wp2
        refine ⟨q0, ?_⟩
        refine wpAnyH_at (i := 15) (some 38) (v := ?v15z15) rfl rfl (by kernel_rfl) (by kernel_rfl) (by kernel_rfl) (fun _ _ _ h => h) (Or.inl ⟨by rfl, ?y15z15⟩) (by assumption) ?r15z15
        case y15z15 =>
          intro w9 hSw
          clear hSw
          go_simp
          all_goals with_reducible rfl
        simp only [Act.put, List.setIfInBounds_toArray, List.set_cons_zero, List.set_cons_succ]
        refine wpAnyH_one (i := 17) (by kernel_rfl) rfl ?_
        refine wpList_stF rfl rfl 35 _ _ rfl (W1.heap.size + 1) (frC zero6 zero6 (kOf xs) A' n' c') rfl ?_ 35 _ f0 (by kernel_rfl) rfl (frC_one ..) ?_
        · rw [Hk.out]
          rfl
        intro w9 f9 hb9 ho9 hs9
        have far := o1.far35 f0 (by decide)
        have rk : RK w (some ⟨b, o, none⟩) n c xs (W1.heap.size + 1) A' n' c' zero6 zero6 w9 :=
          ⟨(q0.low (hb9.mono (by omega))).z, f9, o1.only ho9 far, (q0.low (hb9.mono (by omega))).rd, far, by omega⟩
        replace q0 := q0.low (hb9.mono (by omega))
        clear f9 hb9 ho9 hs9 far o1 f0
        go_wp2
        refine ⟨q0, ?_⟩
        refine wpAnyH_done (by kernel_rfl) ?_ _
        go_wp2_with fail
        go_meet
        case rel => exact ⟨_, _, _, _, rfl, rk⟩

    · have f0 := FrAt.new W1 35 zero6 zero6 0 none 0 0
      have bb := alloc_below W1 (.cells (frC zero6 zero6 0 none 0 0) 35)
      have hv : (W1.alloc (.cells (frC zero6 zero6 0 none 0 0) 35)).heap.size = W1.heap.size + 1 := by simp
      replace q0 := q0.step bb
      skip
      go_wp2
      refine ⟨q0, ?_⟩
      change wpAnyH _ _ _ _ _ _ _ _ (W1.alloc (.cells (frC zero6 zero6 0 none 0 0) 35))
      generalize W1.alloc (.cells (frC zero6 zero6 0 none 0 0) 35) = w2 at *
      have hv1 := hv
      clear hv bb
      refine wpAnyH_one (i := 11) (by kernel_rfl) rfl ?_
      have o0 := Out.lit0 .u8 5 w2 (w.heap.size + 2) q0.sz
      have bb := alloc_below w2 (.cells #[] 5)
      have hv : (w2.alloc (.cells #[] 5)).heap.size = w2.heap.size + 1 := by simp
      replace q0 := q0.step bb
      replace f0 := f0.step bb
      rw [hv1] at o0
      go_wp2
      refine ⟨q0, ?_⟩
      change wpAnyH _ _ _ _ _ _ _ _ (w2.alloc (.cells #[] 5))
      generalize w2.alloc (.cells #[] 5) = w3 at *
      refine wpAnyH_one (i := 14) (by kernel_rfl) rfl ?_
      refine wpList_appD (some 37) rfl rfl (.tmp 34) (.tmp 36) 22 rfl (w.heap.size + 2) Tryd.underlying22 info5 (by omega) (some ⟨W1.heap.size + 1, 0, none⟩) 0 0 [] rfl o0 (cutA (some ⟨b, o, none⟩) c 14) (n - 14) (c - 14) w.heap.size (xs.drop 14) rfl (q0.rd.cutFrom 14 (by omega)) (by omega) q0.sz ?_
      intro A' n' c' w4 o1 hgr
      rw [List.nil_append] at o1
      replace q0 := q0.low (grown_low o0 hgr q0.sz)
      replace f0 := f0.grown hgr (by simp [Value.ownBlock])
      clear o0 hgr
      go_wp2
      refine ⟨q0, ?_⟩
      refine wpAnyH_at (i := 15) (some 38) (v := ?v15z16) rfl rfl (by kernel_rfl) (by kernel_rfl) (by kernel_rfl) (fun _ _ _ h => h) (Or.inl ⟨by rfl, ?y15z16⟩) (by assumption) ?r15z16
      case y15z16 =>
        intro w9 hSw
        clear hSw
        go_simp
        all_goals with_reducible rfl
      simp only [Act.put, List.setIfInBounds_toArray, List.set_cons_zero, List.set_cons_succ]
      refine wpAnyH_one (i := 17) (by kernel_rfl) rfl ?_
      refine wpList_stF rfl rfl 35 _ _ rfl (W1.heap.size) (frC zero6 zero6 (kOf xs) A' n' c') rfl ?_ 35 _ f0 (by kernel_rfl) rfl (frC_one ..) ?_
      · rw [Hk.out]
        rfl
      intro w9 f9 hb9 ho9 hs9
      have far := o1.far35 f0 (by decide)
      have rk : RK w (some ⟨b, o, none⟩) n c xs (W1.heap.size) A' n' c' zero6 zero6 w9 :=
        ⟨(q0.low (hb9.mono (by omega))).z, f9, o1.only ho9 far, (q0.low (hb9.mono (by omega))).rd, far, by omega⟩
      replace q0 := q0.low (hb9.mono (by omega))
      clear f9 hb9 ho9 hs9 far o1 f0
      go_wp2
      refine ⟨q0, ?_⟩
      refine wpAnyH_done (by kernel_rfl) ?_ _
      go_wp2_with fail
      go_meet
      case rel => exact ⟨_, _, _, _, rfl, rk⟩
  case rest =>
    obtain ⟨g, A', n', c', rfl, rk⟩ := hcut
    clear q0 wxy v1 v2 v3 v4 i1 i2 j14 Hk hx12 hx13
    replace rk : RK w (some ⟨b, o, none⟩) n c xs g A' n' c' (fill 0 ⟨v 0, v 1, v 2, v 3, v 4, v 5⟩) (fill 0 ⟨v 6, v 7, v 8, v 9, v 10, v 11⟩) wc := rk
    have hbg : ¬ b = g := by have := rk.ng; omega
    have hgb : ¬ g = b := fun h => hbg h.symm
    go_wp2_with fail
    go_loopw [5] (fun i wr => ∃ j : Nat, i = .int .i64 j ∧ j ≤ 6 ∧ RK w (some ⟨b, o, none⟩) n c xs g A' n' c' (fill j ⟨v 0, v 1, v 2, v 3, v 4, v 5⟩) (fill j ⟨v 6, v 7, v 8, v 9, v 10, v 11⟩) wr) (fun i _ => 6 - (intOf i).toNat)
    case atStart => exact ⟨0, rfl, by omega, rk⟩
    case round =>
      clear rk
      obtain ⟨j, rfl, hj, rk⟩ := hrel
      have hcase : j = 0 ∨ j = 1 ∨ j = 2 ∨ j = 3 ∨ j = 4 ∨ j = 5 ∨ j = 6 := by omega
      rcases hcase with rfl | rfl | rfl | rfl | rfl | rfl | rfl
      · have c1 := Hc.out _ rk.rd 0 (by omega)
        have c2 := Hc.out _ rk.rd 6 (by omega)
        simp only [Nat.add_zero] at c1
        have s1 := blk_cell rk.fr (i := 0) rfl
        have s2 := blk_cell rk.fr (i := 6) rfl
        have z1 := blk_frozen rk.fr (i := 0)
        have z2 := blk_frozen rk.fr (i := 6)
        have rk' := rk.put0
        have j1 : (0 : Int) < (n : Int) := by omega
        have j2 : (6 : Int) < (n : Int) := by omega
        clear rk
        go_wp2
        go_roundw
        case rel => exact ⟨1, rfl, by omega, rk'⟩
        case measure => simp [intOf]
      · have c1 := Hc.out _ rk.rd 1 (by omega)
        have c2 := Hc.out _ rk.rd 7 (by omega)
        skip
        have s1 := blk_cell rk.fr (i := 1) rfl
        have s2 := blk_cell rk.fr (i := 7) rfl
        have z1 := blk_frozen rk.fr (i := 1)
        have z2 := blk_frozen rk.fr (i := 7)
        have rk' := rk.put1
        have j1 : (1 : Int) < (n : Int) := by omega
        have j2 : (7 : Int) < (n : Int) := by omega
        clear rk
        go_wp2
        go_roundw
        case rel => exact ⟨2, rfl, by omega, rk'⟩
        case measure => simp [intOf]
      · have c1 := Hc.out _ rk.rd 2 (by omega)
        have c2 := Hc.out _ rk.rd 8 (by omega)
        skip
        have s1 := blk_cell rk.fr (i := 2) rfl
        have s2 := blk_cell rk.fr (i := 8) rfl
        have z1 := blk_frozen rk.fr (i := 2)
        have z2 := blk_frozen rk.fr (i := 8)
        have rk' := rk.put2
        have j1 : (2 : Int) < (n : Int) := by omega
        have j2 : (8 : Int) < (n : Int) := by omega
        clear rk
        go_wp2
        go_roundw
        case rel => exact ⟨3, rfl, by omega, rk'⟩
        case measure => simp [intOf]
      · have c1 := Hc.out _ rk.rd 3 (by omega)
        have c2 := Hc.out _ rk.rd 9 (by omega)
        skip
        have s1 := blk_cell rk.fr (i := 3) rfl
        have s2 := blk_cell rk.fr (i := 9) rfl
        have z1 := blk_frozen rk.fr (i := 3)
        have z2 := blk_frozen rk.fr (i := 9)
        have rk' := rk.put3
        have j1 : (3 : Int) < (n : Int) := by omega
        have j2 : (9 : Int) < (n : Int) := by omega
        clear rk
        go_wp2
        go_roundw
        case rel => exact ⟨4, rfl, by omega, rk'⟩
        case measure => simp [intOf]
      · have c1 := Hc.out _ rk.rd 4 (by omega)
        have c2 := Hc.out _ rk.rd 10 (by omega)
        skip
        have s1 := blk_cell rk.fr (i := 4) rfl
        have s2 := blk_cell rk.fr (i := 10) rfl
        have z1 := blk_frozen rk.fr (i := 4)
        have z2 := blk_frozen rk.fr (i := 10)
        have rk' := rk.put4
        have j1 : (4 : Int) < (n : Int) := by omega
        have j2 : (10 : Int) < (n : Int) := by omega
        clear rk
        go_wp2
        go_roundw
        case rel => exact ⟨5, rfl, by omega, rk'⟩
        case measure => simp [intOf]
      · have c1 := Hc.out _ rk.rd 5 (by omega)
        have c2 := Hc.out _ rk.rd 11 (by omega)
        skip
        have s1 := blk_cell rk.fr (i := 5) rfl
        have s2 := blk_cell rk.fr (i := 11) rfl
        have z1 := blk_frozen rk.fr (i := 5)
        have z2 := blk_frozen rk.fr (i := 11)
        have rk' := rk.put5
        have j1 : (5 : Int) < (n : Int) := by omega
        have j2 : (11 : Int) < (n : Int) := by omega
        clear rk
        go_wp2
        go_roundw
        case rel => exact ⟨6, rfl, by omega, rk'⟩
        case measure => simp [intOf]
      · rw [fill_6, fill_6] at rk
        obtain ⟨a0, a1, a2, a3, a4, a5, a6, a7, a8, a9, a10, a11, a12, a13⟩ := rk.fr.cells
        have fin : ∀ (w9 : World), w9.heap[w.heap.size]? = some (.cells (frC (⟨v 0, v 1, v 2, v 3, v 4, v 5⟩ : Mac6) (⟨v 6, v 7, v 8, v 9, v 10, v 11⟩ : Mac6) (kOf xs) A' n' c') 35 (0, 0)) → Only w.heap.size wr w9 → FrAt w9 w.heap.size 35 (⟨v 0, v 1, v 2, v 3, v 4, v 5⟩ : Mac6) (⟨v 6, v 7, v 8, v 9, v 10, v 11⟩ : Mac6) (kOf xs) A' n' c' ∧ Below w.heap.size w w9 ∧ Out .u8 5 w9 (w.heap.size + 2) A' n' c' (xs.drop 14) ∧ w9.heap[w.heap.size + 1]? = some (.cells (flC none 0 0 0) 39 (0, 0)) := fun w9 h1 ho =>
          ⟨h1, rk.z.below.trans ho.below, rk.out.other (fun j hj => ho.other j (by omega)), (ho.other _ (by omega)).trans rk.z.y⟩
        have fin2 : ∀ (w8 w9 : World), FrAt w8 w.heap.size 35 (⟨v 0, v 1, v 2, v 3, v 4, v 5⟩ : Mac6) (⟨v 6, v 7, v 8, v 9, v 10, v 11⟩ : Mac6) (kOf xs) A' n' c' → Below w.heap.size w w8 → Out .u8 5 w8 (w.heap.size + 2) A' n' c' (xs.drop 14) → Only (w.heap.size + 1) w8 w9 → FrAt w9 w.heap.size 35 (⟨v 0, v 1, v 2, v 3, v 4, v 5⟩ : Mac6) (⟨v 6, v 7, v 8, v 9, v 10, v 11⟩ : Mac6) (kOf xs) A' n' c' ∧ Below w.heap.size w w9 ∧ Out .u8 5 w9 w.heap.size A' n' c' (xs.drop 14) := fun w8 w9 h1 h2 h3 ho =>
          ⟨h1.below ho.below (by omega), h2.trans (ho.below.mono (by omega)), (h3.other (fun j hj => ho.other j (by omega))).rebase (by omega)⟩
        have zz := rk.z.z
        clear rk
        go_wp2_with (first
          | (refine wpList_stF rfl rfl 35 _ _ rfl w.heap.size (frC (⟨v 0, v 1, v 2, v 3, v 4, v 5⟩ : Mac6) (⟨v 6, v 7, v 8, v 9, v 10, v 11⟩ : Mac6) (kOf xs) A' n' c') rfl rfl 35 _ zz (by kernel_rfl) rfl (frC_one _ _ _ _ _ _) ?_; intro w8 f8 hb8 ho8 hs8; obtain ⟨f8, b8, o8, y8⟩ := fin w8 f8 ⟨hb8, ho8, hs8⟩; clear fin zz hb8 ho8 hs8 a0 a1 a2 a3 a4 a5 a6 a7 a8 a9 a10 a11 a12 a13)
          | (refine wpList_stF rfl rfl 39 _ _ rfl (w.heap.size + 1) (flC none 0 0 0) rfl rfl 39 _ y8 (by kernel_rfl) rfl (flC_one _ _ _ _) ?_; intro w9 y9 hb9 ho9 hs9; obtain ⟨f9, b9, o9⟩ := fin2 w8 w9 f8 b8 o8 ⟨hb9, ho9, hs9⟩; clear fin2 f8 b8 o8 y8 hb9 ho9 hs9))
        obtain ⟨a0, a1, a2, a3, a4, a5, a6, a7, a8, a9, a10, a11, a12, a13⟩ := f9.cells
        have p0 : w9.cell? ⟨w.heap.size + 1, 0, none⟩ = some (.slice none 0 0) := blk_cell y9 rfl
        have p1 : w9.cell? ⟨w.heap.size + 1, 1, none⟩ = some (.int .i64 0) := blk_cell y9 rfl
        exact bodyPost_ret (v := .tuple #[frV (⟨v 0, v 1, v 2, v 3, v 4, v 5⟩ : Mac6) (⟨v 6, v 7, v 8, v 9, v 10, v 11⟩ : Mac6) (kOf xs) A' n' c', .agg #[.slice none 0 0, .int .i64 0]]) (by simp [results, Tryd.results10, go_sem, *]) rfl ⟨A', n', c', rfl, o9, b9⟩
end Go.Proofs.YteddpmjjahfmiaaDoor
