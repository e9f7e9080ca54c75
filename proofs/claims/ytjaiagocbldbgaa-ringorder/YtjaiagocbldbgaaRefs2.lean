/-
  Contracts of the document's pool: Take.
-/
import Derived.Test.YtjaiagocbldbgaaRefs
namespace Go.Proofs.Ytjaiagocbldbgaa
open Go.RowKit
set_option linter.unusedVariables false

theorem wpList_appD (dd : Option Tmp) {P : Program} {w : World} {ops : Array Oper} {rest : List Oper} {o : Oper} {a : Act} {Q : Exit → Act → World → Prop} (hgd : o.guard = none) (hdd : o.dst = dd) (s x : Operand) (t : TypeId)
    (ho : o.op = .call { callee := .builtin .append, args := #[s, x], argTypes := #[t, t] }) (base : Nat) {k : IntKind} {e : TypeId} {by_ : Nat} (ht : P.underlying t = some (.slice e))
    (hinfo : (P.info? e).map (fun i => (i.zero, i.size, i.bytes)) = some (some (.int k 0), 1, by_)) (hby8 : by_ ≤ 8)
    (A0 : Option Addr) (n0 c0 : Nat) (xs : List Int) (hs : a.eval s = .slice A0 n0 c0) (hown : Out k e w base A0 n0 c0 xs)
    (A : Option Addr) (m c B : Nat) (ys : List Int) (hx : a.eval x = .slice A m c) (hr : Rd k w B A m c ys) (hsum : n0 + m ≤ 100000000) (hbase : base ≤ w.heap.size)
    (h : ∀ A' n' c' w', Out k e w' base A' n' c' (xs ++ ys) → w.grownBy w' (Value.slice A0 n0 c0).ownBlock → wpList P ops Q rest (a.put dd (.slice A' n' c')) w') : wpList P ops Q (o :: rest) a w := by
  subst hdd
  exact wpList_app hgd s x t ho base ht hinfo hby8 A0 n0 c0 xs hs hown A m c B ys hx hr hsum hbase h

theorem refTake_lo (p g cp : Nat) (L : Slots) (F : Nat → Prop) (o : Int) (A : Option Addr) (n c B : Nat) (xs : List Int) (w : World) (h : Rp w p g cp L F) (hr : Rd .u8 w B A n c xs) (o1 : o < 1) : Calls Try.prog 35 #[ptr p, .int .i64 o, .slice A n c] w (GivesT 70 88 w p g cp L F o n xs) := by
  have R := Lib.hid (GivesT.no (o := o) h hr.len (tk_owner (fun q => by have := q.1; omega)) (by decide) (Below.refl _ w))
  have hm := hr.max
  clear h hr
  go_enter Try.func35, Try.ntmps35
  go_wp2
  go_ret2
  exact R.out
theorem refTake_hi (p g cp : Nat) (L : Slots) (F : Nat → Prop) (o : Int) (A : Option Addr) (n c B : Nat) (xs : List Int) (w : World) (h : Rp w p g cp L F) (hr : Rd .u8 w B A n c xs) (o2 : 255 < o) : Calls Try.prog 35 #[ptr p, .int .i64 o, .slice A n c] w (GivesT 70 88 w p g cp L F o n xs) := by
  have R := Lib.hid (GivesT.no (o := o) h hr.len (tk_owner (fun q => by have := q.2; omega)) (by decide) (Below.refl _ w))
  have o1 : ¬ o < 1 := by omega
  have hm := hr.max
  clear h hr
  go_enter Try.func35, Try.ntmps35
  go_wp2
  go_ret2
  exact R.out
theorem refTake_long (p g cp : Nat) (L : Slots) (F : Nat → Prop) (o : Int) (A : Option Addr) (n c B : Nat) (xs : List Int) (w : World) (h : Rp w p g cp L F) (hr : Rd .u8 w B A n c xs) (ho : isOwn o) (hn : 1514 < n) : Calls Try.prog 35 #[ptr p, .int .i64 o, .slice A n c] w (GivesT 70 88 w p g cp L F o n xs) := by
  have R := Lib.hid (GivesT.no (o := o) h hr.len (tk_long hn) (by decide) (Below.refl _ w))
  have o1 : ¬ o < 1 := by have := ho.1; omega
  have o2 : ¬ 255 < o := by have := ho.2; omega
  have n1 : (1514 : Int) < (n : Int) := by omega
  have hm := hr.max
  clear h hr ho
  go_enter Try.func35, Try.ntmps35
  go_wp2
  go_ret2
  exact R.out
set_option maxRecDepth 100000 in
set_option maxHeartbeats 2000000 in
theorem refTake_in (p g cp : Nat) (L : Slots) (F : Nat → Prop) (o : Int) (A : Option Addr) (n c B : Nat) (xs : List Int) (w : World) (h : Rp w p g cp L F) (hr : Rd .u8 w B A n c xs) (hB : B ≤ w.heap.size) (hF : ∀ b, w.heap.size ≤ b → F b) (ho : isOwn o) (hn : n ≤ 1514) : Calls Try.prog 35 #[ptr p, .int .i64 o, .slice A n c] w (GivesT 70 88 w p g cp L F o n xs) := by
  obtain ⟨N, G, hN, hNl, hp, hG⟩ := h.cells
  have o1 : ¬ o < 1 := by have := ho.1; omega
  have o2 : ¬ 255 < o := by have := ho.2; omega
  have n1 : ¬ (1514 : Int) < (n : Int) := by omega
  have hm := hr.max
  have hlx := Lib.hid hr.len
  have HN := Lib.hid hN
  have Ho := Lib.hid ho
  have HF := Lib.hid hF
  have HG := Lib.hid hG
  clear hN ho hF hG
  go_enter Try.func35, Try.ntmps35
  go_wp2
  go_loopw [8] (fun i wr => ∃ k : Nat, k ≤ N ∧ i = .int .i64 k ∧ wr = w ∧ ∀ j, j < k → ow L j ≠ 0) (fun i _ => N - (intOf i).toNat)
  case atStart => exact ⟨0, Nat.zero_le _, rfl, rfl, fun j hj => absurd hj (by omega)⟩
  case round =>
    obtain ⟨k, hk, rfl, rfl, hall⟩ := hrel
    by_cases hkn : k < N
    · have hkL : k < L.length := by rw [HN.out]; exact hkn
      have a0 := h.cell0 hkL
      obtain rfl := HG.out (by omega)
      by_cases he : ow L k = 0
      · have hf : free1 L = k := free1_is hkL he hall
        have hE : tkE L o n = 0 := tk_ok Ho.out hn (by omega)
        have R : Hid (∀ w' W A m c, Below wr.heap.size wr W → Rp W p g cp L F → Out .u8 5 W wr.heap.size A m c xs → w' = W.setCells g (k * 2) [.int .i64 o, .slice A m c] → GivesT 70 88 wr p g cp L F o n xs (.returned (.tuple #[.int .i64 (k : Int), .int .i64 0])) w') := Lib.hid (fun w' W A m c hb q ho' e => by
          subst e
          obtain ⟨q1, q2⟩ := q.set (by decide) hkL (RowOk.own Ho.out (by rw [hlx.out]; exact hn)) (ho'.lower (Nat.zero_le _)) (fun ad e => HF.out _ (ho'.block ad e).1)
          refine ⟨by rw [tkN_yes hE, hE, hf], ?_, Kept.ahead hb q2⟩
          rw [tkL_yes (by rw [hlx.out]; exact hE), hf]
          exact q1)
        have HL := Lib.hid hkL
        have hn0 : 0 < N := by omega
        rw [he] at a0
        clear hall he hf hE hkL
        go_wp2
        refine wp_region_held_drew (S := fun w' => w'.cell? ⟨p, 0, none⟩ = some (.slice (some ⟨g, 0, none⟩) N cp)) (by kernel_rfl) ((h.below (below_drew _)).ptr0 HN.out hn0) (fun hHeld => ?_)
        have b := below_drew wr
        have q := h.below b
        have r := (hr.below b hB).more (Nat.le_trans hB b.size)
        clear a0 hp hr h
        change wpAnyH _ _ _ _ _ _ _ _ (World.drew _)
        generalize World.drew _ = W1 at *
        refine wpAnyH_at (i := 0) (some 38) (v := ?v0z1) rfl rfl (by kernel_rfl) (by kernel_rfl) (by kernel_rfl) (fun _ _ _ h => h) (Or.inl ⟨by rfl, ?y0z1⟩) (by assumption) ?r0z1
        case y0z1 =>
          intro w9 hSw
          have a0 : w9.cell? ⟨p, 0, none⟩ = some (.slice (some ⟨g, 0, none⟩) N cp) := hSw; clear hSw
          go_simp
          all_goals with_reducible rfl
        simp only [Act.put, List.setIfInBounds_toArray, List.set_cons_zero, List.set_cons_succ]
        refine wpAnyH_at (i := 1) (some 39) (v := ?v1z2) rfl rfl (by kernel_rfl) (by kernel_rfl) (by kernel_rfl) (fun _ _ _ h => h) (Or.inl ⟨by rfl, ?y1z2⟩) (by assumption) ?r1z2
        case y1z2 =>
          intro w9 hSw
          have a0 : w9.cell? ⟨p, 0, none⟩ = some (.slice (some ⟨g, 0, none⟩) N cp) := hSw; clear hSw
          go_simp
          all_goals with_reducible rfl
        simp only [Act.put, List.setIfInBounds_toArray, List.set_cons_zero, List.set_cons_succ]
        refine wpAnyH_at (i := 2) (some 40) (v := ?v2z3) rfl rfl (by kernel_rfl) (by kernel_rfl) (by kernel_rfl) (fun _ _ _ h => h) (Or.inl ⟨by rfl, ?y2z3⟩) (by assumption) ?r2z3
        case y2z3 =>
          intro w9 hSw
          have a0 : w9.cell? ⟨p, 0, none⟩ = some (.slice (some ⟨g, 0, none⟩) N cp) := hSw; clear hSw
          go_simp
          all_goals with_reducible rfl
        simp only [Act.put, List.setIfInBounds_toArray, List.set_cons_zero, List.set_cons_succ]
        refine wpAnyH_at (i := 3) (some 41) (v := ?v3z4) rfl rfl (by kernel_rfl) (by kernel_rfl) (by kernel_rfl) (fun _ _ _ h => h) (Or.inl ⟨by rfl, ?y3z4⟩) (by assumption) ?r3z4
        case y3z4 =>
          intro w9 hSw
          have a0 : w9.cell? ⟨p, 0, none⟩ = some (.slice (some ⟨g, 0, none⟩) N cp) := hSw; clear hSw
          go_simp
          all_goals with_reducible rfl
        simp only [Act.put, List.setIfInBounds_toArray, List.set_cons_zero, List.set_cons_succ]
        refine wpAnyH_at (i := 4) (some 42) (v := ?v4z5) rfl rfl (by kernel_rfl) (by kernel_rfl) (by kernel_rfl) (fun _ _ _ h => h) (Or.inl ⟨by rfl, ?y4z5⟩) (by assumption) ?r4z5
        case y4z5 =>
          intro w9 hSw
          clear hSw
          go_simp
          all_goals with_reducible rfl
        simp only [Act.put, List.setIfInBounds_toArray, List.set_cons_zero, List.set_cons_succ]
        refine wpAnyH_at (i := 5) (some 43) (v := ?v5z6) rfl rfl (by kernel_rfl) (by kernel_rfl) (by kernel_rfl) (fun _ _ _ h => h) (Or.inl ⟨by rfl, ?y5z6⟩) (by assumption) ?r5z6
        case y5z6 =>
          intro w9 hSw
          clear hSw
          go_simp
          all_goals with_reducible rfl
        simp only [Act.put, List.setIfInBounds_toArray, List.set_cons_zero, List.set_cons_succ]
        refine wpAnyH_at (i := 7) (some 45) (v := ?v7z7) rfl rfl (by kernel_rfl) (by kernel_rfl) (by kernel_rfl) (fun _ _ _ h => h) (Or.inl ⟨by rfl, ?y7z7⟩) (by assumption) ?r7z7
        case y7z7 =>
          intro w9 hSw
          clear hSw
          go_simp
          all_goals with_reducible rfl
        simp only [Act.put, List.setIfInBounds_toArray, List.set_cons_zero, List.set_cons_succ]
        refine wpAnyH_one (i := 6) (by kernel_rfl) rfl ?_
        have ba := alloc_below W1 (.cells #[] 5)
        have o0 := Out.lit0 .u8 5 W1 wr.heap.size b.size
        go_wp2
        have hlt := q.lt
        have qn := (q.widen (F' := fun b => F b ∧ b < W1.heap.size) (fun b h1 h2 => ⟨h2, h1⟩)).below ba
        replace q := q.below ba
        replace r := r.below ba (Nat.le_refl _)
        replace b := b.trans (ba.mono b.size)
        clear hHeld ba
        have hHeld := q.ptr0 HN.out hn0
        refine ⟨hHeld, ?_⟩
        try simp only [Act.put, List.setIfInBounds_toArray, List.set_cons_zero, List.set_cons_succ]
        refine wpAnyH_one (i := 8) (by kernel_rfl) rfl ?_
        refine wpList_appD (some 46) rfl rfl (.tmp 44) (.tmp 45) 23 rfl wr.heap.size Try.underlying23 info5 (by omega) (some ⟨W1.heap.size, 0, none⟩) 0 0 [] rfl o0 A n c _ xs rfl r (by omega) b.size ?_
        intro A2 m2 c2 W2 o2 hg2
        replace o2 : Out .u8 5 W2 wr.heap.size A2 m2 c2 xs := by simpa using o2
        have kg := Kept.grown (S := fun k => k = W1.heap.size) hg2 (fun k hk => by simp [Value.ownBlock] at hk; exact hk.symm)
        have q2 : Rp W2 p g cp L F := (qn.kept kg (fun e => by omega) (fun e => by omega) (fun k hk => .inl (fun z => by have := z.2; omega))).widen (fun _ _ z => z.1)
        replace b := b.grown hg2 b.size (fun k hk => o0.own_ge k hk)
        clear hHeld r hg2 kg o0 q qn hlt
        have hHeld := q2.ptr0 HN.out hn0
        go_wp2
        refine ⟨hHeld, ?_⟩
        try simp only [Act.put, List.setIfInBounds_toArray, List.set_cons_zero, List.set_cons_succ]
        refine wpAnyH_at (i := 9) (some 47) (v := ?v9z8) rfl rfl (by kernel_rfl) (by kernel_rfl) (by kernel_rfl) (fun _ _ _ h => h) (Or.inl ⟨by rfl, ?y9z8⟩) (by assumption) ?r9z8
        case y9z8 =>
          intro w9 hSw
          clear hSw
          go_simp
          all_goals with_reducible rfl
        simp only [Act.put, List.setIfInBounds_toArray, List.set_cons_zero, List.set_cons_succ]
        refine wpAnyH_at (i := 10) (some 48) (v := ?v10z9) rfl rfl (by kernel_rfl) (by kernel_rfl) (by kernel_rfl) (fun _ _ _ h => h) (Or.inl ⟨by rfl, ?y10z9⟩) (by assumption) ?r10z9
        case y10z9 =>
          intro w9 hSw
          clear hSw
          go_simp
          all_goals with_reducible rfl
        simp only [Act.put, List.setIfInBounds_toArray, List.set_cons_zero, List.set_cons_succ]
        refine wpAnyH_one (i := 11) (by kernel_rfl) rfl ?_
        refine wpList_store_mid rfl 88 (.tmp 48) (.tmp 47) rfl g (k * 2) #[.int .i64 o, .slice A2 m2 c2] rfl rfl (q2.there HL.out) (by kernel_rfl) (slot_one _ _ _ _) ?_
        have q9 := (q2.set (by decide) HL.out (RowOk.own Ho.out (by rw [hlx.out]; exact hn)) (o2.lower (Nat.zero_le _)) (fun ad e => HF.out _ (o2.block ad e).1)).1
        have R9 := R.out _ _ _ _ _ b q2 o2 rfl
        change wpList _ _ _ _ _ (World.setCells _ _ _ [.int .i64 o, .slice A2 m2 c2])
        generalize World.setCells _ _ _ [.int .i64 o, .slice A2 m2 c2] = w9 at *
        clear hHeld q2 o2 R
        have hHeld := q9.ptr0 (n := N) (by rw [List.length_set]; exact HN.out) hn0
        clear q9
        go_wp2
        refine ⟨hHeld, ?_⟩
        refine wpAnyH_done (by kernel_rfl) ?_ _
        go_wp2
        go_ret2
        exact R9
      · have Hall : Hid (∀ j, j < k + 1 → ow L j ≠ 0) := Lib.hid (fun j hj => by
          by_cases h1 : j < k
          · exact hall j h1
          · obtain rfl : j = k := by omega
            exact he)
        have he' : (ow L k == 0) = false := by simpa using he
        generalize ow L k = o' at *
        clear hall he
        go_wp2
        go_roundw
        case rel => exact ⟨k + 1, by omega, by go_num, by first | rfl | trivial, Hall.out⟩
        case measure => simp [intOf]; omega
    · have hf : ¬ free1 L < L.length := by
        rw [free1_none (fun j hj => hall j (by rw [HN.out] at hj; omega))]
        omega
      have R := Lib.hid (GivesT.no (o := o) h hlx.out (tk_full Ho.out hn hf) (by decide) (Below.refl _ wr))
      clear hall hf h hr
      go_wp2
      go_ret2
      exact R.out
theorem refTake_any (p g cp : Nat) (L : Slots) (F : Nat → Prop) (o : Int) (A : Option Addr) (n c B : Nat) (xs : List Int) (w : World) (h : Rp w p g cp L F) (hr : Rd .u8 w B A n c xs) (hB : B ≤ w.heap.size) (hF : ∀ b, w.heap.size ≤ b → F b) : Calls Try.prog 35 #[ptr p, .int .i64 o, .slice A n c] w (GivesT 70 88 w p g cp L F o n xs) := by
  by_cases o1 : o < 1
  · exact refTake_lo p g cp L F o A n c B xs w h hr o1
  · by_cases o2 : 255 < o
    · exact refTake_hi p g cp L F o A n c B xs w h hr o2
    · by_cases hn : n ≤ 1514
      · exact refTake_in p g cp L F o A n c B xs w h hr hB hF ⟨by omega, by omega⟩ hn
      · exact refTake_long p g cp L F o A n c B xs w h hr ⟨by omega, by omega⟩ (by omega)

end Go.Proofs.Ytjaiagocbldbgaa
