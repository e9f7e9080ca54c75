/-
  The law InetTtl: another Ttl changes a packet's bytes at its place and in the sum alone; the body's bytes change the head in how many they are alone.
-/
import Derived.Test.YthgdgjpckgfmbaaDoorAlive
import Derived.Deep.QuietTactic
import Derived.BigQuiet
namespace Go.Proofs.YthgdgjpckgfmbaaDoor
open Go.RowKit

theorem ttl_atP (h : Hd) (tl : Int) (n : Nat) (p q p' q' : Int) (j : Nat) (hj : j < 20) (h8 : ¬ j = 8) (h10 : ¬ j = 10) (h11 : ¬ j = 11) : (hdP h n p q).getD j 0 = (hdP ⟨h.tos, h.id, h.keep, tl, h.proto, h.src, h.dst⟩ n p' q').getD j 0 := by
  have hc : j = 0 ∨ j = 1 ∨ j = 2 ∨ j = 3 ∨ j = 4 ∨ j = 5 ∨ j = 6 ∨ j = 7 ∨ j = 9 ∨ j = 12 ∨ j = 13 ∨ j = 14 ∨ j = 15 ∨ j = 16 ∨ j = 17 ∨ j = 18 ∨ j = 19 := by omega
  rcases hc with rfl | rfl | rfl | rfl | rfl | rfl | rfl | rfl | rfl | rfl | rfl | rfl | rfl | rfl | rfl | rfl | rfl <;> simp [hdP]
theorem ttl_at (h : Hd) (tl : Int) (n : Nat) (j : Nat) (hj : j < 20) (h8 : ¬ j = 8) (h10 : ¬ j = 10) (h11 : ¬ j = 11) : (hdR h n).getD j 0 = (hdR ⟨h.tos, h.id, h.keep, tl, h.proto, h.src, h.dst⟩ n).getD j 0 := ttl_atP h tl n _ _ _ _ j hj h8 h10 h11
theorem ttl_eq (h : Hd) (tl : Int) (n : Nat) : bEq (hdR h n) (hdR ⟨h.tos, h.id, h.keep, tl, h.proto, h.src, h.dst⟩ n) = (tl == h.ttl) := by
  by_cases q : tl = h.ttl
  · subst q
    rw [show (⟨h.tos, h.id, h.keep, h.ttl, h.proto, h.src, h.dst⟩ : Hd) = h from rfl, bEq_self]
    simp
  · have e : ¬ (hdR h n).getD 8 0 = (hdR ⟨h.tos, h.id, h.keep, tl, h.proto, h.src, h.dst⟩ n).getD 8 0 := fun q' => q (show h.ttl = tl from q').symm
    rw [bEq_no e]
    simpa using q
theorem len_eq (h : Hd) (n n' : Nat) : bEq (hdR h n) (hdR h n') = ((n' : Int) == (n : Int)) := by
  by_cases q : n = n'
  · subst q
    rw [bEq_self]
    simp
  · have e2 : ((n' : Int) == (n : Int)) = false := by simp; omega
    rw [e2]
    by_cases q2 : (hdR h n).getD 2 0 = (hdR h n').getD 2 0
    · refine bEq_no (i := 3) fun q3 => ?_
      have u2 : (20 + (n : Int)) / 256 = (20 + (n' : Int)) / 256 := q2
      have u3 : (20 + (n : Int)) % 256 = (20 + (n' : Int)) % 256 := q3
      omega
    · exact bEq_no q2
/-- What the walk knows: the packet's box, three heads. -/
structure KT (w : World) (h : Hd) (A : Option Addr) (n c : Nat) (a b : List Int) (ga gb : Nat) (W : World) : Prop where
  kn : Kn w W
  p : PkAt W w.heap.size 28 h A n c
  a : Row W ga a
  b : Row W gb b
theorem KT.step {w W V : World} {h : Hd} {A : Option Addr} {n c ga gb : Nat} {a b : List Int} (q : KT w h A n c a b ga gb W) (hb : Below W.heap.size W V) : KT w h A n c a b ga gb V := ⟨q.kn.step hb, q.p.step hb, q.a.below hb q.a.lt, q.b.below hb q.b.lt⟩

set_option maxRecDepth 100000 in
set_option maxHeartbeats 4000000 in
theorem ttl_far (h : Hd) (A : Option Addr) (n c : Nat) (tl : Int) (A' : Option Addr) (n' c' : Nat) (w : World) (hg : Laid w) (hn : 1480 < n ∨ 1480 < n') (hmax : n ≤ 9223372036854775807) (hmax' : n' ≤ 9223372036854775807) : Calls Tryd.prog 7 #[pkV h A n c, .int .u8 tl, .slice A' n' c'] w fun e w' => e = .returned (.bool true) ∧ Below w.heap.size w w' := by
  have k := (Kn.start hg).alloc (.cells (pkC h A n c) 28)
  have pp := PkAt.new w 28 h A n c
  clear hg
  go_enter Tryd.func7, Tryd.ntmps7
  go_wp2_with fail
  refine (alive_any _ k.laid).mono ?_
  rintro ev w1 ⟨rfl, hb⟩
  replace k := k.step hb
  replace pp := pp.step hb
  clear hb
  obtain ⟨x0, x1, x2, x3, x4, x5, x6, x7⟩ := pp.cells
  by_cases h1 : 1480 < n
  · have h1' : (1480 : Int) < (n : Int) := by omega
    go_wp2
    go_ret
    exact ⟨rfl, k.below⟩
  · have h1' : ¬ (1480 : Int) < (n : Int) := by omega
    have h2' : (1480 : Int) < (n' : Int) := by omega
    go_wp2
    go_ret
    exact ⟨rfl, k.below⟩

set_option maxRecDepth 100000 in
set_option maxHeartbeats 4000000 in
theorem ttl_near (h : Hd) (A : Option Addr) (n c : Nat) (tl : Int) (A' : Option Addr) (n' c' : Nat) (w : World) (hg : Laid w) (hk : h.ok) (ht : 0 ≤ tl ∧ tl ≤ 255) (hn : n ≤ 1480) (hn' : n' ≤ 1480) : Calls Tryd.prog 7 #[pkV h A n c, .int .u8 tl, .slice A' n' c'] w fun e w' => e = .returned (.bool true) ∧ Below w.heap.size w w' := by
  have k0 := (Kn.start hg).alloc (.cells (pkC h A n c) 28)
  have pp := PkAt.new w 28 h A n c
  have c1 := Lib.hid (fun W => head_any h A n c W hk (by omega))
  have c2 := Lib.hid (fun W => head_any ⟨h.tos, h.id, h.keep, tl, h.proto, h.src, h.dst⟩ A n c W ⟨hk.tos, hk.id, ht, hk.proto, hk.src, hk.dst⟩ (by omega))
  have c3 := Lib.hid (fun W => head_any h A' n' c' W hk (by omega))
  have wa := Lib.hid (hdR_wf (n := n) hk (by omega))
  have wb := Lib.hid (hdR_wf (h := ⟨h.tos, h.id, h.keep, tl, h.proto, h.src, h.dst⟩) (n := n) ⟨hk.tos, hk.id, ht, hk.proto, hk.src, hk.dst⟩ (by omega))
  have wc := Lib.hid (hdR_wf (n := n') hk (by omega))
  have la : Hid ((hdR h n).length = 20) := Lib.hid rfl
  have lb : Hid ((hdR ⟨h.tos, h.id, h.keep, tl, h.proto, h.src, h.dst⟩ n).length = 20) := Lib.hid rfl
  have lc : Hid ((hdR h n').length = 20) := Lib.hid rfl
  have tA := Lib.hid (ttl_at h tl n)
  have tE := Lib.hid (ttl_eq h tl n)
  have lE := Lib.hid (len_eq h n n')
  have t8 : Hid ((hdR ⟨h.tos, h.id, h.keep, tl, h.proto, h.src, h.dst⟩ n).getD 8 0 = tl) := Lib.hid rfl
  generalize hdR h n = za at *
  generalize hdR ⟨h.tos, h.id, h.keep, tl, h.proto, h.src, h.dst⟩ n = zb at *
  generalize hdR h n' = zc at *
  have n1 : ¬ (1480 : Int) < (n : Int) := by omega
  have n2 : ¬ (1480 : Int) < (n' : Int) := by omega
  clear hk hg
  go_enter Tryd.func7, Tryd.ntmps7
  go_wp2_with fail
  refine (alive_any _ k0.laid).mono ?_
  rintro ev w1 ⟨rfl, hb⟩
  replace k0 := k0.step hb
  replace pp := pp.step hb
  clear hb
  obtain ⟨x0, x1, x2, x3, x4, x5, x6, x7⟩ := pp.cells
  have b1 := alloc_below w1 (.cells (pkC h A n c) 28)
  have q1 := PkAt.new w1 28 h A n c
  have z1 := q1.frozen 3
  obtain ⟨y0, y1, y2, y3, y4, y5, y6, y7⟩ := q1.cells
  have b2 := alloc_below w1 (.cells (pkC ⟨h.tos, h.id, h.keep, tl, h.proto, h.src, h.dst⟩ A n c) 28)
  have q2 := PkAt.new w1 28 ⟨h.tos, h.id, h.keep, tl, h.proto, h.src, h.dst⟩ A n c
  have pp2 := pp.step b2
  have k2 := k0.step b2
  obtain ⟨u0, u1, u2, u3, u4, u5, u6, u7⟩ := pp2.cells
  go_wp2_with fail
  refine (c1.out _).mono ?_
  rintro ev w2 ⟨ga, rfl, ra, -, hb⟩
  clear x0 x1 x2 x3 x4 x5 x6 x7
  clear y0 y1 y2 y3 y4 y5 y6 y7
  clear u0 u1 u2 u3 u4 u5 u6 u7
  replace k2 := k2.step hb
  replace pp2 := pp2.step hb
  replace q2 := q2.step hb
  clear hb b1 b2 q1 z1 k0 pp c1
  generalize w1.heap.size = gq at *
  obtain ⟨x0, x1, x2, x3, x4, x5, x6, x7⟩ := q2.cells
  go_wp2_with fail
  refine (c2.out _).mono ?_
  rintro ev w3 ⟨gb, rfl, rb, -, hb⟩
  clear x0 x1 x2 x3 x4 x5 x6 x7
  have k : KT w h A n c za zb ga gb w3 := ⟨k2.step hb, pp2.step hb, ra.below hb ra.lt, rb⟩
  clear hb k2 pp2 q2 ra rb c2
  go_wp2_with fail
  go_loopw [10] (fun i wr => ∃ j : Nat, i = .int .i64 j ∧ j ≤ 20 ∧ KT w h A n c za zb ga gb wr) (fun i _ => 20 - (intOf i).toNat)
  case atStart => exact ⟨0, rfl, by omega, k⟩
  case round =>
    clear k
    obtain ⟨j, rfl, hj, k⟩ := hrel
    by_cases hj20 : j = 20
    · subst hj20
      as_aux_lemma =>
        obtain ⟨x0, x1, x2, x3, x4, x5, x6, x7⟩ := k.p.cells
        have q4 := PkAt.new wr 28 h A n c
        have z4 := q4.frozen 7
        obtain ⟨y0, y1, y2, y3, y4, y5, y6, y7⟩ := q4.cells
        have q5 := PkAt.new wr 28 h A' n' c'
        obtain ⟨u0, u1, u2, u3, u4, u5, u6, u7⟩ := q5.cells
        replace k := k.step (alloc_below wr (.cells (pkC h A' n' c') 28))
        go_wp2_with fail
        refine (c3.out _).mono ?_
        rintro ev w4 ⟨gc, rfl, rc, -, hb⟩
        clear x0 x1 x2 x3 x4 x5 x6 x7
        clear y0 y1 y2 y3 y4 y5 y6 y7
        clear u0 u1 u2 u3 u4 u5 u6 u7
        replace k := k.step hb
        clear hb q4 z4 q5 c3
        go_wp2_with fail
        replace k := k.step (below_drew _)
        replace rc := rc.below (below_drew w4) rc.lt
        refine wp_region_held_drew (S := fun w' => KT w h A n c za zb ga gb w') (by kernel_rfl) k (fun hHeld => ?_)
        clear hHeld
        have hHeld := k
        generalize w4.drew = W4 at *
        have e1 : (tl == tl) = true := by simp
        refine wpAnyH_at (i := 0) (some 69) (v := ?v0z1) rfl rfl (by kernel_rfl) (by kernel_rfl) (by kernel_rfl) (fun _ _ _ h => h) (Or.inl ⟨by rfl, ?y0z1⟩) (by assumption) ?r0z1
        case y0z1 =>
          intro w9 hSw
          clear hSw
          go_simp
          all_goals with_reducible rfl
        simp only [Act.put, List.setIfInBounds_toArray, List.set_cons_zero, List.set_cons_succ]
        refine wpAnyH_at (i := 1) (some 70) (v := ?v1z2) rfl rfl (by kernel_rfl) (by kernel_rfl) (by kernel_rfl) (fun _ _ _ h => h) (Or.inl ⟨by rfl, ?y1z2⟩) (by assumption) ?r1z2
        case y1z2 =>
          intro w9 hSw
          clear hSw
          go_simp
          all_goals with_reducible rfl
        simp only [Act.put, List.setIfInBounds_toArray, List.set_cons_zero, List.set_cons_succ]
        refine wpAnyH_at (i := 2) (some 71) (v := ?v2z3) rfl rfl (by kernel_rfl) (by kernel_rfl) (by kernel_rfl) (fun _ _ _ h => h) (Or.inl ⟨by rfl, ?y2z3⟩) (by assumption) ?r2z3
        case y2z3 =>
          intro w9 hSw
          have cb := (show KT w h A n c za zb ga gb w9 from hSw).b.cell (i := 8) (by rw [lb.out]; decide); rw [t8.out] at cb; clear hSw
          go_simp
          all_goals with_reducible rfl
        simp only [Act.put, List.setIfInBounds_toArray, List.set_cons_zero, List.set_cons_succ]
        refine wpAnyH_at (i := 3) (some 72) (v := ?v3z4) rfl rfl (by kernel_rfl) (by kernel_rfl) (by kernel_rfl) (fun _ _ _ h => h) (Or.inl ⟨by rfl, ?y3z4⟩) (by assumption) ?r3z4
        case y3z4 =>
          intro w9 hSw
          clear hSw
          go_simp
          all_goals with_reducible rfl
        simp only [Act.put, List.setIfInBounds_toArray, List.set_cons_zero, List.set_cons_succ]
        refine wpAnyH_at (i := 4) (some 73) (v := ?v4z5) rfl rfl (by kernel_rfl) (by kernel_rfl) (by kernel_rfl) (fun _ _ _ h => h) (Or.inl ⟨by rfl, ?y4z5⟩) (by assumption) ?r4z5
        case y4z5 =>
          intro w9 hSw
          clear hSw
          go_simp
          all_goals with_reducible rfl
        simp only [Act.put, List.setIfInBounds_toArray, List.set_cons_zero, List.set_cons_succ]
        refine wpAnyH_at (i := 5) (some 74) (v := ?v5z6) rfl rfl (by kernel_rfl) (by kernel_rfl) (by kernel_rfl) (fun _ _ _ h => h) (Or.inl ⟨by rfl, ?y5z6⟩) (by assumption) ?r5z6
        case y5z6 =>
          intro w9 hSw
          clear hSw
          go_simp
          all_goals with_reducible rfl
        simp only [Act.put, List.setIfInBounds_toArray, List.set_cons_zero, List.set_cons_succ]
        refine wpAnyH_at (i := 6) (some 75) (v := ?v6z7) rfl rfl (by kernel_rfl) (by kernel_rfl) (by kernel_rfl) (fun _ _ _ h => h) (Or.inl ⟨by rfl, ?y6z7⟩) (by assumption) ?r6z7
        case y6z7 =>
          intro w9 hSw
          clear hSw
          go_simp
          all_goals with_reducible rfl
        simp only [Act.put, List.setIfInBounds_toArray, List.set_cons_zero, List.set_cons_succ]
        refine wpAnyH_at (i := 7) (some 76) (v := ?v7z8) rfl rfl (by kernel_rfl) (by kernel_rfl) (by kernel_rfl) (fun _ _ _ h => h) (Or.inl ⟨by rfl, ?y7z8⟩) (by assumption) ?r7z8
        case y7z8 =>
          intro w9 hSw
          clear hSw
          go_simp
          all_goals with_reducible rfl
        simp only [Act.put, List.setIfInBounds_toArray, List.set_cons_zero, List.set_cons_succ]
        refine wpAnyH_at (i := 8) (some 77) (v := ?v8z9) rfl rfl (by kernel_rfl) (by kernel_rfl) (by kernel_rfl) (fun _ _ _ h => h) (Or.inl ⟨by rfl, ?y8z9⟩) (by assumption) ?r8z9
        case y8z9 =>
          intro w9 hSw
          (obtain ⟨a0, a1, a2, a3, a4, a5, a6, a7⟩ := (show KT w h A n c za zb ga gb w9 from hSw).p.cells); clear hSw
          go_simp
          all_goals with_reducible rfl
        simp only [Act.put, List.setIfInBounds_toArray, List.set_cons_zero, List.set_cons_succ]
        refine wpAnyH_at (i := 9) (some 78) (v := ?v9z10) rfl rfl (by kernel_rfl) (by kernel_rfl) (by kernel_rfl) (fun _ _ _ h => h) (Or.inl ⟨by rfl, ?y9z10⟩) (by assumption) ?r9z10
        case y9z10 =>
          intro w9 hSw
          clear hSw
          go_simp
          all_goals with_reducible rfl
        simp only [Act.put, List.setIfInBounds_toArray, List.set_cons_zero, List.set_cons_succ]
        refine wpAnyH_at (i := 10) (some 79) (v := ?v10z11) rfl rfl (by kernel_rfl) (by kernel_rfl) (by kernel_rfl) (fun _ _ _ h => h) (Or.inl ⟨by rfl, ?y10z11⟩) (by assumption) ?r10z11
        case y10z11 =>
          intro w9 hSw
          clear hSw
          go_simp
          all_goals with_reducible rfl
        simp only [Act.put, List.setIfInBounds_toArray, List.set_cons_zero, List.set_cons_succ]
        refine wpAnyH_at (i := 11) (some 80) (v := ?v11z12) rfl rfl (by kernel_rfl) (by kernel_rfl) (by kernel_rfl) (fun _ _ _ h => h) (Or.inl ⟨by rfl, ?y11z12⟩) (by assumption) ?r11z12
        case y11z12 =>
          intro w9 hSw
          clear hSw
          go_simp
          all_goals with_reducible rfl
        simp only [Act.put, List.setIfInBounds_toArray, List.set_cons_zero, List.set_cons_succ]
        refine wpAnyH_one (i := 12) (by kernel_rfl) rfl ?_
        have c4 := same_gen _ _ 20 20 20 20 za zb _ _ _ (k.a.rdW la.out (by omega) wa.out) (k.b.rdW lb.out (by omega) wb.out)
        rw [tE.out] at c4
        go_wp2_with (go_at_call 18; refine (c4).mono ?_; rintro ev W5 ⟨rfl, hb⟩)
        replace k := k.step hb
        replace rc := rc.below hb rc.lt
        clear c4
        clear hb hHeld
        have hHeld := k
        refine ⟨hHeld, ?_⟩
        try simp only [Act.put, List.setIfInBounds_toArray, List.set_cons_zero, List.set_cons_succ]
        refine wpAnyH_at (i := 13) (some 82) (v := ?v13z13) rfl rfl (by kernel_rfl) (by kernel_rfl) (by kernel_rfl) (fun _ _ _ h => h) (Or.inl ⟨by rfl, ?y13z13⟩) (by assumption) ?r13z13
        case y13z13 =>
          intro w9 hSw
          clear hSw
          go_simp
          all_goals with_reducible rfl
        simp only [Act.put, List.setIfInBounds_toArray, List.set_cons_zero, List.set_cons_succ]
        refine wpAnyH_at (i := 14) (some 83) (v := ?v14z14) rfl rfl (by kernel_rfl) (by kernel_rfl) (by kernel_rfl) (fun _ _ _ h => h) (Or.inl ⟨by rfl, ?y14z14⟩) (by assumption) ?r14z14
        case y14z14 =>
          intro w9 hSw
          clear hSw
          go_simp
          all_goals with_reducible rfl
        simp only [Act.put, List.setIfInBounds_toArray, List.set_cons_zero, List.set_cons_succ]
        refine wpAnyH_at (i := 15) (some 84) (v := ?v15z15) rfl rfl (by kernel_rfl) (by kernel_rfl) (by kernel_rfl) (fun _ _ _ h => h) (Or.inl ⟨by rfl, ?y15z15⟩) (by assumption) ?r15z15
        case y15z15 =>
          intro w9 hSw
          clear hSw
          go_simp
          all_goals with_reducible rfl
        simp only [Act.put, List.setIfInBounds_toArray, List.set_cons_zero, List.set_cons_succ]
        refine wpAnyH_at (i := 16) (some 85) (v := ?v16z16) rfl rfl (by kernel_rfl) (by kernel_rfl) (by kernel_rfl) (fun _ _ _ h => h) (Or.inl ⟨by rfl, ?y16z16⟩) (by assumption) ?r16z16
        case y16z16 =>
          intro w9 hSw
          clear hSw
          go_simp
          all_goals with_reducible rfl
        simp only [Act.put, List.setIfInBounds_toArray, List.set_cons_zero, List.set_cons_succ]
        refine wpAnyH_at (i := 17) (some 86) (v := ?v17z17) rfl rfl (by kernel_rfl) (by kernel_rfl) (by kernel_rfl) (fun _ _ _ h => h) (Or.inl ⟨by rfl, ?y17z17⟩) (by assumption) ?r17z17
        case y17z17 =>
          intro w9 hSw
          clear hSw
          go_simp
          all_goals with_reducible rfl
        simp only [Act.put, List.setIfInBounds_toArray, List.set_cons_zero, List.set_cons_succ]
        refine wpAnyH_at (i := 19) (some 88) (v := ?v19z18) rfl rfl (by kernel_rfl) (by kernel_rfl) (by kernel_rfl) (fun _ _ _ h => h) (Or.inl ⟨by rfl, ?y19z18⟩) (by assumption) ?r19z18
        case y19z18 =>
          intro w9 hSw
          clear hSw
          go_simp
          all_goals with_reducible rfl
        simp only [Act.put, List.setIfInBounds_toArray, List.set_cons_zero, List.set_cons_succ]
        refine wpAnyH_at (i := 20) (some 89) (v := ?v20z19) rfl rfl (by kernel_rfl) (by kernel_rfl) (by kernel_rfl) (fun _ _ _ h => h) (Or.inl ⟨by rfl, ?y20z19⟩) (by assumption) ?r20z19
        case y20z19 =>
          intro w9 hSw
          clear hSw
          go_simp
          all_goals with_reducible rfl
        simp only [Act.put, List.setIfInBounds_toArray, List.set_cons_zero, List.set_cons_succ]
        refine wpAnyH_at (i := 21) (some 90) (v := ?v21z20) rfl rfl (by kernel_rfl) (by kernel_rfl) (by kernel_rfl) (fun _ _ _ h => h) (Or.inl ⟨by rfl, ?y21z20⟩) (by assumption) ?r21z20
        case y21z20 =>
          intro w9 hSw
          clear hSw
          go_simp
          all_goals with_reducible rfl
        simp only [Act.put, List.setIfInBounds_toArray, List.set_cons_zero, List.set_cons_succ]
        refine wpAnyH_at (i := 22) (some 91) (v := ?v22z21) rfl rfl (by kernel_rfl) (by kernel_rfl) (by kernel_rfl) (fun _ _ _ h => h) (Or.inl ⟨by rfl, ?y22z21⟩) (by assumption) ?r22z21
        case y22z21 =>
          intro w9 hSw
          (obtain ⟨a0, a1, a2, a3, a4, a5, a6, a7⟩ := (show KT w h A n c za zb ga gb w9 from hSw).p.cells); clear hSw
          go_simp
          all_goals with_reducible rfl
        simp only [Act.put, List.setIfInBounds_toArray, List.set_cons_zero, List.set_cons_succ]
        refine wpAnyH_at (i := 23) (some 92) (v := ?v23z22) rfl rfl (by kernel_rfl) (by kernel_rfl) (by kernel_rfl) (fun _ _ _ h => h) (Or.inl ⟨by rfl, ?y23z22⟩) (by assumption) ?r23z22
        case y23z22 =>
          intro w9 hSw
          clear hSw
          go_simp
          all_goals with_reducible rfl
        simp only [Act.put, List.setIfInBounds_toArray, List.set_cons_zero, List.set_cons_succ]
        refine wpAnyH_at (i := 24) (some 93) (v := ?v24z23) rfl rfl (by kernel_rfl) (by kernel_rfl) (by kernel_rfl) (fun _ _ _ h => h) (Or.inl ⟨by rfl, ?y24z23⟩) (by assumption) ?r24z23
        case y24z23 =>
          intro w9 hSw
          clear hSw
          go_simp
          all_goals with_reducible rfl
        simp only [Act.put, List.setIfInBounds_toArray, List.set_cons_zero, List.set_cons_succ]
        refine wpAnyH_one (i := 18) (by kernel_rfl) rfl ?_
        have c5 := same_gen _ _ 20 20 20 20 za zc _ _ _ (k.a.rdW la.out (by omega) wa.out) (rc.rdW lc.out (by omega) wc.out)
        rw [lE.out] at c5
        go_wp2_with (go_at_call 18; refine (c5).mono ?_; rintro ev W6 ⟨rfl, hb⟩)
        replace k := k.step hb
        clear c5
        clear hb hHeld
        have hHeld := k
        refine ⟨hHeld, ?_⟩
        try simp only [Act.put, List.setIfInBounds_toArray, List.set_cons_zero, List.set_cons_succ]
        refine wpAnyH_at (i := 25) (some 94) (v := ?v25z24) rfl rfl (by kernel_rfl) (by kernel_rfl) (by kernel_rfl) (fun _ _ _ h => h) (Or.inl ⟨by rfl, ?y25z24⟩) (by assumption) ?r25z24
        case y25z24 =>
          intro w9 hSw
          clear hSw
          go_simp
          all_goals with_reducible rfl
        simp only [Act.put, List.setIfInBounds_toArray, List.set_cons_zero, List.set_cons_succ]
        refine wpAnyH_at (i := 26) (some 95) (v := ?v26z25) rfl rfl (by kernel_rfl) (by kernel_rfl) (by kernel_rfl) (fun _ _ _ h => h) (Or.inl ⟨by rfl, ?y26z25⟩) (by assumption) ?r26z25
        case y26z25 =>
          intro w9 hSw
          clear hSw
          go_simp
          all_goals with_reducible rfl
        simp only [Act.put, List.setIfInBounds_toArray, List.set_cons_zero, List.set_cons_succ]
        refine wpAnyH_at (i := 27) (some 6) (v := ?v27z26) rfl rfl (by kernel_rfl) (by kernel_rfl) (by kernel_rfl) (fun _ _ _ h => h) (Or.inl ⟨by rfl, ?y27z26⟩) (by assumption) ?r27z26
        case y27z26 =>
          intro w9 hSw
          clear hSw
          go_simp
          all_goals with_reducible rfl
        simp only [Act.put, List.setIfInBounds_toArray, List.set_cons_zero, List.set_cons_succ]
        refine wpAnyH_done (by kernel_rfl) ?_ _
        clear hHeld
        go_wp2
        go_ret
        exact ⟨rfl, k.kn.below⟩
    · have hj' : j < 20 := by omega
      have j1 : (j : Int) < 20 := by omega
      have ca := k.a.cell (i := j) (by rw [la.out]; omega)
      have cb := k.b.cell (i := j) (by rw [lb.out]; omega)
      have ta := tA.out j hj'
      have hwj : 0 ≤ za.getD j 0 ∧ za.getD j 0 ≤ 255 := by
        have : za.getD j 0 = za[j]'(by rw [la.out]; omega) := by simp [List.getD, List.getElem?_eq_getElem (show j < za.length by rw [la.out]; omega)]
        rw [this]
        exact u8_bd (wa.out _ (List.getElem_mem _))
      generalize za.getD j 0 = xa at ca ta hwj
      generalize zb.getD j 0 = xb at cb ta
      have e0 : IntKind.i64.wrap ((j : Int) + 1) = (j : Int) + 1 := by rw [IntKind.wrap_i64]; omega
      by_cases hab : xa = xb
      · subst hab
        have s1 : (xa != xa) = false := by simp
        go_wp2
        go_quiet (fail)
        go_wp2
        go_roundw
        case rel => exact ⟨j + 1, by simp, by omega, k.step (Still.drewN _ _).below⟩
        case measure => simp [intOf]; omega
      · have s1 : (xa != xb) = true := by simpa using hab
        have h3 : j = 8 ∨ j = 10 ∨ j = 11 := by
          by_cases h8 : j = 8
          · exact .inl h8
          · by_cases h10 : j = 10
            · exact .inr (.inl h10)
            · by_cases h11 : j = 11
              · exact .inr (.inr h11)
              · exact absurd (ta h8 h10 h11) hab
        clear ta hab
        rcases h3 with rfl | rfl | rfl
        · go_wp2
          go_quiet (fail)
          go_wp2
          go_roundw
          case rel => exact ⟨9, rfl, by omega, k.step (Still.drewN _ _).below⟩
          case measure => simp [intOf]
        · go_wp2
          go_quiet (fail)
          go_wp2
          go_roundw
          case rel => exact ⟨11, rfl, by omega, k.step (Still.drewN _ _).below⟩
          case measure => simp [intOf]
        · go_wp2
          go_quiet (fail)
          go_wp2
          go_roundw
          case rel => exact ⟨12, rfl, by omega, k.step (Still.drewN _ _).below⟩
          case measure => simp [intOf]
theorem ttl_law (h : Hd) (A : Option Addr) (n c : Nat) (xs : List Int) (tl : Int) (A' : Option Addr) (n' c' : Nat) (ys : List Int) (w : World) (hg : Laid w) (hk : h.ok) (hr : Rd .u8 w w.heap.size A n c xs) (htl : (Lit.int .u8 tl).wf = true) (hr' : Rd .u8 w w.heap.size A' n' c' ys) : Calls Tryd.prog 7 #[pkV h A n c, .int .u8 tl, .slice A' n' c'] w fun e w' => e = .returned (.bool true) ∧ Below w.heap.size w w' := by
  by_cases h1 : 1480 < n ∨ 1480 < n'
  · exact ttl_far h A n c tl A' n' c' w hg h1 (Nat.le_trans hr.cap hr.max) (Nat.le_trans hr'.cap hr'.max)
  · exact ttl_near h A n c tl A' n' c' w hg hk (u8_bd htl) (by omega) (by omega)
end Go.Proofs.YthgdgjpckgfmbaaDoor
