/-
  Contract of read: the packet of its own bytes, of which the head has so many.
-/
import Derived.Test.YtbefoapnlehdmaaDoorReadE
import Derived.Deep.CutRange
namespace Go.Proofs.YtbefoapnlehdmaaDoor
open Go.RowKit
theorem build28 (pos : String) (aft) (w : World) (x1 id x8 x9 src dst : Int) (fb : Bool) (A : Option Addr) (n c : Nat) (tm : Array Value) (d) (h22 : tm[22]? = some (.int .u8 x1)) (h25 : tm[25]? = some (.int .u16 id)) (h27 : tm[27]? = some (.bool fb)) (h30 : tm[30]? = some (.int .u8 x8)) (h33 : tm[33]? = some (.int .u8 x9)) (h36 : tm[36]? = some (.int .u32 src)) (h39 : tm[39]? = some (.int .u32 dst)) (h44 : tm[44]? = some (.slice A n c)) :
    Sem.run Tryd.prog (execOp ({ tmps := tm, defers := d } : Act).eval ⟨some 45, Op.build 60 #[(0, .tmp 22), (1, .tmp 25), (2, .tmp 27), (3, .tmp 30), (4, .tmp 33), (5, .tmp 36), (6, .tmp 39), (7, .tmp 44)], 60, pos, aft, none⟩) w = .ok (.value (pkV ⟨x1, id, fb, x8, x9, src, dst⟩ A n c)) w := by
  go_simp
set_option maxRecDepth 100000 in
set_option maxHeartbeats 8000000 in
theorem read_good (b o n c : Nat) (xs : List Int) (w : World) (hr : Rd .u8 w w.heap.size (some ⟨b, o, none⟩) n c xs) (hn : 20 ≤ n) (hnm : n ≤ 100000) (hf : flg xs = 0 ∨ flg xs = 16384) :
    Calls Tryd.prog 64 #[.int .i64 20, .slice (some ⟨b, o, none⟩) n c] w fun e w' => Below w.heap.size w w' ∧ ∃ g, e = .returned (.tuple #[pkV (hdOf xs) (some ⟨g, 0, none⟩) (n - 20) (n - 20), .nilIface]) ∧ Row w' g (xs.drop 20) ∧ w.heap.size ≤ g := by
  have hcap := hr.cap
  have hmax := hr.max
  have HL := Lib.hid hr.len
  have k4 : ¬ c = 4 := by omega
  have j4 : (4 : Int) ≤ (n : Int) := by omega
  have k6 : ¬ c = 6 := by omega
  have j6 : (6 : Int) ≤ (n : Int) := by omega
  have k12 : ¬ c = 12 := by omega
  have j12 : (12 : Int) ≤ (n : Int) := by omega
  have k16 : ¬ c = 16 := by omega
  have j16 : (16 : Int) ≤ (n : Int) := by omega
  have j20 : (20 : Int) ≤ (n : Int) := by omega
  have i1 : (1 : Int) < (n : Int) := by omega
  have i8 : (8 : Int) < (n : Int) := by omega
  have i9 : (9 : Int) < (n : Int) := by omega
  have i3 : ((n : Int) - 20) = ((n - 20 : Nat) : Int) := by omega
  have i4 : IntKind.i64.wrap ((n - 20 : Nat) : Int) = ((n - 20 : Nat) : Int) := by rw [IntKind.wrap_i64]; omega
  have t1 : ∀ W, Rd .u8 W w.heap.size (some ⟨b, o, none⟩) n c xs → Calls Tryd.prog 78 #[.slice (some ⟨b, o + 6, none⟩) (n - 6) (c - 6)] W fun e w' => e = .returned (.int .u16 (flg xs)) ∧ ∃ m', w' = W.drewN m' := fun W h => two_any _ (n - 6) (c - 6) w.heap.size (xs.drop 6) W (h.cutS 6 (by omega) k6) (by omega)
  have t2 : ∀ W, Rd .u8 W w.heap.size (some ⟨b, o, none⟩) n c xs → Calls Tryd.prog 78 #[.slice (some ⟨b, o + 4, none⟩) (n - 4) (c - 4)] W fun e w' => e = .returned (.int .u16 (num2 (xs.drop 4))) ∧ ∃ m', w' = W.drewN m' := fun W h => two_any _ (n - 4) (c - 4) w.heap.size (xs.drop 4) W (h.cutS 4 (by omega) k4) (by omega)
  have t3 : ∀ W, Rd .u8 W w.heap.size (some ⟨b, o, none⟩) n c xs → Calls Tryd.prog 79 #[.slice (some ⟨b, o + 12, none⟩) (n - 12) (c - 12)] W fun e w' => e = .returned (.int .u32 (num4 (xs.drop 12))) ∧ ∃ m', w' = W.drewN m' := fun W h => fourN_any _ (n - 12) (c - 12) w.heap.size (xs.drop 12) W (h.cutS 12 (by omega) k12) (by omega)
  have t4 : ∀ W, Rd .u8 W w.heap.size (some ⟨b, o, none⟩) n c xs → Calls Tryd.prog 79 #[.slice (some ⟨b, o + 16, none⟩) (n - 16) (c - 16)] W fun e w' => e = .returned (.int .u32 (num4 (xs.drop 16))) ∧ ∃ m', w' = W.drewN m' := fun W h => fourN_any _ (n - 16) (c - 16) w.heap.size (xs.drop 16) W (h.cutS 16 (by omega) k16) (by omega)
  have hz : bits .andNot .u16 (flg xs) 16384 = 0 := (cut_bits _ (num2_bd rfl (hr.cutS 6 (by omega) k6) (by omega))).2 hf
  have HH : Hid (hdOf xs = ⟨xs.getD 1 0, num2 (xs.drop 4), flg xs == 16384, xs.getD 8 0, xs.getD 9 0, num4 (xs.drop 12), num4 (xs.drop 16)⟩) := Lib.hid rfl
  have hcell : Hid (∀ W, Rd .u8 W w.heap.size (some ⟨b, o, none⟩) n c xs → W.cell? ⟨b, o + 1, none⟩ = some (.int .u8 (xs.getD 1 0)) ∧ W.cell? ⟨b, o + 8, none⟩ = some (.int .u8 (xs.getD 8 0)) ∧ W.cell? ⟨b, o + 9, none⟩ = some (.int .u8 (xs.getD 9 0))) :=
    Lib.hid (fun W h => ⟨h.cellAt (by omega), h.cellAt (by omega), h.cellAt (by omega)⟩)
  clear hf
  generalize flg xs = f at *
  generalize num2 (xs.drop 4) = id at *
  generalize num4 (xs.drop 12) = src at *
  generalize num4 (xs.drop 16) = dst at *
  generalize xs.getD 1 0 = x1 at *
  generalize xs.getD 8 0 = x8 at *
  generalize xs.getD 9 0 = x9 at *
  go_enter Tryd.func64, Tryd.ntmps64
  go_wp2_with (go_at_call 78; with_reducible refine (t1 _ (hr.below (alloc_below _ _) (Nat.le_refl _))).mono ?_; rintro e w1 ⟨rfl, m, rfl⟩)
  have K0 : KR w (some ⟨b, o, none⟩) n c xs ((w.alloc (.cells (pkC zeroH none 0 0) 60)).drewN m) := KR.step (W := w.alloc (.cells (pkC zeroH none 0 0) 60)) ⟨PkAt.new w 60 zeroH none 0 0, hr.below (alloc_below _ _) (Nat.le_refl _), alloc_below _ _⟩ (Still.drewN _ _).below
  clear t1 hr
  revert K0
  change KR w (some ⟨b, o, none⟩) n c xs ((w.alloc (.cells (pkC zeroH none 0 0) 60)).drewN m) → Code.wp _ _ _ _ ((w.alloc (.cells (pkC zeroH none 0 0) 60)).drewN m)
  generalize (w.alloc (.cells (pkC zeroH none 0 0) 60)).drewN m = W0
  intro K0
  go_cut [7] from 20 to 45 (fun x7 wc => ∃ g1 g2, x7 = .pointer (some ⟨g2, 0, none⟩) ∧ PR w (some ⟨b, o, none⟩) n c xs g1 g2 (List.replicate (n - 20) 0) wc)
  case first =>
    refine wp_region_held_drew (S := fun w' => KR w (some ⟨b, o, none⟩) n c xs w') (by kernel_rfl) (K0.step (below_drew _)) (fun hHeld => ?_)
    generalize W0.drew = W1 at hHeld ⊢
    clear K0
    refine wpAnyH_at (i := 0) (some 20) (v := ?v0z1) rfl rfl (by kernel_rfl) (by kernel_rfl) (by kernel_rfl) (fun _ _ _ h => h) (Or.inl ⟨by rfl, ?y0z1⟩) (by assumption) ?r0z1
    case y0z1 =>
      intro w9 hSw
      clear hSw
      go_simp
      all_goals with_reducible rfl
    simp only [Act.put, List.setIfInBounds_toArray, List.set_cons_zero, List.set_cons_succ]
    refine wpAnyH_at (i := 1) (some 21) (v := ?v1z2) rfl rfl (by kernel_rfl) (by kernel_rfl) (by kernel_rfl) (fun _ _ _ h => h) (Or.inl ⟨by rfl, ?y1z2⟩) (by assumption) ?r1z2
    case y1z2 =>
      intro w9 hSw
      clear hSw
      go_simp
      all_goals with_reducible rfl
    simp only [Act.put, List.setIfInBounds_toArray, List.set_cons_zero, List.set_cons_succ]
    refine wpAnyH_at (i := 2) (some 22) (v := ?v2z3) rfl rfl (by kernel_rfl) (by kernel_rfl) (by kernel_rfl) (fun _ _ _ h => h) (Or.inl ⟨by rfl, ?y2z3⟩) (by assumption) ?r2z3
    case y2z3 =>
      intro w9 hSw
      (obtain ⟨q1, q8, q9⟩ := hcell.out _ (show KR w (some ⟨b, o, none⟩) n c xs w9 from hSw).rd); clear hSw
      go_simp
      all_goals with_reducible rfl
    simp only [Act.put, List.setIfInBounds_toArray, List.set_cons_zero, List.set_cons_succ]
    refine wpAnyH_at (i := 3) (some 23) (v := ?v3z4) rfl rfl (by kernel_rfl) (by kernel_rfl) (by kernel_rfl) (fun _ _ _ h => h) (Or.inl ⟨by rfl, ?y3z4⟩) (by assumption) ?r3z4
    case y3z4 =>
      intro w9 hSw
      clear hSw
      go_simp
      all_goals with_reducible rfl
    simp only [Act.put, List.setIfInBounds_toArray, List.set_cons_zero, List.set_cons_succ]
    refine wpAnyH_at (i := 4) (some 24) (v := ?v4z5) rfl rfl (by kernel_rfl) (by kernel_rfl) (by kernel_rfl) (fun _ _ _ h => h) (Or.inl ⟨by rfl, ?y4z5⟩) (by assumption) ?r4z5
    case y4z5 =>
      intro w9 hSw
      clear hSw
      go_simp
      all_goals with_reducible rfl
    simp only [Act.put, List.setIfInBounds_toArray, List.set_cons_zero, List.set_cons_succ]
    refine wpAnyH_at (i := 6) (some 26) (v := ?v6z6) rfl rfl (by kernel_rfl) (by kernel_rfl) (by kernel_rfl) (fun _ _ _ h => h) (Or.inl ⟨by rfl, ?y6z6⟩) (by assumption) ?r6z6
    case y6z6 =>
      intro w9 hSw
      clear hSw
      go_simp
      all_goals with_reducible rfl
    simp only [Act.put, List.setIfInBounds_toArray, List.set_cons_zero, List.set_cons_succ]
    refine wpAnyH_at (i := 7) (some 27) (v := ?v7z7) rfl rfl (by kernel_rfl) (by kernel_rfl) (by kernel_rfl) (fun _ _ _ h => h) (Or.inl ⟨by rfl, ?y7z7⟩) (by assumption) ?r7z7
    case y7z7 =>
      intro w9 hSw
      clear hSw
      go_simp
      all_goals with_reducible rfl
    simp only [Act.put, List.setIfInBounds_toArray, List.set_cons_zero, List.set_cons_succ]
    refine wpAnyH_at (i := 8) (some 28) (v := ?v8z8) rfl rfl (by kernel_rfl) (by kernel_rfl) (by kernel_rfl) (fun _ _ _ h => h) (Or.inl ⟨by rfl, ?y8z8⟩) (by assumption) ?r8z8
    case y8z8 =>
      intro w9 hSw
      clear hSw
      go_simp
      all_goals with_reducible rfl
    simp only [Act.put, List.setIfInBounds_toArray, List.set_cons_zero, List.set_cons_succ]
    refine wpAnyH_at (i := 9) (some 29) (v := ?v9z9) rfl rfl (by kernel_rfl) (by kernel_rfl) (by kernel_rfl) (fun _ _ _ h => h) (Or.inl ⟨by rfl, ?y9z9⟩) (by assumption) ?r9z9
    case y9z9 =>
      intro w9 hSw
      clear hSw
      go_simp
      all_goals with_reducible rfl
    simp only [Act.put, List.setIfInBounds_toArray, List.set_cons_zero, List.set_cons_succ]
    refine wpAnyH_at (i := 10) (some 30) (v := ?v10z10) rfl rfl (by kernel_rfl) (by kernel_rfl) (by kernel_rfl) (fun _ _ _ h => h) (Or.inl ⟨by rfl, ?y10z10⟩) (by assumption) ?r10z10
    case y10z10 =>
      intro w9 hSw
      (obtain ⟨q1, q8, q9⟩ := hcell.out _ (show KR w (some ⟨b, o, none⟩) n c xs w9 from hSw).rd); clear hSw
      go_simp
      all_goals with_reducible rfl
    simp only [Act.put, List.setIfInBounds_toArray, List.set_cons_zero, List.set_cons_succ]
    refine wpAnyH_at (i := 11) (some 31) (v := ?v11z11) rfl rfl (by kernel_rfl) (by kernel_rfl) (by kernel_rfl) (fun _ _ _ h => h) (Or.inl ⟨by rfl, ?y11z11⟩) (by assumption) ?r11z11
    case y11z11 =>
      intro w9 hSw
      clear hSw
      go_simp
      all_goals with_reducible rfl
    simp only [Act.put, List.setIfInBounds_toArray, List.set_cons_zero, List.set_cons_succ]
    refine wpAnyH_at (i := 12) (some 32) (v := ?v12z12) rfl rfl (by kernel_rfl) (by kernel_rfl) (by kernel_rfl) (fun _ _ _ h => h) (Or.inl ⟨by rfl, ?y12z12⟩) (by assumption) ?r12z12
    case y12z12 =>
      intro w9 hSw
      clear hSw
      go_simp
      all_goals with_reducible rfl
    simp only [Act.put, List.setIfInBounds_toArray, List.set_cons_zero, List.set_cons_succ]
    refine wpAnyH_at (i := 13) (some 33) (v := ?v13z13) rfl rfl (by kernel_rfl) (by kernel_rfl) (by kernel_rfl) (fun _ _ _ h => h) (Or.inl ⟨by rfl, ?y13z13⟩) (by assumption) ?r13z13
    case y13z13 =>
      intro w9 hSw
      (obtain ⟨q1, q8, q9⟩ := hcell.out _ (show KR w (some ⟨b, o, none⟩) n c xs w9 from hSw).rd); clear hSw
      go_simp
      all_goals with_reducible rfl
    simp only [Act.put, List.setIfInBounds_toArray, List.set_cons_zero, List.set_cons_succ]
    refine wpAnyH_at (i := 14) (some 34) (v := ?v14z14) rfl rfl (by kernel_rfl) (by kernel_rfl) (by kernel_rfl) (fun _ _ _ h => h) (Or.inl ⟨by rfl, ?y14z14⟩) (by assumption) ?r14z14
    case y14z14 =>
      intro w9 hSw
      clear hSw
      go_simp
      all_goals with_reducible rfl
    simp only [Act.put, List.setIfInBounds_toArray, List.set_cons_zero, List.set_cons_succ]
    refine wpAnyH_at (i := 15) (some 35) (v := ?v15z15) rfl rfl (by kernel_rfl) (by kernel_rfl) (by kernel_rfl) (fun _ _ _ h => h) (Or.inl ⟨by rfl, ?y15z15⟩) (by assumption) ?r15z15
    case y15z15 =>
      intro w9 hSw
      clear hSw
      go_simp
      all_goals with_reducible rfl
    simp only [Act.put, List.setIfInBounds_toArray, List.set_cons_zero, List.set_cons_succ]
    refine wpAnyH_at (i := 17) (some 37) (v := ?v17z16) rfl rfl (by kernel_rfl) (by kernel_rfl) (by kernel_rfl) (fun _ _ _ h => h) (Or.inl ⟨by rfl, ?y17z16⟩) (by assumption) ?r17z16
    case y17z16 =>
      intro w9 hSw
      clear hSw
      go_simp
      all_goals with_reducible rfl
    simp only [Act.put, List.setIfInBounds_toArray, List.set_cons_zero, List.set_cons_succ]
    refine wpAnyH_at (i := 18) (some 38) (v := ?v18z17) rfl rfl (by kernel_rfl) (by kernel_rfl) (by kernel_rfl) (fun _ _ _ h => h) (Or.inl ⟨by rfl, ?y18z17⟩) (by assumption) ?r18z17
    case y18z17 =>
      intro w9 hSw
      clear hSw
      go_simp
      all_goals with_reducible rfl
    simp only [Act.put, List.setIfInBounds_toArray, List.set_cons_zero, List.set_cons_succ]
    refine wpAnyH_at (i := 20) (some 40) (v := ?v20z18) rfl rfl (by kernel_rfl) (by kernel_rfl) (by kernel_rfl) (fun _ _ _ h => h) (Or.inl ⟨by rfl, ?y20z18⟩) (by assumption) ?r20z18
    case y20z18 =>
      intro w9 hSw
      clear hSw
      go_simp
      all_goals with_reducible rfl
    simp only [Act.put, List.setIfInBounds_toArray, List.set_cons_zero, List.set_cons_succ]
    refine wpAnyH_at (i := 21) (some 41) (v := ?v21z19) rfl rfl (by kernel_rfl) (by kernel_rfl) (by kernel_rfl) (fun _ _ _ h => h) (Or.inl ⟨by rfl, ?y21z19⟩) (by assumption) ?r21z19
    case y21z19 =>
      intro w9 hSw
      clear hSw
      go_simp
      all_goals with_reducible rfl
    simp only [Act.put, List.setIfInBounds_toArray, List.set_cons_zero, List.set_cons_succ]
    refine wpAnyH_at (i := 22) (some 42) (v := ?v22z20) rfl rfl (by kernel_rfl) (by kernel_rfl) (by kernel_rfl) (fun _ _ _ h => h) (Or.inl ⟨by rfl, ?y22z20⟩) (by assumption) ?r22z20
    case y22z20 =>
      intro w9 hSw
      clear hSw
      go_simp
      all_goals with_reducible rfl
    simp only [Act.put, List.setIfInBounds_toArray, List.set_cons_zero, List.set_cons_succ]
    refine wpAnyH_at (i := 23) (some 43) (v := ?v23z21) rfl rfl (by kernel_rfl) (by kernel_rfl) (by kernel_rfl) (fun _ _ _ h => h) (Or.inl ⟨by rfl, ?y23z21⟩) (by assumption) ?r23z21
    case y23z21 =>
      intro w9 hSw
      clear hSw
      go_simp
      all_goals with_reducible rfl
    simp only [Act.put, List.setIfInBounds_toArray, List.set_cons_zero, List.set_cons_succ]
    refine wpAnyH_three (i := 5) (j := 24) (l := 26) (by kernel_rfl) rfl rfl rfl ?_ ?_ ?_
    · as_aux_lemma =>
        go_wp2_with (go_at_call 78; with_reducible refine (t2 _ hHeld.rd).mono ?_; rintro e w9 ⟨rfl, m9, rfl⟩)
        replace hHeld := hHeld.step (Still.drewN _ m9).below
        refine ⟨hHeld, ?_⟩
        generalize W1.drewN m9 = W2 at *
        refine wpAnyH_three (i := 16) (j := 24) (l := 26) (by kernel_rfl) rfl rfl rfl ?_ ?_ ?_
        · as_aux_lemma =>
            go_wp2_with (go_at_call 79; with_reducible refine (t3 _ hHeld.rd).mono ?_; rintro e w9 ⟨rfl, m9, rfl⟩)
            replace hHeld := hHeld.step (Still.drewN _ m9).below
            refine ⟨hHeld, ?_⟩
            generalize W2.drewN m9 = W3 at *
            refine wpAnyH_three (i := 19) (j := 24) (l := 26) (by kernel_rfl) rfl rfl rfl ?_ ?_ ?_
            · as_aux_lemma =>
                go_wp2_with (go_at_call 79; with_reducible refine (t4 _ hHeld.rd).mono ?_; rintro e w9 ⟨rfl, m9, rfl⟩)
                replace hHeld := hHeld.step (Still.drewN _ m9).below
                refine ⟨hHeld, ?_⟩
                generalize W3.drewN m9 = W4 at *
                refine wpAnyH_two (i := 24) (j := 26) (by kernel_rfl) rfl rfl ?_ ?_
                · as_aux_lemma =>
                    refine wpList_mk (some 44) rfl rfl _ _ 22 rfl Tryd.underlying22 info5 (n - 20) _ _ rfl rfl rfl rfl (by omega) ?_
                    intro W5 row hs2 hb2
                    go_wp2
                    have n1 := hHeld.z.lt
                    replace hHeld := hHeld.step hb2
                    refine ⟨hHeld, ?_⟩
                    clear hs2 hb2
                    generalize W4.heap.size = g1 at *
                    try simp only [Act.put, List.setIfInBounds_toArray, List.set_cons_zero, List.set_cons_succ]
                    refine wpAnyH_at (i := 25) (some 45) (v := pkV ⟨x1, id, f == 16384, x8, x9, src, dst⟩ (some ⟨g1, 0, none⟩) (n - 20) (n - 20)) rfl rfl (by kernel_rfl) (by kernel_rfl) (by kernel_rfl) (fun _ _ _ h => h) (Or.inl ⟨by rfl, fun w9 _ => ?_⟩) (by assumption) ?_
                    · exact build28 _ _ w9 _ _ _ _ _ _ _ _ _ _ _ _ rfl rfl rfl rfl rfl rfl rfl rfl
                    simp only [Act.put, List.setIfInBounds_toArray, List.set_cons_zero, List.set_cons_succ]
                    refine wpAnyH_one (i := 26) (by kernel_rfl) rfl ?_
                    have hb2 := alloc_below W5 (.cells (pkC zeroH none 0 0) 60)
                    have pk := PkAt.new W5 60 zeroH none 0 0
                    have n2 := hHeld.z.lt
                    replace hHeld := hHeld.step hb2
                    have ne := Nat.ne_of_lt row.lt
                    replace row := row.below hb2 row.lt
                    go_wp2
                    refine ⟨hHeld, ?_⟩
                    change wpAnyH _ _ _ _ _ _ _ _ (W5.alloc (.cells (pkC zeroH none 0 0) 60))
                    clear hb2
                    generalize (W5.alloc (.cells (pkC zeroH none 0 0) 60)) = W6 at *
                    generalize W5.heap.size = g2 at *
                    refine wpAnyH_one (i := 27) (by kernel_rfl) rfl ?_
                    refine wpList_stF rfl rfl 60 _ _ rfl g2 (pkC ⟨x1, id, f == 16384, x8, x9, src, dst⟩ (some ⟨g1, 0, none⟩) (n - 20) (n - 20)) rfl rfl 60 _ pk (by kernel_rfl) rfl (pkC_one ..) ?_
                    intro w4 f4 hb4 ho4 hs4
                    have pr : PR w (some ⟨b, o, none⟩) n c xs g1 g2 (List.replicate (n - 20) 0) w4 :=
                      ⟨hHeld.z.below hb4 n2, (by unfold PkAt; rw [HH.out]; exact f4), (ho4 _ ne).trans row, hHeld.rd.below hb4 (Nat.le_of_lt n2), hHeld.below.trans (hb4.mono (Nat.le_of_lt n2)), n1, n2, ne⟩
                    have hK4 : KR w (some ⟨b, o, none⟩) n c xs w4 := ⟨pr.z, pr.rd, pr.below⟩
                    clear hHeld hb4 f4 ho4 row pk
                    go_wp2
                    refine ⟨hK4, ?_⟩
                    refine wpAnyH_done (by kernel_rfl) ?_ _
                    clear hK4
                    go_wp2_with fail
                    go_meet
                    case rel => exact ⟨_, _, rfl, pr⟩
                · as_aux_lemma =>
                    have hb2 := alloc_below W4 (.cells (pkC zeroH none 0 0) 60)
                    have pk := PkAt.new W4 60 zeroH none 0 0
                    have n2 := hHeld.z.lt
                    replace hHeld := hHeld.step hb2
                    go_wp2
                    refine ⟨hHeld, ?_⟩
                    change wpAnyH _ _ _ _ _ _ _ _ (W4.alloc (.cells (pkC zeroH none 0 0) 60))
                    clear hb2
                    generalize (W4.alloc (.cells (pkC zeroH none 0 0) 60)) = W5 at *
                    generalize W4.heap.size = g2 at *
                    refine wpAnyH_one (i := 24) (by kernel_rfl) rfl ?_
                    refine wpList_mk (some 44) rfl rfl _ _ 22 rfl Tryd.underlying22 info5 (n - 20) _ _ rfl rfl rfl rfl (by omega) ?_
                    intro W6 row hs2 hb2
                    go_wp2
                    have n1 := hHeld.z.lt
                    replace hHeld := hHeld.step hb2
                    have ne := Nat.ne_of_gt pk.lt
                    replace pk := pk.step hb2
                    refine ⟨hHeld, ?_⟩
                    clear hs2 hb2
                    generalize W5.heap.size = g1 at *
                    try simp only [Act.put, List.setIfInBounds_toArray, List.set_cons_zero, List.set_cons_succ]
                    refine wpAnyH_at (i := 25) (some 45) (v := pkV ⟨x1, id, f == 16384, x8, x9, src, dst⟩ (some ⟨g1, 0, none⟩) (n - 20) (n - 20)) rfl rfl (by kernel_rfl) (by kernel_rfl) (by kernel_rfl) (fun _ _ _ h => h) (Or.inl ⟨by rfl, fun w9 _ => ?_⟩) (by assumption) ?_
                    · exact build28 _ _ w9 _ _ _ _ _ _ _ _ _ _ _ _ rfl rfl rfl rfl rfl rfl rfl rfl
                    simp only [Act.put, List.setIfInBounds_toArray, List.set_cons_zero, List.set_cons_succ]
                    refine wpAnyH_one (i := 27) (by kernel_rfl) rfl ?_
                    refine wpList_stF rfl rfl 60 _ _ rfl g2 (pkC ⟨x1, id, f == 16384, x8, x9, src, dst⟩ (some ⟨g1, 0, none⟩) (n - 20) (n - 20)) rfl rfl 60 _ pk (by kernel_rfl) rfl (pkC_one ..) ?_
                    intro w4 f4 hb4 ho4 hs4
                    have pr : PR w (some ⟨b, o, none⟩) n c xs g1 g2 (List.replicate (n - 20) 0) w4 :=
                      ⟨hHeld.z.below hb4 n2, (by unfold PkAt; rw [HH.out]; exact f4), (ho4 _ ne).trans row, hHeld.rd.below hb4 (Nat.le_of_lt n2), hHeld.below.trans (hb4.mono (Nat.le_of_lt n2)), n1, n2, ne⟩
                    have hK4 : KR w (some ⟨b, o, none⟩) n c xs w4 := ⟨pr.z, pr.rd, pr.below⟩
                    clear hHeld hb4 f4 ho4 row pk
                    go_wp2
                    refine ⟨hK4, ?_⟩
                    refine wpAnyH_done (by kernel_rfl) ?_ _
                    clear hK4
                    go_wp2_with fail
                    go_meet
                    case rel => exact ⟨_, _, rfl, pr⟩
            · as_aux_lemma =>
                refine wpList_mk (some 44) rfl rfl _ _ 22 rfl Tryd.underlying22 info5 (n - 20) _ _ rfl rfl rfl rfl (by omega) ?_
                intro W4 row hs2 hb2
                go_wp2
                have n1 := hHeld.z.lt
                replace hHeld := hHeld.step hb2
                refine ⟨hHeld, ?_⟩
                clear hs2 hb2
                generalize W3.heap.size = g1 at *
                refine wpAnyH_two (i := 19) (j := 26) (by kernel_rfl) rfl rfl ?_ ?_
                · as_aux_lemma =>
                    go_wp2_with (go_at_call 79; with_reducible refine (t4 _ hHeld.rd).mono ?_; rintro e w9 ⟨rfl, m9, rfl⟩)
                    replace hHeld := hHeld.step (Still.drewN _ m9).below
                    replace row := row.below (Still.drewN _ m9).below row.lt
                    refine ⟨hHeld, ?_⟩
                    generalize W4.drewN m9 = W5 at *
                    try simp only [Act.put, List.setIfInBounds_toArray, List.set_cons_zero, List.set_cons_succ]
                    refine wpAnyH_at (i := 25) (some 45) (v := pkV ⟨x1, id, f == 16384, x8, x9, src, dst⟩ (some ⟨g1, 0, none⟩) (n - 20) (n - 20)) rfl rfl (by kernel_rfl) (by kernel_rfl) (by kernel_rfl) (fun _ _ _ h => h) (Or.inl ⟨by rfl, fun w9 _ => ?_⟩) (by assumption) ?_
                    · exact build28 _ _ w9 _ _ _ _ _ _ _ _ _ _ _ _ rfl rfl rfl rfl rfl rfl rfl rfl
                    simp only [Act.put, List.setIfInBounds_toArray, List.set_cons_zero, List.set_cons_succ]
                    refine wpAnyH_one (i := 26) (by kernel_rfl) rfl ?_
                    have hb2 := alloc_below W5 (.cells (pkC zeroH none 0 0) 60)
                    have pk := PkAt.new W5 60 zeroH none 0 0
                    have n2 := hHeld.z.lt
                    replace hHeld := hHeld.step hb2
                    have ne := Nat.ne_of_lt row.lt
                    replace row := row.below hb2 row.lt
                    go_wp2
                    refine ⟨hHeld, ?_⟩
                    change wpAnyH _ _ _ _ _ _ _ _ (W5.alloc (.cells (pkC zeroH none 0 0) 60))
                    clear hb2
                    generalize (W5.alloc (.cells (pkC zeroH none 0 0) 60)) = W6 at *
                    generalize W5.heap.size = g2 at *
                    refine wpAnyH_one (i := 27) (by kernel_rfl) rfl ?_
                    refine wpList_stF rfl rfl 60 _ _ rfl g2 (pkC ⟨x1, id, f == 16384, x8, x9, src, dst⟩ (some ⟨g1, 0, none⟩) (n - 20) (n - 20)) rfl rfl 60 _ pk (by kernel_rfl) rfl (pkC_one ..) ?_
                    intro w4 f4 hb4 ho4 hs4
                    have pr : PR w (some ⟨b, o, none⟩) n c xs g1 g2 (List.replicate (n - 20) 0) w4 :=
                      ⟨hHeld.z.below hb4 n2, (by unfold PkAt; rw [HH.out]; exact f4), (ho4 _ ne).trans row, hHeld.rd.below hb4 (Nat.le_of_lt n2), hHeld.below.trans (hb4.mono (Nat.le_of_lt n2)), n1, n2, ne⟩
                    have hK4 : KR w (some ⟨b, o, none⟩) n c xs w4 := ⟨pr.z, pr.rd, pr.below⟩
                    clear hHeld hb4 f4 ho4 row pk
                    go_wp2
                    refine ⟨hK4, ?_⟩
                    refine wpAnyH_done (by kernel_rfl) ?_ _
                    clear hK4
                    go_wp2_with fail
                    go_meet
                    case rel => exact ⟨_, _, rfl, pr⟩
                · as_aux_lemma =>
                    have hb2 := alloc_below W4 (.cells (pkC zeroH none 0 0) 60)
                    have pk := PkAt.new W4 60 zeroH none 0 0
                    have n2 := hHeld.z.lt
                    replace hHeld := hHeld.step hb2
                    have ne := Nat.ne_of_lt row.lt
                    replace row := row.below hb2 row.lt
                    go_wp2
                    refine ⟨hHeld, ?_⟩
                    change wpAnyH _ _ _ _ _ _ _ _ (W4.alloc (.cells (pkC zeroH none 0 0) 60))
                    clear hb2
                    generalize (W4.alloc (.cells (pkC zeroH none 0 0) 60)) = W5 at *
                    generalize W4.heap.size = g2 at *
                    refine wpAnyH_one (i := 19) (by kernel_rfl) rfl ?_
                    go_wp2_with (go_at_call 79; with_reducible refine (t4 _ hHeld.rd).mono ?_; rintro e w9 ⟨rfl, m9, rfl⟩)
                    replace hHeld := hHeld.step (Still.drewN _ m9).below
                    replace row := row.below (Still.drewN _ m9).below row.lt
                    replace pk := pk.step (Still.drewN _ m9).below
                    refine ⟨hHeld, ?_⟩
                    generalize W5.drewN m9 = W6 at *
                    try simp only [Act.put, List.setIfInBounds_toArray, List.set_cons_zero, List.set_cons_succ]
                    refine wpAnyH_at (i := 25) (some 45) (v := pkV ⟨x1, id, f == 16384, x8, x9, src, dst⟩ (some ⟨g1, 0, none⟩) (n - 20) (n - 20)) rfl rfl (by kernel_rfl) (by kernel_rfl) (by kernel_rfl) (fun _ _ _ h => h) (Or.inl ⟨by rfl, fun w9 _ => ?_⟩) (by assumption) ?_
                    · exact build28 _ _ w9 _ _ _ _ _ _ _ _ _ _ _ _ rfl rfl rfl rfl rfl rfl rfl rfl
                    simp only [Act.put, List.setIfInBounds_toArray, List.set_cons_zero, List.set_cons_succ]
                    refine wpAnyH_one (i := 27) (by kernel_rfl) rfl ?_
                    refine wpList_stF rfl rfl 60 _ _ rfl g2 (pkC ⟨x1, id, f == 16384, x8, x9, src, dst⟩ (some ⟨g1, 0, none⟩) (n - 20) (n - 20)) rfl rfl 60 _ pk (by kernel_rfl) rfl (pkC_one ..) ?_
                    intro w4 f4 hb4 ho4 hs4
                    have pr : PR w (some ⟨b, o, none⟩) n c xs g1 g2 (List.replicate (n - 20) 0) w4 :=
                      ⟨hHeld.z.below hb4 n2, (by unfold PkAt; rw [HH.out]; exact f4), (ho4 _ ne).trans row, hHeld.rd.below hb4 (Nat.le_of_lt n2), hHeld.below.trans (hb4.mono (Nat.le_of_lt n2)), n1, n2, ne⟩
                    have hK4 : KR w (some ⟨b, o, none⟩) n c xs w4 := ⟨pr.z, pr.rd, pr.below⟩
                    clear hHeld hb4 f4 ho4 row pk
                    go_wp2
                    refine ⟨hK4, ?_⟩
                    refine wpAnyH_done (by kernel_rfl) ?_ _
                    clear hK4
                    go_wp2_with fail
                    go_meet
                    case rel => exact ⟨_, _, rfl, pr⟩
            · as_aux_lemma =>
                have hb2 := alloc_below W3 (.cells (pkC zeroH none 0 0) 60)
                have pk := PkAt.new W3 60 zeroH none 0 0
                have n2 := hHeld.z.lt
                replace hHeld := hHeld.step hb2
                go_wp2
                refine ⟨hHeld, ?_⟩
                change wpAnyH _ _ _ _ _ _ _ _ (W3.alloc (.cells (pkC zeroH none 0 0) 60))
                clear hb2
                generalize (W3.alloc (.cells (pkC zeroH none 0 0) 60)) = W4 at *
                generalize W3.heap.size = g2 at *
                refine wpAnyH_two (i := 19) (j := 24) (by kernel_rfl) rfl rfl ?_ ?_
                · as_aux_lemma =>
                    go_wp2_with (go_at_call 79; with_reducible refine (t4 _ hHeld.rd).mono ?_; rintro e w9 ⟨rfl, m9, rfl⟩)
                    replace hHeld := hHeld.step (Still.drewN _ m9).below
                    replace pk := pk.step (Still.drewN _ m9).below
                    refine ⟨hHeld, ?_⟩
                    generalize W4.drewN m9 = W5 at *
                    refine wpAnyH_one (i := 24) (by kernel_rfl) rfl ?_
                    refine wpList_mk (some 44) rfl rfl _ _ 22 rfl Tryd.underlying22 info5 (n - 20) _ _ rfl rfl rfl rfl (by omega) ?_
                    intro W6 row hs2 hb2
                    go_wp2
                    have n1 := hHeld.z.lt
                    replace hHeld := hHeld.step hb2
                    have ne := Nat.ne_of_gt pk.lt
                    replace pk := pk.step hb2
                    refine ⟨hHeld, ?_⟩
                    clear hs2 hb2
                    generalize W5.heap.size = g1 at *
                    try simp only [Act.put, List.setIfInBounds_toArray, List.set_cons_zero, List.set_cons_succ]
                    refine wpAnyH_at (i := 25) (some 45) (v := pkV ⟨x1, id, f == 16384, x8, x9, src, dst⟩ (some ⟨g1, 0, none⟩) (n - 20) (n - 20)) rfl rfl (by kernel_rfl) (by kernel_rfl) (by kernel_rfl) (fun _ _ _ h => h) (Or.inl ⟨by rfl, fun w9 _ => ?_⟩) (by assumption) ?_
                    · exact build28 _ _ w9 _ _ _ _ _ _ _ _ _ _ _ _ rfl rfl rfl rfl rfl rfl rfl rfl
                    simp only [Act.put, List.setIfInBounds_toArray, List.set_cons_zero, List.set_cons_succ]
                    refine wpAnyH_one (i := 27) (by kernel_rfl) rfl ?_
                    refine wpList_stF rfl rfl 60 _ _ rfl g2 (pkC ⟨x1, id, f == 16384, x8, x9, src, dst⟩ (some ⟨g1, 0, none⟩) (n - 20) (n - 20)) rfl rfl 60 _ pk (by kernel_rfl) rfl (pkC_one ..) ?_
                    intro w4 f4 hb4 ho4 hs4
                    have pr : PR w (some ⟨b, o, none⟩) n c xs g1 g2 (List.replicate (n - 20) 0) w4 :=
                      ⟨hHeld.z.below hb4 n2, (by unfold PkAt; rw [HH.out]; exact f4), (ho4 _ ne).trans row, hHeld.rd.below hb4 (Nat.le_of_lt n2), hHeld.below.trans (hb4.mono (Nat.le_of_lt n2)), n1, n2, ne⟩
                    have hK4 : KR w (some ⟨b, o, none⟩) n c xs w4 := ⟨pr.z, pr.rd, pr.below⟩
                    clear hHeld hb4 f4 ho4 row pk
                    go_wp2
                    refine ⟨hK4, ?_⟩
                    refine wpAnyH_done (by kernel_rfl) ?_ _
                    clear hK4
                    go_wp2_with fail
                    go_meet
                    case rel => exact ⟨_, _, rfl, pr⟩
                · as_aux_lemma =>
                    refine wpList_mk (some 44) rfl rfl _ _ 22 rfl Tryd.underlying22 info5 (n - 20) _ _ rfl rfl rfl rfl (by omega) ?_
                    intro W5 row hs2 hb2
                    go_wp2
                    have n1 := hHeld.z.lt
                    replace hHeld := hHeld.step hb2
                    have ne := Nat.ne_of_gt pk.lt
                    replace pk := pk.step hb2
                    refine ⟨hHeld, ?_⟩
                    clear hs2 hb2
                    generalize W4.heap.size = g1 at *
                    refine wpAnyH_one (i := 19) (by kernel_rfl) rfl ?_
                    go_wp2_with (go_at_call 79; with_reducible refine (t4 _ hHeld.rd).mono ?_; rintro e w9 ⟨rfl, m9, rfl⟩)
                    replace hHeld := hHeld.step (Still.drewN _ m9).below
                    replace row := row.below (Still.drewN _ m9).below row.lt
                    replace pk := pk.step (Still.drewN _ m9).below
                    refine ⟨hHeld, ?_⟩
                    generalize W5.drewN m9 = W6 at *
                    try simp only [Act.put, List.setIfInBounds_toArray, List.set_cons_zero, List.set_cons_succ]
                    refine wpAnyH_at (i := 25) (some 45) (v := pkV ⟨x1, id, f == 16384, x8, x9, src, dst⟩ (some ⟨g1, 0, none⟩) (n - 20) (n - 20)) rfl rfl (by kernel_rfl) (by kernel_rfl) (by kernel_rfl) (fun _ _ _ h => h) (Or.inl ⟨by rfl, fun w9 _ => ?_⟩) (by assumption) ?_
                    · exact build28 _ _ w9 _ _ _ _ _ _ _ _ _ _ _ _ rfl rfl rfl rfl rfl rfl rfl rfl
                    simp only [Act.put, List.setIfInBounds_toArray, List.set_cons_zero, List.set_cons_succ]
                    refine wpAnyH_one (i := 27) (by kernel_rfl) rfl ?_
                    refine wpList_stF rfl rfl 60 _ _ rfl g2 (pkC ⟨x1, id, f == 16384, x8, x9, src, dst⟩ (some ⟨g1, 0, none⟩) (n - 20) (n - 20)) rfl rfl 60 _ pk (by kernel_rfl) rfl (pkC_one ..) ?_
                    intro w4 f4 hb4 ho4 hs4
                    have pr : PR w (some ⟨b, o, none⟩) n c xs g1 g2 (List.replicate (n - 20) 0) w4 :=
                      ⟨hHeld.z.below hb4 n2, (by unfold PkAt; rw [HH.out]; exact f4), (ho4 _ ne).trans row, hHeld.rd.below hb4 (Nat.le_of_lt n2), hHeld.below.trans (hb4.mono (Nat.le_of_lt n2)), n1, n2, ne⟩
                    have hK4 : KR w (some ⟨b, o, none⟩) n c xs w4 := ⟨pr.z, pr.rd, pr.below⟩
                    clear hHeld hb4 f4 ho4 row pk
                    go_wp2
                    refine ⟨hK4, ?_⟩
                    refine wpAnyH_done (by kernel_rfl) ?_ _
                    clear hK4
                    go_wp2_with fail
                    go_meet
                    case rel => exact ⟨_, _, rfl, pr⟩
        · as_aux_lemma =>
            refine wpList_mk (some 44) rfl rfl _ _ 22 rfl Tryd.underlying22 info5 (n - 20) _ _ rfl rfl rfl rfl (by omega) ?_
            intro W3 row hs2 hb2
            go_wp2
            have n1 := hHeld.z.lt
            replace hHeld := hHeld.step hb2
            refine ⟨hHeld, ?_⟩
            clear hs2 hb2
            generalize W2.heap.size = g1 at *
            refine wpAnyH_two (i := 16) (j := 26) (by kernel_rfl) rfl rfl ?_ ?_
            · as_aux_lemma =>
                go_wp2_with (go_at_call 79; with_reducible refine (t3 _ hHeld.rd).mono ?_; rintro e w9 ⟨rfl, m9, rfl⟩)
                replace hHeld := hHeld.step (Still.drewN _ m9).below
                replace row := row.below (Still.drewN _ m9).below row.lt
                refine ⟨hHeld, ?_⟩
                generalize W3.drewN m9 = W4 at *
                refine wpAnyH_two (i := 19) (j := 26) (by kernel_rfl) rfl rfl ?_ ?_
                · as_aux_lemma =>
                    go_wp2_with (go_at_call 79; with_reducible refine (t4 _ hHeld.rd).mono ?_; rintro e w9 ⟨rfl, m9, rfl⟩)
                    replace hHeld := hHeld.step (Still.drewN _ m9).below
                    replace row := row.below (Still.drewN _ m9).below row.lt
                    refine ⟨hHeld, ?_⟩
                    generalize W4.drewN m9 = W5 at *
                    try simp only [Act.put, List.setIfInBounds_toArray, List.set_cons_zero, List.set_cons_succ]
                    refine wpAnyH_at (i := 25) (some 45) (v := pkV ⟨x1, id, f == 16384, x8, x9, src, dst⟩ (some ⟨g1, 0, none⟩) (n - 20) (n - 20)) rfl rfl (by kernel_rfl) (by kernel_rfl) (by kernel_rfl) (fun _ _ _ h => h) (Or.inl ⟨by rfl, fun w9 _ => ?_⟩) (by assumption) ?_
                    · exact build28 _ _ w9 _ _ _ _ _ _ _ _ _ _ _ _ rfl rfl rfl rfl rfl rfl rfl rfl
                    simp only [Act.put, List.setIfInBounds_toArray, List.set_cons_zero, List.set_cons_succ]
                    refine wpAnyH_one (i := 26) (by kernel_rfl) rfl ?_
                    have hb2 := alloc_below W5 (.cells (pkC zeroH none 0 0) 60)
                    have pk := PkAt.new W5 60 zeroH none 0 0
                    have n2 := hHeld.z.lt
                    replace hHeld := hHeld.step hb2
                    have ne := Nat.ne_of_lt row.lt
                    replace row := row.below hb2 row.lt
                    go_wp2
                    refine ⟨hHeld, ?_⟩
                    change wpAnyH _ _ _ _ _ _ _ _ (W5.alloc (.cells (pkC zeroH none 0 0) 60))
                    clear hb2
                    generalize (W5.alloc (.cells (pkC zeroH none 0 0) 60)) = W6 at *
                    generalize W5.heap.size = g2 at *
                    refine wpAnyH_one (i := 27) (by kernel_rfl) rfl ?_
                    refine wpList_stF rfl rfl 60 _ _ rfl g2 (pkC ⟨x1, id, f == 16384, x8, x9, src, dst⟩ (some ⟨g1, 0, none⟩) (n - 20) (n - 20)) rfl rfl 60 _ pk (by kernel_rfl) rfl (pkC_one ..) ?_
                    intro w4 f4 hb4 ho4 hs4
                    have pr : PR w (some ⟨b, o, none⟩) n c xs g1 g2 (List.replicate (n - 20) 0) w4 :=
                      ⟨hHeld.z.below hb4 n2, (by unfold PkAt; rw [HH.out]; exact f4), (ho4 _ ne).trans row, hHeld.rd.below hb4 (Nat.le_of_lt n2), hHeld.below.trans (hb4.mono (Nat.le_of_lt n2)), n1, n2, ne⟩
                    have hK4 : KR w (some ⟨b, o, none⟩) n c xs w4 := ⟨pr.z, pr.rd, pr.below⟩
                    clear hHeld hb4 f4 ho4 row pk
                    go_wp2
                    refine ⟨hK4, ?_⟩
                    refine wpAnyH_done (by kernel_rfl) ?_ _
                    clear hK4
                    go_wp2_with fail
                    go_meet
                    case rel => exact ⟨_, _, rfl, pr⟩
                · as_aux_lemma =>
                    have hb2 := alloc_below W4 (.cells (pkC zeroH none 0 0) 60)
                    have pk := PkAt.new W4 60 zeroH none 0 0
                    have n2 := hHeld.z.lt
                    replace hHeld := hHeld.step hb2
                    have ne := Nat.ne_of_lt row.lt
                    replace row := row.below hb2 row.lt
                    go_wp2
                    refine ⟨hHeld, ?_⟩
                    change wpAnyH _ _ _ _ _ _ _ _ (W4.alloc (.cells (pkC zeroH none 0 0) 60))
                    clear hb2
                    generalize (W4.alloc (.cells (pkC zeroH none 0 0) 60)) = W5 at *
                    generalize W4.heap.size = g2 at *
                    refine wpAnyH_one (i := 19) (by kernel_rfl) rfl ?_
                    go_wp2_with (go_at_call 79; with_reducible refine (t4 _ hHeld.rd).mono ?_; rintro e w9 ⟨rfl, m9, rfl⟩)
                    replace hHeld := hHeld.step (Still.drewN _ m9).below
                    replace row := row.below (Still.drewN _ m9).below row.lt
                    replace pk := pk.step (Still.drewN _ m9).below
                    refine ⟨hHeld, ?_⟩
                    generalize W5.drewN m9 = W6 at *
                    try simp only [Act.put, List.setIfInBounds_toArray, List.set_cons_zero, List.set_cons_succ]
                    refine wpAnyH_at (i := 25) (some 45) (v := pkV ⟨x1, id, f == 16384, x8, x9, src, dst⟩ (some ⟨g1, 0, none⟩) (n - 20) (n - 20)) rfl rfl (by kernel_rfl) (by kernel_rfl) (by kernel_rfl) (fun _ _ _ h => h) (Or.inl ⟨by rfl, fun w9 _ => ?_⟩) (by assumption) ?_
                    · exact build28 _ _ w9 _ _ _ _ _ _ _ _ _ _ _ _ rfl rfl rfl rfl rfl rfl rfl rfl
                    simp only [Act.put, List.setIfInBounds_toArray, List.set_cons_zero, List.set_cons_succ]
                    refine wpAnyH_one (i := 27) (by kernel_rfl) rfl ?_
                    refine wpList_stF rfl rfl 60 _ _ rfl g2 (pkC ⟨x1, id, f == 16384, x8, x9, src, dst⟩ (some ⟨g1, 0, none⟩) (n - 20) (n - 20)) rfl rfl 60 _ pk (by kernel_rfl) rfl (pkC_one ..) ?_
                    intro w4 f4 hb4 ho4 hs4
                    have pr : PR w (some ⟨b, o, none⟩) n c xs g1 g2 (List.replicate (n - 20) 0) w4 :=
                      ⟨hHeld.z.below hb4 n2, (by unfold PkAt; rw [HH.out]; exact f4), (ho4 _ ne).trans row, hHeld.rd.below hb4 (Nat.le_of_lt n2), hHeld.below.trans (hb4.mono (Nat.le_of_lt n2)), n1, n2, ne⟩
                    have hK4 : KR w (some ⟨b, o, none⟩) n c xs w4 := ⟨pr.z, pr.rd, pr.below⟩
                    clear hHeld hb4 f4 ho4 row pk
                    go_wp2
                    refine ⟨hK4, ?_⟩
                    refine wpAnyH_done (by kernel_rfl) ?_ _
                    clear hK4
                    go_wp2_with fail
                    go_meet
                    case rel => exact ⟨_, _, rfl, pr⟩
            · as_aux_lemma =>
                have hb2 := alloc_below W3 (.cells (pkC zeroH none 0 0) 60)
                have pk := PkAt.new W3 60 zeroH none 0 0
                have n2 := hHeld.z.lt
                replace hHeld := hHeld.step hb2
                have ne := Nat.ne_of_lt row.lt
                replace row := row.below hb2 row.lt
                go_wp2
                refine ⟨hHeld, ?_⟩
                change wpAnyH _ _ _ _ _ _ _ _ (W3.alloc (.cells (pkC zeroH none 0 0) 60))
                clear hb2
                generalize (W3.alloc (.cells (pkC zeroH none 0 0) 60)) = W4 at *
                generalize W3.heap.size = g2 at *
                refine wpAnyH_one (i := 16) (by kernel_rfl) rfl ?_
                go_wp2_with (go_at_call 79; with_reducible refine (t3 _ hHeld.rd).mono ?_; rintro e w9 ⟨rfl, m9, rfl⟩)
                replace hHeld := hHeld.step (Still.drewN _ m9).below
                replace row := row.below (Still.drewN _ m9).below row.lt
                replace pk := pk.step (Still.drewN _ m9).below
                refine ⟨hHeld, ?_⟩
                generalize W4.drewN m9 = W5 at *
                refine wpAnyH_one (i := 19) (by kernel_rfl) rfl ?_
                go_wp2_with (go_at_call 79; with_reducible refine (t4 _ hHeld.rd).mono ?_; rintro e w9 ⟨rfl, m9, rfl⟩)
                replace hHeld := hHeld.step (Still.drewN _ m9).below
                replace row := row.below (Still.drewN _ m9).below row.lt
                replace pk := pk.step (Still.drewN _ m9).below
                refine ⟨hHeld, ?_⟩
                generalize W5.drewN m9 = W6 at *
                try simp only [Act.put, List.setIfInBounds_toArray, List.set_cons_zero, List.set_cons_succ]
                refine wpAnyH_at (i := 25) (some 45) (v := pkV ⟨x1, id, f == 16384, x8, x9, src, dst⟩ (some ⟨g1, 0, none⟩) (n - 20) (n - 20)) rfl rfl (by kernel_rfl) (by kernel_rfl) (by kernel_rfl) (fun _ _ _ h => h) (Or.inl ⟨by rfl, fun w9 _ => ?_⟩) (by assumption) ?_
                · exact build28 _ _ w9 _ _ _ _ _ _ _ _ _ _ _ _ rfl rfl rfl rfl rfl rfl rfl rfl
                simp only [Act.put, List.setIfInBounds_toArray, List.set_cons_zero, List.set_cons_succ]
                refine wpAnyH_one (i := 27) (by kernel_rfl) rfl ?_
                refine wpList_stF rfl rfl 60 _ _ rfl g2 (pkC ⟨x1, id, f == 16384, x8, x9, src, dst⟩ (some ⟨g1, 0, none⟩) (n - 20) (n - 20)) rfl rfl 60 _ pk (by kernel_rfl) rfl (pkC_one ..) ?_
                intro w4 f4 hb4 ho4 hs4
                have pr : PR w (some ⟨b, o, none⟩) n c xs g1 g2 (List.replicate (n - 20) 0) w4 :=
                  ⟨hHeld.z.below hb4 n2, (by unfold PkAt; rw [HH.out]; exact f4), (ho4 _ ne).trans row, hHeld.rd.below hb4 (Nat.le_of_lt n2), hHeld.below.trans (hb4.mono (Nat.le_of_lt n2)), n1, n2, ne⟩
                have hK4 : KR w (some ⟨b, o, none⟩) n c xs w4 := ⟨pr.z, pr.rd, pr.below⟩
                clear hHeld hb4 f4 ho4 row pk
                go_wp2
                refine ⟨hK4, ?_⟩
                refine wpAnyH_done (by kernel_rfl) ?_ _
                clear hK4
                go_wp2_with fail
                go_meet
                case rel => exact ⟨_, _, rfl, pr⟩
        · as_aux_lemma =>
            have hb2 := alloc_below W2 (.cells (pkC zeroH none 0 0) 60)
            have pk := PkAt.new W2 60 zeroH none 0 0
            have n2 := hHeld.z.lt
            replace hHeld := hHeld.step hb2
            go_wp2
            refine ⟨hHeld, ?_⟩
            change wpAnyH _ _ _ _ _ _ _ _ (W2.alloc (.cells (pkC zeroH none 0 0) 60))
            clear hb2
            generalize (W2.alloc (.cells (pkC zeroH none 0 0) 60)) = W3 at *
            generalize W2.heap.size = g2 at *
            refine wpAnyH_two (i := 16) (j := 24) (by kernel_rfl) rfl rfl ?_ ?_
            · as_aux_lemma =>
                go_wp2_with (go_at_call 79; with_reducible refine (t3 _ hHeld.rd).mono ?_; rintro e w9 ⟨rfl, m9, rfl⟩)
                replace hHeld := hHeld.step (Still.drewN _ m9).below
                replace pk := pk.step (Still.drewN _ m9).below
                refine ⟨hHeld, ?_⟩
                generalize W3.drewN m9 = W4 at *
                refine wpAnyH_two (i := 19) (j := 24) (by kernel_rfl) rfl rfl ?_ ?_
                · as_aux_lemma =>
                    go_wp2_with (go_at_call 79; with_reducible refine (t4 _ hHeld.rd).mono ?_; rintro e w9 ⟨rfl, m9, rfl⟩)
                    replace hHeld := hHeld.step (Still.drewN _ m9).below
                    replace pk := pk.step (Still.drewN _ m9).below
                    refine ⟨hHeld, ?_⟩
                    generalize W4.drewN m9 = W5 at *
                    refine wpAnyH_one (i := 24) (by kernel_rfl) rfl ?_
                    refine wpList_mk (some 44) rfl rfl _ _ 22 rfl Tryd.underlying22 info5 (n - 20) _ _ rfl rfl rfl rfl (by omega) ?_
                    intro W6 row hs2 hb2
                    go_wp2
                    have n1 := hHeld.z.lt
                    replace hHeld := hHeld.step hb2
                    have ne := Nat.ne_of_gt pk.lt
                    replace pk := pk.step hb2
                    refine ⟨hHeld, ?_⟩
                    clear hs2 hb2
                    generalize W5.heap.size = g1 at *
                    try simp only [Act.put, List.setIfInBounds_toArray, List.set_cons_zero, List.set_cons_succ]
                    refine wpAnyH_at (i := 25) (some 45) (v := pkV ⟨x1, id, f == 16384, x8, x9, src, dst⟩ (some ⟨g1, 0, none⟩) (n - 20) (n - 20)) rfl rfl (by kernel_rfl) (by kernel_rfl) (by kernel_rfl) (fun _ _ _ h => h) (Or.inl ⟨by rfl, fun w9 _ => ?_⟩) (by assumption) ?_
                    · exact build28 _ _ w9 _ _ _ _ _ _ _ _ _ _ _ _ rfl rfl rfl rfl rfl rfl rfl rfl
                    simp only [Act.put, List.setIfInBounds_toArray, List.set_cons_zero, List.set_cons_succ]
                    refine wpAnyH_one (i := 27) (by kernel_rfl) rfl ?_
                    refine wpList_stF rfl rfl 60 _ _ rfl g2 (pkC ⟨x1, id, f == 16384, x8, x9, src, dst⟩ (some ⟨g1, 0, none⟩) (n - 20) (n - 20)) rfl rfl 60 _ pk (by kernel_rfl) rfl (pkC_one ..) ?_
                    intro w4 f4 hb4 ho4 hs4
                    have pr : PR w (some ⟨b, o, none⟩) n c xs g1 g2 (List.replicate (n - 20) 0) w4 :=
                      ⟨hHeld.z.below hb4 n2, (by unfold PkAt; rw [HH.out]; exact f4), (ho4 _ ne).trans row, hHeld.rd.below hb4 (Nat.le_of_lt n2), hHeld.below.trans (hb4.mono (Nat.le_of_lt n2)), n1, n2, ne⟩
                    have hK4 : KR w (some ⟨b, o, none⟩) n c xs w4 := ⟨pr.z, pr.rd, pr.below⟩
                    clear hHeld hb4 f4 ho4 row pk
                    go_wp2
                    refine ⟨hK4, ?_⟩
                    refine wpAnyH_done (by kernel_rfl) ?_ _
                    clear hK4
                    go_wp2_with fail
                    go_meet
                    case rel => exact ⟨_, _, rfl, pr⟩
                · as_aux_lemma =>
                    refine wpList_mk (some 44) rfl rfl _ _ 22 rfl Tryd.underlying22 info5 (n - 20) _ _ rfl rfl rfl rfl (by omega) ?_
                    intro W5 row hs2 hb2
                    go_wp2
                    have n1 := hHeld.z.lt
                    replace hHeld := hHeld.step hb2
                    have ne := Nat.ne_of_gt pk.lt
                    replace pk := pk.step hb2
                    refine ⟨hHeld, ?_⟩
                    clear hs2 hb2
                    generalize W4.heap.size = g1 at *
                    refine wpAnyH_one (i := 19) (by kernel_rfl) rfl ?_
                    go_wp2_with (go_at_call 79; with_reducible refine (t4 _ hHeld.rd).mono ?_; rintro e w9 ⟨rfl, m9, rfl⟩)
                    replace hHeld := hHeld.step (Still.drewN _ m9).below
                    replace row := row.below (Still.drewN _ m9).below row.lt
                    replace pk := pk.step (Still.drewN _ m9).below
                    refine ⟨hHeld, ?_⟩
                    generalize W5.drewN m9 = W6 at *
                    try simp only [Act.put, List.setIfInBounds_toArray, List.set_cons_zero, List.set_cons_succ]
                    refine wpAnyH_at (i := 25) (some 45) (v := pkV ⟨x1, id, f == 16384, x8, x9, src, dst⟩ (some ⟨g1, 0, none⟩) (n - 20) (n - 20)) rfl rfl (by kernel_rfl) (by kernel_rfl) (by kernel_rfl) (fun _ _ _ h => h) (Or.inl ⟨by rfl, fun w9 _ => ?_⟩) (by assumption) ?_
                    · exact build28 _ _ w9 _ _ _ _ _ _ _ _ _ _ _ _ rfl rfl rfl rfl rfl rfl rfl rfl
                    simp only [Act.put, List.setIfInBounds_toArray, List.set_cons_zero, List.set_cons_succ]
                    refine wpAnyH_one (i := 27) (by kernel_rfl) rfl ?_
                    refine wpList_stF rfl rfl 60 _ _ rfl g2 (pkC ⟨x1, id, f == 16384, x8, x9, src, dst⟩ (some ⟨g1, 0, none⟩) (n - 20) (n - 20)) rfl rfl 60 _ pk (by kernel_rfl) rfl (pkC_one ..) ?_
                    intro w4 f4 hb4 ho4 hs4
                    have pr : PR w (some ⟨b, o, none⟩) n c xs g1 g2 (List.replicate (n - 20) 0) w4 :=
                      ⟨hHeld.z.below hb4 n2, (by unfold PkAt; rw [HH.out]; exact f4), (ho4 _ ne).trans row, hHeld.rd.below hb4 (Nat.le_of_lt n2), hHeld.below.trans (hb4.mono (Nat.le_of_lt n2)), n1, n2, ne⟩
                    have hK4 : KR w (some ⟨b, o, none⟩) n c xs w4 := ⟨pr.z, pr.rd, pr.below⟩
                    clear hHeld hb4 f4 ho4 row pk
                    go_wp2
                    refine ⟨hK4, ?_⟩
                    refine wpAnyH_done (by kernel_rfl) ?_ _
                    clear hK4
                    go_wp2_with fail
                    go_meet
                    case rel => exact ⟨_, _, rfl, pr⟩
            · as_aux_lemma =>
                refine wpList_mk (some 44) rfl rfl _ _ 22 rfl Tryd.underlying22 info5 (n - 20) _ _ rfl rfl rfl rfl (by omega) ?_
                intro W4 row hs2 hb2
                go_wp2
                have n1 := hHeld.z.lt
                replace hHeld := hHeld.step hb2
                have ne := Nat.ne_of_gt pk.lt
                replace pk := pk.step hb2
                refine ⟨hHeld, ?_⟩
                clear hs2 hb2
                generalize W3.heap.size = g1 at *
                refine wpAnyH_one (i := 16) (by kernel_rfl) rfl ?_
                go_wp2_with (go_at_call 79; with_reducible refine (t3 _ hHeld.rd).mono ?_; rintro e w9 ⟨rfl, m9, rfl⟩)
                replace hHeld := hHeld.step (Still.drewN _ m9).below
                replace row := row.below (Still.drewN _ m9).below row.lt
                replace pk := pk.step (Still.drewN _ m9).below
                refine ⟨hHeld, ?_⟩
                generalize W4.drewN m9 = W5 at *
                refine wpAnyH_one (i := 19) (by kernel_rfl) rfl ?_
                go_wp2_with (go_at_call 79; with_reducible refine (t4 _ hHeld.rd).mono ?_; rintro e w9 ⟨rfl, m9, rfl⟩)
                replace hHeld := hHeld.step (Still.drewN _ m9).below
                replace row := row.below (Still.drewN _ m9).below row.lt
                replace pk := pk.step (Still.drewN _ m9).below
                refine ⟨hHeld, ?_⟩
                generalize W5.drewN m9 = W6 at *
                try simp only [Act.put, List.setIfInBounds_toArray, List.set_cons_zero, List.set_cons_succ]
                refine wpAnyH_at (i := 25) (some 45) (v := pkV ⟨x1, id, f == 16384, x8, x9, src, dst⟩ (some ⟨g1, 0, none⟩) (n - 20) (n - 20)) rfl rfl (by kernel_rfl) (by kernel_rfl) (by kernel_rfl) (fun _ _ _ h => h) (Or.inl ⟨by rfl, fun w9 _ => ?_⟩) (by assumption) ?_
                · exact build28 _ _ w9 _ _ _ _ _ _ _ _ _ _ _ _ rfl rfl rfl rfl rfl rfl rfl rfl
                simp only [Act.put, List.setIfInBounds_toArray, List.set_cons_zero, List.set_cons_succ]
                refine wpAnyH_one (i := 27) (by kernel_rfl) rfl ?_
                refine wpList_stF rfl rfl 60 _ _ rfl g2 (pkC ⟨x1, id, f == 16384, x8, x9, src, dst⟩ (some ⟨g1, 0, none⟩) (n - 20) (n - 20)) rfl rfl 60 _ pk (by kernel_rfl) rfl (pkC_one ..) ?_
                intro w4 f4 hb4 ho4 hs4
                have pr : PR w (some ⟨b, o, none⟩) n c xs g1 g2 (List.replicate (n - 20) 0) w4 :=
                  ⟨hHeld.z.below hb4 n2, (by unfold PkAt; rw [HH.out]; exact f4), (ho4 _ ne).trans row, hHeld.rd.below hb4 (Nat.le_of_lt n2), hHeld.below.trans (hb4.mono (Nat.le_of_lt n2)), n1, n2, ne⟩
                have hK4 : KR w (some ⟨b, o, none⟩) n c xs w4 := ⟨pr.z, pr.rd, pr.below⟩
                clear hHeld hb4 f4 ho4 row pk
                go_wp2
                refine ⟨hK4, ?_⟩
                refine wpAnyH_done (by kernel_rfl) ?_ _
                clear hK4
                go_wp2_with fail
                go_meet
                case rel => exact ⟨_, _, rfl, pr⟩
    · as_aux_lemma =>
        refine wpList_mk (some 44) rfl rfl _ _ 22 rfl Tryd.underlying22 info5 (n - 20) _ _ rfl rfl rfl rfl (by omega) ?_
        intro W2 row hs2 hb2
        go_wp2
        have n1 := hHeld.z.lt
        replace hHeld := hHeld.step hb2
        refine ⟨hHeld, ?_⟩
        clear hs2 hb2
        generalize W1.heap.size = g1 at *
        refine wpAnyH_two (i := 5) (j := 26) (by kernel_rfl) rfl rfl ?_ ?_
        · as_aux_lemma =>
            go_wp2_with (go_at_call 78; with_reducible refine (t2 _ hHeld.rd).mono ?_; rintro e w9 ⟨rfl, m9, rfl⟩)
            replace hHeld := hHeld.step (Still.drewN _ m9).below
            replace row := row.below (Still.drewN _ m9).below row.lt
            refine ⟨hHeld, ?_⟩
            generalize W2.drewN m9 = W3 at *
            refine wpAnyH_two (i := 16) (j := 26) (by kernel_rfl) rfl rfl ?_ ?_
            · as_aux_lemma =>
                go_wp2_with (go_at_call 79; with_reducible refine (t3 _ hHeld.rd).mono ?_; rintro e w9 ⟨rfl, m9, rfl⟩)
                replace hHeld := hHeld.step (Still.drewN _ m9).below
                replace row := row.below (Still.drewN _ m9).below row.lt
                refine ⟨hHeld, ?_⟩
                generalize W3.drewN m9 = W4 at *
                refine wpAnyH_two (i := 19) (j := 26) (by kernel_rfl) rfl rfl ?_ ?_
                · as_aux_lemma =>
                    go_wp2_with (go_at_call 79; with_reducible refine (t4 _ hHeld.rd).mono ?_; rintro e w9 ⟨rfl, m9, rfl⟩)
                    replace hHeld := hHeld.step (Still.drewN _ m9).below
                    replace row := row.below (Still.drewN _ m9).below row.lt
                    refine ⟨hHeld, ?_⟩
                    generalize W4.drewN m9 = W5 at *
                    try simp only [Act.put, List.setIfInBounds_toArray, List.set_cons_zero, List.set_cons_succ]
                    refine wpAnyH_at (i := 25) (some 45) (v := pkV ⟨x1, id, f == 16384, x8, x9, src, dst⟩ (some ⟨g1, 0, none⟩) (n - 20) (n - 20)) rfl rfl (by kernel_rfl) (by kernel_rfl) (by kernel_rfl) (fun _ _ _ h => h) (Or.inl ⟨by rfl, fun w9 _ => ?_⟩) (by assumption) ?_
                    · exact build28 _ _ w9 _ _ _ _ _ _ _ _ _ _ _ _ rfl rfl rfl rfl rfl rfl rfl rfl
                    simp only [Act.put, List.setIfInBounds_toArray, List.set_cons_zero, List.set_cons_succ]
                    refine wpAnyH_one (i := 26) (by kernel_rfl) rfl ?_
                    have hb2 := alloc_below W5 (.cells (pkC zeroH none 0 0) 60)
                    have pk := PkAt.new W5 60 zeroH none 0 0
                    have n2 := hHeld.z.lt
                    replace hHeld := hHeld.step hb2
                    have ne := Nat.ne_of_lt row.lt
                    replace row := row.below hb2 row.lt
                    go_wp2
                    refine ⟨hHeld, ?_⟩
                    change wpAnyH _ _ _ _ _ _ _ _ (W5.alloc (.cells (pkC zeroH none 0 0) 60))
                    clear hb2
                    generalize (W5.alloc (.cells (pkC zeroH none 0 0) 60)) = W6 at *
                    generalize W5.heap.size = g2 at *
                    refine wpAnyH_one (i := 27) (by kernel_rfl) rfl ?_
                    refine wpList_stF rfl rfl 60 _ _ rfl g2 (pkC ⟨x1, id, f == 16384, x8, x9, src, dst⟩ (some ⟨g1, 0, none⟩) (n - 20) (n - 20)) rfl rfl 60 _ pk (by kernel_rfl) rfl (pkC_one ..) ?_
                    intro w4 f4 hb4 ho4 hs4
                    have pr : PR w (some ⟨b, o, none⟩) n c xs g1 g2 (List.replicate (n - 20) 0) w4 :=
                      ⟨hHeld.z.below hb4 n2, (by unfold PkAt; rw [HH.out]; exact f4), (ho4 _ ne).trans row, hHeld.rd.below hb4 (Nat.le_of_lt n2), hHeld.below.trans (hb4.mono (Nat.le_of_lt n2)), n1, n2, ne⟩
                    have hK4 : KR w (some ⟨b, o, none⟩) n c xs w4 := ⟨pr.z, pr.rd, pr.below⟩
                    clear hHeld hb4 f4 ho4 row pk
                    go_wp2
                    refine ⟨hK4, ?_⟩
                    refine wpAnyH_done (by kernel_rfl) ?_ _
                    clear hK4
                    go_wp2_with fail
                    go_meet
                    case rel => exact ⟨_, _, rfl, pr⟩
                · as_aux_lemma =>
                    have hb2 := alloc_below W4 (.cells (pkC zeroH none 0 0) 60)
                    have pk := PkAt.new W4 60 zeroH none 0 0
                    have n2 := hHeld.z.lt
                    replace hHeld := hHeld.step hb2
                    have ne := Nat.ne_of_lt row.lt
                    replace row := row.below hb2 row.lt
                    go_wp2
                    refine ⟨hHeld, ?_⟩
                    change wpAnyH _ _ _ _ _ _ _ _ (W4.alloc (.cells (pkC zeroH none 0 0) 60))
                    clear hb2
                    generalize (W4.alloc (.cells (pkC zeroH none 0 0) 60)) = W5 at *
                    generalize W4.heap.size = g2 at *
                    refine wpAnyH_one (i := 19) (by kernel_rfl) rfl ?_
                    go_wp2_with (go_at_call 79; with_reducible refine (t4 _ hHeld.rd).mono ?_; rintro e w9 ⟨rfl, m9, rfl⟩)
                    replace hHeld := hHeld.step (Still.drewN _ m9).below
                    replace row := row.below (Still.drewN _ m9).below row.lt
                    replace pk := pk.step (Still.drewN _ m9).below
                    refine ⟨hHeld, ?_⟩
                    generalize W5.drewN m9 = W6 at *
                    try simp only [Act.put, List.setIfInBounds_toArray, List.set_cons_zero, List.set_cons_succ]
                    refine wpAnyH_at (i := 25) (some 45) (v := pkV ⟨x1, id, f == 16384, x8, x9, src, dst⟩ (some ⟨g1, 0, none⟩) (n - 20) (n - 20)) rfl rfl (by kernel_rfl) (by kernel_rfl) (by kernel_rfl) (fun _ _ _ h => h) (Or.inl ⟨by rfl, fun w9 _ => ?_⟩) (by assumption) ?_
                    · exact build28 _ _ w9 _ _ _ _ _ _ _ _ _ _ _ _ rfl rfl rfl rfl rfl rfl rfl rfl
                    simp only [Act.put, List.setIfInBounds_toArray, List.set_cons_zero, List.set_cons_succ]
                    refine wpAnyH_one (i := 27) (by kernel_rfl) rfl ?_
                    refine wpList_stF rfl rfl 60 _ _ rfl g2 (pkC ⟨x1, id, f == 16384, x8, x9, src, dst⟩ (some ⟨g1, 0, none⟩) (n - 20) (n - 20)) rfl rfl 60 _ pk (by kernel_rfl) rfl (pkC_one ..) ?_
                    intro w4 f4 hb4 ho4 hs4
                    have pr : PR w (some ⟨b, o, none⟩) n c xs g1 g2 (List.replicate (n - 20) 0) w4 :=
                      ⟨hHeld.z.below hb4 n2, (by unfold PkAt; rw [HH.out]; exact f4), (ho4 _ ne).trans row, hHeld.rd.below hb4 (Nat.le_of_lt n2), hHeld.below.trans (hb4.mono (Nat.le_of_lt n2)), n1, n2, ne⟩
                    have hK4 : KR w (some ⟨b, o, none⟩) n c xs w4 := ⟨pr.z, pr.rd, pr.below⟩
                    clear hHeld hb4 f4 ho4 row pk
                    go_wp2
                    refine ⟨hK4, ?_⟩
                    refine wpAnyH_done (by kernel_rfl) ?_ _
                    clear hK4
                    go_wp2_with fail
                    go_meet
                    case rel => exact ⟨_, _, rfl, pr⟩
            · as_aux_lemma =>
                have hb2 := alloc_below W3 (.cells (pkC zeroH none 0 0) 60)
                have pk := PkAt.new W3 60 zeroH none 0 0
                have n2 := hHeld.z.lt
                replace hHeld := hHeld.step hb2
                have ne := Nat.ne_of_lt row.lt
                replace row := row.below hb2 row.lt
                go_wp2
                refine ⟨hHeld, ?_⟩
                change wpAnyH _ _ _ _ _ _ _ _ (W3.alloc (.cells (pkC zeroH none 0 0) 60))
                clear hb2
                generalize (W3.alloc (.cells (pkC zeroH none 0 0) 60)) = W4 at *
                generalize W3.heap.size = g2 at *
                refine wpAnyH_one (i := 16) (by kernel_rfl) rfl ?_
                go_wp2_with (go_at_call 79; with_reducible refine (t3 _ hHeld.rd).mono ?_; rintro e w9 ⟨rfl, m9, rfl⟩)
                replace hHeld := hHeld.step (Still.drewN _ m9).below
                replace row := row.below (Still.drewN _ m9).below row.lt
                replace pk := pk.step (Still.drewN _ m9).below
                refine ⟨hHeld, ?_⟩
                generalize W4.drewN m9 = W5 at *
                refine wpAnyH_one (i := 19) (by kernel_rfl) rfl ?_
                go_wp2_with (go_at_call 79; with_reducible refine (t4 _ hHeld.rd).mono ?_; rintro e w9 ⟨rfl, m9, rfl⟩)
                replace hHeld := hHeld.step (Still.drewN _ m9).below
                replace row := row.below (Still.drewN _ m9).below row.lt
                replace pk := pk.step (Still.drewN _ m9).below
                refine ⟨hHeld, ?_⟩
                generalize W5.drewN m9 = W6 at *
                try simp only [Act.put, List.setIfInBounds_toArray, List.set_cons_zero, List.set_cons_succ]
                refine wpAnyH_at (i := 25) (some 45) (v := pkV ⟨x1, id, f == 16384, x8, x9, src, dst⟩ (some ⟨g1, 0, none⟩) (n - 20) (n - 20)) rfl rfl (by kernel_rfl) (by kernel_rfl) (by kernel_rfl) (fun _ _ _ h => h) (Or.inl ⟨by rfl, fun w9 _ => ?_⟩) (by assumption) ?_
                · exact build28 _ _ w9 _ _ _ _ _ _ _ _ _ _ _ _ rfl rfl rfl rfl rfl rfl rfl rfl
                simp only [Act.put, List.setIfInBounds_toArray, List.set_cons_zero, List.set_cons_succ]
                refine wpAnyH_one (i := 27) (by kernel_rfl) rfl ?_
                refine wpList_stF rfl rfl 60 _ _ rfl g2 (pkC ⟨x1, id, f == 16384, x8, x9, src, dst⟩ (some ⟨g1, 0, none⟩) (n - 20) (n - 20)) rfl rfl 60 _ pk (by kernel_rfl) rfl (pkC_one ..) ?_
                intro w4 f4 hb4 ho4 hs4
                have pr : PR w (some ⟨b, o, none⟩) n c xs g1 g2 (List.replicate (n - 20) 0) w4 :=
                  ⟨hHeld.z.below hb4 n2, (by unfold PkAt; rw [HH.out]; exact f4), (ho4 _ ne).trans row, hHeld.rd.below hb4 (Nat.le_of_lt n2), hHeld.below.trans (hb4.mono (Nat.le_of_lt n2)), n1, n2, ne⟩
                have hK4 : KR w (some ⟨b, o, none⟩) n c xs w4 := ⟨pr.z, pr.rd, pr.below⟩
                clear hHeld hb4 f4 ho4 row pk
                go_wp2
                refine ⟨hK4, ?_⟩
                refine wpAnyH_done (by kernel_rfl) ?_ _
                clear hK4
                go_wp2_with fail
                go_meet
                case rel => exact ⟨_, _, rfl, pr⟩
        · as_aux_lemma =>
            have hb2 := alloc_below W2 (.cells (pkC zeroH none 0 0) 60)
            have pk := PkAt.new W2 60 zeroH none 0 0
            have n2 := hHeld.z.lt
            replace hHeld := hHeld.step hb2
            have ne := Nat.ne_of_lt row.lt
            replace row := row.below hb2 row.lt
            go_wp2
            refine ⟨hHeld, ?_⟩
            change wpAnyH _ _ _ _ _ _ _ _ (W2.alloc (.cells (pkC zeroH none 0 0) 60))
            clear hb2
            generalize (W2.alloc (.cells (pkC zeroH none 0 0) 60)) = W3 at *
            generalize W2.heap.size = g2 at *
            refine wpAnyH_one (i := 5) (by kernel_rfl) rfl ?_
            go_wp2_with (go_at_call 78; with_reducible refine (t2 _ hHeld.rd).mono ?_; rintro e w9 ⟨rfl, m9, rfl⟩)
            replace hHeld := hHeld.step (Still.drewN _ m9).below
            replace row := row.below (Still.drewN _ m9).below row.lt
            replace pk := pk.step (Still.drewN _ m9).below
            refine ⟨hHeld, ?_⟩
            generalize W3.drewN m9 = W4 at *
            refine wpAnyH_one (i := 16) (by kernel_rfl) rfl ?_
            go_wp2_with (go_at_call 79; with_reducible refine (t3 _ hHeld.rd).mono ?_; rintro e w9 ⟨rfl, m9, rfl⟩)
            replace hHeld := hHeld.step (Still.drewN _ m9).below
            replace row := row.below (Still.drewN _ m9).below row.lt
            replace pk := pk.step (Still.drewN _ m9).below
            refine ⟨hHeld, ?_⟩
            generalize W4.drewN m9 = W5 at *
            refine wpAnyH_one (i := 19) (by kernel_rfl) rfl ?_
            go_wp2_with (go_at_call 79; with_reducible refine (t4 _ hHeld.rd).mono ?_; rintro e w9 ⟨rfl, m9, rfl⟩)
            replace hHeld := hHeld.step (Still.drewN _ m9).below
            replace row := row.below (Still.drewN _ m9).below row.lt
            replace pk := pk.step (Still.drewN _ m9).below
            refine ⟨hHeld, ?_⟩
            generalize W5.drewN m9 = W6 at *
            try simp only [Act.put, List.setIfInBounds_toArray, List.set_cons_zero, List.set_cons_succ]
            refine wpAnyH_at (i := 25) (some 45) (v := pkV ⟨x1, id, f == 16384, x8, x9, src, dst⟩ (some ⟨g1, 0, none⟩) (n - 20) (n - 20)) rfl rfl (by kernel_rfl) (by kernel_rfl) (by kernel_rfl) (fun _ _ _ h => h) (Or.inl ⟨by rfl, fun w9 _ => ?_⟩) (by assumption) ?_
            · exact build28 _ _ w9 _ _ _ _ _ _ _ _ _ _ _ _ rfl rfl rfl rfl rfl rfl rfl rfl
            simp only [Act.put, List.setIfInBounds_toArray, List.set_cons_zero, List.set_cons_succ]
            refine wpAnyH_one (i := 27) (by kernel_rfl) rfl ?_
            refine wpList_stF rfl rfl 60 _ _ rfl g2 (pkC ⟨x1, id, f == 16384, x8, x9, src, dst⟩ (some ⟨g1, 0, none⟩) (n - 20) (n - 20)) rfl rfl 60 _ pk (by kernel_rfl) rfl (pkC_one ..) ?_
            intro w4 f4 hb4 ho4 hs4
            have pr : PR w (some ⟨b, o, none⟩) n c xs g1 g2 (List.replicate (n - 20) 0) w4 :=
              ⟨hHeld.z.below hb4 n2, (by unfold PkAt; rw [HH.out]; exact f4), (ho4 _ ne).trans row, hHeld.rd.below hb4 (Nat.le_of_lt n2), hHeld.below.trans (hb4.mono (Nat.le_of_lt n2)), n1, n2, ne⟩
            have hK4 : KR w (some ⟨b, o, none⟩) n c xs w4 := ⟨pr.z, pr.rd, pr.below⟩
            clear hHeld hb4 f4 ho4 row pk
            go_wp2
            refine ⟨hK4, ?_⟩
            refine wpAnyH_done (by kernel_rfl) ?_ _
            clear hK4
            go_wp2_with fail
            go_meet
            case rel => exact ⟨_, _, rfl, pr⟩
    · as_aux_lemma =>
        have hb2 := alloc_below W1 (.cells (pkC zeroH none 0 0) 60)
        have pk := PkAt.new W1 60 zeroH none 0 0
        have n2 := hHeld.z.lt
        replace hHeld := hHeld.step hb2
        go_wp2
        refine ⟨hHeld, ?_⟩
        change wpAnyH _ _ _ _ _ _ _ _ (W1.alloc (.cells (pkC zeroH none 0 0) 60))
        clear hb2
        generalize (W1.alloc (.cells (pkC zeroH none 0 0) 60)) = W2 at *
        generalize W1.heap.size = g2 at *
        refine wpAnyH_two (i := 5) (j := 24) (by kernel_rfl) rfl rfl ?_ ?_
        · as_aux_lemma =>
            go_wp2_with (go_at_call 78; with_reducible refine (t2 _ hHeld.rd).mono ?_; rintro e w9 ⟨rfl, m9, rfl⟩)
            replace hHeld := hHeld.step (Still.drewN _ m9).below
            replace pk := pk.step (Still.drewN _ m9).below
            refine ⟨hHeld, ?_⟩
            generalize W2.drewN m9 = W3 at *
            refine wpAnyH_two (i := 16) (j := 24) (by kernel_rfl) rfl rfl ?_ ?_
            · as_aux_lemma =>
                go_wp2_with (go_at_call 79; with_reducible refine (t3 _ hHeld.rd).mono ?_; rintro e w9 ⟨rfl, m9, rfl⟩)
                replace hHeld := hHeld.step (Still.drewN _ m9).below
                replace pk := pk.step (Still.drewN _ m9).below
                refine ⟨hHeld, ?_⟩
                generalize W3.drewN m9 = W4 at *
                refine wpAnyH_two (i := 19) (j := 24) (by kernel_rfl) rfl rfl ?_ ?_
                · as_aux_lemma =>
                    go_wp2_with (go_at_call 79; with_reducible refine (t4 _ hHeld.rd).mono ?_; rintro e w9 ⟨rfl, m9, rfl⟩)
                    replace hHeld := hHeld.step (Still.drewN _ m9).below
                    replace pk := pk.step (Still.drewN _ m9).below
                    refine ⟨hHeld, ?_⟩
                    generalize W4.drewN m9 = W5 at *
                    refine wpAnyH_one (i := 24) (by kernel_rfl) rfl ?_
                    refine wpList_mk (some 44) rfl rfl _ _ 22 rfl Tryd.underlying22 info5 (n - 20) _ _ rfl rfl rfl rfl (by omega) ?_
                    intro W6 row hs2 hb2
                    go_wp2
                    have n1 := hHeld.z.lt
                    replace hHeld := hHeld.step hb2
                    have ne := Nat.ne_of_gt pk.lt
                    replace pk := pk.step hb2
                    refine ⟨hHeld, ?_⟩
                    clear hs2 hb2
                    generalize W5.heap.size = g1 at *
                    try simp only [Act.put, List.setIfInBounds_toArray, List.set_cons_zero, List.set_cons_succ]
                    refine wpAnyH_at (i := 25) (some 45) (v := pkV ⟨x1, id, f == 16384, x8, x9, src, dst⟩ (some ⟨g1, 0, none⟩) (n - 20) (n - 20)) rfl rfl (by kernel_rfl) (by kernel_rfl) (by kernel_rfl) (fun _ _ _ h => h) (Or.inl ⟨by rfl, fun w9 _ => ?_⟩) (by assumption) ?_
                    · exact build28 _ _ w9 _ _ _ _ _ _ _ _ _ _ _ _ rfl rfl rfl rfl rfl rfl rfl rfl
                    simp only [Act.put, List.setIfInBounds_toArray, List.set_cons_zero, List.set_cons_succ]
                    refine wpAnyH_one (i := 27) (by kernel_rfl) rfl ?_
                    refine wpList_stF rfl rfl 60 _ _ rfl g2 (pkC ⟨x1, id, f == 16384, x8, x9, src, dst⟩ (some ⟨g1, 0, none⟩) (n - 20) (n - 20)) rfl rfl 60 _ pk (by kernel_rfl) rfl (pkC_one ..) ?_
                    intro w4 f4 hb4 ho4 hs4
                    have pr : PR w (some ⟨b, o, none⟩) n c xs g1 g2 (List.replicate (n - 20) 0) w4 :=
                      ⟨hHeld.z.below hb4 n2, (by unfold PkAt; rw [HH.out]; exact f4), (ho4 _ ne).trans row, hHeld.rd.below hb4 (Nat.le_of_lt n2), hHeld.below.trans (hb4.mono (Nat.le_of_lt n2)), n1, n2, ne⟩
                    have hK4 : KR w (some ⟨b, o, none⟩) n c xs w4 := ⟨pr.z, pr.rd, pr.below⟩
                    clear hHeld hb4 f4 ho4 row pk
                    go_wp2
                    refine ⟨hK4, ?_⟩
                    refine wpAnyH_done (by kernel_rfl) ?_ _
                    clear hK4
                    go_wp2_with fail
                    go_meet
                    case rel => exact ⟨_, _, rfl, pr⟩
                · as_aux_lemma =>
                    refine wpList_mk (some 44) rfl rfl _ _ 22 rfl Tryd.underlying22 info5 (n - 20) _ _ rfl rfl rfl rfl (by omega) ?_
                    intro W5 row hs2 hb2
                    go_wp2
                    have n1 := hHeld.z.lt
                    replace hHeld := hHeld.step hb2
                    have ne := Nat.ne_of_gt pk.lt
                    replace pk := pk.step hb2
                    refine ⟨hHeld, ?_⟩
                    clear hs2 hb2
                    generalize W4.heap.size = g1 at *
                    refine wpAnyH_one (i := 19) (by kernel_rfl) rfl ?_
                    go_wp2_with (go_at_call 79; with_reducible refine (t4 _ hHeld.rd).mono ?_; rintro e w9 ⟨rfl, m9, rfl⟩)
                    replace hHeld := hHeld.step (Still.drewN _ m9).below
                    replace row := row.below (Still.drewN _ m9).below row.lt
                    replace pk := pk.step (Still.drewN _ m9).below
                    refine ⟨hHeld, ?_⟩
                    generalize W5.drewN m9 = W6 at *
                    try simp only [Act.put, List.setIfInBounds_toArray, List.set_cons_zero, List.set_cons_succ]
                    refine wpAnyH_at (i := 25) (some 45) (v := pkV ⟨x1, id, f == 16384, x8, x9, src, dst⟩ (some ⟨g1, 0, none⟩) (n - 20) (n - 20)) rfl rfl (by kernel_rfl) (by kernel_rfl) (by kernel_rfl) (fun _ _ _ h => h) (Or.inl ⟨by rfl, fun w9 _ => ?_⟩) (by assumption) ?_
                    · exact build28 _ _ w9 _ _ _ _ _ _ _ _ _ _ _ _ rfl rfl rfl rfl rfl rfl rfl rfl
                    simp only [Act.put, List.setIfInBounds_toArray, List.set_cons_zero, List.set_cons_succ]
                    refine wpAnyH_one (i := 27) (by kernel_rfl) rfl ?_
                    refine wpList_stF rfl rfl 60 _ _ rfl g2 (pkC ⟨x1, id, f == 16384, x8, x9, src, dst⟩ (some ⟨g1, 0, none⟩) (n - 20) (n - 20)) rfl rfl 60 _ pk (by kernel_rfl) rfl (pkC_one ..) ?_
                    intro w4 f4 hb4 ho4 hs4
                    have pr : PR w (some ⟨b, o, none⟩) n c xs g1 g2 (List.replicate (n - 20) 0) w4 :=
                      ⟨hHeld.z.below hb4 n2, (by unfold PkAt; rw [HH.out]; exact f4), (ho4 _ ne).trans row, hHeld.rd.below hb4 (Nat.le_of_lt n2), hHeld.below.trans (hb4.mono (Nat.le_of_lt n2)), n1, n2, ne⟩
                    have hK4 : KR w (some ⟨b, o, none⟩) n c xs w4 := ⟨pr.z, pr.rd, pr.below⟩
                    clear hHeld hb4 f4 ho4 row pk
                    go_wp2
                    refine ⟨hK4, ?_⟩
                    refine wpAnyH_done (by kernel_rfl) ?_ _
                    clear hK4
                    go_wp2_with fail
                    go_meet
                    case rel => exact ⟨_, _, rfl, pr⟩
            · as_aux_lemma =>
                refine wpList_mk (some 44) rfl rfl _ _ 22 rfl Tryd.underlying22 info5 (n - 20) _ _ rfl rfl rfl rfl (by omega) ?_
                intro W4 row hs2 hb2
                go_wp2
                have n1 := hHeld.z.lt
                replace hHeld := hHeld.step hb2
                have ne := Nat.ne_of_gt pk.lt
                replace pk := pk.step hb2
                refine ⟨hHeld, ?_⟩
                clear hs2 hb2
                generalize W3.heap.size = g1 at *
                refine wpAnyH_one (i := 16) (by kernel_rfl) rfl ?_
                go_wp2_with (go_at_call 79; with_reducible refine (t3 _ hHeld.rd).mono ?_; rintro e w9 ⟨rfl, m9, rfl⟩)
                replace hHeld := hHeld.step (Still.drewN _ m9).below
                replace row := row.below (Still.drewN _ m9).below row.lt
                replace pk := pk.step (Still.drewN _ m9).below
                refine ⟨hHeld, ?_⟩
                generalize W4.drewN m9 = W5 at *
                refine wpAnyH_one (i := 19) (by kernel_rfl) rfl ?_
                go_wp2_with (go_at_call 79; with_reducible refine (t4 _ hHeld.rd).mono ?_; rintro e w9 ⟨rfl, m9, rfl⟩)
                replace hHeld := hHeld.step (Still.drewN _ m9).below
                replace row := row.below (Still.drewN _ m9).below row.lt
                replace pk := pk.step (Still.drewN _ m9).below
                refine ⟨hHeld, ?_⟩
                generalize W5.drewN m9 = W6 at *
                try simp only [Act.put, List.setIfInBounds_toArray, List.set_cons_zero, List.set_cons_succ]
                refine wpAnyH_at (i := 25) (some 45) (v := pkV ⟨x1, id, f == 16384, x8, x9, src, dst⟩ (some ⟨g1, 0, none⟩) (n - 20) (n - 20)) rfl rfl (by kernel_rfl) (by kernel_rfl) (by kernel_rfl) (fun _ _ _ h => h) (Or.inl ⟨by rfl, fun w9 _ => ?_⟩) (by assumption) ?_
                · exact build28 _ _ w9 _ _ _ _ _ _ _ _ _ _ _ _ rfl rfl rfl rfl rfl rfl rfl rfl
                simp only [Act.put, List.setIfInBounds_toArray, List.set_cons_zero, List.set_cons_succ]
                refine wpAnyH_one (i := 27) (by kernel_rfl) rfl ?_
                refine wpList_stF rfl rfl 60 _ _ rfl g2 (pkC ⟨x1, id, f == 16384, x8, x9, src, dst⟩ (some ⟨g1, 0, none⟩) (n - 20) (n - 20)) rfl rfl 60 _ pk (by kernel_rfl) rfl (pkC_one ..) ?_
                intro w4 f4 hb4 ho4 hs4
                have pr : PR w (some ⟨b, o, none⟩) n c xs g1 g2 (List.replicate (n - 20) 0) w4 :=
                  ⟨hHeld.z.below hb4 n2, (by unfold PkAt; rw [HH.out]; exact f4), (ho4 _ ne).trans row, hHeld.rd.below hb4 (Nat.le_of_lt n2), hHeld.below.trans (hb4.mono (Nat.le_of_lt n2)), n1, n2, ne⟩
                have hK4 : KR w (some ⟨b, o, none⟩) n c xs w4 := ⟨pr.z, pr.rd, pr.below⟩
                clear hHeld hb4 f4 ho4 row pk
                go_wp2
                refine ⟨hK4, ?_⟩
                refine wpAnyH_done (by kernel_rfl) ?_ _
                clear hK4
                go_wp2_with fail
                go_meet
                case rel => exact ⟨_, _, rfl, pr⟩
        · as_aux_lemma =>
            refine wpList_mk (some 44) rfl rfl _ _ 22 rfl Tryd.underlying22 info5 (n - 20) _ _ rfl rfl rfl rfl (by omega) ?_
            intro W3 row hs2 hb2
            go_wp2
            have n1 := hHeld.z.lt
            replace hHeld := hHeld.step hb2
            have ne := Nat.ne_of_gt pk.lt
            replace pk := pk.step hb2
            refine ⟨hHeld, ?_⟩
            clear hs2 hb2
            generalize W2.heap.size = g1 at *
            refine wpAnyH_one (i := 5) (by kernel_rfl) rfl ?_
            go_wp2_with (go_at_call 78; with_reducible refine (t2 _ hHeld.rd).mono ?_; rintro e w9 ⟨rfl, m9, rfl⟩)
            replace hHeld := hHeld.step (Still.drewN _ m9).below
            replace row := row.below (Still.drewN _ m9).below row.lt
            replace pk := pk.step (Still.drewN _ m9).below
            refine ⟨hHeld, ?_⟩
            generalize W3.drewN m9 = W4 at *
            refine wpAnyH_one (i := 16) (by kernel_rfl) rfl ?_
            go_wp2_with (go_at_call 79; with_reducible refine (t3 _ hHeld.rd).mono ?_; rintro e w9 ⟨rfl, m9, rfl⟩)
            replace hHeld := hHeld.step (Still.drewN _ m9).below
            replace row := row.below (Still.drewN _ m9).below row.lt
            replace pk := pk.step (Still.drewN _ m9).below
            refine ⟨hHeld, ?_⟩
            generalize W4.drewN m9 = W5 at *
            refine wpAnyH_one (i := 19) (by kernel_rfl) rfl ?_
            go_wp2_with (go_at_call 79; with_reducible refine (t4 _ hHeld.rd).mono ?_; rintro e w9 ⟨rfl, m9, rfl⟩)
            replace hHeld := hHeld.step (Still.drewN _ m9).below
            replace row := row.below (Still.drewN _ m9).below row.lt
            replace pk := pk.step (Still.drewN _ m9).below
            refine ⟨hHeld, ?_⟩
            generalize W5.drewN m9 = W6 at *
            try simp only [Act.put, List.setIfInBounds_toArray, List.set_cons_zero, List.set_cons_succ]
            refine wpAnyH_at (i := 25) (some 45) (v := pkV ⟨x1, id, f == 16384, x8, x9, src, dst⟩ (some ⟨g1, 0, none⟩) (n - 20) (n - 20)) rfl rfl (by kernel_rfl) (by kernel_rfl) (by kernel_rfl) (fun _ _ _ h => h) (Or.inl ⟨by rfl, fun w9 _ => ?_⟩) (by assumption) ?_
            · exact build28 _ _ w9 _ _ _ _ _ _ _ _ _ _ _ _ rfl rfl rfl rfl rfl rfl rfl rfl
            simp only [Act.put, List.setIfInBounds_toArray, List.set_cons_zero, List.set_cons_succ]
            refine wpAnyH_one (i := 27) (by kernel_rfl) rfl ?_
            refine wpList_stF rfl rfl 60 _ _ rfl g2 (pkC ⟨x1, id, f == 16384, x8, x9, src, dst⟩ (some ⟨g1, 0, none⟩) (n - 20) (n - 20)) rfl rfl 60 _ pk (by kernel_rfl) rfl (pkC_one ..) ?_
            intro w4 f4 hb4 ho4 hs4
            have pr : PR w (some ⟨b, o, none⟩) n c xs g1 g2 (List.replicate (n - 20) 0) w4 :=
              ⟨hHeld.z.below hb4 n2, (by unfold PkAt; rw [HH.out]; exact f4), (ho4 _ ne).trans row, hHeld.rd.below hb4 (Nat.le_of_lt n2), hHeld.below.trans (hb4.mono (Nat.le_of_lt n2)), n1, n2, ne⟩
            have hK4 : KR w (some ⟨b, o, none⟩) n c xs w4 := ⟨pr.z, pr.rd, pr.below⟩
            clear hHeld hb4 f4 ho4 row pk
            go_wp2
            refine ⟨hK4, ?_⟩
            refine wpAnyH_done (by kernel_rfl) ?_ _
            clear hK4
            go_wp2_with fail
            go_meet
            case rel => exact ⟨_, _, rfl, pr⟩
  case rest =>
    obtain ⟨g1, g2, rfl, pr⟩ := hcut
    clear t2 t3 t4 hz K0
    go_wp2_with fail
    refine wp_region_held_drew (S := fun w' => ∃ ys, PR w (some ⟨b, o, none⟩) n c xs g1 g2 ys w') (by kernel_rfl) ⟨_, pr.step (below_drew _)⟩ (fun hHeld => ?_)
    replace pr := pr.step (below_drew _)
    change wpAnyH _ _ _ _ _ _ _ _ (World.drew _)
    generalize World.drew _ = W6 at pr hHeld ⊢
    refine wpAnyH_at (i := 0) (some 46) (v := ?v0z22) rfl rfl (by kernel_rfl) (by kernel_rfl) (by kernel_rfl) (fun _ _ _ h => h) (Or.inl ⟨by rfl, ?y0z22⟩) (by assumption) ?r0z22
    case y0z22 =>
      intro w9 hSw
      clear hSw
      go_simp
      all_goals with_reducible rfl
    simp only [Act.put, List.setIfInBounds_toArray, List.set_cons_zero, List.set_cons_succ]
    refine wpAnyH_at (i := 1) (some 47) (v := ?v1z23) rfl rfl (by kernel_rfl) (by kernel_rfl) (by kernel_rfl) (fun _ _ _ h => h) (Or.inl ⟨by rfl, ?y1z23⟩) (by assumption) ?r1z23
    case y1z23 =>
      intro w9 hSw
      (obtain ⟨ys, hy⟩ := hSw); (obtain ⟨a0, a1, a2, a3, a4, a5, a6, a7⟩ := hy.pk.cells); clear hy
      go_simp
      all_goals with_reducible rfl
    simp only [Act.put, List.setIfInBounds_toArray, List.set_cons_zero, List.set_cons_succ]
    refine wpAnyH_at (i := 2) (some 48) (v := ?v2z24) rfl rfl (by kernel_rfl) (by kernel_rfl) (by kernel_rfl) (fun _ _ _ h => h) (Or.inl ⟨by rfl, ?y2z24⟩) (by assumption) ?r2z24
    case y2z24 =>
      intro w9 hSw
      clear hSw
      go_simp
      all_goals with_reducible rfl
    simp only [Act.put, List.setIfInBounds_toArray, List.set_cons_zero, List.set_cons_succ]
    refine wpAnyH_at (i := 3) (some 49) (v := ?v3z25) rfl rfl (by kernel_rfl) (by kernel_rfl) (by kernel_rfl) (fun _ _ _ h => h) (Or.inl ⟨by rfl, ?y3z25⟩) (by assumption) ?r3z25
    case y3z25 =>
      intro w9 hSw
      clear hSw
      go_simp
      all_goals with_reducible rfl
    simp only [Act.put, List.setIfInBounds_toArray, List.set_cons_zero, List.set_cons_succ]
    refine wpAnyH_at (i := 4) (some 50) (v := .slice (cutA (some ⟨b, o, none⟩) c 20) (n - 20) (c - 20)) rfl rfl (by kernel_rfl) (by kernel_rfl) (by kernel_rfl) (fun _ _ _ h => h) (Or.inl ⟨by rfl, ?y4z26⟩) (by assumption) ?r4z26
    case y4z26 =>
      intro w9 hSw
      clear hSw
      by_cases hq : c = 20
      · rw [cutA_eq hq]
        subst hq
        go_simp
      · rw [cutA_ne hq]
        go_simp
    simp only [Act.put, List.setIfInBounds_toArray, List.set_cons_zero, List.set_cons_succ]
    refine wpAnyH_one (i := 5) (by kernel_rfl) rfl ?_
    refine wpList_cpRow (some 51) rfl rfl (.tmp 47) (.tmp 50) 22 22 rfl Tryd.underlying22 sz5 g1 0 _ pr.row (some ⟨g1, 0, none⟩) (n - 20) (n - 20) rfl (cutA (some ⟨b, o, none⟩) c 20) (n - 20) (c - 20) w.heap.size (xs.drop 20) rfl (pr.rd.cutFrom 20 (by omega)) (by simp) (Nat.le_refl _) (fun _ => rfl) ?_
    intro w6 r6 ho6
    rw [splice_all _ _ (by rw [List.length_drop, HL.out])] at r6
    replace pr := pr.only1 ho6 r6
    clear r6 ho6 hHeld
    go_wp2
    refine ⟨⟨_, pr⟩, ?_⟩
    refine wpAnyH_done (by kernel_rfl) ?_ _
    obtain ⟨a0, a1, a2, a3, a4, a5, a6, a7⟩ := pr.pk.cells
    have z7 := pr.z
    go_wp2_with (refine wpList_stF rfl rfl 60 _ _ rfl w.heap.size (pkC (hdOf xs) (some ⟨g1, 0, none⟩) (n - 20) (n - 20)) rfl rfl 60 _ z7 (by kernel_rfl) rfl (pkC_one ..) ?_; intro w7 h7 hb7 ho7 hs7)
    have h7' : PkAt w7 w.heap.size 60 (hdOf xs) (some ⟨g1, 0, none⟩) (n - 20) (n - 20) := h7
    have r7 : Row w7 g1 (xs.drop 20) := (ho7 _ (Nat.ne_of_gt pr.n1)).trans pr.row
    have b7 : Below w.heap.size w w7 := pr.below.trans hb7
    have n1 := pr.n1
    clear a0 a1 a2 a3 a4 a5 a6 a7 pr z7 h7 ho7 hb7 hs7
    go_wp2
    obtain ⟨c0, c1, c2, c3, c4, c5, c6, c7⟩ := h7'.cells
    refine bodyPost_ret (v := .tuple #[pkV (hdOf xs) (some ⟨g1, 0, none⟩) (n - 20) (n - 20), .nilIface]) (by simp [results, Tryd.results64, go_sem, *]) rfl ⟨b7, g1, rfl, r7, Nat.le_of_lt n1⟩
theorem read_any (hd : Nat) (A : Option Addr) (n c : Nat) (xs : List Int) (w : World) (hr : Rd .u8 w w.heap.size A n c xs) (h20 : 20 ≤ hd) (hm : hd ≤ 1000) (hn : hd ≤ n) (hnm : n ≤ 100000) :
    Calls Tryd.prog 64 #[.int .i64 hd, .slice A n c] w (GivesR w hd n xs) := by
  obtain ⟨b, o, rfl, -, -⟩ := hr.at_ (i := 0) (by omega)
  unfold GivesR
  rcases rE_cases hd xs h20 with ⟨h, e⟩ | ⟨h, hf, e⟩ | ⟨h, hf, e⟩
  · rw [e]
    exact (read_opt hd _ n c w h hm).mono fun ev w' ⟨h1, h2⟩ => ⟨h2, .inl ⟨by decide, h1⟩⟩
  · subst h
    rw [e]
    exact (read_frag b o n c xs w hr hn hf).mono fun ev w' ⟨h1, h2⟩ => ⟨h2, .inl ⟨by decide, h1⟩⟩
  · subst h
    rw [e]
    exact (read_good b o n c xs w hr hn hnm hf).mono fun ev w' ⟨h1, h2⟩ => ⟨h1, .inr ⟨rfl, h2⟩⟩
end Go.Proofs.YtbefoapnlehdmaaDoor
