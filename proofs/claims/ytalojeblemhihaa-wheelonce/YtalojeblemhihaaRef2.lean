/-
  Contracts of the document's wheel: Cancel, Set, Go.
-/
import Derived.Test.YtalojeblemhihaaRef1
namespace Go.Proofs.Ytalojeblemhihaa
open Go.RowKit
set_option linter.unusedVariables false

section
variable {w : World} {q base now : Nat} {R : List Tm}
set_option maxRecDepth 100000 in
set_option maxHeartbeats 2000000 in
theorem rcancel_any (h : RwAt w q base now R) (t : Int) : Calls Try.prog 25 #[ptr q, .int .i64 t] w fun e w' => e = .returned (.bool (hasT t R)) ∧ RwAt w' q base now (delT t R) ∧ Kept (· = q) w w' := by
  have T := find_any h t
  rcases fndT_cases t R with ⟨hno, e⟩ | ⟨k, hk, e, het, hyes⟩
  · have G : Hid (RwAt w q base now (delT t R) ∧ Kept (· = q) w w) := Lib.hid ⟨by rw [delT_no hno]; exact h, Kept.refl _ _⟩
    rw [e] at T
    rw [hno]
    clear h hno e
    go_enter Try.func25, Try.ntmps25
    go_wp2_with fail
    refine T.mono ?_
    rintro ev w1 ⟨rfl, rfl⟩
    go_wp2
    go_ret
    exact ⟨rfl, G.out⟩
  · obtain ⟨A, n, c, h⟩ := h
    rw [e] at T
    rw [hyes]
    have hlen := h.rows.len
    have hle := h.len
    obtain ⟨x, rfl, hxb, hxl, -, -⟩ := h.rows.at0 (show k < n by omega)
    obtain ⟨m, hm⟩ : ∃ m, k + 1 = m := ⟨_, rfl⟩
    have hmi : (k : Int) + 1 = (m : Int) := by omega
    have hcap := h.rows.rd.cap
    have hmax : c ≤ 9223372036854775807 := by have := h.rows.rd.max; unfold maxLen at this; omega
    have hq := h.lt
    have c1w := h.c1
    have f1w := h.fr 1
    have h0 := h.new (below_drew w)
    have b0 := below_drew w
    have hdz : w.drew.heap.size = w.heap.size := rfl
    have hF : Hid (∀ w3 A3 n3 c3, Below w.heap.size w w3 → OutT w3 w.heap.size A3 n3 c3 (R.take k ++ R.drop m) → RwAt (w3.setCell ⟨q, 1, none⟩ (.slice A3 n3 c3)) q base now (delT t R) ∧ Kept (· = q) w (w3.setCell ⟨q, 1, none⟩ (.slice A3 n3 c3))) := Lib.hid (by
      intro w3 A3 n3 c3 hb ho
      rw [← hm, delT_at h.ok hk het] at ho
      have h3 := h.new hb
      exact ⟨⟨A3, n3, c3, h3.setRows (ho.lower (by have := h.low; omega)) (h.ok.del t) (Nat.le_trans len_delT_le h.len)⟩, Kept.ahead hb (Kept.setCell w3 _ _ rfl)⟩)
    clear h hm
    go_enter Try.func25, Try.ntmps25
    go_wp2_with fail
    refine T.mono ?_
    rintro ev w1 ⟨rfl, rfl⟩
    go_wp2
    refine wp_region_held_drew (S := fun _ => True) (by kernel_rfl) trivial (fun hHeld => ?_)
    change wpAnyH _ _ _ _ _ _ _ _ (World.drew _)
    generalize World.drew w1 = W0 at *
    have ba := alloc_below W0 (.cells #[] 71)
    have h1 := h0.new ba
    have oL := OutT.lit0 W0 w1.heap.size (by omega)
    rw [hdz] at oL
    have c1 := h0.c1
    have c1' := h1.c1
    have rd1 := h1.rows.rd.head (show k ≤ n by omega)
    have rd2 := h1.rows.rd.tail (show m ≤ n by omega)
    have hsz : (W0.alloc (.cells #[] 71)).heap.size = w1.heap.size + 1 := by simp [hdz]
    have b1 : Below w1.heap.size w1 (W0.alloc (.cells #[] 71)) := b0.trans (ba.mono (by omega))
    have k0 : (0 : Int) ≤ (k : Int) := by omega
    have k1 : (k : Int) ≤ (c : Int) := by omega
    have m0 : (0 : Int) ≤ (m : Int) := by omega
    have m1 : (m : Int) ≤ (n : Int) := by omega
    have hc0 : ¬ c = 0 := by omega
    have hmn : n - m ≤ 16384 := by omega
    have hkk : k ≤ 16384 := by omega
    clear h0 h1 ba e hk het hyes T b0
    refine wpAnyH_at (i := 0) (some 11) (v := ?v0z1) rfl rfl (by kernel_rfl) (by kernel_rfl) (by kernel_rfl) (fun _ _ _ h => h) (Or.inl ⟨by rfl, ?y0z1⟩) (by assumption) ?r0z1
    case y0z1 =>
      intro w9 hSw
      clear hSw
      go_simp
      all_goals with_reducible rfl
    simp only [Act.put, List.setIfInBounds_toArray, List.set_cons_zero, List.set_cons_succ]
    refine wpAnyH_at (i := 2) (some 13) (v := ?v2z2) rfl rfl (by kernel_rfl) (by kernel_rfl) (by kernel_rfl) (fun _ _ _ h => h) (Or.inl ⟨by rfl, ?y2z2⟩) (by assumption) ?r2z2
    case y2z2 =>
      intro w9 hSw
      clear hSw
      go_simp
      all_goals with_reducible rfl
    simp only [Act.put, List.setIfInBounds_toArray, List.set_cons_zero, List.set_cons_succ]
    refine wpAnyH_at (i := 3) (some 14) (v := ?v3z3) rfl rfl (by kernel_rfl) (by kernel_rfl) (by kernel_rfl) (fun _ _ _ h => h) (Or.inl ⟨by rfl, ?y3z3⟩) (by assumption) ?r3z3
    case y3z3 =>
      intro w9 hSw
      clear hSw
      go_simp
      all_goals with_reducible rfl
    simp only [Act.put, List.setIfInBounds_toArray, List.set_cons_zero, List.set_cons_succ]
    refine wpAnyH_at (i := 4) (some 15) (v := ?v4z4) rfl rfl (by kernel_rfl) (by kernel_rfl) (by kernel_rfl) (fun _ _ _ h => h) (Or.inl ⟨by rfl, ?y4z4⟩) (by assumption) ?r4z4
    case y4z4 =>
      intro w9 hSw
      clear hSw
      go_simp
      all_goals with_reducible rfl
    simp only [Act.put, List.setIfInBounds_toArray, List.set_cons_zero, List.set_cons_succ]
    refine wpAnyH_at (i := 6) (some 17) (v := ?v6z5) rfl rfl (by kernel_rfl) (by kernel_rfl) (by kernel_rfl) (fun _ _ _ h => h) (Or.inl ⟨by rfl, ?y6z5⟩) (by assumption) ?r6z5
    case y6z5 =>
      intro w9 hSw
      clear hSw
      go_simp
      all_goals with_reducible rfl
    simp only [Act.put, List.setIfInBounds_toArray, List.set_cons_zero, List.set_cons_succ]
    refine wpAnyH_at (i := 9) (some 20) (v := ?v9z6) rfl rfl (by kernel_rfl) (by kernel_rfl) (by kernel_rfl) (fun _ _ _ h => h) (Or.inl ⟨by rfl, ?y9z6⟩) (by assumption) ?r9z6
    case y9z6 =>
      intro w9 hSw
      clear hSw
      go_simp
      all_goals with_reducible rfl
    simp only [Act.put, List.setIfInBounds_toArray, List.set_cons_zero, List.set_cons_succ]
    refine wpAnyH_at (i := 10) (some 21) (v := ?v10z7) rfl rfl (by kernel_rfl) (by kernel_rfl) (by kernel_rfl) (fun _ _ _ h => h) (Or.inl ⟨by rfl, ?y10z7⟩) (by assumption) ?r10z7
    case y10z7 =>
      intro w9 hSw
      clear hSw
      go_simp
      all_goals with_reducible rfl
    simp only [Act.put, List.setIfInBounds_toArray, List.set_cons_zero, List.set_cons_succ]
    refine wpAnyH_at (i := 11) (some 22) (v := ?v11z8) rfl rfl (by kernel_rfl) (by kernel_rfl) (by kernel_rfl) (fun _ _ _ h => h) (Or.inl ⟨by rfl, ?y11z8⟩) (by assumption) ?r11z8
    case y11z8 =>
      intro w9 hSw
      clear hSw
      go_simp
      all_goals with_reducible rfl
    simp only [Act.put, List.setIfInBounds_toArray, List.set_cons_zero, List.set_cons_succ]
    refine wpAnyH_at (i := 13) (some 24) (v := ?v13z9) rfl rfl (by kernel_rfl) (by kernel_rfl) (by kernel_rfl) (fun _ _ _ h => h) (Or.inl ⟨by rfl, ?y13z9⟩) (by assumption) ?r13z9
    case y13z9 =>
      intro w9 hSw
      clear hSw
      go_simp
      all_goals with_reducible rfl
    simp only [Act.put, List.setIfInBounds_toArray, List.set_cons_zero, List.set_cons_succ]
    refine wpAnyH_at (i := 14) (some 25) (v := ?v14z10) rfl rfl (by kernel_rfl) (by kernel_rfl) (by kernel_rfl) (fun _ _ _ h => h) (Or.inl ⟨by rfl, ?y14z10⟩) (by assumption) ?r14z10
    case y14z10 =>
      intro w9 hSw
      clear hSw
      go_simp
      all_goals with_reducible rfl
    simp only [Act.put, List.setIfInBounds_toArray, List.set_cons_zero, List.set_cons_succ]
    refine wpAnyH_three (i := 1) (j := 5) (l := 12) (by kernel_rfl) rfl rfl rfl ?_ ?_ ?_
    · skip
      go_wp2
      refine ⟨trivial, ?_⟩
      try simp only [Act.put, List.setIfInBounds_toArray, List.set_cons_zero, List.set_cons_succ]
      refine wpAnyH_two (i := 5) (j := 12) (by kernel_rfl) rfl rfl ?_ ?_
      · skip
        go_wp2
        refine ⟨trivial, ?_⟩
        try simp only [Act.put, List.setIfInBounds_toArray, List.set_cons_zero, List.set_cons_succ]
        refine wpAnyH_at (i := 7) (some 18) (v := ?v7z11) rfl rfl (by kernel_rfl) (by kernel_rfl) (by kernel_rfl) (fun _ _ _ h => h) (Or.inl ⟨by rfl, ?y7z11⟩) (by assumption) ?r7z11
        case y7z11 =>
          intro w9 hSw
          clear hSw
          go_simp
          all_goals with_reducible rfl
        simp only [Act.put, List.setIfInBounds_toArray, List.set_cons_zero, List.set_cons_succ]
        refine wpAnyH_two (i := 8) (j := 12) (by kernel_rfl) rfl rfl ?_ ?_
        · skip
          refine wpList_appT (some 19) rfl rfl (.tmp 12) (.tmp 18) rfl w1.heap.size (some ⟨w1.heap.size, 0, none⟩) 0 0 [] rfl oL (some ⟨x, 0, none⟩) k c _ (R.take k) rfl rd1 (by omega) b1.size ?_
          intro A2 n2 c2 w2 o2 g2
          have b2 := b1.grown g2 b1.size (fun g hg => oL.own_ge g hg)
          have kk2 : Kept (fun j => j = w1.heap.size) (W0.alloc (.cells #[] 71)) w2 := Kept.grown g2 (fun j hj => by simp [Value.ownBlock] at hj; omega)
          have c12 : w2.cell? ⟨q, 1, none⟩ = some (.slice (some ⟨x, 0, none⟩) n c) := (World.cell?_of_block (a := ⟨q, 1, none⟩) (kk2.block q (by omega) (by omega))).trans c1'
          have rd2' : RdT w2 w2.heap.size (cutT (some ⟨x, 0, none⟩) c m) (n - m) (c - m) (R.drop m) := by
            refine ⟨rd2.len, rd2.cap, rd2.max, rd2.nil0, fun i hi => ?_⟩
            obtain ⟨b, o, e, hb, h1, h2⟩ := rd2.at_ i hi
            have hbx : b = x := by
              unfold cutT at e
              split at e
              · injection e with e
                injection e with e _
                exact e.symm
              · rw [Option.map_some, Addr.add_mid] at e
                injection e with e
                injection e with e _
                exact e.symm
            have eb := kk2.block b hb (by omega)
            exact ⟨b, o, e, by have := kk2.size; omega, (World.cell?_of_block (a := ⟨b, o + i * 2, none⟩) eb).trans h1, (World.cell?_of_block (a := ⟨b, o + (i * 2 + 1), none⟩) eb).trans h2⟩
          have n2k := o2.len
          rw [List.nil_append] at o2
          have hn2 : n2 ≤ 16384 := by rw [List.nil_append, rd1.len] at n2k; omega
          clear oL g2 kk2 rd1 rd2 c1 c1' n2k
          go_wp2
          refine ⟨trivial, ?_⟩
          try simp only [Act.put, List.setIfInBounds_toArray, List.set_cons_zero, List.set_cons_succ]
          refine wpAnyH_one (i := 12) (by kernel_rfl) rfl ?_
          go_wp2
          refine ⟨trivial, ?_⟩
          try simp only [Act.put, List.setIfInBounds_toArray, List.set_cons_zero, List.set_cons_succ]
          refine wpAnyH_at (i := 15) (some 26) (v := .slice (cutT (some ⟨x, 0, none⟩) c m) (n - m) (c - m)) rfl rfl (by kernel_rfl) (by kernel_rfl) (by kernel_rfl) (fun _ _ _ h => h) (Or.inl ⟨by rfl, ?y15z12⟩) (by assumption) ?r15z12
          case y15z12 =>
            intro w9 hSw
            clear hSw
            by_cases hq : c = m
            · rw [cutT_eq hq]
              subst hq
              go_simp
            · rw [cutT_ne hq]
              go_simp
          simp only [Act.put, List.setIfInBounds_toArray, List.set_cons_zero, List.set_cons_succ]
          refine wpAnyH_one (i := 16) (by kernel_rfl) rfl ?_
          refine wpList_appT (some 27) rfl rfl (.tmp 19) (.tmp 26) rfl w1.heap.size A2 n2 c2 (R.take k) rfl o2 (cutT (some ⟨x, 0, none⟩) c m) (n - m) (c - m) _ (R.drop m) rfl rd2' (by omega) b2.size ?_
          intro A3 n3 c3 w3 o3 g3
          have b3 := b2.grown g3 b2.size (fun g hg => o2.own_ge g hg)
          have e1 : ∀ ad, A2 = some ad → ad.block ≠ q := fun ad e => by have := (o2.block ad e).1; omega
          have c13 : w3.cell? ⟨q, 1, none⟩ = some (.slice (some ⟨x, 0, none⟩) n c) := (b3.cell (p := ⟨q, 1, none⟩) hq).trans c1w
          have f13 : w3.frozen? ⟨q, 1, none⟩ = false := (b3.frozen (p := ⟨q, 1, none⟩) hq).trans f1w
          have G := Lib.hid (hF.out w3 A3 n3 c3 b3 o3)
          clear o2 g3 rd2' b2 e1 b3 o3 c12
          go_wp2
          refine ⟨trivial, ?_⟩
          try simp only [Act.put, List.setIfInBounds_toArray, List.set_cons_zero, List.set_cons_succ]
          refine wpAnyH_at (i := 17) (some 28) (v := ?v17z13) rfl rfl (by kernel_rfl) (by kernel_rfl) (by kernel_rfl) (fun _ _ _ h => h) (Or.inl ⟨by rfl, ?y17z13⟩) (by assumption) ?r17z13
          case y17z13 =>
            intro w9 hSw
            clear hSw
            go_simp
            all_goals with_reducible rfl
          simp only [Act.put, List.setIfInBounds_toArray, List.set_cons_zero, List.set_cons_succ]
          refine wpAnyH_at (i := 18) (some 29) (v := ?v18z14) rfl rfl (by kernel_rfl) (by kernel_rfl) (by kernel_rfl) (fun _ _ _ h => h) (Or.inl ⟨by rfl, ?y18z14⟩) (by assumption) ?r18z14
          case y18z14 =>
            intro w9 hSw
            clear hSw
            go_simp
            all_goals with_reducible rfl
          simp only [Act.put, List.setIfInBounds_toArray, List.set_cons_zero, List.set_cons_succ]
          refine wpAnyH_one (i := 19) (by kernel_rfl) rfl ?_
          go_wp2
          refine ⟨trivial, ?_⟩
          try simp only [Act.put, List.setIfInBounds_toArray, List.set_cons_zero, List.set_cons_succ]
          refine wpAnyH_done (by kernel_rfl) ?_ _
          go_wp2
          go_ret
          exact ⟨rfl, G.out⟩
        · skip
          go_wp2
          refine ⟨trivial, ?_⟩
          try simp only [Act.put, List.setIfInBounds_toArray, List.set_cons_zero, List.set_cons_succ]
          refine wpAnyH_at (i := 15) (some 26) (v := .slice (cutT (some ⟨x, 0, none⟩) c m) (n - m) (c - m)) rfl rfl (by kernel_rfl) (by kernel_rfl) (by kernel_rfl) (fun _ _ _ h => h) (Or.inl ⟨by rfl, ?y15z15⟩) (by assumption) ?r15z15
          case y15z15 =>
            intro w9 hSw
            clear hSw
            by_cases hq : c = m
            · rw [cutT_eq hq]
              subst hq
              go_simp
            · rw [cutT_ne hq]
              go_simp
          simp only [Act.put, List.setIfInBounds_toArray, List.set_cons_zero, List.set_cons_succ]
          refine wpAnyH_one (i := 8) (by kernel_rfl) rfl ?_
          refine wpList_appT (some 19) rfl rfl (.tmp 12) (.tmp 18) rfl w1.heap.size (some ⟨w1.heap.size, 0, none⟩) 0 0 [] rfl oL (some ⟨x, 0, none⟩) k c _ (R.take k) rfl rd1 (by omega) b1.size ?_
          intro A2 n2 c2 w2 o2 g2
          have b2 := b1.grown g2 b1.size (fun g hg => oL.own_ge g hg)
          have kk2 : Kept (fun j => j = w1.heap.size) (W0.alloc (.cells #[] 71)) w2 := Kept.grown g2 (fun j hj => by simp [Value.ownBlock] at hj; omega)
          have c12 : w2.cell? ⟨q, 1, none⟩ = some (.slice (some ⟨x, 0, none⟩) n c) := (World.cell?_of_block (a := ⟨q, 1, none⟩) (kk2.block q (by omega) (by omega))).trans c1'
          have rd2' : RdT w2 w2.heap.size (cutT (some ⟨x, 0, none⟩) c m) (n - m) (c - m) (R.drop m) := by
            refine ⟨rd2.len, rd2.cap, rd2.max, rd2.nil0, fun i hi => ?_⟩
            obtain ⟨b, o, e, hb, h1, h2⟩ := rd2.at_ i hi
            have hbx : b = x := by
              unfold cutT at e
              split at e
              · injection e with e
                injection e with e _
                exact e.symm
              · rw [Option.map_some, Addr.add_mid] at e
                injection e with e
                injection e with e _
                exact e.symm
            have eb := kk2.block b hb (by omega)
            exact ⟨b, o, e, by have := kk2.size; omega, (World.cell?_of_block (a := ⟨b, o + i * 2, none⟩) eb).trans h1, (World.cell?_of_block (a := ⟨b, o + (i * 2 + 1), none⟩) eb).trans h2⟩
          have n2k := o2.len
          rw [List.nil_append] at o2
          have hn2 : n2 ≤ 16384 := by rw [List.nil_append, rd1.len] at n2k; omega
          clear oL g2 kk2 rd1 rd2 c1 c1' n2k
          go_wp2
          refine ⟨trivial, ?_⟩
          try simp only [Act.put, List.setIfInBounds_toArray, List.set_cons_zero, List.set_cons_succ]
          refine wpAnyH_one (i := 16) (by kernel_rfl) rfl ?_
          refine wpList_appT (some 27) rfl rfl (.tmp 19) (.tmp 26) rfl w1.heap.size A2 n2 c2 (R.take k) rfl o2 (cutT (some ⟨x, 0, none⟩) c m) (n - m) (c - m) _ (R.drop m) rfl rd2' (by omega) b2.size ?_
          intro A3 n3 c3 w3 o3 g3
          have b3 := b2.grown g3 b2.size (fun g hg => o2.own_ge g hg)
          have e1 : ∀ ad, A2 = some ad → ad.block ≠ q := fun ad e => by have := (o2.block ad e).1; omega
          have c13 : w3.cell? ⟨q, 1, none⟩ = some (.slice (some ⟨x, 0, none⟩) n c) := (b3.cell (p := ⟨q, 1, none⟩) hq).trans c1w
          have f13 : w3.frozen? ⟨q, 1, none⟩ = false := (b3.frozen (p := ⟨q, 1, none⟩) hq).trans f1w
          have G := Lib.hid (hF.out w3 A3 n3 c3 b3 o3)
          clear o2 g3 rd2' b2 e1 b3 o3 c12
          go_wp2
          refine ⟨trivial, ?_⟩
          try simp only [Act.put, List.setIfInBounds_toArray, List.set_cons_zero, List.set_cons_succ]
          refine wpAnyH_at (i := 17) (some 28) (v := ?v17z16) rfl rfl (by kernel_rfl) (by kernel_rfl) (by kernel_rfl) (fun _ _ _ h => h) (Or.inl ⟨by rfl, ?y17z16⟩) (by assumption) ?r17z16
          case y17z16 =>
            intro w9 hSw
            clear hSw
            go_simp
            all_goals with_reducible rfl
          simp only [Act.put, List.setIfInBounds_toArray, List.set_cons_zero, List.set_cons_succ]
          refine wpAnyH_at (i := 18) (some 29) (v := ?v18z17) rfl rfl (by kernel_rfl) (by kernel_rfl) (by kernel_rfl) (fun _ _ _ h => h) (Or.inl ⟨by rfl, ?y18z17⟩) (by assumption) ?r18z17
          case y18z17 =>
            intro w9 hSw
            clear hSw
            go_simp
            all_goals with_reducible rfl
          simp only [Act.put, List.setIfInBounds_toArray, List.set_cons_zero, List.set_cons_succ]
          refine wpAnyH_one (i := 19) (by kernel_rfl) rfl ?_
          go_wp2
          refine ⟨trivial, ?_⟩
          try simp only [Act.put, List.setIfInBounds_toArray, List.set_cons_zero, List.set_cons_succ]
          refine wpAnyH_done (by kernel_rfl) ?_ _
          go_wp2
          go_ret
          exact ⟨rfl, G.out⟩
      · skip
        go_wp2
        refine ⟨trivial, ?_⟩
        try simp only [Act.put, List.setIfInBounds_toArray, List.set_cons_zero, List.set_cons_succ]
        refine wpAnyH_at (i := 15) (some 26) (v := .slice (cutT (some ⟨x, 0, none⟩) c m) (n - m) (c - m)) rfl rfl (by kernel_rfl) (by kernel_rfl) (by kernel_rfl) (fun _ _ _ h => h) (Or.inl ⟨by rfl, ?y15z18⟩) (by assumption) ?r15z18
        case y15z18 =>
          intro w9 hSw
          clear hSw
          by_cases hq : c = m
          · rw [cutT_eq hq]
            subst hq
            go_simp
          · rw [cutT_ne hq]
            go_simp
        simp only [Act.put, List.setIfInBounds_toArray, List.set_cons_zero, List.set_cons_succ]
        refine wpAnyH_one (i := 5) (by kernel_rfl) rfl ?_
        go_wp2
        refine ⟨trivial, ?_⟩
        try simp only [Act.put, List.setIfInBounds_toArray, List.set_cons_zero, List.set_cons_succ]
        refine wpAnyH_at (i := 7) (some 18) (v := ?v7z19) rfl rfl (by kernel_rfl) (by kernel_rfl) (by kernel_rfl) (fun _ _ _ h => h) (Or.inl ⟨by rfl, ?y7z19⟩) (by assumption) ?r7z19
        case y7z19 =>
          intro w9 hSw
          clear hSw
          go_simp
          all_goals with_reducible rfl
        simp only [Act.put, List.setIfInBounds_toArray, List.set_cons_zero, List.set_cons_succ]
        refine wpAnyH_one (i := 8) (by kernel_rfl) rfl ?_
        refine wpList_appT (some 19) rfl rfl (.tmp 12) (.tmp 18) rfl w1.heap.size (some ⟨w1.heap.size, 0, none⟩) 0 0 [] rfl oL (some ⟨x, 0, none⟩) k c _ (R.take k) rfl rd1 (by omega) b1.size ?_
        intro A2 n2 c2 w2 o2 g2
        have b2 := b1.grown g2 b1.size (fun g hg => oL.own_ge g hg)
        have kk2 : Kept (fun j => j = w1.heap.size) (W0.alloc (.cells #[] 71)) w2 := Kept.grown g2 (fun j hj => by simp [Value.ownBlock] at hj; omega)
        have c12 : w2.cell? ⟨q, 1, none⟩ = some (.slice (some ⟨x, 0, none⟩) n c) := (World.cell?_of_block (a := ⟨q, 1, none⟩) (kk2.block q (by omega) (by omega))).trans c1'
        have rd2' : RdT w2 w2.heap.size (cutT (some ⟨x, 0, none⟩) c m) (n - m) (c - m) (R.drop m) := by
          refine ⟨rd2.len, rd2.cap, rd2.max, rd2.nil0, fun i hi => ?_⟩
          obtain ⟨b, o, e, hb, h1, h2⟩ := rd2.at_ i hi
          have hbx : b = x := by
            unfold cutT at e
            split at e
            · injection e with e
              injection e with e _
              exact e.symm
            · rw [Option.map_some, Addr.add_mid] at e
              injection e with e
              injection e with e _
              exact e.symm
          have eb := kk2.block b hb (by omega)
          exact ⟨b, o, e, by have := kk2.size; omega, (World.cell?_of_block (a := ⟨b, o + i * 2, none⟩) eb).trans h1, (World.cell?_of_block (a := ⟨b, o + (i * 2 + 1), none⟩) eb).trans h2⟩
        have n2k := o2.len
        rw [List.nil_append] at o2
        have hn2 : n2 ≤ 16384 := by rw [List.nil_append, rd1.len] at n2k; omega
        clear oL g2 kk2 rd1 rd2 c1 c1' n2k
        go_wp2
        refine ⟨trivial, ?_⟩
        try simp only [Act.put, List.setIfInBounds_toArray, List.set_cons_zero, List.set_cons_succ]
        refine wpAnyH_one (i := 16) (by kernel_rfl) rfl ?_
        refine wpList_appT (some 27) rfl rfl (.tmp 19) (.tmp 26) rfl w1.heap.size A2 n2 c2 (R.take k) rfl o2 (cutT (some ⟨x, 0, none⟩) c m) (n - m) (c - m) _ (R.drop m) rfl rd2' (by omega) b2.size ?_
        intro A3 n3 c3 w3 o3 g3
        have b3 := b2.grown g3 b2.size (fun g hg => o2.own_ge g hg)
        have e1 : ∀ ad, A2 = some ad → ad.block ≠ q := fun ad e => by have := (o2.block ad e).1; omega
        have c13 : w3.cell? ⟨q, 1, none⟩ = some (.slice (some ⟨x, 0, none⟩) n c) := (b3.cell (p := ⟨q, 1, none⟩) hq).trans c1w
        have f13 : w3.frozen? ⟨q, 1, none⟩ = false := (b3.frozen (p := ⟨q, 1, none⟩) hq).trans f1w
        have G := Lib.hid (hF.out w3 A3 n3 c3 b3 o3)
        clear o2 g3 rd2' b2 e1 b3 o3 c12
        go_wp2
        refine ⟨trivial, ?_⟩
        try simp only [Act.put, List.setIfInBounds_toArray, List.set_cons_zero, List.set_cons_succ]
        refine wpAnyH_at (i := 17) (some 28) (v := ?v17z20) rfl rfl (by kernel_rfl) (by kernel_rfl) (by kernel_rfl) (fun _ _ _ h => h) (Or.inl ⟨by rfl, ?y17z20⟩) (by assumption) ?r17z20
        case y17z20 =>
          intro w9 hSw
          clear hSw
          go_simp
          all_goals with_reducible rfl
        simp only [Act.put, List.setIfInBounds_toArray, List.set_cons_zero, List.set_cons_succ]
        refine wpAnyH_at (i := 18) (some 29) (v := ?v18z21) rfl rfl (by kernel_rfl) (by kernel_rfl) (by kernel_rfl) (fun _ _ _ h => h) (Or.inl ⟨by rfl, ?y18z21⟩) (by assumption) ?r18z21
        case y18z21 =>
          intro w9 hSw
          clear hSw
          go_simp
          all_goals with_reducible rfl
        simp only [Act.put, List.setIfInBounds_toArray, List.set_cons_zero, List.set_cons_succ]
        refine wpAnyH_one (i := 19) (by kernel_rfl) rfl ?_
        go_wp2
        refine ⟨trivial, ?_⟩
        try simp only [Act.put, List.setIfInBounds_toArray, List.set_cons_zero, List.set_cons_succ]
        refine wpAnyH_done (by kernel_rfl) ?_ _
        go_wp2
        go_ret
        exact ⟨rfl, G.out⟩
    · skip
      go_wp2
      refine ⟨trivial, ?_⟩
      try simp only [Act.put, List.setIfInBounds_toArray, List.set_cons_zero, List.set_cons_succ]
      refine wpAnyH_at (i := 7) (some 18) (v := ?v7z22) rfl rfl (by kernel_rfl) (by kernel_rfl) (by kernel_rfl) (fun _ _ _ h => h) (Or.inl ⟨by rfl, ?y7z22⟩) (by assumption) ?r7z22
      case y7z22 =>
        intro w9 hSw
        clear hSw
        go_simp
        all_goals with_reducible rfl
      simp only [Act.put, List.setIfInBounds_toArray, List.set_cons_zero, List.set_cons_succ]
      refine wpAnyH_two (i := 1) (j := 12) (by kernel_rfl) rfl rfl ?_ ?_
      · skip
        go_wp2
        refine ⟨trivial, ?_⟩
        try simp only [Act.put, List.setIfInBounds_toArray, List.set_cons_zero, List.set_cons_succ]
        refine wpAnyH_two (i := 8) (j := 12) (by kernel_rfl) rfl rfl ?_ ?_
        · skip
          refine wpList_appT (some 19) rfl rfl (.tmp 12) (.tmp 18) rfl w1.heap.size (some ⟨w1.heap.size, 0, none⟩) 0 0 [] rfl oL (some ⟨x, 0, none⟩) k c _ (R.take k) rfl rd1 (by omega) b1.size ?_
          intro A2 n2 c2 w2 o2 g2
          have b2 := b1.grown g2 b1.size (fun g hg => oL.own_ge g hg)
          have kk2 : Kept (fun j => j = w1.heap.size) (W0.alloc (.cells #[] 71)) w2 := Kept.grown g2 (fun j hj => by simp [Value.ownBlock] at hj; omega)
          have c12 : w2.cell? ⟨q, 1, none⟩ = some (.slice (some ⟨x, 0, none⟩) n c) := (World.cell?_of_block (a := ⟨q, 1, none⟩) (kk2.block q (by omega) (by omega))).trans c1'
          have rd2' : RdT w2 w2.heap.size (cutT (some ⟨x, 0, none⟩) c m) (n - m) (c - m) (R.drop m) := by
            refine ⟨rd2.len, rd2.cap, rd2.max, rd2.nil0, fun i hi => ?_⟩
            obtain ⟨b, o, e, hb, h1, h2⟩ := rd2.at_ i hi
            have hbx : b = x := by
              unfold cutT at e
              split at e
              · injection e with e
                injection e with e _
                exact e.symm
              · rw [Option.map_some, Addr.add_mid] at e
                injection e with e
                injection e with e _
                exact e.symm
            have eb := kk2.block b hb (by omega)
            exact ⟨b, o, e, by have := kk2.size; omega, (World.cell?_of_block (a := ⟨b, o + i * 2, none⟩) eb).trans h1, (World.cell?_of_block (a := ⟨b, o + (i * 2 + 1), none⟩) eb).trans h2⟩
          have n2k := o2.len
          rw [List.nil_append] at o2
          have hn2 : n2 ≤ 16384 := by rw [List.nil_append, rd1.len] at n2k; omega
          clear oL g2 kk2 rd1 rd2 c1 c1' n2k
          go_wp2
          refine ⟨trivial, ?_⟩
          try simp only [Act.put, List.setIfInBounds_toArray, List.set_cons_zero, List.set_cons_succ]
          refine wpAnyH_one (i := 12) (by kernel_rfl) rfl ?_
          go_wp2
          refine ⟨trivial, ?_⟩
          try simp only [Act.put, List.setIfInBounds_toArray, List.set_cons_zero, List.set_cons_succ]
          refine wpAnyH_at (i := 15) (some 26) (v := .slice (cutT (some ⟨x, 0, none⟩) c m) (n - m) (c - m)) rfl rfl (by kernel_rfl) (by kernel_rfl) (by kernel_rfl) (fun _ _ _ h => h) (Or.inl ⟨by rfl, ?y15z23⟩) (by assumption) ?r15z23
          case y15z23 =>
            intro w9 hSw
            clear hSw
            by_cases hq : c = m
            · rw [cutT_eq hq]
              subst hq
              go_simp
            · rw [cutT_ne hq]
              go_simp
          simp only [Act.put, List.setIfInBounds_toArray, List.set_cons_zero, List.set_cons_succ]
          refine wpAnyH_one (i := 16) (by kernel_rfl) rfl ?_
          refine wpList_appT (some 27) rfl rfl (.tmp 19) (.tmp 26) rfl w1.heap.size A2 n2 c2 (R.take k) rfl o2 (cutT (some ⟨x, 0, none⟩) c m) (n - m) (c - m) _ (R.drop m) rfl rd2' (by omega) b2.size ?_
          intro A3 n3 c3 w3 o3 g3
          have b3 := b2.grown g3 b2.size (fun g hg => o2.own_ge g hg)
          have e1 : ∀ ad, A2 = some ad → ad.block ≠ q := fun ad e => by have := (o2.block ad e).1; omega
          have c13 : w3.cell? ⟨q, 1, none⟩ = some (.slice (some ⟨x, 0, none⟩) n c) := (b3.cell (p := ⟨q, 1, none⟩) hq).trans c1w
          have f13 : w3.frozen? ⟨q, 1, none⟩ = false := (b3.frozen (p := ⟨q, 1, none⟩) hq).trans f1w
          have G := Lib.hid (hF.out w3 A3 n3 c3 b3 o3)
          clear o2 g3 rd2' b2 e1 b3 o3 c12
          go_wp2
          refine ⟨trivial, ?_⟩
          try simp only [Act.put, List.setIfInBounds_toArray, List.set_cons_zero, List.set_cons_succ]
          refine wpAnyH_at (i := 17) (some 28) (v := ?v17z24) rfl rfl (by kernel_rfl) (by kernel_rfl) (by kernel_rfl) (fun _ _ _ h => h) (Or.inl ⟨by rfl, ?y17z24⟩) (by assumption) ?r17z24
          case y17z24 =>
            intro w9 hSw
            clear hSw
            go_simp
            all_goals with_reducible rfl
          simp only [Act.put, List.setIfInBounds_toArray, List.set_cons_zero, List.set_cons_succ]
          refine wpAnyH_at (i := 18) (some 29) (v := ?v18z25) rfl rfl (by kernel_rfl) (by kernel_rfl) (by kernel_rfl) (fun _ _ _ h => h) (Or.inl ⟨by rfl, ?y18z25⟩) (by assumption) ?r18z25
          case y18z25 =>
            intro w9 hSw
            clear hSw
            go_simp
            all_goals with_reducible rfl
          simp only [Act.put, List.setIfInBounds_toArray, List.set_cons_zero, List.set_cons_succ]
          refine wpAnyH_one (i := 19) (by kernel_rfl) rfl ?_
          go_wp2
          refine ⟨trivial, ?_⟩
          try simp only [Act.put, List.setIfInBounds_toArray, List.set_cons_zero, List.set_cons_succ]
          refine wpAnyH_done (by kernel_rfl) ?_ _
          go_wp2
          go_ret
          exact ⟨rfl, G.out⟩
        · skip
          go_wp2
          refine ⟨trivial, ?_⟩
          try simp only [Act.put, List.setIfInBounds_toArray, List.set_cons_zero, List.set_cons_succ]
          refine wpAnyH_at (i := 15) (some 26) (v := .slice (cutT (some ⟨x, 0, none⟩) c m) (n - m) (c - m)) rfl rfl (by kernel_rfl) (by kernel_rfl) (by kernel_rfl) (fun _ _ _ h => h) (Or.inl ⟨by rfl, ?y15z26⟩) (by assumption) ?r15z26
          case y15z26 =>
            intro w9 hSw
            clear hSw
            by_cases hq : c = m
            · rw [cutT_eq hq]
              subst hq
              go_simp
            · rw [cutT_ne hq]
              go_simp
          simp only [Act.put, List.setIfInBounds_toArray, List.set_cons_zero, List.set_cons_succ]
          refine wpAnyH_one (i := 8) (by kernel_rfl) rfl ?_
          refine wpList_appT (some 19) rfl rfl (.tmp 12) (.tmp 18) rfl w1.heap.size (some ⟨w1.heap.size, 0, none⟩) 0 0 [] rfl oL (some ⟨x, 0, none⟩) k c _ (R.take k) rfl rd1 (by omega) b1.size ?_
          intro A2 n2 c2 w2 o2 g2
          have b2 := b1.grown g2 b1.size (fun g hg => oL.own_ge g hg)
          have kk2 : Kept (fun j => j = w1.heap.size) (W0.alloc (.cells #[] 71)) w2 := Kept.grown g2 (fun j hj => by simp [Value.ownBlock] at hj; omega)
          have c12 : w2.cell? ⟨q, 1, none⟩ = some (.slice (some ⟨x, 0, none⟩) n c) := (World.cell?_of_block (a := ⟨q, 1, none⟩) (kk2.block q (by omega) (by omega))).trans c1'
          have rd2' : RdT w2 w2.heap.size (cutT (some ⟨x, 0, none⟩) c m) (n - m) (c - m) (R.drop m) := by
            refine ⟨rd2.len, rd2.cap, rd2.max, rd2.nil0, fun i hi => ?_⟩
            obtain ⟨b, o, e, hb, h1, h2⟩ := rd2.at_ i hi
            have hbx : b = x := by
              unfold cutT at e
              split at e
              · injection e with e
                injection e with e _
                exact e.symm
              · rw [Option.map_some, Addr.add_mid] at e
                injection e with e
                injection e with e _
                exact e.symm
            have eb := kk2.block b hb (by omega)
            exact ⟨b, o, e, by have := kk2.size; omega, (World.cell?_of_block (a := ⟨b, o + i * 2, none⟩) eb).trans h1, (World.cell?_of_block (a := ⟨b, o + (i * 2 + 1), none⟩) eb).trans h2⟩
          have n2k := o2.len
          rw [List.nil_append] at o2
          have hn2 : n2 ≤ 16384 := by rw [List.nil_append, rd1.len] at n2k; omega
          clear oL g2 kk2 rd1 rd2 c1 c1' n2k
          go_wp2
          refine ⟨trivial, ?_⟩
          try simp only [Act.put, List.setIfInBounds_toArray, List.set_cons_zero, List.set_cons_succ]
          refine wpAnyH_one (i := 16) (by kernel_rfl) rfl ?_
          refine wpList_appT (some 27) rfl rfl (.tmp 19) (.tmp 26) rfl w1.heap.size A2 n2 c2 (R.take k) rfl o2 (cutT (some ⟨x, 0, none⟩) c m) (n - m) (c - m) _ (R.drop m) rfl rd2' (by omega) b2.size ?_
          intro A3 n3 c3 w3 o3 g3
          have b3 := b2.grown g3 b2.size (fun g hg => o2.own_ge g hg)
          have e1 : ∀ ad, A2 = some ad → ad.block ≠ q := fun ad e => by have := (o2.block ad e).1; omega
          have c13 : w3.cell? ⟨q, 1, none⟩ = some (.slice (some ⟨x, 0, none⟩) n c) := (b3.cell (p := ⟨q, 1, none⟩) hq).trans c1w
          have f13 : w3.frozen? ⟨q, 1, none⟩ = false := (b3.frozen (p := ⟨q, 1, none⟩) hq).trans f1w
          have G := Lib.hid (hF.out w3 A3 n3 c3 b3 o3)
          clear o2 g3 rd2' b2 e1 b3 o3 c12
          go_wp2
          refine ⟨trivial, ?_⟩
          try simp only [Act.put, List.setIfInBounds_toArray, List.set_cons_zero, List.set_cons_succ]
          refine wpAnyH_at (i := 17) (some 28) (v := ?v17z27) rfl rfl (by kernel_rfl) (by kernel_rfl) (by kernel_rfl) (fun _ _ _ h => h) (Or.inl ⟨by rfl, ?y17z27⟩) (by assumption) ?r17z27
          case y17z27 =>
            intro w9 hSw
            clear hSw
            go_simp
            all_goals with_reducible rfl
          simp only [Act.put, List.setIfInBounds_toArray, List.set_cons_zero, List.set_cons_succ]
          refine wpAnyH_at (i := 18) (some 29) (v := ?v18z28) rfl rfl (by kernel_rfl) (by kernel_rfl) (by kernel_rfl) (fun _ _ _ h => h) (Or.inl ⟨by rfl, ?y18z28⟩) (by assumption) ?r18z28
          case y18z28 =>
            intro w9 hSw
            clear hSw
            go_simp
            all_goals with_reducible rfl
          simp only [Act.put, List.setIfInBounds_toArray, List.set_cons_zero, List.set_cons_succ]
          refine wpAnyH_one (i := 19) (by kernel_rfl) rfl ?_
          go_wp2
          refine ⟨trivial, ?_⟩
          try simp only [Act.put, List.setIfInBounds_toArray, List.set_cons_zero, List.set_cons_succ]
          refine wpAnyH_done (by kernel_rfl) ?_ _
          go_wp2
          go_ret
          exact ⟨rfl, G.out⟩
      · skip
        go_wp2
        refine ⟨trivial, ?_⟩
        try simp only [Act.put, List.setIfInBounds_toArray, List.set_cons_zero, List.set_cons_succ]
        refine wpAnyH_at (i := 15) (some 26) (v := .slice (cutT (some ⟨x, 0, none⟩) c m) (n - m) (c - m)) rfl rfl (by kernel_rfl) (by kernel_rfl) (by kernel_rfl) (fun _ _ _ h => h) (Or.inl ⟨by rfl, ?y15z29⟩) (by assumption) ?r15z29
        case y15z29 =>
          intro w9 hSw
          clear hSw
          by_cases hq : c = m
          · rw [cutT_eq hq]
            subst hq
            go_simp
          · rw [cutT_ne hq]
            go_simp
        simp only [Act.put, List.setIfInBounds_toArray, List.set_cons_zero, List.set_cons_succ]
        refine wpAnyH_one (i := 1) (by kernel_rfl) rfl ?_
        go_wp2
        refine ⟨trivial, ?_⟩
        try simp only [Act.put, List.setIfInBounds_toArray, List.set_cons_zero, List.set_cons_succ]
        refine wpAnyH_one (i := 8) (by kernel_rfl) rfl ?_
        refine wpList_appT (some 19) rfl rfl (.tmp 12) (.tmp 18) rfl w1.heap.size (some ⟨w1.heap.size, 0, none⟩) 0 0 [] rfl oL (some ⟨x, 0, none⟩) k c _ (R.take k) rfl rd1 (by omega) b1.size ?_
        intro A2 n2 c2 w2 o2 g2
        have b2 := b1.grown g2 b1.size (fun g hg => oL.own_ge g hg)
        have kk2 : Kept (fun j => j = w1.heap.size) (W0.alloc (.cells #[] 71)) w2 := Kept.grown g2 (fun j hj => by simp [Value.ownBlock] at hj; omega)
        have c12 : w2.cell? ⟨q, 1, none⟩ = some (.slice (some ⟨x, 0, none⟩) n c) := (World.cell?_of_block (a := ⟨q, 1, none⟩) (kk2.block q (by omega) (by omega))).trans c1'
        have rd2' : RdT w2 w2.heap.size (cutT (some ⟨x, 0, none⟩) c m) (n - m) (c - m) (R.drop m) := by
          refine ⟨rd2.len, rd2.cap, rd2.max, rd2.nil0, fun i hi => ?_⟩
          obtain ⟨b, o, e, hb, h1, h2⟩ := rd2.at_ i hi
          have hbx : b = x := by
            unfold cutT at e
            split at e
            · injection e with e
              injection e with e _
              exact e.symm
            · rw [Option.map_some, Addr.add_mid] at e
              injection e with e
              injection e with e _
              exact e.symm
          have eb := kk2.block b hb (by omega)
          exact ⟨b, o, e, by have := kk2.size; omega, (World.cell?_of_block (a := ⟨b, o + i * 2, none⟩) eb).trans h1, (World.cell?_of_block (a := ⟨b, o + (i * 2 + 1), none⟩) eb).trans h2⟩
        have n2k := o2.len
        rw [List.nil_append] at o2
        have hn2 : n2 ≤ 16384 := by rw [List.nil_append, rd1.len] at n2k; omega
        clear oL g2 kk2 rd1 rd2 c1 c1' n2k
        go_wp2
        refine ⟨trivial, ?_⟩
        try simp only [Act.put, List.setIfInBounds_toArray, List.set_cons_zero, List.set_cons_succ]
        refine wpAnyH_one (i := 16) (by kernel_rfl) rfl ?_
        refine wpList_appT (some 27) rfl rfl (.tmp 19) (.tmp 26) rfl w1.heap.size A2 n2 c2 (R.take k) rfl o2 (cutT (some ⟨x, 0, none⟩) c m) (n - m) (c - m) _ (R.drop m) rfl rd2' (by omega) b2.size ?_
        intro A3 n3 c3 w3 o3 g3
        have b3 := b2.grown g3 b2.size (fun g hg => o2.own_ge g hg)
        have e1 : ∀ ad, A2 = some ad → ad.block ≠ q := fun ad e => by have := (o2.block ad e).1; omega
        have c13 : w3.cell? ⟨q, 1, none⟩ = some (.slice (some ⟨x, 0, none⟩) n c) := (b3.cell (p := ⟨q, 1, none⟩) hq).trans c1w
        have f13 : w3.frozen? ⟨q, 1, none⟩ = false := (b3.frozen (p := ⟨q, 1, none⟩) hq).trans f1w
        have G := Lib.hid (hF.out w3 A3 n3 c3 b3 o3)
        clear o2 g3 rd2' b2 e1 b3 o3 c12
        go_wp2
        refine ⟨trivial, ?_⟩
        try simp only [Act.put, List.setIfInBounds_toArray, List.set_cons_zero, List.set_cons_succ]
        refine wpAnyH_at (i := 17) (some 28) (v := ?v17z30) rfl rfl (by kernel_rfl) (by kernel_rfl) (by kernel_rfl) (fun _ _ _ h => h) (Or.inl ⟨by rfl, ?y17z30⟩) (by assumption) ?r17z30
        case y17z30 =>
          intro w9 hSw
          clear hSw
          go_simp
          all_goals with_reducible rfl
        simp only [Act.put, List.setIfInBounds_toArray, List.set_cons_zero, List.set_cons_succ]
        refine wpAnyH_at (i := 18) (some 29) (v := ?v18z31) rfl rfl (by kernel_rfl) (by kernel_rfl) (by kernel_rfl) (fun _ _ _ h => h) (Or.inl ⟨by rfl, ?y18z31⟩) (by assumption) ?r18z31
        case y18z31 =>
          intro w9 hSw
          clear hSw
          go_simp
          all_goals with_reducible rfl
        simp only [Act.put, List.setIfInBounds_toArray, List.set_cons_zero, List.set_cons_succ]
        refine wpAnyH_one (i := 19) (by kernel_rfl) rfl ?_
        go_wp2
        refine ⟨trivial, ?_⟩
        try simp only [Act.put, List.setIfInBounds_toArray, List.set_cons_zero, List.set_cons_succ]
        refine wpAnyH_done (by kernel_rfl) ?_ _
        go_wp2
        go_ret
        exact ⟨rfl, G.out⟩
    · skip
      go_wp2
      refine ⟨trivial, ?_⟩
      try simp only [Act.put, List.setIfInBounds_toArray, List.set_cons_zero, List.set_cons_succ]
      refine wpAnyH_at (i := 15) (some 26) (v := .slice (cutT (some ⟨x, 0, none⟩) c m) (n - m) (c - m)) rfl rfl (by kernel_rfl) (by kernel_rfl) (by kernel_rfl) (fun _ _ _ h => h) (Or.inl ⟨by rfl, ?y15z32⟩) (by assumption) ?r15z32
      case y15z32 =>
        intro w9 hSw
        clear hSw
        by_cases hq : c = m
        · rw [cutT_eq hq]
          subst hq
          go_simp
        · rw [cutT_ne hq]
          go_simp
      simp only [Act.put, List.setIfInBounds_toArray, List.set_cons_zero, List.set_cons_succ]
      refine wpAnyH_two (i := 1) (j := 5) (by kernel_rfl) rfl rfl ?_ ?_
      · skip
        go_wp2
        refine ⟨trivial, ?_⟩
        try simp only [Act.put, List.setIfInBounds_toArray, List.set_cons_zero, List.set_cons_succ]
        refine wpAnyH_one (i := 5) (by kernel_rfl) rfl ?_
        go_wp2
        refine ⟨trivial, ?_⟩
        try simp only [Act.put, List.setIfInBounds_toArray, List.set_cons_zero, List.set_cons_succ]
        refine wpAnyH_at (i := 7) (some 18) (v := ?v7z33) rfl rfl (by kernel_rfl) (by kernel_rfl) (by kernel_rfl) (fun _ _ _ h => h) (Or.inl ⟨by rfl, ?y7z33⟩) (by assumption) ?r7z33
        case y7z33 =>
          intro w9 hSw
          clear hSw
          go_simp
          all_goals with_reducible rfl
        simp only [Act.put, List.setIfInBounds_toArray, List.set_cons_zero, List.set_cons_succ]
        refine wpAnyH_one (i := 8) (by kernel_rfl) rfl ?_
        refine wpList_appT (some 19) rfl rfl (.tmp 12) (.tmp 18) rfl w1.heap.size (some ⟨w1.heap.size, 0, none⟩) 0 0 [] rfl oL (some ⟨x, 0, none⟩) k c _ (R.take k) rfl rd1 (by omega) b1.size ?_
        intro A2 n2 c2 w2 o2 g2
        have b2 := b1.grown g2 b1.size (fun g hg => oL.own_ge g hg)
        have kk2 : Kept (fun j => j = w1.heap.size) (W0.alloc (.cells #[] 71)) w2 := Kept.grown g2 (fun j hj => by simp [Value.ownBlock] at hj; omega)
        have c12 : w2.cell? ⟨q, 1, none⟩ = some (.slice (some ⟨x, 0, none⟩) n c) := (World.cell?_of_block (a := ⟨q, 1, none⟩) (kk2.block q (by omega) (by omega))).trans c1'
        have rd2' : RdT w2 w2.heap.size (cutT (some ⟨x, 0, none⟩) c m) (n - m) (c - m) (R.drop m) := by
          refine ⟨rd2.len, rd2.cap, rd2.max, rd2.nil0, fun i hi => ?_⟩
          obtain ⟨b, o, e, hb, h1, h2⟩ := rd2.at_ i hi
          have hbx : b = x := by
            unfold cutT at e
            split at e
            · injection e with e
              injection e with e _
              exact e.symm
            · rw [Option.map_some, Addr.add_mid] at e
              injection e with e
              injection e with e _
              exact e.symm
          have eb := kk2.block b hb (by omega)
          exact ⟨b, o, e, by have := kk2.size; omega, (World.cell?_of_block (a := ⟨b, o + i * 2, none⟩) eb).trans h1, (World.cell?_of_block (a := ⟨b, o + (i * 2 + 1), none⟩) eb).trans h2⟩
        have n2k := o2.len
        rw [List.nil_append] at o2
        have hn2 : n2 ≤ 16384 := by rw [List.nil_append, rd1.len] at n2k; omega
        clear oL g2 kk2 rd1 rd2 c1 c1' n2k
        go_wp2
        refine ⟨trivial, ?_⟩
        try simp only [Act.put, List.setIfInBounds_toArray, List.set_cons_zero, List.set_cons_succ]
        refine wpAnyH_one (i := 16) (by kernel_rfl) rfl ?_
        refine wpList_appT (some 27) rfl rfl (.tmp 19) (.tmp 26) rfl w1.heap.size A2 n2 c2 (R.take k) rfl o2 (cutT (some ⟨x, 0, none⟩) c m) (n - m) (c - m) _ (R.drop m) rfl rd2' (by omega) b2.size ?_
        intro A3 n3 c3 w3 o3 g3
        have b3 := b2.grown g3 b2.size (fun g hg => o2.own_ge g hg)
        have e1 : ∀ ad, A2 = some ad → ad.block ≠ q := fun ad e => by have := (o2.block ad e).1; omega
        have c13 : w3.cell? ⟨q, 1, none⟩ = some (.slice (some ⟨x, 0, none⟩) n c) := (b3.cell (p := ⟨q, 1, none⟩) hq).trans c1w
        have f13 : w3.frozen? ⟨q, 1, none⟩ = false := (b3.frozen (p := ⟨q, 1, none⟩) hq).trans f1w
        have G := Lib.hid (hF.out w3 A3 n3 c3 b3 o3)
        clear o2 g3 rd2' b2 e1 b3 o3 c12
        go_wp2
        refine ⟨trivial, ?_⟩
        try simp only [Act.put, List.setIfInBounds_toArray, List.set_cons_zero, List.set_cons_succ]
        refine wpAnyH_at (i := 17) (some 28) (v := ?v17z34) rfl rfl (by kernel_rfl) (by kernel_rfl) (by kernel_rfl) (fun _ _ _ h => h) (Or.inl ⟨by rfl, ?y17z34⟩) (by assumption) ?r17z34
        case y17z34 =>
          intro w9 hSw
          clear hSw
          go_simp
          all_goals with_reducible rfl
        simp only [Act.put, List.setIfInBounds_toArray, List.set_cons_zero, List.set_cons_succ]
        refine wpAnyH_at (i := 18) (some 29) (v := ?v18z35) rfl rfl (by kernel_rfl) (by kernel_rfl) (by kernel_rfl) (fun _ _ _ h => h) (Or.inl ⟨by rfl, ?y18z35⟩) (by assumption) ?r18z35
        case y18z35 =>
          intro w9 hSw
          clear hSw
          go_simp
          all_goals with_reducible rfl
        simp only [Act.put, List.setIfInBounds_toArray, List.set_cons_zero, List.set_cons_succ]
        refine wpAnyH_one (i := 19) (by kernel_rfl) rfl ?_
        go_wp2
        refine ⟨trivial, ?_⟩
        try simp only [Act.put, List.setIfInBounds_toArray, List.set_cons_zero, List.set_cons_succ]
        refine wpAnyH_done (by kernel_rfl) ?_ _
        go_wp2
        go_ret
        exact ⟨rfl, G.out⟩
      · skip
        go_wp2
        refine ⟨trivial, ?_⟩
        try simp only [Act.put, List.setIfInBounds_toArray, List.set_cons_zero, List.set_cons_succ]
        refine wpAnyH_at (i := 7) (some 18) (v := ?v7z36) rfl rfl (by kernel_rfl) (by kernel_rfl) (by kernel_rfl) (fun _ _ _ h => h) (Or.inl ⟨by rfl, ?y7z36⟩) (by assumption) ?r7z36
        case y7z36 =>
          intro w9 hSw
          clear hSw
          go_simp
          all_goals with_reducible rfl
        simp only [Act.put, List.setIfInBounds_toArray, List.set_cons_zero, List.set_cons_succ]
        refine wpAnyH_one (i := 1) (by kernel_rfl) rfl ?_
        go_wp2
        refine ⟨trivial, ?_⟩
        try simp only [Act.put, List.setIfInBounds_toArray, List.set_cons_zero, List.set_cons_succ]
        refine wpAnyH_one (i := 8) (by kernel_rfl) rfl ?_
        refine wpList_appT (some 19) rfl rfl (.tmp 12) (.tmp 18) rfl w1.heap.size (some ⟨w1.heap.size, 0, none⟩) 0 0 [] rfl oL (some ⟨x, 0, none⟩) k c _ (R.take k) rfl rd1 (by omega) b1.size ?_
        intro A2 n2 c2 w2 o2 g2
        have b2 := b1.grown g2 b1.size (fun g hg => oL.own_ge g hg)
        have kk2 : Kept (fun j => j = w1.heap.size) (W0.alloc (.cells #[] 71)) w2 := Kept.grown g2 (fun j hj => by simp [Value.ownBlock] at hj; omega)
        have c12 : w2.cell? ⟨q, 1, none⟩ = some (.slice (some ⟨x, 0, none⟩) n c) := (World.cell?_of_block (a := ⟨q, 1, none⟩) (kk2.block q (by omega) (by omega))).trans c1'
        have rd2' : RdT w2 w2.heap.size (cutT (some ⟨x, 0, none⟩) c m) (n - m) (c - m) (R.drop m) := by
          refine ⟨rd2.len, rd2.cap, rd2.max, rd2.nil0, fun i hi => ?_⟩
          obtain ⟨b, o, e, hb, h1, h2⟩ := rd2.at_ i hi
          have hbx : b = x := by
            unfold cutT at e
            split at e
            · injection e with e
              injection e with e _
              exact e.symm
            · rw [Option.map_some, Addr.add_mid] at e
              injection e with e
              injection e with e _
              exact e.symm
          have eb := kk2.block b hb (by omega)
          exact ⟨b, o, e, by have := kk2.size; omega, (World.cell?_of_block (a := ⟨b, o + i * 2, none⟩) eb).trans h1, (World.cell?_of_block (a := ⟨b, o + (i * 2 + 1), none⟩) eb).trans h2⟩
        have n2k := o2.len
        rw [List.nil_append] at o2
        have hn2 : n2 ≤ 16384 := by rw [List.nil_append, rd1.len] at n2k; omega
        clear oL g2 kk2 rd1 rd2 c1 c1' n2k
        go_wp2
        refine ⟨trivial, ?_⟩
        try simp only [Act.put, List.setIfInBounds_toArray, List.set_cons_zero, List.set_cons_succ]
        refine wpAnyH_one (i := 16) (by kernel_rfl) rfl ?_
        refine wpList_appT (some 27) rfl rfl (.tmp 19) (.tmp 26) rfl w1.heap.size A2 n2 c2 (R.take k) rfl o2 (cutT (some ⟨x, 0, none⟩) c m) (n - m) (c - m) _ (R.drop m) rfl rd2' (by omega) b2.size ?_
        intro A3 n3 c3 w3 o3 g3
        have b3 := b2.grown g3 b2.size (fun g hg => o2.own_ge g hg)
        have e1 : ∀ ad, A2 = some ad → ad.block ≠ q := fun ad e => by have := (o2.block ad e).1; omega
        have c13 : w3.cell? ⟨q, 1, none⟩ = some (.slice (some ⟨x, 0, none⟩) n c) := (b3.cell (p := ⟨q, 1, none⟩) hq).trans c1w
        have f13 : w3.frozen? ⟨q, 1, none⟩ = false := (b3.frozen (p := ⟨q, 1, none⟩) hq).trans f1w
        have G := Lib.hid (hF.out w3 A3 n3 c3 b3 o3)
        clear o2 g3 rd2' b2 e1 b3 o3 c12
        go_wp2
        refine ⟨trivial, ?_⟩
        try simp only [Act.put, List.setIfInBounds_toArray, List.set_cons_zero, List.set_cons_succ]
        refine wpAnyH_at (i := 17) (some 28) (v := ?v17z37) rfl rfl (by kernel_rfl) (by kernel_rfl) (by kernel_rfl) (fun _ _ _ h => h) (Or.inl ⟨by rfl, ?y17z37⟩) (by assumption) ?r17z37
        case y17z37 =>
          intro w9 hSw
          clear hSw
          go_simp
          all_goals with_reducible rfl
        simp only [Act.put, List.setIfInBounds_toArray, List.set_cons_zero, List.set_cons_succ]
        refine wpAnyH_at (i := 18) (some 29) (v := ?v18z38) rfl rfl (by kernel_rfl) (by kernel_rfl) (by kernel_rfl) (fun _ _ _ h => h) (Or.inl ⟨by rfl, ?y18z38⟩) (by assumption) ?r18z38
        case y18z38 =>
          intro w9 hSw
          clear hSw
          go_simp
          all_goals with_reducible rfl
        simp only [Act.put, List.setIfInBounds_toArray, List.set_cons_zero, List.set_cons_succ]
        refine wpAnyH_one (i := 19) (by kernel_rfl) rfl ?_
        go_wp2
        refine ⟨trivial, ?_⟩
        try simp only [Act.put, List.setIfInBounds_toArray, List.set_cons_zero, List.set_cons_succ]
        refine wpAnyH_done (by kernel_rfl) ?_ _
        go_wp2
        go_ret
        exact ⟨rfl, G.out⟩
end
end Go.Proofs.Ytalojeblemhihaa
