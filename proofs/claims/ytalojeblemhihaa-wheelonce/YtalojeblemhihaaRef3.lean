/-
  Contracts of the document's wheel: Set.
-/
import Derived.Test.YtalojeblemhihaaRef2
namespace Go.Proofs.Ytalojeblemhihaa
open Go.RowKit
set_option linter.unusedVariables false

theorem zero71 (w : World) : (zeroValue 71).run Try.prog w = .ok (.agg #[.int .i64 0, .int .u64 0]) w := by kernel_rfl
theorem drop_getD {R : List Tm} {k : Nat} (hk : k < R.length) : R.drop k = R.getD k (0, 0) :: R.drop (k + 1) := by
  rw [List.drop_eq_getElem_cons hk]
  simp [List.getD, List.getElem?_eq_getElem hk]
/-- The rows that Set lays anew, k of the former ones being looked at. -/
def Mid (x : Tm) (R : List Tm) (k : Nat) (dn : Bool) (O : List Tm) : Prop := insT x R = O ++ (if dn then R.drop k else insT x (R.drop k))
section
variable {x : Tm} {R O : List Tm} {k : Nat}
theorem Mid.start (x : Tm) (R : List Tm) : Mid x R 0 false [] := by simp [Mid]
theorem Mid.len {dn : Bool} (h : Mid x R k dn O) : O.length ≤ R.length + 1 := by
  have := congrArg List.length h
  rw [len_ins, List.length_append] at this
  omega
theorem Mid.next (h : Mid x R k true O) (hk : k < R.length) : Mid x R (k + 1) true (O ++ [R.getD k (0, 0)]) := by
  unfold Mid at *
  rw [h]
  simp only [if_true]
  rw [drop_getD hk]
  simp
theorem Mid.here (h : Mid x R k false O) (hk : k < R.length) (hx : x.2 < (R.getD k (0, 0)).2 ∨ (x.2 = (R.getD k (0, 0)).2 ∧ x.1 < (R.getD k (0, 0)).1)) : Mid x R (k + 1) true ((O ++ [x]) ++ [R.getD k (0, 0)]) := by
  unfold Mid at *
  rw [h]
  simp only [Bool.false_eq_true, if_false, if_true]
  rw [drop_getD hk, insT, if_pos hx]
  simp
theorem Mid.past (h : Mid x R k false O) (hk : k < R.length) (hx : ¬ (x.2 < (R.getD k (0, 0)).2 ∨ (x.2 = (R.getD k (0, 0)).2 ∧ x.1 < (R.getD k (0, 0)).1))) : Mid x R (k + 1) false (O ++ [R.getD k (0, 0)]) := by
  unfold Mid at *
  rw [h]
  simp only [Bool.false_eq_true, if_false]
  rw [drop_getD hk, insT, if_neg hx]
  simp
theorem Mid.end_yes (h : Mid x R k true O) (hk : k = R.length) : O = insT x R := by
  subst hk
  unfold Mid at h
  simp at h
  exact h.symm
theorem Mid.end_no (h : Mid x R k false O) (hk : k = R.length) : O ++ [x] = insT x R := by
  subst hk
  unfold Mid at h
  simp [insT] at h
  exact h.symm
end
section
variable {w : World} {q base now : Nat} {R : List Tm}
set_option maxRecDepth 100000 in
set_option maxHeartbeats 2000000 in
theorem rset_any (h : RwAt w q base now R) (t : Int) (hw : wfI t) (d : Nat) (hd : d < 18446744073709551616) : Calls Try.prog 24 #[ptr q, .int .i64 t, .int .u64 d] w fun e w' => e = .returned (.int .i64 (setE t d R)) ∧ RwAt w' q base now (setR t d R) ∧ Kept (· = q) w w' := by
  by_cases hbig : 4611686018427387904 < d
  · have G : Hid ((11 : Int) = setE t d R ∧ RwAt w q base now (setR t d R) ∧ Kept (· = q) w w) := Lib.hid (by
      have e : setE t d R = 11 := by unfold setE; rw [if_pos hbig]
      exact ⟨e.symm, by unfold setR; rw [e]; exact h, Kept.refl _ _⟩)
    have hbi : (4611686018427387904 : Int) < (d : Int) := by omega
    clear h
    go_enter Try.func24, Try.ntmps24
    go_wp2
    go_ret
    exact ⟨by rw [← G.out.1]; rfl, G.out.2⟩
  have hbi : ¬ (4611686018427387904 : Int) < (d : Int) := by omega
  have F := find_any h t
  have C := rcancel_any h t
  obtain ⟨A, n, c, h0⟩ := h
  have c1 := h0.c1
  have hl := h0.rows.len
  have hle := h0.len
  obtain ⟨f, hf, hfb⟩ : ∃ f, fndT t R = f ∧ (f < 0 ↔ hasT t R = false) := by
    refine ⟨_, rfl, ?_⟩
    rcases fndT_cases t R with ⟨h1, h2⟩ | ⟨k, h1, h2, h3, h4⟩
    · rw [h1, h2]; simp
    · rw [h2, h4]; simp
  rw [hf] at F
  by_cases hfull : hasT t R = false ∧ R.length = 16384
  · have G : Hid ((18 : Int) = setE t d R ∧ RwAt w q base now (setR t d R) ∧ Kept (· = q) w w) := Lib.hid (by
      have e : setE t d R = 18 := by unfold setE; rw [if_neg hbig, if_pos hfull]
      exact ⟨e.symm, by unfold setR; rw [e]; exact ⟨A, n, c, h0⟩, Kept.refl _ _⟩)
    have hf0 := hfb.2 hfull.1
    have hn : (n : Int) = 16384 := by omega
    clear h0 hf hfb
    go_enter Try.func24, Try.ntmps24
    go_wp2_with fail
    refine F.mono ?_
    rintro ev w1 ⟨rfl, rfl⟩
    go_wp2
    go_ret
    exact ⟨by rw [← G.out.1]; rfl, G.out.2⟩
  have e0 : setE t d R = 0 := setE_mk (by omega) hfull
  have e1 : setR t d R = setT t d R := by unfold setR; rw [if_pos e0]
  have hok2 : Ok (setT t d R) := h0.ok.set hw (by omega)
  have hlen2 : (setT t d R).length ≤ 16384 := by have := setR_len (t := t) (d := d) h0.ok h0.len; rwa [e1] at this
  rw [e0, e1]
  have e2 : setT t d R = insT (t, d) (delT t R) := rfl
  rw [e2] at hok2 hlen2
  rw [e2]
  have hdl := len_delT_le (t := t) (R := R)
  generalize delT t R = R1 at *
  have hgd : ¬ (f < 0 ∧ (n : Int) = 16384) := fun ⟨a, b⟩ => hfull ⟨hfb.1 a, by omega⟩
  have z71 := zero71
  clear h0 hf hfb hfull e0 e1 e2
  have hparts : f < 0 ∨ ¬ f < 0 := by omega
  rcases hparts with hf0 | hf0
  · have hn : ¬ (n : Int) = 16384 := fun e => hgd ⟨hf0, e⟩
    clear hgd
    go_enter Try.func24, Try.ntmps24
    go_wp2_with fail
    refine F.mono ?_
    rintro ev w1 ⟨rfl, rfl⟩
    go_wp2_with fail
    refine C.mono ?_
    rintro ev w2 ⟨rfl, h2, k2⟩
    clear F C c1
    obtain ⟨A1, n1, cc1, h2⟩ := h2
    have ba := alloc_below w2 (.cells #[] 71)
    have oL := OutT.lit0 w2 w2.heap.size (Nat.le_refl _)
    have hn1 := h2.rows.len
    have hn1b : n1 ≤ 16384 := by have := h2.len; omega
    have cq := h2.c1
    have fq := h2.fr 1
    go_wp2
    go_loopw [7, 8, 9] (fun v b i wr => ∃ (k : Nat) (A n c : _) (dn : Bool) (O : List Tm), k ≤ n1 ∧ i = .int .i64 k ∧ b = .bool dn ∧ v = .slice A n c ∧ OutT wr w2.heap.size A n c O ∧ Mid (t, d) R1 k dn O ∧ Below w2.heap.size w2 wr) (fun _ _ i _ => n1 - (intOf i).toNat)
    case atStart => exact ⟨0, _, 0, 0, false, [], Nat.zero_le _, rfl, rfl, rfl, oL, Mid.start _ _, ba⟩
    case round =>
      obtain ⟨k, A, n, c, dn, O, hk, rfl, rfl, rfl, ho, hM, hb⟩ := hrel
      clear oL ba
      have hW := h2.new hb
      have c1 := hW.c1
      have hOl := hM.len
      have hol := ho.len
      by_cases hkn : k < n1
      · have hki : (k : Int) < (n1 : Int) := by omega
        obtain ⟨x, rfl, hxb, hxl, x0, x1⟩ := hW.rows.at0 hkn
        have hkl : k < R1.length := by omega
        cases dn with
        | true =>
          have hM' := hM.next hkl
          generalize R1.getD k (0, 0) = y at *
          obtain ⟨a, b⟩ := y
          have x0' := x0
          have x1' := x1
          have bx := alloc_below wr (.cells #[.int .i64 a, .int .u64 (b : Nat)] 71)
          have rdY := RdT.lit (wr.alloc (.cells #[.int .i64 a, .int .u64 (b : Nat)] 71)) a b
          rw [World.size_alloc] at rdY
          have by_ := alloc_below (wr.alloc (.cells #[.int .i64 a, .int .u64 (b : Nat)] 71)) (.cells #[.int .i64 a, .int .u64 (b : Nat)] 71)
          have ho1 := (ho.below bx (Nat.le_refl _)).below by_ (Nat.le_refl _)
          have b1 := (hb.trans (bx.mono hb.size)).trans (by_.mono (Nat.le_trans hb.size bx.size))
          clear ho hb bx by_ x0' x1' hW hM
          go_wp2_with (first | (at_builtin; refine wpList_appT (some 74) rfl rfl (.tmp 71) (.tmp 73) rfl w2.heap.size A n c O rfl ho1 (some ⟨(wr.heap.size + 1), 0, none⟩) 1 1 _ [(a, b)] rfl rdY (by omega) b1.size ?_))
          intro A3 n3 c3 w3 o3 g3
          have b3 := b1.grown g3 b1.size (fun g hg => ho1.own_ge g hg)
          clear g3
          go_wp2
          go_roundw
          case rel => exact ⟨k + 1, A3, n3, c3, true, _, by omega, by go_num, rfl, rfl, o3, hM', b3⟩
          case measure => simp [intOf]; omega
        | false =>
          have hHere := fun e => hM.here hkl e
          have hPast := fun e => hM.past hkl e
          generalize R1.getD k (0, 0) = y at *
          obtain ⟨a, b⟩ := y
          have x0' := x0
          have x1' := x1
          have bx := alloc_below wr (.cells #[.int .i64 a, .int .u64 (b : Nat)] 71)
          simp only at hHere hPast
          have rdY := RdT.lit (wr.alloc (.cells #[.int .i64 a, .int .u64 (b : Nat)] 71)) a b
          rw [World.size_alloc] at rdY
          have by_ := alloc_below (wr.alloc (.cells #[.int .i64 a, .int .u64 (b : Nat)] 71)) (.cells #[.int .i64 a, .int .u64 (b : Nat)] 71)
          by_cases h1 : d < b
          · have h1i : (d : Int) < (b : Int) := by omega
            have hM' := hHere (.inl h1)
            clear hHere hPast h1
            have rdX := RdT.lit (wr.alloc (.cells #[.int .i64 a, .int .u64 (b : Nat)] 71)) t d
            rw [World.size_alloc] at rdX
            have bq := alloc_below (wr.alloc (.cells #[.int .i64 a, .int .u64 (b : Nat)] 71)) (.cells #[.int .i64 t, .int .u64 (d : Nat)] 71)
            have ho1 := (ho.below bx (Nat.le_refl _)).below bq (Nat.le_refl _)
            have b1 := (hb.trans (bx.mono hb.size)).trans (bq.mono (Nat.le_trans hb.size bx.size))
            have y0 : ((wr.alloc (.cells #[.int .i64 a, .int .u64 (b : Nat)] 71)).alloc (.cells #[.int .i64 t, .int .u64 (d : Nat)] 71)).heap[wr.heap.size]? = some (.cells #[.int .i64 a, .int .u64 (b : Nat)] 71) := (bq.block wr.heap.size (by simp)).trans (heap_alloc_new wr _)
            have hna : ∀ ad, A = some ad → ad.block ≠ wr.heap.size := fun ad e => by
              obtain ⟨_, cur, h9⟩ := ho.block ad e
              have := (Array.getElem?_eq_some_iff.1 h9).1
              omega
            clear ho hb bx bq x0' x1' hW hM
            go_wp2_with (first | (at_builtin; refine wpList_appT (some 70) rfl rfl (.tmp 65) (.tmp 69) rfl w2.heap.size A n c O rfl ho1 (some ⟨wr.heap.size + 1, 0, none⟩) 1 1 _ [(t, d)] rfl rdX (by omega) b1.size ?_))
            intro A4 n4 c4 w4 o4 g4
            have b4 := b1.grown g4 b1.size (fun g hg => ho1.own_ge g hg)
            have y4 : w4.heap[wr.heap.size]? = some (.cells #[.int .i64 a, .int .u64 (b : Nat)] 71) := (g4.block wr.heap.size (by simp; omega) (fun e => by
              cases A with
              | none => simp [Value.ownBlock] at e
              | some ad => exact hna ad rfl (by simpa [Value.ownBlock] using e.symm))).trans y0
            have y40 : w4.cell? ⟨wr.heap.size, 0, none⟩ = some (.int .i64 a) := by rw [cell_of_row _ _ _ _ _ _ y4]; rfl
            have y41 : w4.cell? ⟨wr.heap.size, 1, none⟩ = some (.int .u64 (b : Nat)) := by rw [cell_of_row _ _ _ _ _ _ y4]; rfl
            have hn4 := o4.len
            rw [List.length_append] at hn4
            simp only [List.length_singleton] at hn4
            have rdY' := RdT.lit w4 a b
            have by4 := alloc_below w4 (.cells #[.int .i64 a, .int .u64 (b : Nat)] 71)
            have o5 := o4.below by4 (Nat.le_refl _)
            have b5 := b4.trans (by4.mono b4.size)
            clear g4 y4 y0 b4 by4 o4 ho1 b1 rdX rdY by_ hna
            go_wp2_with (first | (at_builtin; refine wpList_appT (some 74) rfl rfl (.tmp 71) (.tmp 73) rfl w2.heap.size A4 n4 c4 (O ++ [(t, d)]) rfl o5 (some ⟨w4.heap.size, 0, none⟩) 1 1 _ [(a, b)] rfl rdY' (by omega) b5.size ?_))
            intro A3 n3 c3 w3 o3 g3
            have b3 := b5.grown g3 b5.size (fun g hg => o5.own_ge g hg)
            clear g3
            go_wp2
            go_roundw
            case rel => exact ⟨k + 1, A3, n3, c3, true, _, by omega, by go_num, rfl, rfl, o3, hM', b3⟩
            case measure => simp [intOf]; omega
          · have h1i : ¬ (d : Int) < (b : Int) := by omega
            by_cases h2 : d = b
            · subst h2
              by_cases h3 : t < a
              · have hM' := hHere (.inr ⟨rfl, h3⟩)
                clear hHere hPast h1
                have rdX := RdT.lit (wr.alloc (.cells #[.int .i64 a, .int .u64 (d : Nat)] 71)) t d
                rw [World.size_alloc] at rdX
                have bq := alloc_below (wr.alloc (.cells #[.int .i64 a, .int .u64 (d : Nat)] 71)) (.cells #[.int .i64 t, .int .u64 (d : Nat)] 71)
                have ho1 := (ho.below bx (Nat.le_refl _)).below bq (Nat.le_refl _)
                have b1 := (hb.trans (bx.mono hb.size)).trans (bq.mono (Nat.le_trans hb.size bx.size))
                have y0 : ((wr.alloc (.cells #[.int .i64 a, .int .u64 (d : Nat)] 71)).alloc (.cells #[.int .i64 t, .int .u64 (d : Nat)] 71)).heap[wr.heap.size]? = some (.cells #[.int .i64 a, .int .u64 (d : Nat)] 71) := (bq.block wr.heap.size (by simp)).trans (heap_alloc_new wr _)
                have hna : ∀ ad, A = some ad → ad.block ≠ wr.heap.size := fun ad e => by
                  obtain ⟨_, cur, h9⟩ := ho.block ad e
                  have := (Array.getElem?_eq_some_iff.1 h9).1
                  omega
                clear ho hb bx bq x0' x1' hW hM
                go_wp2_with (first | (at_builtin; refine wpList_appT (some 70) rfl rfl (.tmp 65) (.tmp 69) rfl w2.heap.size A n c O rfl ho1 (some ⟨wr.heap.size + 1, 0, none⟩) 1 1 _ [(t, d)] rfl rdX (by omega) b1.size ?_))
                intro A4 n4 c4 w4 o4 g4
                have b4 := b1.grown g4 b1.size (fun g hg => ho1.own_ge g hg)
                have y4 : w4.heap[wr.heap.size]? = some (.cells #[.int .i64 a, .int .u64 (d : Nat)] 71) := (g4.block wr.heap.size (by simp; omega) (fun e => by
                  cases A with
                  | none => simp [Value.ownBlock] at e
                  | some ad => exact hna ad rfl (by simpa [Value.ownBlock] using e.symm))).trans y0
                have y40 : w4.cell? ⟨wr.heap.size, 0, none⟩ = some (.int .i64 a) := by rw [cell_of_row _ _ _ _ _ _ y4]; rfl
                have y41 : w4.cell? ⟨wr.heap.size, 1, none⟩ = some (.int .u64 (d : Nat)) := by rw [cell_of_row _ _ _ _ _ _ y4]; rfl
                have hn4 := o4.len
                rw [List.length_append] at hn4
                simp only [List.length_singleton] at hn4
                have rdY' := RdT.lit w4 a d
                have by4 := alloc_below w4 (.cells #[.int .i64 a, .int .u64 (d : Nat)] 71)
                have o5 := o4.below by4 (Nat.le_refl _)
                have b5 := b4.trans (by4.mono b4.size)
                clear g4 y4 y0 b4 by4 o4 ho1 b1 rdX rdY by_ hna
                go_wp2_with (first | (at_builtin; refine wpList_appT (some 74) rfl rfl (.tmp 71) (.tmp 73) rfl w2.heap.size A4 n4 c4 (O ++ [(t, d)]) rfl o5 (some ⟨w4.heap.size, 0, none⟩) 1 1 _ [(a, d)] rfl rdY' (by omega) b5.size ?_))
                intro A3 n3 c3 w3 o3 g3
                have b3 := b5.grown g3 b5.size (fun g hg => o5.own_ge g hg)
                clear g3
                go_wp2
                go_roundw
                case rel => exact ⟨k + 1, A3, n3, c3, true, _, by omega, by go_num, rfl, rfl, o3, hM', b3⟩
                case measure => simp [intOf]; omega
              · have hM' := hPast (by omega)
                clear hHere hPast h1
                have ho1 := (ho.below bx (Nat.le_refl _)).below by_ (Nat.le_refl _)
                have b1 := (hb.trans (bx.mono hb.size)).trans (by_.mono (Nat.le_trans hb.size bx.size))
                clear ho hb bx by_ x0' x1' hW hM
                go_wp2_with (first | (at_builtin; refine wpList_appT (some 74) rfl rfl (.tmp 71) (.tmp 73) rfl w2.heap.size A n c O rfl ho1 (some ⟨(wr.heap.size + 1), 0, none⟩) 1 1 _ [(a, d)] rfl rdY (by omega) b1.size ?_))
                intro A3 n3 c3 w3 o3 g3
                have b3 := b1.grown g3 b1.size (fun g hg => ho1.own_ge g hg)
                clear g3
                go_wp2
                go_roundw
                case rel => exact ⟨k + 1, A3, n3, c3, false, _, by omega, by go_num, rfl, rfl, o3, hM', b3⟩
                case measure => simp [intOf]; omega
            · have h2j : ¬ (d : Int) = (b : Int) := by omega
              have h2i : ((d : Int) == (b : Int)) = false := by simpa using h2j
              have hM' := hPast (by omega)
              clear hHere hPast h1 h2
              have ho1 := (ho.below bx (Nat.le_refl _)).below by_ (Nat.le_refl _)
              have b1 := (hb.trans (bx.mono hb.size)).trans (by_.mono (Nat.le_trans hb.size bx.size))
              clear ho hb bx by_ x0' x1' hW hM
              go_wp2_with (first | (at_builtin; refine wpList_appT (some 74) rfl rfl (.tmp 71) (.tmp 73) rfl w2.heap.size A n c O rfl ho1 (some ⟨(wr.heap.size + 1), 0, none⟩) 1 1 _ [(a, b)] rfl rdY (by omega) b1.size ?_))
              intro A3 n3 c3 w3 o3 g3
              have b3 := b1.grown g3 b1.size (fun g hg => ho1.own_ge g hg)
              clear g3
              go_wp2
              go_roundw
              case rel => exact ⟨k + 1, A3, n3, c3, false, _, by omega, by go_num, rfl, rfl, o3, hM', b3⟩
              case measure => simp [intOf]; omega
      · obtain rfl : k = n1 := by omega
        have hE : Hid (∀ w3 A3 n3 c3, Below w2.heap.size w2 w3 → OutT w3 w2.heap.size A3 n3 c3 (insT (t, d) R1) → RwAt (w3.setCell ⟨q, 1, none⟩ (.slice A3 n3 c3)) q base now (insT (t, d) R1) ∧ Kept (· = q) w1 (w3.setCell ⟨q, 1, none⟩ (.slice A3 n3 c3))) := Lib.hid (by
          intro w3 A3 n3 c3 hb3 ho3
          have h3 := h2.new hb3
          exact ⟨⟨A3, n3, c3, h3.setRows (ho3.lower (by have := h2.low; have := h2.lt; omega)) hok2 hlen2⟩, (k2.then hb3).trans (Kept.setCell w3 _ _ rfl)⟩)
        have f1 := hW.fr 1
        have hq := h2.lt
        cases dn with
        | true =>
          obtain rfl := hM.end_yes hn1.symm
          have G := Lib.hid (hE.out wr A n c hb ho)
          clear hM hE ho hb hW h2 k2 hOl hol hok2 hlen2
          go_wp2
          go_ret
          exact ⟨rfl, G.out⟩
        | false =>
          have hEnd := hM.end_no hn1.symm
          have bx := alloc_below wr (.cells #[.int .i64 t, .int .u64 (d : Nat)] 71)
          have ho1 := ho.below bx (Nat.le_refl _)
          have b1 := hb.trans (bx.mono hb.size)
          have rdX := RdT.lit wr t d
          have c13 := (bx.cell (p := ⟨q, 1, none⟩) hW.lt).trans c1
          clear hM ho hb h2 k2 hok2 hlen2 bx
          go_wp2_with (first | (at_builtin; refine wpList_appT (some 82) rfl rfl (.tmp 77) (.tmp 81) rfl w2.heap.size A n c O rfl ho1 (some ⟨wr.heap.size, 0, none⟩) 1 1 _ [(t, d)] rfl rdX (by omega) b1.size ?_))
          intro A3 n3 c3 w3 o3 g3
          have b3 := b1.grown g3 b1.size (fun g hg => ho1.own_ge g hg)
          have kk : Kept (fun j => w2.heap.size ≤ j) wr w3 := (Kept.of_below (alloc_below wr _)).trans (Kept.grown g3 (fun j hj => ho1.own_ge j hj))
          rw [hEnd] at o3
          have G := Lib.hid (hE.out w3 A3 n3 c3 b3 o3)
          have e := b3.block q hq
          have c14 : w3.cell? ⟨q, 1, none⟩ = some (.slice A1 k cc1) := (World.cell?_of_block (a := ⟨q, 1, none⟩) e).trans cq
          have f14 : w3.frozen? ⟨q, 1, none⟩ = false := (b3.frozen (p := ⟨q, 1, none⟩) hq).trans fq
          clear hE g3 b3 b1 kk e o3 ho1 rdX c13 c1 f1 hEnd hW hOl hol
          go_wp2
          go_ret
          exact ⟨rfl, G.out⟩
  · skip
    clear hgd
    go_enter Try.func24, Try.ntmps24
    go_wp2_with fail
    refine F.mono ?_
    rintro ev w1 ⟨rfl, rfl⟩
    go_wp2_with fail
    refine C.mono ?_
    rintro ev w2 ⟨rfl, h2, k2⟩
    clear F C c1
    obtain ⟨A1, n1, cc1, h2⟩ := h2
    have ba := alloc_below w2 (.cells #[] 71)
    have oL := OutT.lit0 w2 w2.heap.size (Nat.le_refl _)
    have hn1 := h2.rows.len
    have hn1b : n1 ≤ 16384 := by have := h2.len; omega
    have cq := h2.c1
    have fq := h2.fr 1
    go_wp2
    go_loopw [7, 8, 9] (fun v b i wr => ∃ (k : Nat) (A n c : _) (dn : Bool) (O : List Tm), k ≤ n1 ∧ i = .int .i64 k ∧ b = .bool dn ∧ v = .slice A n c ∧ OutT wr w2.heap.size A n c O ∧ Mid (t, d) R1 k dn O ∧ Below w2.heap.size w2 wr) (fun _ _ i _ => n1 - (intOf i).toNat)
    case atStart => exact ⟨0, _, 0, 0, false, [], Nat.zero_le _, rfl, rfl, rfl, oL, Mid.start _ _, ba⟩
    case round =>
      obtain ⟨k, A, n, c, dn, O, hk, rfl, rfl, rfl, ho, hM, hb⟩ := hrel
      clear oL ba
      have hW := h2.new hb
      have c1 := hW.c1
      have hOl := hM.len
      have hol := ho.len
      by_cases hkn : k < n1
      · have hki : (k : Int) < (n1 : Int) := by omega
        obtain ⟨x, rfl, hxb, hxl, x0, x1⟩ := hW.rows.at0 hkn
        have hkl : k < R1.length := by omega
        cases dn with
        | true =>
          have hM' := hM.next hkl
          generalize R1.getD k (0, 0) = y at *
          obtain ⟨a, b⟩ := y
          have x0' := x0
          have x1' := x1
          have bx := alloc_below wr (.cells #[.int .i64 a, .int .u64 (b : Nat)] 71)
          have rdY := RdT.lit (wr.alloc (.cells #[.int .i64 a, .int .u64 (b : Nat)] 71)) a b
          rw [World.size_alloc] at rdY
          have by_ := alloc_below (wr.alloc (.cells #[.int .i64 a, .int .u64 (b : Nat)] 71)) (.cells #[.int .i64 a, .int .u64 (b : Nat)] 71)
          have ho1 := (ho.below bx (Nat.le_refl _)).below by_ (Nat.le_refl _)
          have b1 := (hb.trans (bx.mono hb.size)).trans (by_.mono (Nat.le_trans hb.size bx.size))
          clear ho hb bx by_ x0' x1' hW hM
          go_wp2_with (first | (at_builtin; refine wpList_appT (some 74) rfl rfl (.tmp 71) (.tmp 73) rfl w2.heap.size A n c O rfl ho1 (some ⟨(wr.heap.size + 1), 0, none⟩) 1 1 _ [(a, b)] rfl rdY (by omega) b1.size ?_))
          intro A3 n3 c3 w3 o3 g3
          have b3 := b1.grown g3 b1.size (fun g hg => ho1.own_ge g hg)
          clear g3
          go_wp2
          go_roundw
          case rel => exact ⟨k + 1, A3, n3, c3, true, _, by omega, by go_num, rfl, rfl, o3, hM', b3⟩
          case measure => simp [intOf]; omega
        | false =>
          have hHere := fun e => hM.here hkl e
          have hPast := fun e => hM.past hkl e
          generalize R1.getD k (0, 0) = y at *
          obtain ⟨a, b⟩ := y
          have x0' := x0
          have x1' := x1
          have bx := alloc_below wr (.cells #[.int .i64 a, .int .u64 (b : Nat)] 71)
          simp only at hHere hPast
          have rdY := RdT.lit (wr.alloc (.cells #[.int .i64 a, .int .u64 (b : Nat)] 71)) a b
          rw [World.size_alloc] at rdY
          have by_ := alloc_below (wr.alloc (.cells #[.int .i64 a, .int .u64 (b : Nat)] 71)) (.cells #[.int .i64 a, .int .u64 (b : Nat)] 71)
          by_cases h1 : d < b
          · have h1i : (d : Int) < (b : Int) := by omega
            have hM' := hHere (.inl h1)
            clear hHere hPast h1
            have rdX := RdT.lit (wr.alloc (.cells #[.int .i64 a, .int .u64 (b : Nat)] 71)) t d
            rw [World.size_alloc] at rdX
            have bq := alloc_below (wr.alloc (.cells #[.int .i64 a, .int .u64 (b : Nat)] 71)) (.cells #[.int .i64 t, .int .u64 (d : Nat)] 71)
            have ho1 := (ho.below bx (Nat.le_refl _)).below bq (Nat.le_refl _)
            have b1 := (hb.trans (bx.mono hb.size)).trans (bq.mono (Nat.le_trans hb.size bx.size))
            have y0 : ((wr.alloc (.cells #[.int .i64 a, .int .u64 (b : Nat)] 71)).alloc (.cells #[.int .i64 t, .int .u64 (d : Nat)] 71)).heap[wr.heap.size]? = some (.cells #[.int .i64 a, .int .u64 (b : Nat)] 71) := (bq.block wr.heap.size (by simp)).trans (heap_alloc_new wr _)
            have hna : ∀ ad, A = some ad → ad.block ≠ wr.heap.size := fun ad e => by
              obtain ⟨_, cur, h9⟩ := ho.block ad e
              have := (Array.getElem?_eq_some_iff.1 h9).1
              omega
            clear ho hb bx bq x0' x1' hW hM
            go_wp2_with (first | (at_builtin; refine wpList_appT (some 70) rfl rfl (.tmp 65) (.tmp 69) rfl w2.heap.size A n c O rfl ho1 (some ⟨wr.heap.size + 1, 0, none⟩) 1 1 _ [(t, d)] rfl rdX (by omega) b1.size ?_))
            intro A4 n4 c4 w4 o4 g4
            have b4 := b1.grown g4 b1.size (fun g hg => ho1.own_ge g hg)
            have y4 : w4.heap[wr.heap.size]? = some (.cells #[.int .i64 a, .int .u64 (b : Nat)] 71) := (g4.block wr.heap.size (by simp; omega) (fun e => by
              cases A with
              | none => simp [Value.ownBlock] at e
              | some ad => exact hna ad rfl (by simpa [Value.ownBlock] using e.symm))).trans y0
            have y40 : w4.cell? ⟨wr.heap.size, 0, none⟩ = some (.int .i64 a) := by rw [cell_of_row _ _ _ _ _ _ y4]; rfl
            have y41 : w4.cell? ⟨wr.heap.size, 1, none⟩ = some (.int .u64 (b : Nat)) := by rw [cell_of_row _ _ _ _ _ _ y4]; rfl
            have hn4 := o4.len
            rw [List.length_append] at hn4
            simp only [List.length_singleton] at hn4
            have rdY' := RdT.lit w4 a b
            have by4 := alloc_below w4 (.cells #[.int .i64 a, .int .u64 (b : Nat)] 71)
            have o5 := o4.below by4 (Nat.le_refl _)
            have b5 := b4.trans (by4.mono b4.size)
            clear g4 y4 y0 b4 by4 o4 ho1 b1 rdX rdY by_ hna
            go_wp2_with (first | (at_builtin; refine wpList_appT (some 74) rfl rfl (.tmp 71) (.tmp 73) rfl w2.heap.size A4 n4 c4 (O ++ [(t, d)]) rfl o5 (some ⟨w4.heap.size, 0, none⟩) 1 1 _ [(a, b)] rfl rdY' (by omega) b5.size ?_))
            intro A3 n3 c3 w3 o3 g3
            have b3 := b5.grown g3 b5.size (fun g hg => o5.own_ge g hg)
            clear g3
            go_wp2
            go_roundw
            case rel => exact ⟨k + 1, A3, n3, c3, true, _, by omega, by go_num, rfl, rfl, o3, hM', b3⟩
            case measure => simp [intOf]; omega
          · have h1i : ¬ (d : Int) < (b : Int) := by omega
            by_cases h2 : d = b
            · subst h2
              by_cases h3 : t < a
              · have hM' := hHere (.inr ⟨rfl, h3⟩)
                clear hHere hPast h1
                have rdX := RdT.lit (wr.alloc (.cells #[.int .i64 a, .int .u64 (d : Nat)] 71)) t d
                rw [World.size_alloc] at rdX
                have bq := alloc_below (wr.alloc (.cells #[.int .i64 a, .int .u64 (d : Nat)] 71)) (.cells #[.int .i64 t, .int .u64 (d : Nat)] 71)
                have ho1 := (ho.below bx (Nat.le_refl _)).below bq (Nat.le_refl _)
                have b1 := (hb.trans (bx.mono hb.size)).trans (bq.mono (Nat.le_trans hb.size bx.size))
                have y0 : ((wr.alloc (.cells #[.int .i64 a, .int .u64 (d : Nat)] 71)).alloc (.cells #[.int .i64 t, .int .u64 (d : Nat)] 71)).heap[wr.heap.size]? = some (.cells #[.int .i64 a, .int .u64 (d : Nat)] 71) := (bq.block wr.heap.size (by simp)).trans (heap_alloc_new wr _)
                have hna : ∀ ad, A = some ad → ad.block ≠ wr.heap.size := fun ad e => by
                  obtain ⟨_, cur, h9⟩ := ho.block ad e
                  have := (Array.getElem?_eq_some_iff.1 h9).1
                  omega
                clear ho hb bx bq x0' x1' hW hM
                go_wp2_with (first | (at_builtin; refine wpList_appT (some 70) rfl rfl (.tmp 65) (.tmp 69) rfl w2.heap.size A n c O rfl ho1 (some ⟨wr.heap.size + 1, 0, none⟩) 1 1 _ [(t, d)] rfl rdX (by omega) b1.size ?_))
                intro A4 n4 c4 w4 o4 g4
                have b4 := b1.grown g4 b1.size (fun g hg => ho1.own_ge g hg)
                have y4 : w4.heap[wr.heap.size]? = some (.cells #[.int .i64 a, .int .u64 (d : Nat)] 71) := (g4.block wr.heap.size (by simp; omega) (fun e => by
                  cases A with
                  | none => simp [Value.ownBlock] at e
                  | some ad => exact hna ad rfl (by simpa [Value.ownBlock] using e.symm))).trans y0
                have y40 : w4.cell? ⟨wr.heap.size, 0, none⟩ = some (.int .i64 a) := by rw [cell_of_row _ _ _ _ _ _ y4]; rfl
                have y41 : w4.cell? ⟨wr.heap.size, 1, none⟩ = some (.int .u64 (d : Nat)) := by rw [cell_of_row _ _ _ _ _ _ y4]; rfl
                have hn4 := o4.len
                rw [List.length_append] at hn4
                simp only [List.length_singleton] at hn4
                have rdY' := RdT.lit w4 a d
                have by4 := alloc_below w4 (.cells #[.int .i64 a, .int .u64 (d : Nat)] 71)
                have o5 := o4.below by4 (Nat.le_refl _)
                have b5 := b4.trans (by4.mono b4.size)
                clear g4 y4 y0 b4 by4 o4 ho1 b1 rdX rdY by_ hna
                go_wp2_with (first | (at_builtin; refine wpList_appT (some 74) rfl rfl (.tmp 71) (.tmp 73) rfl w2.heap.size A4 n4 c4 (O ++ [(t, d)]) rfl o5 (some ⟨w4.heap.size, 0, none⟩) 1 1 _ [(a, d)] rfl rdY' (by omega) b5.size ?_))
                intro A3 n3 c3 w3 o3 g3
                have b3 := b5.grown g3 b5.size (fun g hg => o5.own_ge g hg)
                clear g3
                go_wp2
                go_roundw
                case rel => exact ⟨k + 1, A3, n3, c3, true, _, by omega, by go_num, rfl, rfl, o3, hM', b3⟩
                case measure => simp [intOf]; omega
              · have hM' := hPast (by omega)
                clear hHere hPast h1
                have ho1 := (ho.below bx (Nat.le_refl _)).below by_ (Nat.le_refl _)
                have b1 := (hb.trans (bx.mono hb.size)).trans (by_.mono (Nat.le_trans hb.size bx.size))
                clear ho hb bx by_ x0' x1' hW hM
                go_wp2_with (first | (at_builtin; refine wpList_appT (some 74) rfl rfl (.tmp 71) (.tmp 73) rfl w2.heap.size A n c O rfl ho1 (some ⟨(wr.heap.size + 1), 0, none⟩) 1 1 _ [(a, d)] rfl rdY (by omega) b1.size ?_))
                intro A3 n3 c3 w3 o3 g3
                have b3 := b1.grown g3 b1.size (fun g hg => ho1.own_ge g hg)
                clear g3
                go_wp2
                go_roundw
                case rel => exact ⟨k + 1, A3, n3, c3, false, _, by omega, by go_num, rfl, rfl, o3, hM', b3⟩
                case measure => simp [intOf]; omega
            · have h2j : ¬ (d : Int) = (b : Int) := by omega
              have h2i : ((d : Int) == (b : Int)) = false := by simpa using h2j
              have hM' := hPast (by omega)
              clear hHere hPast h1 h2
              have ho1 := (ho.below bx (Nat.le_refl _)).below by_ (Nat.le_refl _)
              have b1 := (hb.trans (bx.mono hb.size)).trans (by_.mono (Nat.le_trans hb.size bx.size))
              clear ho hb bx by_ x0' x1' hW hM
              go_wp2_with (first | (at_builtin; refine wpList_appT (some 74) rfl rfl (.tmp 71) (.tmp 73) rfl w2.heap.size A n c O rfl ho1 (some ⟨(wr.heap.size + 1), 0, none⟩) 1 1 _ [(a, b)] rfl rdY (by omega) b1.size ?_))
              intro A3 n3 c3 w3 o3 g3
              have b3 := b1.grown g3 b1.size (fun g hg => ho1.own_ge g hg)
              clear g3
              go_wp2
              go_roundw
              case rel => exact ⟨k + 1, A3, n3, c3, false, _, by omega, by go_num, rfl, rfl, o3, hM', b3⟩
              case measure => simp [intOf]; omega
      · obtain rfl : k = n1 := by omega
        have hE : Hid (∀ w3 A3 n3 c3, Below w2.heap.size w2 w3 → OutT w3 w2.heap.size A3 n3 c3 (insT (t, d) R1) → RwAt (w3.setCell ⟨q, 1, none⟩ (.slice A3 n3 c3)) q base now (insT (t, d) R1) ∧ Kept (· = q) w1 (w3.setCell ⟨q, 1, none⟩ (.slice A3 n3 c3))) := Lib.hid (by
          intro w3 A3 n3 c3 hb3 ho3
          have h3 := h2.new hb3
          exact ⟨⟨A3, n3, c3, h3.setRows (ho3.lower (by have := h2.low; have := h2.lt; omega)) hok2 hlen2⟩, (k2.then hb3).trans (Kept.setCell w3 _ _ rfl)⟩)
        have f1 := hW.fr 1
        have hq := h2.lt
        cases dn with
        | true =>
          obtain rfl := hM.end_yes hn1.symm
          have G := Lib.hid (hE.out wr A n c hb ho)
          clear hM hE ho hb hW h2 k2 hOl hol hok2 hlen2
          go_wp2
          go_ret
          exact ⟨rfl, G.out⟩
        | false =>
          have hEnd := hM.end_no hn1.symm
          have bx := alloc_below wr (.cells #[.int .i64 t, .int .u64 (d : Nat)] 71)
          have ho1 := ho.below bx (Nat.le_refl _)
          have b1 := hb.trans (bx.mono hb.size)
          have rdX := RdT.lit wr t d
          have c13 := (bx.cell (p := ⟨q, 1, none⟩) hW.lt).trans c1
          clear hM ho hb h2 k2 hok2 hlen2 bx
          go_wp2_with (first | (at_builtin; refine wpList_appT (some 82) rfl rfl (.tmp 77) (.tmp 81) rfl w2.heap.size A n c O rfl ho1 (some ⟨wr.heap.size, 0, none⟩) 1 1 _ [(t, d)] rfl rdX (by omega) b1.size ?_))
          intro A3 n3 c3 w3 o3 g3
          have b3 := b1.grown g3 b1.size (fun g hg => ho1.own_ge g hg)
          have kk : Kept (fun j => w2.heap.size ≤ j) wr w3 := (Kept.of_below (alloc_below wr _)).trans (Kept.grown g3 (fun j hj => ho1.own_ge j hj))
          rw [hEnd] at o3
          have G := Lib.hid (hE.out w3 A3 n3 c3 b3 o3)
          have e := b3.block q hq
          have c14 : w3.cell? ⟨q, 1, none⟩ = some (.slice A1 k cc1) := (World.cell?_of_block (a := ⟨q, 1, none⟩) e).trans cq
          have f14 : w3.frozen? ⟨q, 1, none⟩ = false := (b3.frozen (p := ⟨q, 1, none⟩) hq).trans fq
          clear hE g3 b3 b1 kk e o3 ho1 rdX c13 c1 f1 hEnd hW hOl hol
          go_wp2
          go_ret
          exact ⟨rfl, G.out⟩
end
end Go.Proofs.Ytalojeblemhihaa
