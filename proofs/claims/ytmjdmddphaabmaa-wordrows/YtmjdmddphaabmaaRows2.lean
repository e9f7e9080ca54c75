/-
  WordRows, walked.
-/
import Derived.Test.YtmjdmddphaabmaaBackM
namespace Go.Proofs.Ytmjdmddphaabmaa
open Go.RowKit

theorem row_nz {s : Int} {vs : List Int} (h : ¬ rowE s vs = 0) : rowL s vs = [] := by simp only [rowL, if_neg h]
theorem row_zero {s : Int} {vs : List Int} (h : rowE s vs = 0) : ∃ z : Nat, s = z ∧ 1 ≤ z ∧ z ≤ 8 ∧ vs.all (fitB z) = true ∧ rowL s vs = rowB z vs := by
  have hL : rowL s vs = rowB s.toNat vs := by simp only [rowL, h, if_pos]
  unfold rowE at h
  split at h
  · cases h
  · split at h
    · rename_i h1 h2
      obtain ⟨z, rfl⟩ := Int.eq_ofNat_of_zero_le (show 0 ≤ s by omega)
      exact ⟨z, rfl, by omega, by omega, by simpa using h2, by simpa using hL⟩
    · cases h
theorem rowB_append (z : Nat) (us vs : List Int) : rowB z (us ++ vs) = rowB z us ++ rowB z vs := by simp only [rowB, List.flatMap_append]
theorem rowB_at (z : Nat) (vs : List Int) (k : Nat) (hk : k < vs.length) (h0 : 0 ≤ vs.getD k 0) (hall : vs.all (fitB z) = true) : num (((rowB z vs).drop (k * z)).take z) = vs.getD k 0 := by
  have hf : vs.getD k 0 < 256 ^ z := by
    have := List.all_eq_true.1 hall (vs.getD k 0) (by simp [List.getD, List.getElem?_eq_getElem hk])
    simpa [fitB] using this
  have e : vs = vs.take (k + 1) ++ vs.drop (k + 1) := (List.take_append_drop (k + 1) vs).symm
  have e1 : rowB z vs = rowB z (vs.take k) ++ (lowB (vs.getD k 0) z ++ rowB z (vs.drop (k + 1))) := by
    conv => lhs; rw [e]
    rw [rowB_append, rowB_snoc z vs k hk, List.append_assoc]
  have hl : (rowB z (vs.take k)).length = k * z := by rw [rowB_len]; congr 1; simp; omega
  rw [e1, ← hl, List.drop_left, List.take_append_of_le_length (by rw [lowB_len]; omega), List.take_of_length_le (by rw [lowB_len]; omega)]
  exact num_back _ h0 z hf
theorem rows_parts {z : Nat} (hz : 1 ≤ z ∧ z ≤ 8) {vs : List Int} (hall : vs.all (fitB z) = true) (k : Nat) :
    rowE z (vs.take k) = 0 ∧ rowL z (vs.take k) = rowB z (vs.take k) ∧ rowE z (vs.drop k) = 0 ∧ rowL z (vs.drop k) = rowB z (vs.drop k) ∧ rowB z (vs.take k) ++ rowB z (vs.drop k) = rowB z vs := by
  have h1 : (vs.take k).all (fitB z) = true := List.all_eq_true.2 fun x hx => List.all_eq_true.1 hall x (List.mem_of_mem_take hx)
  have h2 : (vs.drop k).all (fitB z) = true := List.all_eq_true.2 fun x hx => List.all_eq_true.1 hall x (List.mem_of_mem_drop hx)
  have a := rowE_ok hz h1
  have b := rowE_ok hz h2
  exact ⟨a.1, a.2, b.1, b.2, by rw [← rowB_append, List.take_append_drop]⟩

/-- The block of a row that is no nil one. -/
theorem Out.ne {w w' : World} {base base' : Nat} {A A' : Option Addr} {n c n' c' : Nat} {xs ys : List Int} (h : Out w base A n c xs) (h' : Out w' base' A' n' c' ys) (hb : w.heap.size ≤ base') :
    ∀ k, (Value.slice A' n' c').ownBlock = some k → A = none ∨ ∃ ad, A = some ad ∧ ad.block ≠ k := by
  intro k hk
  have h1 := (h'.1.lt k hk).1
  rcases h.form with ⟨e, _, _⟩ | ⟨g, cur, e, _, hh, _⟩
  · exact .inl e
  · have hlt := (Array.getElem?_eq_some_iff.1 hh).1
    exact .inr ⟨_, e, by show g ≠ k; omega⟩

set_option maxRecDepth 100000 in
set_option maxHeartbeats 2000000 in
theorem rows_law (s : Int) (A : Option Addr) (n c : Nat) (vs : List Int) (k : Int) (w : World) (hr : Rd .u64 w w.heap.size A n c vs) :
    Calls Try.prog 6 #[.int .i64 s, .slice A n c, .int .i64 k] w fun e w' => e = .returned (.bool true) ∧ Below w.heap.size w w' := by
  have hmax := hr.max
  have hcap := hr.cap
  by_cases hn : n ≤ 300
  · by_cases hk0 : k < 0
    · go_enter Try.func6, Try.ntmps6
      go_wp2_with fail
      with_reducible refine (alive_any _).mono ?_
      rintro e w1 ⟨rfl, hb⟩
      go_wp2_with fail
      go_ret
      exact ⟨rfl, hb⟩
    · by_cases hk1 : (n : Int) < k
      · go_enter Try.func6, Try.ntmps6
        go_wp2_with fail
        with_reducible refine (alive_any _).mono ?_
        rintro e w1 ⟨rfl, hb⟩
        go_wp2_with fail
        go_ret
        exact ⟨rfl, hb⟩
      · obtain ⟨k, rfl⟩ := Int.eq_ofNat_of_zero_le (show 0 ≤ k by omega)
        by_cases hE : rowE s vs = 0
        · obtain ⟨z, rfl, h1, h8, hall, hL⟩ := row_zero hE
          have hp := rows_parts ⟨h1, h8⟩ hall k
          have HP := Lib.hid hp
          have hrow := fun W r sz => row_any A n c z vs w.heap.size W r sz hn
          rw [hE, hL] at hrow
          have HROW := Lib.hid hrow
          have HALL := Lib.hid hall
          have HL := Lib.hid hr.len
          obtain ⟨q, hq⟩ : ∃ q, z * n = q := ⟨_, rfl⟩
          have hq1 : q ≤ 2400 := by rw [← hq]; exact Nat.mul_le_mul h8 hn
          have hq2 : (z : Int) * (n : Int) = (q : Int) := by rw [← hq]; simp
          have HQ := Lib.hid hq
          have hkn : k ≤ n := by omega
          clear hq hp hE hL hrow hall
          go_enter Try.func6, Try.ntmps6
          go_wp2_with fail
          with_reducible refine (alive_any _).mono ?_
          rintro e w1 ⟨rfl, B1⟩
          have s1 := B1.size
          go_wp2_with fail
          with_reducible refine (HROW.out _ (hr.below B1 (Nat.le_refl _)) s1).mono ?_
          rintro e w2 ⟨A2, n2, c2, rfl, o2, hb⟩
          have B2 := B1.trans (hb.mono s1)
          have s2 := B2.size
          have hn2 : n2 = q := by
            have := o2.len
            rw [rowB_len, HL.out, Nat.mul_comm, HQ.out] at this
            exact this.symm
          subst hn2
          clear hb B1 s1
          go_wp2_with fail
          go_loop [9] (fun i => ∃ j : Nat, j ≤ n ∧ i = .int .i64 j) (fun i => n - (intOf i).toNat)
          case atStart => exact ⟨0, Nat.zero_le _, rfl⟩
          case round =>
            obtain ⟨j, hj, rfl⟩ := hrel
            by_cases hlt : j < n
            · obtain ⟨p, hp⟩ : ∃ p, j * z = p := ⟨_, rfl⟩
              have hp1 : p + z ≤ n2 := by
                have h := Nat.mul_le_mul_left z (show j + 1 ≤ n by omega)
                have e1 : z * (j + 1) = p + z := by rw [← hp, Nat.mul_add, Nat.mul_one, Nat.mul_comm]
                have e2 := HQ.out
                omega
              have hp2 : (j : Int) * (z : Int) = (p : Int) := by rw [← hp]; simp
              have hv := u64_bd (hr.wf hlt)
              have ca := at_ok _ _ _ _ _ p z w2 o2.rd h1 h8 hp1
              rw [← hp, rowB_at z vs j (by rw [HL.out]; exact hlt) hv.1 HALL.out] at ca
              rw [hp] at ca
              have HCA := Lib.hid ca
              have hr2 := hr.below B2 (Nat.le_refl _)
              obtain ⟨b, o, rfl, _, hc⟩ := hr2.at_ hlt
              clear ca hp
              generalize vs.getD j 0 = v at *
              go_wp2_with fail
              with_reducible refine HCA.out.mono ?_
              rintro e w3 ⟨rfl, rfl⟩
              go_wp2_with fail
              go_round
              case rel => exact ⟨j + 1, by omega, by go_num⟩
              case measure => simp [intOf]; omega
            · have HF := Lib.hid (hr.front hkn)
              have hbe := hr.cut (f := k) (t := n) hkn (Nat.le_refl _)
              have e : (vs.drop k).take (n - k) = vs.drop k := List.take_of_length_le (by simp; rw [HL.out]; omega)
              rw [e] at hbe
              have hb1 : c = k → Rd .u64 w w.heap.size A (n - k) 0 (vs.drop k) := by
                intro h; rw [if_pos h, show c - k = 0 by omega] at hbe; exact hbe
              have hb2 : ¬ c = k → Rd .u64 w w.heap.size (A.map (fun x => x.add k)) (n - k) (c - k) (vs.drop k) := by
                intro h; rw [if_neg h] at hbe; exact hbe
              have HB1 := Lib.hid hb1
              have HB2 := Lib.hid hb2
              clear hbe e hb1 hb2
              go_wp2_with fail
              have ca := row_any _ _ _ z _ _ w2 (HF.out.below B2 (Nat.le_refl _)) s2 (by omega)
              rw [HP.out.1, HP.out.2.1] at ca
              with_reducible refine ca.mono ?_
              rintro e w3 ⟨A3, n3, c3, rfl, o3, hb⟩
              have B3 := B2.trans (hb.mono s2)
              have s3 := B3.size
              have hne := o2.ne o3 (Nat.le_refl _)
              replace o2 := o2.below hb (Nat.le_refl _)
              have HNE := Lib.hid hne
              have S2 := s2
              have S3 := hb.size
              clear hb B2 s2 ca hne
              go_wp2_with fail
              case' inl h =>
                have ca := row_any _ _ _ z _ _ w3 ((HB1.out h).below B3 (Nat.le_refl _)) s3 (by omega)
                rw [HP.out.2.2.1, HP.out.2.2.2.1] at ca
                (with_reducible refine ca.mono ?_)
                clear ca
                subst h
              case' inr h =>
                have ca := row_any _ _ _ z _ _ w3 ((HB2.out h).below B3 (Nat.le_refl _)) s3 (by omega)
                rw [HP.out.2.2.1, HP.out.2.2.2.1] at ca
                (with_reducible refine ca.mono ?_)
                clear ca
              all_goals
                rintro e w4 ⟨A4, n4, c4, rfl, o4, hb⟩
                have B4 := B3.trans (hb.mono s3)
                have s4 := B4.size
                replace o2 := o2.below hb (Nat.le_refl _)
                replace o3 := o3.below hb (Nat.le_refl _)
                have S4 : w2.heap.size ≤ w4.heap.size := by have := hb.size; omega
                have hn34 : n3 + n4 ≤ 2400 := by
                  have e := congrArg List.length HP.out.2.2.2.2
                  rw [List.length_append, o3.len, o4.len, o2.len] at e
                  omega
                have q4 := o4.rd
                clear hb B3 s3 HB1 HB2
                go_wp2_with (at_builtin; refine wpList_appG rfl (.tmp 99) (.tmp 100) 22 rfl w2.heap.size Try.underlying22 info5 _ _ _ _ rfl o3 _ _ _ _ _ rfl q4 (by omega) S4 ?_; intro A5 n5 c5 w5 o5 hg)
                have hb5 : Below w.heap.size w w5 := B4.grown hg s4 (fun g h => by have := (o3.1.lt g h).1; omega)
                have s5 := hb5.size
                rw [HP.out.2.2.2.2] at o5
                replace o2 := o2.grown hg HNE.out
                clear hg B4 s4 o3 o4 q4 HNE
                go_wp2_with fail
                with_reducible refine (same_any _ _ _ _ _ _ _ _ _ _ o5.rd o2.rd).mono ?_
                rintro e w6 ⟨rfl, hb⟩
                have B6 := hb5.trans (hb.mono s5)
                clear hb hb5 s5 o2 o5
                go_wp2_with fail
                go_ret
                exact ⟨rfl, B6⟩
        · have hL := row_nz hE
          have hrow := fun W r sz => row_any A n c s vs w.heap.size W r sz hn
          rw [hL] at hrow
          have HROW := Lib.hid hrow
          have hE' : (rowE s vs != 0) = true := by simpa using hE
          clear hE hL hrow
          generalize rowE s vs = er at *
          go_enter Try.func6, Try.ntmps6
          go_wp2_with fail
          with_reducible refine (alive_any _).mono ?_
          rintro e w1 ⟨rfl, B1⟩
          have s1 := B1.size
          go_wp2_with fail
          with_reducible refine (HROW.out _ (hr.below B1 (Nat.le_refl _)) s1).mono ?_
          rintro e w2 ⟨A2, n2, c2, rfl, o2, hb⟩
          have B2 := B1.trans (hb.mono s1)
          obtain rfl : n2 = 0 := by have := o2.len; simpa using this.symm
          clear hb B1 s1 o2
          go_wp2_with fail
          go_ret
          exact ⟨rfl, B2⟩
  · go_enter Try.func6, Try.ntmps6
    go_wp2_with fail
    with_reducible refine (alive_any _).mono ?_
    rintro e w1 ⟨rfl, hb⟩
    go_wp2_with fail
    go_ret
    exact ⟨rfl, hb⟩
end Go.Proofs.Ytmjdmddphaabmaa
