/-
  WhyDeep, walked.
-/
import Derived.Test.YtmapfpjinfjojaaDoorChain
namespace Go.Proofs.YtmapfpjinfjojaaDoor
open Go.RowKit

theorem wrapL_all {rs : List Int} {r : Int} (h : ∀ x ∈ rs, isR x = true) : ∀ x ∈ wrapL rs r, isR x = true := by
  intro x hx
  unfold wrapL at hx
  split at hx
  · rcases List.mem_cons.1 hx with rfl | hx
    · assumption
    · exact h x hx
  · exact h x hx
theorem ch_all (xs : List Int) : ∀ (k : Nat) (o : Option (List Int)), k ≤ xs.length → (∀ x ∈ lV o, isR x = true) → ∀ x ∈ lV (ch o xs k), isR x = true
  | 0, o, _, h => h
  | k + 1, o, hk, h => by
    rw [ch_succ o xs k (by omega)]
    have ih := ch_all xs k o (by omega) h
    cases hc : ch o xs k with
    | none => rw [hc] at ih; exact ih
    | some rs =>
      rw [hc] at ih
      exact wrapL_all (rs := rs) ih
theorem chain_any (e : Int) (A : Option Addr) (n c : Nat) (xs : List Int) (b : Bool) (hn : n ≤ 50) (hl : xs.length = n) :
    ∃ o, (o = none ∨ ¬ e = 0) ∧ AllR (lV o) ∧ (lV o).length ≤ 51 ∧ ∀ w, Rd .i64 w w.heap.size A n c xs → Calls Tryd.prog 8 #[.int .i64 e, .slice A n c, .bool b] w (GivesC w e o) := by
  cases b with
  | true =>
    by_cases he : e = 0
    · exact ⟨none, .inl rfl, ⟨by simp [lV], by simp [lV]⟩, by simp [lV], fun w _ => chain_zero e A n c w true (.inl ⟨rfl, he⟩)⟩
    · have hL := ch_len (some []) xs n (by omega)
      simp only [lV, List.length_nil] at hL
      refine ⟨ch (some []) xs n, .inr he, ⟨ch_all xs n _ (by omega) (by simp [lV]), ?_⟩, ?_, fun w hr => chain_bare e A n c xs w hr hn he⟩
      · unfold lV; omega
      · unfold lV; omega
  | false =>
    by_cases h0 : n = 0
    · exact ⟨none, .inl rfl, ⟨by simp [lV], by simp [lV]⟩, by simp [lV], fun w _ => chain_zero e A n c w false (.inr ⟨rfl, h0⟩)⟩
    · have hl0 : (lV (o0 e (xs.getD 0 0))).length ≤ 1 := by unfold o0; split <;> simp [lV]
      have ha0 : ∀ x ∈ lV (o0 e (xs.getD 0 0)), isR x = true := by
        unfold o0
        split
        · simp [lV]
        · rename_i h
          have : isR (xs.getD 0 0) = true := by simpa using fun h' => h (.inr h')
          simpa [lV] using this
      have hL := ch_len (o0 e (xs.getD 0 0)) xs.tail (n - 1) (by simp; omega)
      refine ⟨ch (o0 e (xs.getD 0 0)) xs.tail (n - 1), ?_, ⟨ch_all _ _ _ (by simp; omega) ha0, by omega⟩, by omega, fun w hr => chain_fault e A n c xs w hr hn (by omega)⟩
      rcases o0_cases e (xs.getD 0 0) with h | h
      · rw [h]; exact .inl (ch_none _ _)
      · exact .inr h
theorem AllR.wrap {rs : List Int} (h : AllR rs) (hl : rs.length ≤ 51) (r : Int) : AllR (wrapL rs r) := ⟨wrapL_all h.1, by have := wrapL_len rs r; omega⟩

set_option maxRecDepth 100000 in
set_option maxHeartbeats 2000000 in
theorem deep_law (e : Int) (A : Option Addr) (n c : Nat) (xs : List Int) (b : Bool) (r : Int) (w : World) (hg : Laid w) (hr : Rd .i64 w w.heap.size A n c xs) :
    Calls Tryd.prog 5 #[.int .i64 e, .slice A n c, .bool b, .int .i64 r] w fun ev w' => ev = .returned (.bool true) ∧ Below w.heap.size w w' := by
  have k := Kn.start hg
  clear hg
  have hmax := hr.max
  have hcap := hr.cap
  by_cases hn : n ≤ 50
  · obtain ⟨o, ho, hR, hL, hC⟩ := chain_any e A n c xs b hn hr.len
    have HC := Lib.hid hC; clear hC
    have HO := Lib.hid ho; clear ho
    go_enter Tryd.func5, Tryd.ntmps5
    go_wp2_with fail
    with_reducible refine (alive_any _ k.laid).mono ?_
    rintro ev w1 ⟨rfl, hb1⟩
    replace k := k.step hb1
    have hr1 := (hr.below hb1 (Nat.le_refl _)).more hb1.size
    clear hb1
    go_wp2_with fail
    refine (HC.out w1 hr1).mono ?_
    rintro ev w2 ⟨A1, n1, c1, rfl, _, hb1⟩
    replace k := k.step hb1
    clear hb1 hr1 HC
    replace k := k.alloc (.cells #[.slice A1 n1 c1, .int .i64 (eV e o)] 28)
    cases o with
    | none =>
      rw [show xV e none = .nilIface from rfl]
      rw [show eV e none = 0 from rfl] at *
      go_wp2_with fail
      with_reducible refine (wrap_nil _ _).mono ?_
      rintro ev w3 ⟨rfl, rfl⟩
      go_wp2_with fail
      with_reducible refine (all_nil _).mono ?_
      rintro ev w3 ⟨rfl, hb1⟩
      replace k := k.step hb1
      clear hb1
      go_wp2
      go_ret
      exact ⟨rfl, k.below⟩
    | some rs =>
      have he : ¬ e = 0 := HO.out.resolve_left (fun h => by cases h)
      obtain ⟨tt, v, hv⟩ := isC_any e rs
      obtain ⟨tt', v', hv'⟩ := isC_any e (wrapL rs r)
      rw [show xV e (some rs) = .iface tt v from hv]
      rw [show eV e (some rs) = e from rfl] at *
      rw [show lV (some rs) = rs from rfl] at *
      have hR' := hR.wrap hL r
      have HE := Lib.hid he; clear he
      go_wp2_with fail
      with_reducible refine (wrap_at r hv tt' v' hv' _).mono ?_
      rintro ev w3 ⟨rfl, rfl⟩
      go_wp2_with fail
      with_reducible refine (all_at hv hR _).mono ?_
      rintro ev w3 ⟨A2, n2, c2, rfl, o2, hb1⟩
      replace k := k.step hb1
      clear hb1
      go_wp2_with fail
      with_reducible refine (all_at hv' hR' _).mono ?_
      rintro ev w4 ⟨A3, n3, c3, rfl, o3, hb1⟩
      replace k := k.step hb1
      replace o2 := o2.below hb1 (Nat.le_refl _)
      clear hb1
      go_wp2_with fail
      with_reducible refine (errno_at hv' _ k.laid).mono ?_
      rintro ev w5 ⟨rfl, hb1⟩
      replace k := k.step hb1
      replace o2 := o2.below hb1 (Nat.le_refl _)
      replace o3 := o3.below hb1 (Nat.le_refl _)
      clear hb1
      go_wp2_with fail
      with_reducible refine (errno_at hv _ k.laid).mono ?_
      rintro ev w6 ⟨rfl, hb1⟩
      replace k := k.step hb1
      replace o2 := o2.below hb1 (Nat.le_refl _)
      replace o3 := o3.below hb1 (Nat.le_refl _)
      clear hb1
      go_wp2_with fail
      with_reducible refine (word_any _ _).mono ?_
      rintro ev w7 ⟨rfl, hb1⟩
      replace k := k.step hb1
      replace o2 := o2.below hb1 (Nat.le_refl _)
      replace o3 := o3.below hb1 (Nat.le_refl _)
      clear hb1
      have hE := word_isEmpty r
      by_cases hir : isR r = true
      · have hw : wrapL rs r = r :: rs := by simp only [wrapL, if_pos hir]
        rw [hw] at o3 hv'
        rw [hir] at hE
        have l2 := o2.len
        have l3 := o3.len
        simp only [List.length_cons] at l3
        have hn3 : n3 = n2 + 1 := by omega
        have HL := Lib.hid l2
        clear hw l2 l3
        subst hn3
        have cap3 := o3.cap
        have max3 := o3.max
        obtain ⟨g, og, hA3, _, hc⟩ := o3.rd.at_ (i := 0) (by omega)
        subst hA3
        simp [List.getD] at hc
        unfold maxLen at max3
        have r3 := o3.rd.cut (f := 1) (t := n2 + 1) (by omega) (Nat.le_refl _)
        rw [show n2 + 1 - 1 = n2 by omega, show ((r :: rs).drop 1).take n2 = rs by simp [← HL.out]] at r3
        by_cases h31 : c3 = 1
        case' pos =>
          subst h31
          obtain rfl : n2 = 0 := by omega
          rw [if_pos rfl, show 1 - 1 = 0 from rfl] at r3
          go_wp2_with fail
          with_reducible refine (sameInts_any _ _ _ _ _ _ rs _ _ _ r3 o2.rd).mono ?_
        case' neg =>
          rw [if_neg h31, show (some (⟨g, og, none⟩ : Addr)).map (·.add 1) = some ⟨g, og + 1, none⟩ from rfl] at r3
          go_wp2_with fail
          with_reducible refine (sameInts_any _ _ _ _ _ _ rs _ _ _ r3 o2.rd).mono ?_
        all_goals
          rintro ev w8 ⟨rfl, hb1⟩
          replace k := k.step hb1
          clear hb1 o2 o3 r3 hc
          go_wp2_with fail
          with_reducible refine (reason_at hv' _ k.laid).mono ?_
          rintro ev w9 ⟨rfl, hb1⟩
          replace k := k.step hb1
          clear hb1
          rw [show reasonV e (r :: rs) = r from rfl]
          go_wp2_with fail
          with_reducible refine (errno_at hv _ k.laid).mono ?_
          rintro ev w10 ⟨rfl, hb1⟩
          replace k := k.step hb1
          clear hb1
          go_wp2_with fail
          with_reducible refine (whyIs_at _ hv' _).mono ?_
          rintro ev w11 ⟨rfl, hb1⟩
          replace k := k.step hb1
          clear hb1
          go_wp2
          go_ret
          exact ⟨ret_bool (by simp), k.below⟩
      · have hir : isR r = false := by simpa using hir
        have hw : wrapL rs r = rs := by simp only [wrapL, hir]; rfl
        rw [hw] at o3 hv'
        rw [hir] at hE
        clear hw
        go_wp2_with fail
        with_reducible refine (sameInts_any _ _ _ _ _ _ rs _ _ _ o2.rd o3.rd).mono ?_
        rintro ev w8 ⟨rfl, hb1⟩
        replace k := k.step hb1
        clear hb1 o2 o3
        go_wp2_with fail
        with_reducible refine (reason_at hv' _ k.laid).mono ?_
        rintro ev w9 ⟨rfl, hb1⟩
        replace k := k.step hb1
        clear hb1
        go_wp2_with fail
        with_reducible refine (reason_at hv _ k.laid).mono ?_
        rintro ev w10 ⟨rfl, hb1⟩
        replace k := k.step hb1
        clear hb1
        go_wp2
        go_ret
        exact ⟨rfl, k.below⟩
  · go_enter Tryd.func5, Tryd.ntmps5
    go_wp2_with fail
    with_reducible refine (alive_any _ k.laid).mono ?_
    rintro ev w1 ⟨rfl, hb1⟩
    replace k := k.step hb1
    clear hb1
    go_wp2
    go_ret
    exact ⟨rfl, k.below⟩
end Go.Proofs.YtmapfpjinfjojaaDoor
