/-
  WhyChains, walked.
-/
import Derived.Test.YtmapfpjinfjojaaDoorDeep
import Derived.Deep.RegionHeld3
namespace Go.Proofs.YtmapfpjinfjojaaDoor
open Go.RowKit

/-- What the law knows of its f (in block g) as the world goes on. -/
structure KS (w : World) (g : Nat) (A : Option Addr) (n c : Nat) (e : Int) (rs : List Int) (W : World) : Prop where
  f0 : W.cell? ⟨g, 0, none⟩ = some (.slice A n c)
  f1 : W.cell? ⟨g, 1, none⟩ = some (.int .i64 e)
  rd : Rd .i64 W W.heap.size A n c rs
  kn : Kn w W
section
variable {w : World} {g : Nat} {A : Option Addr} {n c : Nat} {e : Int} {rs : List Int} {W W' : World}
theorem KS.drew (h : KS w g A n c e rs W) : KS w g A n c e rs W.drew := ⟨h.f0, h.f1, h.rd, ⟨h.kn.laid, h.kn.below.trans ⟨rfl, rfl, rfl, Nat.le_refl _, fun _ _ => rfl⟩⟩⟩
theorem KS.step (h : KS w g A n c e rs W) (hb : Below W.heap.size W W') : KS w g A n c e rs W' :=
  ⟨(hb.cell (cell_lt h.f0)).trans h.f0, (hb.cell (cell_lt h.f1)).trans h.f1, (h.rd.below hb (Nat.le_refl _)).more hb.size, h.kn.step hb⟩
theorem KS.parts (h : KS w g A n c e rs W) : W.cell? ⟨g, 0, none⟩ = some (.slice A n c) ∧ W.cell? ⟨g, 1, none⟩ = some (.int .i64 e) ∧ KS w g A n c e rs W := ⟨h.f0, h.f1, h⟩
end

set_option maxRecDepth 100000 in
set_option maxHeartbeats 4000000 in
theorem chains_law (e o : Int) (A : Option Addr) (n c : Nat) (xs : List Int) (b : Bool) (w : World) (hg : Laid w) (hr : Rd .i64 w w.heap.size A n c xs) :
    Calls Tryd.prog 3 #[.int .i64 e, .int .i64 o, .slice A n c, .bool b] w fun ev w' => ev = .returned (.bool true) ∧ Below w.heap.size w w' := by
  have k := Kn.start hg
  clear hg
  have hmax := hr.max
  have hcap := hr.cap
  by_cases hn : n ≤ 50
  · obtain ⟨q, ho, hR, hL, hC⟩ := chain_any e A n c xs b hn hr.len
    have HC := Lib.hid hC; clear hC
    have HO := Lib.hid ho; clear ho
    go_enter Tryd.func3, Tryd.ntmps3
    go_wp2_with fail
    with_reducible refine (alive_any _ k.laid).mono ?_
    rintro ev w1 ⟨rfl, hb1⟩
    replace k := k.step hb1
    have hr1 := (hr.below hb1 (Nat.le_refl _)).more hb1.size
    clear hb1
    go_wp2_with fail
    refine (HC.out w1 hr1).mono ?_
    rintro ev w2 ⟨A1, n1, c1, rfl, hr2, hb1⟩
    replace k := k.step hb1
    clear hb1 hr1 HC
    have ks : KS w w2.heap.size A1 n1 c1 (eV e q) (lV q) (w2.alloc (.cells #[.slice A1 n1 c1, .int .i64 (eV e q)] 28)) :=
      ⟨by simp, by simp, (hr2.below (alloc_below _ _) (Nat.le_refl _)).more (by simp), k.alloc _⟩
    clear hr2 k
    cases q with
    | none =>
      rw [show xV e none = .nilIface from rfl]
      rw [show eV e none = 0 from rfl, show lV none = [] from rfl] at *
      go_wp2_with fail
      generalize w2.alloc (.cells #[.slice A1 n1 c1, .int .i64 0] 28) = w3 at ks ⊢
      generalize w2.heap.size = g at ks ⊢
      have f0 := ks.f0
      have f1 := ks.f1
      go_region_held3 (fun w' => w'.cell? ⟨g, 0, none⟩ = some (.slice A1 n1 c1) ∧ w'.cell? ⟨g, 1, none⟩ = some (.int .i64 0) ∧ KS w g A1 n1 c1 0 [] w')
        (first
          | assumption
          | (exact KS.parts (KS.drew ks))
          | (go_split_ands; exact KS.parts (KS.step (by assumption) hb10))
          | (go_split_ands; exact KS.parts (KS.step (by assumption) hb11))
          | (go_split_ands; exact KS.parts (KS.step (by assumption) hb9)))
        (first
          | (go_at_call 9; go_split_ands; refine (errno_nil _).mono ?_; rintro ev w5 ⟨rfl, hb9⟩)
          | (go_at_call 11; go_split_ands; refine (all_nil _).mono ?_; rintro ev w6 ⟨rfl, hb11⟩)
          | (go_at_call 10; go_split_ands; refine (sameInts_any _ _ _ _ _ _ [] 0 _ _ Rd.nil (KS.rd (by assumption))).mono ?_; rintro ev w7 ⟨rfl, hb10⟩))
      go_split_ands
      clear hb9 hb10 hb11 f0 f1 ks
      have ks : KS w g A1 n1 c1 0 [] w7 := by assumption
      have k := ks.kn
      clear ks
      go_wp2_with fail
      with_reducible refine (whyIs_nil _ _).mono ?_
      rintro ev w8 ⟨rfl, hb1⟩
      replace k := k.step hb1
      clear hb1
      go_wp2_with fail
      with_reducible refine (reason_nil _).mono ?_
      rintro ev w9 ⟨rfl, hb1⟩
      replace k := k.step hb1
      clear hb1
      go_wp2
      go_ret
      exact ⟨rfl, k.below⟩
    | some rs =>
      have he : ¬ e = 0 := HO.out.resolve_left (fun h => by cases h)
      obtain ⟨tt, v, hv⟩ := isC_any e rs
      rw [show xV e (some rs) = .iface tt v from hv]
      rw [show eV e (some rs) = e from rfl, show lV (some rs) = rs from rfl] at *
      have he' : (e == 0) = false := by simpa using he
      clear he
      go_wp2_with fail
      generalize w2.alloc (.cells #[.slice A1 n1 c1, .int .i64 e] 28) = w3 at ks ⊢
      generalize w2.heap.size = g at ks ⊢
      have f0 := ks.f0
      have f1 := ks.f1
      go_region_held3 (fun w' => w'.cell? ⟨g, 0, none⟩ = some (.slice A1 n1 c1) ∧ w'.cell? ⟨g, 1, none⟩ = some (.int .i64 e) ∧ KS w g A1 n1 c1 e rs w')
        (first
          | assumption
          | (exact KS.parts (KS.drew ks))
          | (go_split_ands; exact KS.parts (KS.step (by assumption) hb10))
          | (go_split_ands; exact KS.parts (KS.step (by assumption) hb11))
          | (go_split_ands; exact KS.parts (KS.step (by assumption) hb9)))
        (first
          | (go_at_call 9; go_split_ands; refine (errno_at hv _ (KS.kn (by assumption)).laid).mono ?_; rintro ev w5 ⟨rfl, hb9⟩)
          | (go_at_call 11; go_split_ands; refine (all_at hv hR _).mono ?_; rintro ev w6 ⟨A5, n5, c5, rfl, o5, hb11⟩)
          | (go_at_call 10; go_split_ands; refine (sameInts_any _ _ _ _ _ _ rs _ _ _ o5.rd (KS.rd (by assumption))).mono ?_; rintro ev w7 ⟨rfl, hb10⟩))
      go_split_ands
      clear hb9 hb10 hb11 o5 f0 f1 ks
      have ks : KS w g A1 n1 c1 e rs w7 := by assumption
      have f0 := ks.f0
      have f1 := ks.f1
      have hsw : (e == o) = (o == e) := by
        by_cases h : e = o
        · rw [h]
        · rw [beq_eq_false_iff_ne.2 h, beq_eq_false_iff_ne.2 (Ne.symm h)]
      go_wp2_with fail
      go_region_held3 (fun w' => w'.cell? ⟨g, 0, none⟩ = some (.slice A1 n1 c1) ∧ w'.cell? ⟨g, 1, none⟩ = some (.int .i64 e) ∧ KS w g A1 n1 c1 e rs w')
        (first
          | assumption
          | (exact KS.parts (KS.drew ks))
          | (go_split_ands; exact KS.parts (KS.step (by assumption) hb12))
          | (go_split_ands; exact KS.parts (KS.step (by assumption) hb14))
          | (go_split_ands; exact KS.parts (KS.step (by assumption) hb13)))
        (first
          | (go_at_call 13; go_split_ands; refine (reason_at hv _ (KS.kn (by assumption)).laid).mono ?_; rintro ev w8 ⟨rfl, hb13⟩)
          | (go_at_call 14; go_split_ands; refine (refReason_any A1 n1 c1 rs e _ (KS.rd (by assumption))).mono ?_; rintro ev w9 ⟨rfl, hb14⟩)
          | (go_at_call 12; go_split_ands; refine (whyIs_at o hv _).mono ?_; rintro ev w10 ⟨rfl, hb12⟩))
      go_split_ands
      have ks' : KS w g A1 n1 c1 e rs w10 := by assumption
      go_wp2
      go_ret
      exact ⟨rfl, ks'.kn.below⟩
  · go_enter Tryd.func3, Tryd.ntmps3
    go_wp2_with fail
    with_reducible refine (alive_any _ k.laid).mono ?_
    rintro ev w1 ⟨rfl, hb1⟩
    replace k := k.step hb1
    clear hb1
    go_wp2
    go_ret
    exact ⟨rfl, k.below⟩
end Go.Proofs.YtmapfpjinfjojaaDoor
