/-
  Contract of MacText (the document's).
-/
import Derived.Test.YtemhahfodblehaaDoorRText
import Derived.Deep.RegionHeld3
namespace Go.Proofs.YtemhahfodblehaaDoor
open Go.RowKit

theorem info5 : (Tryd.prog.info? 5).map (fun i => (i.zero, i.size, i.bytes)) = some (some (.int .u8 0), 1, 1) := by kernel_rfl
/-- The text of the first i of them. -/
def macI (xs : List Nat) : Nat → List UInt8
  | 0 => []
  | i + 1 => macI xs i ++ ((if 0 < i then [58] else []) ++ hexL (xs.getD i 0))
theorem macI_len (xs : List Nat) : ∀ i, (macI xs i).length ≤ 3 * i
  | 0 => by simp [macI]
  | i + 1 => by
    have := macI_len xs i
    simp only [macI, List.length_append, hexL, List.length_cons, List.length_nil]
    split <;> simp <;> omega
theorem macI_six (a b c d e f : Nat) : macI [a, b, c, d, e, f] 6 = macL a b c d e f := by simp [macI, macL]
/-- Characters as integers. -/
def ints (l : List UInt8) : List Int := l.map fun b => (b.toNat : Int)
theorem ints_wf (l : List UInt8) : ∀ x ∈ ints l, (Lit.int .u8 x).wf = true := by
  intro x hx
  simp only [ints, List.mem_map] at hx
  obtain ⟨b, _, rfl⟩ := hx
  exact u8_mk ⟨by omega, by have := b.toNat_lt; omega⟩
/-- What is known inside the loop. -/
structure KM (w : World) (xs : List Nat) (W : World) : Prop where
  below : Below w.heap.size w W
  size : w.heap.size + 1 ≤ W.heap.size
  rd : Rd .u8 W (w.heap.size + 1) (some ⟨w.heap.size, 0, none⟩) 6 6 (xs.map Int.ofNat)
section
variable {w W V : World} {xs : List Nat}
theorem KM.low (k : KM w xs W) (h : Below (w.heap.size + 1) W V) : KM w xs V := ⟨k.below.trans (h.mono (by omega)), Nat.le_trans k.size h.size, k.rd.below h (Nat.le_refl _)⟩
theorem KM.step (k : KM w xs W) (h : Below W.heap.size W V) : KM w xs V := k.low (h.mono k.size)
theorem KM.drew (k : KM w xs W) : KM w xs W.drew := k.step ⟨rfl, rfl, rfl, Nat.le_refl _, fun _ _ => rfl⟩
end
theorem Out.own {k : IntKind} {e : TypeId} {w : World} {base : Nat} {A : Option Addr} {n c : Nat} {xs : List Int} (h : Out k e w base A n c xs) : (Value.slice A n c).ownBlock = none ∨ ∃ g, (Value.slice A n c).ownBlock = some g ∧ base ≤ g := by
  rcases h.form with ⟨rfl, _⟩ | ⟨g, cur, rfl, hb, _⟩
  · exact .inl rfl
  · exact .inr ⟨g, rfl, hb⟩
theorem Out.drew {k : IntKind} {e : TypeId} {w : World} {base : Nat} {A : Option Addr} {n c : Nat} {xs : List Int} (h : Out k e w base A n c xs) : Out k e w.drew base A n c xs := h.below (B := w.heap.size) ⟨rfl, rfl, rfl, Nat.le_refl _, fun _ _ => rfl⟩ (Nat.le_refl _)
set_option maxRecDepth 100000 in
set_option maxHeartbeats 2000000 in
theorem refMac_list (xs : List Nat) (a b c d e f : Nat) (hxs : xs = [a, b, c, d, e, f]) (hx : ∀ x ∈ xs, x < 256) (w : World) :
    Calls Tryd.prog 32 #[.agg #[.int .u8 a, .int .u8 b, .int .u8 c, .int .u8 d, .int .u8 e, .int .u8 f]] w fun z w' => z = .returned (strV (macL a b c d e f)) ∧ Below w.heap.size w w' := by
  have hlen : xs.length = 6 := by rw [hxs]; rfl
  have r := rd_block w 36 (xs.map Int.ofNat) (by
    intro x hx'
    obtain ⟨y, hy, rfl⟩ := List.mem_map.1 hx'
    exact u8_nat (hx y hy)) (by simp [hlen])
  have k0 : KM w xs (w.alloc (.cells #[.int .u8 a, .int .u8 b, .int .u8 c, .int .u8 d, .int .u8 e, .int .u8 f] 36)) := by
    refine ⟨alloc_below _ _, by simp, ?_⟩
    simp only [List.length_map, hlen] at r
    rw [hxs] at r ⊢
    exact r
  have hend : Hid (macI xs 6 = macL a b c d e f) := Lib.hid (by rw [hxs]; exact macI_six a b c d e f)
  have k1 := k0.step (alloc_below _ (.cells #[] 5))
  have o1 := Out.lit0 .u8 5 (w.alloc (.cells #[.int .u8 a, .int .u8 b, .int .u8 c, .int .u8 d, .int .u8 e, .int .u8 f] 36)) (w.heap.size + 1) k0.size
  rw [World.size_alloc] at o1
  clear hxs r k0
  go_enter Tryd.func32, Tryd.ntmps32
  go_wp2_with fail
  go_loopw [4, 5] (fun v i wr => ∃ (j : Nat) (B : Option Addr) (m dd : Nat), v = .slice B m dd ∧ i = .int .i64 j ∧ j ≤ 6 ∧ KM w xs wr ∧ Out .u8 5 wr (w.heap.size + 1) B m dd (ints (macI xs j))) (fun _ i _ => 6 - (intOf i).toNat)
  case atStart => exact ⟨0, _, _, _, rfl, rfl, by omega, k1, o1⟩
  case round =>
    clear k1 o1
    obtain ⟨j, B, m, dd, rfl, rfl, hj, k, o⟩ := hrel
    have hm : m ≤ 18 := by have := o.len; have h2 := macI_len xs j; simp [ints] at this; omega
    by_cases hlt : j < 6
    · have hxj : xs.getD j 0 < 256 := by
        have e : xs.getD j 0 = xs[j]'(by omega) := by simp [List.getD, List.getElem?_eq_getElem (show j < xs.length by omega)]
        rw [e]; exact hx _ (List.getElem_mem _)
      have HI : Hid (ints (macI xs (j + 1)) = ints (macI xs j) ++ (ints (if 0 < j then [58] else []) ++ ints (hexL (xs.getD j 0)))) := Lib.hid (by simp [ints, macI])
      have hrow : (xs.map Int.ofNat).getD j 0 = ((xs.getD j 0 : Nat) : Int) := by simp [List.getD, List.getElem?_eq_getElem (show j < xs.length by omega)]
      by_cases hpos : 0 < j
      case' neg =>
        have hpi : ¬ (0 < (j : Int)) := by omega
        obtain ⟨bb, oo, e0, _, hc⟩ := k.rd.at_ hlt
        rw [hrow] at hc
        injection e0 with e0
        injection e0 with e1 e2
        subst e1
        subst e2
        rw [Nat.zero_add] at hc
        clear hrow
        generalize xs.getD j 0 = x at hc hxj HI
        obtain ⟨xi, hxi⟩ : ∃ xi : Int, xi = (x : Int) := ⟨_, rfl⟩
        rw [← hxi] at hc
        have f1 : xi.tdiv 16 = ((x / 16 : Nat) : Int) := by rw [hxi, Int.tdiv_eq_ediv_of_nonneg (by omega)]; omega
        have f2 : xi.tmod 16 = ((x % 16 : Nat) : Int) := by rw [hxi, Int.tmod_eq_emod_of_nonneg (by omega)]; omega
        clear hxi
        have hq : x / 16 < 16 := by omega
        have hr : x % 16 < 16 := by omega
        have HX : Hid (ints (hexL x) = [((hexC (x / 16)).toNat : Int), ((hexC (x % 16)).toNat : Int)]) := Lib.hid rfl
        generalize x / 16 = q at f1 hq HX
        generalize x % 16 = r at f2 hr HX
        have f3 : IntKind.u8.wrap (q : Int) = q := by rw [IntKind.wrap_u8']; omega
        have f4 : IntKind.u8.wrap (r : Int) = r := by rw [IntKind.wrap_u8']; omega
        have g1 := fun W => run_hexC W .u8 q hq
        have g2 := fun W => run_hexC W .u8 r hr
        have hj0 : (0 : Int) ≤ (j : Int) := by omega
        have hj1 : (j : Int) < 6 := by omega
        go_wp2_with fail
        have k' := k.drew
        have o' := o.drew
        refine wp_region_held_drew (S := fun w' => w'.cell? ⟨w.heap.size, j, none⟩ = some (.int .u8 xi)) (by kernel_rfl) hc (fun hHeld => ?_)
        refine wpAnyH_at (i := 0) (some 16) (v := ?v0z1) rfl rfl (by kernel_rfl) (by kernel_rfl) (by kernel_rfl) (fun _ _ _ h => h) (Or.inl ⟨by rfl, ?y0z1⟩) (by assumption) ?r0z1
        case y0z1 =>
          intro w9 hSw
          (try dsimp only at hSw)
          go_simp
          all_goals with_reducible rfl
        simp only [Act.put, List.setIfInBounds_toArray, List.set_cons_zero, List.set_cons_succ]
        refine wpAnyH_at (i := 1) (some 17) (v := ?v1z2) rfl rfl (by kernel_rfl) (by kernel_rfl) (by kernel_rfl) (fun _ _ _ h => h) (Or.inl ⟨by rfl, ?y1z2⟩) (by assumption) ?r1z2
        case y1z2 =>
          intro w9 hSw
          (try dsimp only at hSw)
          go_simp
          all_goals with_reducible rfl
        simp only [Act.put, List.setIfInBounds_toArray, List.set_cons_zero, List.set_cons_succ]
        refine wpAnyH_at (i := 2) (some 18) (v := ?v2z3) rfl rfl (by kernel_rfl) (by kernel_rfl) (by kernel_rfl) (fun _ _ _ h => h) (Or.inl ⟨by rfl, ?y2z3⟩) (by assumption) ?r2z3
        case y2z3 =>
          intro w9 hSw
          (try dsimp only at hSw)
          go_simp
          all_goals with_reducible rfl
        simp only [Act.put, List.setIfInBounds_toArray, List.set_cons_zero, List.set_cons_succ]
        refine wpAnyH_at (i := 3) (some 19) (v := ?v3z4) rfl rfl (by kernel_rfl) (by kernel_rfl) (by kernel_rfl) (fun _ _ _ h => h) (Or.inl ⟨by rfl, ?y3z4⟩) (by assumption) ?r3z4
        case y3z4 =>
          intro w9 hSw
          (try dsimp only at hSw)
          go_simp
          all_goals with_reducible rfl
        simp only [Act.put, List.setIfInBounds_toArray, List.set_cons_zero, List.set_cons_succ]
        refine wpAnyH_at (i := 4) (some 20) (v := ?v4z5) rfl rfl (by kernel_rfl) (by kernel_rfl) (by kernel_rfl) (fun _ _ _ h => h) (Or.inl ⟨by rfl, ?y4z5⟩) (by assumption) ?r4z5
        case y4z5 =>
          intro w9 hSw
          (try dsimp only at hSw)
          go_simp
          all_goals with_reducible rfl
        simp only [Act.put, List.setIfInBounds_toArray, List.set_cons_zero, List.set_cons_succ]
        refine wpAnyH_at (i := 5) (some 21) (v := ?v5z6) rfl rfl (by kernel_rfl) (by kernel_rfl) (by kernel_rfl) (fun _ _ _ h => h) (Or.inl ⟨by rfl, ?y5z6⟩) (by assumption) ?r5z6
        case y5z6 =>
          intro w9 hSw
          (try dsimp only at hSw)
          go_simp
          all_goals with_reducible rfl
        simp only [Act.put, List.setIfInBounds_toArray, List.set_cons_zero, List.set_cons_succ]
        refine wpAnyH_at (i := 6) (some 22) (v := ?v6z7) rfl rfl (by kernel_rfl) (by kernel_rfl) (by kernel_rfl) (fun _ _ _ h => h) (Or.inl ⟨by rfl, ?y6z7⟩) (by assumption) ?r6z7
        case y6z7 =>
          intro w9 hSw
          (try dsimp only at hSw)
          go_simp
          all_goals with_reducible rfl
        simp only [Act.put, List.setIfInBounds_toArray, List.set_cons_zero, List.set_cons_succ]
        refine wpAnyH_at (i := 7) (some 23) (v := ?v7z8) rfl rfl (by kernel_rfl) (by kernel_rfl) (by kernel_rfl) (fun _ _ _ h => h) (Or.inl ⟨by rfl, ?y7z8⟩) (by assumption) ?r7z8
        case y7z8 =>
          intro w9 hSw
          (try dsimp only at hSw)
          go_simp
          all_goals with_reducible rfl
        simp only [Act.put, List.setIfInBounds_toArray, List.set_cons_zero, List.set_cons_succ]
        refine wpAnyH_at (i := 8) (some 24) (v := ?v8z9) rfl rfl (by kernel_rfl) (by kernel_rfl) (by kernel_rfl) (fun _ _ _ h => h) (Or.inl ⟨by rfl, ?y8z9⟩) (by assumption) ?r8z9
        case y8z9 =>
          intro w9 hSw
          (try dsimp only at hSw)
          go_simp
          all_goals with_reducible rfl
        simp only [Act.put, List.setIfInBounds_toArray, List.set_cons_zero, List.set_cons_succ]
        refine wpAnyH_at (i := 9) (some 25) (v := ?v9z10) rfl rfl (by kernel_rfl) (by kernel_rfl) (by kernel_rfl) (fun _ _ _ h => h) (Or.inl ⟨by rfl, ?y9z10⟩) (by assumption) ?r9z10
        case y9z10 =>
          intro w9 hSw
          (try dsimp only at hSw)
          go_simp
          all_goals with_reducible rfl
        simp only [Act.put, List.setIfInBounds_toArray, List.set_cons_zero, List.set_cons_succ]
        refine wpAnyH_at (i := 10) (some 26) (v := ?v10z11) rfl rfl (by kernel_rfl) (by kernel_rfl) (by kernel_rfl) (fun _ _ _ h => h) (Or.inl ⟨by rfl, ?y10z11⟩) (by assumption) ?r10z11
        case y10z11 =>
          intro w9 hSw
          (try dsimp only at hSw)
          go_simp
          all_goals with_reducible rfl
        simp only [Act.put, List.setIfInBounds_toArray, List.set_cons_zero, List.set_cons_succ]
        refine wpAnyH_at (i := 11) (some 27) (v := ?v11z12) rfl rfl (by kernel_rfl) (by kernel_rfl) (by kernel_rfl) (fun _ _ _ h => h) (Or.inl ⟨by rfl, ?y11z12⟩) (by assumption) ?r11z12
        case y11z12 =>
          intro w9 hSw
          (try dsimp only at hSw)
          go_simp
          all_goals with_reducible rfl
        simp only [Act.put, List.setIfInBounds_toArray, List.set_cons_zero, List.set_cons_succ]
        refine wpAnyH_at (i := 12) (some 28) (v := ?v12z13) rfl rfl (by kernel_rfl) (by kernel_rfl) (by kernel_rfl) (fun _ _ _ h => h) (Or.inl ⟨by rfl, ?y12z13⟩) (by assumption) ?r12z13
        case y12z13 =>
          intro w9 hSw
          (try dsimp only at hSw)
          go_simp
          all_goals with_reducible rfl
        simp only [Act.put, List.setIfInBounds_toArray, List.set_cons_zero, List.set_cons_succ]
        refine wpAnyH_one (i := 13) (by kernel_rfl) rfl ?_
        clear k o hc g1 g2 f1 f2 f3 f4
        generalize World.drew _ = w5 at k' o' hHeld ⊢
        have k6 := k'.step (alloc_below w5 (.cells #[.int .u8 (hexC q).toNat, .int .u8 (hexC r).toNat] 5))
        have o6 := o'.below (alloc_below w5 (.cells #[.int .u8 (hexC q).toNat, .int .u8 (hexC r).toNat] 5)) (Nat.le_refl _)
        have r6 := rd_block w5 5 [((hexC q).toNat : Int), ((hexC r).toNat : Int)] (ints_wf [hexC q, hexC r]) (by simp)
        have hS6 := ((alloc_below w5 (.cells #[.int .u8 (hexC q).toNat, .int .u8 (hexC r).toNat] 5)).cell (p := ⟨w.heap.size, j, none⟩) (by have := k'.size; show w.heap.size < _; omega)).trans hHeld
        go_wp2
        refine ⟨hS6, ?_⟩
        refine wpAnyH_one (i := 14) (by kernel_rfl) rfl ?_
        refine wpList_app rfl _ _ 65 rfl (w.heap.size + 1) Tryd.underlying65 info5 (by decide) _ _ _ _ rfl o6 _ 2 2 _ [((hexC q).toNat : Int), ((hexC r).toNat : Int)] rfl r6 (by omega) k6.size ?_
        intro B7 m7 d7 w7 o7 hg
        have hb7 := below_grown hg k6.size o6.own
        have k7 := k6.low hb7
        have hS7 := (hb7.cell (p := ⟨w.heap.size, j, none⟩) (by show w.heap.size < _; omega)).trans hS6
        clear hg hb7 k6 o6 r6 k' o' hHeld hS6
        go_wp2
        refine ⟨hS7, ?_⟩
        refine wpAnyH_one (i := 15) (by kernel_rfl) rfl ?_
        go_wp2
        refine ⟨hS7, ?_⟩
        refine wpAnyH_done (by kernel_rfl) ?_ _
        go_wp2
        go_roundw
        case rel => exact ⟨j + 1, B7, m7, d7, rfl, by go_num, by omega, k7, by rw [HI.out, HX.out]; simpa [ints, hpos] using o7⟩
        case measure => simp [intOf]; omega
      case' pos =>
        have hpi : 0 < (j : Int) := by omega
        have r1 := rd_block wr 5 [(58 : Int)] (by intro x hx; simp at hx; subst hx; decide) (by simp)
        have k2 := k.step (alloc_below wr (.cells #[.int .u8 58] 5))
        have o2 := o.below (alloc_below wr (.cells #[.int .u8 58] 5)) (Nat.le_refl _)
        go_wp2_with (at_builtin; refine wpList_app rfl _ _ 65 rfl (w.heap.size + 1) Tryd.underlying65 info5 (by decide) _ _ _ _ rfl o2 _ 1 1 _ [58] rfl r1 (by omega) k2.size ?_; intro B3 m3 d3 w3 o3 hg)
        have hb3 := below_grown hg k2.size o2.own
        have k3 := k2.low hb3
        have hm3 : m3 ≤ 19 := by
          have h1 := o3.len
          have h2 := macI_len xs j
          simp [ints] at h1
          omega
        clear hg hb3 k2 o2 r1 k o hm
        have k := k3
        have o := o3
        clear k3 o3
        obtain ⟨bb, oo, e0, _, hc⟩ := k.rd.at_ hlt
        rw [hrow] at hc
        injection e0 with e0
        injection e0 with e1 e2
        subst e1
        subst e2
        rw [Nat.zero_add] at hc
        clear hrow
        generalize xs.getD j 0 = x at hc hxj HI
        obtain ⟨xi, hxi⟩ : ∃ xi : Int, xi = (x : Int) := ⟨_, rfl⟩
        rw [← hxi] at hc
        have f1 : xi.tdiv 16 = ((x / 16 : Nat) : Int) := by rw [hxi, Int.tdiv_eq_ediv_of_nonneg (by omega)]; omega
        have f2 : xi.tmod 16 = ((x % 16 : Nat) : Int) := by rw [hxi, Int.tmod_eq_emod_of_nonneg (by omega)]; omega
        clear hxi
        have hq : x / 16 < 16 := by omega
        have hr : x % 16 < 16 := by omega
        have HX : Hid (ints (hexL x) = [((hexC (x / 16)).toNat : Int), ((hexC (x % 16)).toNat : Int)]) := Lib.hid rfl
        generalize x / 16 = q at f1 hq HX
        generalize x % 16 = r at f2 hr HX
        have f3 : IntKind.u8.wrap (q : Int) = q := by rw [IntKind.wrap_u8']; omega
        have f4 : IntKind.u8.wrap (r : Int) = r := by rw [IntKind.wrap_u8']; omega
        have g1 := fun W => run_hexC W .u8 q hq
        have g2 := fun W => run_hexC W .u8 r hr
        have hj0 : (0 : Int) ≤ (j : Int) := by omega
        have hj1 : (j : Int) < 6 := by omega
        go_wp2_with fail
        have k' := k.drew
        have o' := o.drew
        refine wp_region_held_drew (S := fun w' => w'.cell? ⟨w.heap.size, j, none⟩ = some (.int .u8 xi)) (by kernel_rfl) hc (fun hHeld => ?_)
        refine wpAnyH_at (i := 0) (some 16) (v := ?v0z14) rfl rfl (by kernel_rfl) (by kernel_rfl) (by kernel_rfl) (fun _ _ _ h => h) (Or.inl ⟨by rfl, ?y0z14⟩) (by assumption) ?r0z14
        case y0z14 =>
          intro w9 hSw
          (try dsimp only at hSw)
          go_simp
          all_goals with_reducible rfl
        simp only [Act.put, List.setIfInBounds_toArray, List.set_cons_zero, List.set_cons_succ]
        refine wpAnyH_at (i := 1) (some 17) (v := ?v1z15) rfl rfl (by kernel_rfl) (by kernel_rfl) (by kernel_rfl) (fun _ _ _ h => h) (Or.inl ⟨by rfl, ?y1z15⟩) (by assumption) ?r1z15
        case y1z15 =>
          intro w9 hSw
          (try dsimp only at hSw)
          go_simp
          all_goals with_reducible rfl
        simp only [Act.put, List.setIfInBounds_toArray, List.set_cons_zero, List.set_cons_succ]
        refine wpAnyH_at (i := 2) (some 18) (v := ?v2z16) rfl rfl (by kernel_rfl) (by kernel_rfl) (by kernel_rfl) (fun _ _ _ h => h) (Or.inl ⟨by rfl, ?y2z16⟩) (by assumption) ?r2z16
        case y2z16 =>
          intro w9 hSw
          (try dsimp only at hSw)
          go_simp
          all_goals with_reducible rfl
        simp only [Act.put, List.setIfInBounds_toArray, List.set_cons_zero, List.set_cons_succ]
        refine wpAnyH_at (i := 3) (some 19) (v := ?v3z17) rfl rfl (by kernel_rfl) (by kernel_rfl) (by kernel_rfl) (fun _ _ _ h => h) (Or.inl ⟨by rfl, ?y3z17⟩) (by assumption) ?r3z17
        case y3z17 =>
          intro w9 hSw
          (try dsimp only at hSw)
          go_simp
          all_goals with_reducible rfl
        simp only [Act.put, List.setIfInBounds_toArray, List.set_cons_zero, List.set_cons_succ]
        refine wpAnyH_at (i := 4) (some 20) (v := ?v4z18) rfl rfl (by kernel_rfl) (by kernel_rfl) (by kernel_rfl) (fun _ _ _ h => h) (Or.inl ⟨by rfl, ?y4z18⟩) (by assumption) ?r4z18
        case y4z18 =>
          intro w9 hSw
          (try dsimp only at hSw)
          go_simp
          all_goals with_reducible rfl
        simp only [Act.put, List.setIfInBounds_toArray, List.set_cons_zero, List.set_cons_succ]
        refine wpAnyH_at (i := 5) (some 21) (v := ?v5z19) rfl rfl (by kernel_rfl) (by kernel_rfl) (by kernel_rfl) (fun _ _ _ h => h) (Or.inl ⟨by rfl, ?y5z19⟩) (by assumption) ?r5z19
        case y5z19 =>
          intro w9 hSw
          (try dsimp only at hSw)
          go_simp
          all_goals with_reducible rfl
        simp only [Act.put, List.setIfInBounds_toArray, List.set_cons_zero, List.set_cons_succ]
        refine wpAnyH_at (i := 6) (some 22) (v := ?v6z20) rfl rfl (by kernel_rfl) (by kernel_rfl) (by kernel_rfl) (fun _ _ _ h => h) (Or.inl ⟨by rfl, ?y6z20⟩) (by assumption) ?r6z20
        case y6z20 =>
          intro w9 hSw
          (try dsimp only at hSw)
          go_simp
          all_goals with_reducible rfl
        simp only [Act.put, List.setIfInBounds_toArray, List.set_cons_zero, List.set_cons_succ]
        refine wpAnyH_at (i := 7) (some 23) (v := ?v7z21) rfl rfl (by kernel_rfl) (by kernel_rfl) (by kernel_rfl) (fun _ _ _ h => h) (Or.inl ⟨by rfl, ?y7z21⟩) (by assumption) ?r7z21
        case y7z21 =>
          intro w9 hSw
          (try dsimp only at hSw)
          go_simp
          all_goals with_reducible rfl
        simp only [Act.put, List.setIfInBounds_toArray, List.set_cons_zero, List.set_cons_succ]
        refine wpAnyH_at (i := 8) (some 24) (v := ?v8z22) rfl rfl (by kernel_rfl) (by kernel_rfl) (by kernel_rfl) (fun _ _ _ h => h) (Or.inl ⟨by rfl, ?y8z22⟩) (by assumption) ?r8z22
        case y8z22 =>
          intro w9 hSw
          (try dsimp only at hSw)
          go_simp
          all_goals with_reducible rfl
        simp only [Act.put, List.setIfInBounds_toArray, List.set_cons_zero, List.set_cons_succ]
        refine wpAnyH_at (i := 9) (some 25) (v := ?v9z23) rfl rfl (by kernel_rfl) (by kernel_rfl) (by kernel_rfl) (fun _ _ _ h => h) (Or.inl ⟨by rfl, ?y9z23⟩) (by assumption) ?r9z23
        case y9z23 =>
          intro w9 hSw
          (try dsimp only at hSw)
          go_simp
          all_goals with_reducible rfl
        simp only [Act.put, List.setIfInBounds_toArray, List.set_cons_zero, List.set_cons_succ]
        refine wpAnyH_at (i := 10) (some 26) (v := ?v10z24) rfl rfl (by kernel_rfl) (by kernel_rfl) (by kernel_rfl) (fun _ _ _ h => h) (Or.inl ⟨by rfl, ?y10z24⟩) (by assumption) ?r10z24
        case y10z24 =>
          intro w9 hSw
          (try dsimp only at hSw)
          go_simp
          all_goals with_reducible rfl
        simp only [Act.put, List.setIfInBounds_toArray, List.set_cons_zero, List.set_cons_succ]
        refine wpAnyH_at (i := 11) (some 27) (v := ?v11z25) rfl rfl (by kernel_rfl) (by kernel_rfl) (by kernel_rfl) (fun _ _ _ h => h) (Or.inl ⟨by rfl, ?y11z25⟩) (by assumption) ?r11z25
        case y11z25 =>
          intro w9 hSw
          (try dsimp only at hSw)
          go_simp
          all_goals with_reducible rfl
        simp only [Act.put, List.setIfInBounds_toArray, List.set_cons_zero, List.set_cons_succ]
        refine wpAnyH_at (i := 12) (some 28) (v := ?v12z26) rfl rfl (by kernel_rfl) (by kernel_rfl) (by kernel_rfl) (fun _ _ _ h => h) (Or.inl ⟨by rfl, ?y12z26⟩) (by assumption) ?r12z26
        case y12z26 =>
          intro w9 hSw
          (try dsimp only at hSw)
          go_simp
          all_goals with_reducible rfl
        simp only [Act.put, List.setIfInBounds_toArray, List.set_cons_zero, List.set_cons_succ]
        refine wpAnyH_one (i := 13) (by kernel_rfl) rfl ?_
        clear k o hc g1 g2 f1 f2 f3 f4
        generalize World.drew _ = w5 at k' o' hHeld ⊢
        have k6 := k'.step (alloc_below w5 (.cells #[.int .u8 (hexC q).toNat, .int .u8 (hexC r).toNat] 5))
        have o6 := o'.below (alloc_below w5 (.cells #[.int .u8 (hexC q).toNat, .int .u8 (hexC r).toNat] 5)) (Nat.le_refl _)
        have r6 := rd_block w5 5 [((hexC q).toNat : Int), ((hexC r).toNat : Int)] (ints_wf [hexC q, hexC r]) (by simp)
        have hS6 := ((alloc_below w5 (.cells #[.int .u8 (hexC q).toNat, .int .u8 (hexC r).toNat] 5)).cell (p := ⟨w.heap.size, j, none⟩) (by have := k'.size; show w.heap.size < _; omega)).trans hHeld
        go_wp2
        refine ⟨hS6, ?_⟩
        refine wpAnyH_one (i := 14) (by kernel_rfl) rfl ?_
        refine wpList_app rfl _ _ 65 rfl (w.heap.size + 1) Tryd.underlying65 info5 (by decide) _ _ _ _ rfl o6 _ 2 2 _ [((hexC q).toNat : Int), ((hexC r).toNat : Int)] rfl r6 (by omega) k6.size ?_
        intro B7 m7 d7 w7 o7 hg
        have hb7 := below_grown hg k6.size o6.own
        have k7 := k6.low hb7
        have hS7 := (hb7.cell (p := ⟨w.heap.size, j, none⟩) (by show w.heap.size < _; omega)).trans hS6
        clear hg hb7 k6 o6 r6 k' o' hHeld hS6
        go_wp2
        refine ⟨hS7, ?_⟩
        refine wpAnyH_one (i := 15) (by kernel_rfl) rfl ?_
        go_wp2
        refine ⟨hS7, ?_⟩
        refine wpAnyH_done (by kernel_rfl) ?_ _
        go_wp2
        go_roundw
        case rel => exact ⟨j + 1, B7, m7, d7, rfl, by go_num, by omega, k7, by rw [HI.out, HX.out]; simpa [ints, hpos] using o7⟩
        case measure => simp [intOf]; omega
    · have hje : j = 6 := by omega
      subst hje
      have hl : (macI xs 6).length = m := by have := o.len; simpa [ints] using this
      have hE := hend.out
      have hcv : (convert 65 9 (.slice B m dd)).run Tryd.prog wr = .ok (strV (macI xs 6)) wr := by
        subst hl
        have hpos : 0 < (macI xs 6).length := by rw [hE]; simp [macL, hexL]
        obtain ⟨b9, o9, rfl, _, _⟩ := o.rd.at_ hpos
        refine run_convert_bytes_back wr 65 9 5 ⟨b9, o9, none⟩ dd (macI xs 6) Tryd.underlying65 Tryd.underlying5 Tryd.underlying9 (fun j hj => ?_)
        obtain ⟨b8, o8, e8, _, hc⟩ := o.rd.at_ (i := j) hj
        injection e8 with e8
        injection e8 with e1 e2
        subst e1
        subst e2
        have ha : (⟨b9, o9, none⟩ : Addr).add j = ⟨b9, o9 + j, none⟩ := by unfold Addr.add; split <;> simp_all
        rw [ha, hc]
        simp [ints, List.getD, List.getElem?_eq_getElem hj]
      rw [hE] at hcv
      clear hE hl
      go_wp2
      go_ret
      exact ⟨rfl, k.below⟩
theorem refMac_any (a b c d e f : Nat) (ha : a < 256) (hb : b < 256) (hc : c < 256) (hd : d < 256) (he : e < 256) (hf : f < 256) (w : World) :
    Calls Tryd.prog 32 #[.agg #[.int .u8 a, .int .u8 b, .int .u8 c, .int .u8 d, .int .u8 e, .int .u8 f]] w fun z w' => z = .returned (strV (macL a b c d e f)) ∧ Below w.heap.size w w' :=
  refMac_list [a, b, c, d, e, f] a b c d e f rfl (by simp [*]) w
end Go.Proofs.YtemhahfodblehaaDoor
