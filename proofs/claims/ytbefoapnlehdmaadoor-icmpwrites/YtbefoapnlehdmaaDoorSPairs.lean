/-
  The iterator 'pairs': its value, and what it hands over.
-/
import Derived.Test.YtbefoapnlehdmaaDoorSLeaf
import Derived.Test.YtbefoapnlehdmaaDoorSLaw
import Derived.Shelf.Abstract
import Derived.Shelf.RegionOpen
import Derived.OwnWalkIn
import Derived.TacticsInMore
import Derived.LoopNIn
import Derived.LoopIn
namespace Go.Proofs.YtbefoapnlehdmaaDoor
open Go.RowKit Go.Shelf

/-- 'copy' of bytes into a row that is known whole, some go over: as it runs. -/
theorem copy_run {w : World} (g off dLen dCap : Nat) (ba oa sLen sCap : Nat) (cur : List Value) (t : TypeId) (hg : w.heap[g]? = some (.cells cur.toArray t (0, 0))) (ys : List Int) (m : Nat) (hm : ys.length = m) (hn : m = Nat.min sLen dLen)
    (hsrc : ∀ j, j < m → w.cell? ⟨ba, oa + j, none⟩ = some (.int .u8 (ys.getD j 0))) (hfit : off + m ≤ cur.length) (new : List Value) (hnew : new = cur.take off ++ (ys.map (Value.int .u8) ++ cur.drop (off + m))) :
    ∃ w', (Builtin.copy_ #[22, 22] 3 #[.slice (some ⟨g, off, none⟩) dLen dCap, .slice (some ⟨ba, oa, none⟩) sLen sCap]).run Tryd.prog w = .ok (.int .i64 m) w' ∧ w'.heap[g]? = some (.cells new.toArray t (0, 0)) ∧ Below g w w' := by
  subst hm
  have hsrc' : ∀ j v, (ys.map (Value.int .u8))[j]? = some v → w.cell? ((⟨ba, oa, none⟩ : Addr).add j) = some v := by
    intro j v hv
    simp only [List.getElem?_map, Option.map_eq_some_iff] at hv
    obtain ⟨x, hx, rfl⟩ := hv
    have hj := (List.getElem?_eq_some_iff.1 hx).1
    have ha : (⟨ba, oa, none⟩ : Addr).add j = ⟨ba, oa + j, none⟩ := by unfold Addr.add; split <;> simp_all
    rw [ha, hsrc j hj]
    simp [List.getD, hx]
  have hrun := run_copy_row (P := Tryd.prog) w 22 22 3 5 g off dLen dCap ⟨ba, oa, none⟩ sLen sCap cur.toArray t (ys.map (Value.int .u8)) Tryd.underlying22 (by kernel_rfl) hg (by simpa using hn) hsrc' (by simpa using hfit) (ints_one _ ys)
  have hw := setRow_heap w g cur.toArray (cur.take off ++ ys.map (Value.int .u8) ++ cur.drop (off + ys.length)).toArray t (0, 0) hg
  refine ⟨_, by simpa [goInt] using hrun, ?_, below_setRow (Below.refl _ _) (Nat.le_refl _) _⟩
  rw [hnew]
  simpa using hw

/-- The slice value '.slice A n c' holds slices of bytes, which read as ps: their values in a block below B1 that X does not name, their bytes below B. -/
def Rows2 (w : World) (X : Nat → Prop) (B B1 : Nat) (A : Option Addr) (n c : Nat) (ps : List (List Int)) : Prop :=
  ps.length = n ∧ n ≤ 9223372036854775807 ∧ n ≤ c ∧ ∀ i, i < n → ∃ b o A' n' c', A = some ⟨b, o, none⟩ ∧ (b < B1 ∧ ¬ X b) ∧ w.cell? ⟨b, o + i, none⟩ = some (.slice A' n' c') ∧ Rd .u8 w B A' n' c' (ps.getD i [])

theorem Rows2.keep {w w' : World} {X : Nat → Prop} {B B1 : Nat} {A : Option Addr} {n c : Nat} {ps : List (List Int)} (h : Rows2 w X B B1 A n c ps) (hk : ∀ p : Addr, p.block < B ∨ (p.block < B1 ∧ ¬ X p.block) → w'.cell? p = w.cell? p) : Rows2 w' X B B1 A n c ps :=
  ⟨h.1, h.2.1, h.2.2.1, fun i hi => by
    obtain ⟨b, o, A', n', c', e, hb, hc, hr⟩ := h.2.2.2 i hi
    exact ⟨b, o, A', n', c', e, hb, (hk ⟨b, o + i, none⟩ (.inr hb)).trans hc, hr.keep fun p hp => hk p (.inl hp)⟩⟩

theorem pairs_any (A : Option Addr) (n c : Nat) (w : World) : CallsIn Fence.wide 0 Tryd.prog 45 #[.slice A n c] w fun e w' => e = .returned (.func (.func 61) #[] #[.pointer (some ⟨w.heap.size, 0, none⟩)]) ∧ w' = w.alloc (.cells #[.slice A n c] 86) := by
  refine callsIn_of_wp Tryd.func45 rfl trivial ?_ rfl
  simp only [Tryd.ntmps45, List.size_toArray, List.length_cons, List.length_nil, Nat.reduceAdd, Nat.reduceSub, Array.replicate_succ, Array.replicate_zero, List.push_toArray, List.append_toArray, List.nil_append, List.cons_append]
  gi_wp2
  go_ret
  exact ⟨rfl, rfl⟩

/-- A pair's value. -/
def encP (p : Int × Int) : Array Value := #[.agg #[.int .u8 p.1, .int .u8 p.2]]

theorem drop_flat (ps : List (List Int)) (k : Nat) (h : k < ps.length) : (ps.drop k).flatten = ps.getD k [] ++ (ps.drop (k + 1)).flatten := by
  rw [List.drop_eq_getElem_cons h, List.flatten_cons]
  simp [List.getD, List.getElem?_eq_getElem h]

def lenOf : Value → Nat
  | .slice _ n _ => n
  | _ => 0

/-- What the iterator knows between two steps: what it has handed over, what it holds back, what is still to come. -/
structure It (l : Nat) (X : Nat → Prop) (B B1 : Nat) (A : Option Addr) (n c : Nat) (ps : List (List Int)) (J : List (Int × Int) → World → Prop) (W : World) (hold : List Int) (pre : List (Int × Int)) (rest : List Int) (wr : World) : Prop where
  j : J pre wr
  rows : Rows2 wr X B B1 A n c ps
  all : pairsV ps.flatten = pre ++ pairsV (hold ++ rest)
  size : W.heap.size < wr.heap.size
  pair : wr.heap[W.heap.size]? = some (.cells #[.int .u8 (hold.getD 0 0), .int .u8 0] 90 (0, 0))

section
variable {l : Nat} {X : Nat → Prop} {B B1 : Nat} {A : Option Addr} {n c : Nat} {ps : List (List Int)} {J : List (Int × Int) → World → Prop} {W : World} {hold : List Int} {pre : List (Int × Int)} {rest : List Int} {wr : World}
  (hB : B ≤ B1) (hl1 : B1 ≤ l) (hl2 : l < W.heap.size) (hX : ∀ k, X k → B ≤ k ∧ k < B1) (hJ : ∀ s V V', J s V → Below W.heap.size V V' → J s V')
set_option linter.unusedSectionVars false
include hB hl1 hl2 hX hJ

/-- The pair's block is written, no pair is handed over. -/
theorem It.wrote {w2 : World} {x y : Int} (h : It l X B B1 A n c ps J W hold pre rest wr) (hb : Below W.heap.size wr w2) (hp : w2.heap[W.heap.size]? = some (.cells #[.int .u8 x, .int .u8 y] 90 (0, 0))) :
    J pre w2 ∧ Rows2 w2 X B B1 A n c ps ∧ W.heap.size < w2.heap.size :=
  ⟨hJ _ _ _ h.j hb, h.rows.keep (fun p hp => hb.cell (by omega)), (Array.getElem?_eq_some_iff.1 hp).1⟩
/-- A round, and the pair's block is cleared. -/
theorem It.went {w2 w3 w4 : World} {x y : Int} {rest' : List Int} (hr : Rows2 w2 X B B1 A n c ps) (hs : W.heap.size < w2.heap.size) (hJ3 : J (pre ++ [(x, y)]) w3) (haw : Away (fun k => k = l ∨ X k) w2 w3) (hb : Below W.heap.size w3 w4)
    (hp : w4.heap[W.heap.size]? = some (.cells #[.int .u8 0, .int .u8 0] 90 (0, 0))) (hall : pairsV ps.flatten = (pre ++ [(x, y)]) ++ pairsV rest') :
    It l X B B1 A n c ps J W [] (pre ++ [(x, y)]) rest' w4 := by
  have haw3 : Rows2 w3 X B B1 A n c ps := hr.keep (fun p hp => haw.cell (by omega) (fun e => by
    rcases e with e | e
    · omega
    · rcases hp with hp | hp
      · have := hX _ e; omega
      · exact hp.2 e))
  exact ⟨hJ _ _ _ hJ3 hb, haw3.keep (fun p hp => hb.cell (by omega)), by simpa using hall, (Array.getElem?_eq_some_iff.1 hp).1, hp⟩
theorem keep_pair {w2 w3 : World} {x y : Int} (hp : w2.heap[W.heap.size]? = some (.cells #[.int .u8 x, .int .u8 y] 90 (0, 0))) (haw : Away (fun k => k = l ∨ X k) w2 w3) : w3.heap[W.heap.size]? = some (.cells #[.int .u8 x, .int .u8 y] 90 (0, 0)) :=
  (haw.block _ (Array.getElem?_eq_some_iff.1 hp).1 (fun e => by
    rcases e with e | e
    · omega
    · have := hX _ e; omega)).trans hp
end

/-- The two cells of a pair's block. -/
theorem pair_cells {w : World} {g : Nat} {x y : Int} (h : w.heap[g]? = some (.cells #[.int .u8 x, .int .u8 y] 90 (0, 0))) :
    w.cell? ⟨g, 0, none⟩ = some (.int .u8 x) ∧ w.cell? ⟨g, 1, none⟩ = some (.int .u8 y) ∧ w.frozen? ⟨g, 0, none⟩ = false ∧ w.frozen? ⟨g, 1, none⟩ = false := by
  refine ⟨?_, ?_, ?_, ?_⟩ <;> simp [World.cell?, World.frozen?, h]

theorem rd_src {w : World} {B ba oa n c : Nat} {xs : List Int} (h : Rd .u8 w B (some ⟨ba, oa, none⟩) n c xs) : ∀ j, j < n → w.cell? ⟨ba, oa + j, none⟩ = some (.int .u8 (xs.getD j 0)) := by
  intro j hj
  obtain ⟨b, o, e, _, hc⟩ := h.at_ hj
  obtain ⟨rfl, rfl⟩ : ba = b ∧ oa = o := by simpa using e
  exact hc
theorem clear_pair {w : World} {g : Nat} {x y : Int} (h : w.heap[g]? = some (.cells #[.int .u8 x, .int .u8 y] 90 (0, 0))) (u v : Int) :
    ((w.setCell ⟨g, 0, none⟩ (.int .u8 u)).setCell ⟨g, 1, none⟩ (.int .u8 v)).heap[g]? = some (.cells #[.int .u8 u, .int .u8 v] 90 (0, 0)) ∧ Below g w ((w.setCell ⟨g, 0, none⟩ (.int .u8 u)).setCell ⟨g, 1, none⟩ (.int .u8 v)) := by
  refine ⟨?_, ((Below.refl g w).setCell (p := ⟨g, 0, none⟩) (Nat.le_refl _) _).setCell (p := ⟨g, 1, none⟩) (Nat.le_refl _) _⟩
  simp only [World.setCell, Array.getElem?_modify, h]
  simp

theorem rd_went {l B B1 : Nat} {X : Nat → Prop} {W wr w2 w3 w4 : World} {A : Option Addr} {n c : Nat} {xs : List Int} (hr : Rd .u8 wr B A n c xs) (hB : B ≤ B1) (hl1 : B1 ≤ l) (hl2 : l < W.heap.size) (hX : ∀ k, X k → B ≤ k ∧ k < B1) (hs : W.heap.size < w2.heap.size)
    (hb2 : Below W.heap.size wr w2) (haw : Away (fun k => k = l ∨ X k) w2 w3) (hb4 : Below W.heap.size w3 w4) : Rd .u8 w4 B A n c xs :=
  hr.keep fun p hp => (hb4.cell (by omega)).trans ((haw.cell (by omega) (fun e => by
    rcases e with e | e
    · omega
    · have := hX _ e; omega)).trans (hb2.cell (by omega)))

set_option maxRecDepth 100000 in
set_option maxHeartbeats 1000000 in
theorem pairs1_in (l Bx : Nat) (X : Nat → Prop) (B B1 : Nat) (A : Option Addr) (n c : Nat) (ps : List (List Int)) (J : List (Int × Int) → World → Prop) (W : World)
    (hB : B ≤ B1) (hl1 : B1 ≤ l) (hl2 : l < W.heap.size) (hX : ∀ k, X k → B ≤ k ∧ k < B1) (hJ : ∀ s V V', J s V → Below W.heap.size V V' → J s V')
    (hY : ∀ pre x V, pre ++ [x] <+: pairsV ps.flatten → J pre V → YieldAt Fence.wide 0 Tryd.prog l (encP x) V fun e V' => e = .returned (.bool true) ∧ J (pre ++ [x]) V' ∧ Away (fun k => k = l ∨ X k) V V')
    (hBx : W.cell? ⟨Bx, 0, none⟩ = some (.slice A n c)) (hR : Rows2 W X B B1 A n c ps) (h0 : J [] W) :
    CallsIn Fence.wide 0 Tryd.prog 61 #[.func (.yield l) #[] #[], .pointer (some ⟨Bx, 0, none⟩)] W fun e W' => (∃ v, e = .returned v) ∧ J (pairsV ps.flatten) W' := by
  have hn1 := hR.2.1
  have HP := Lib.hid hR.1
  refine callsIn_of_wp Tryd.func61 rfl trivial ?_ rfl
  simp only [Tryd.ntmps61, List.size_toArray, List.length_cons, List.length_nil, Nat.reduceAdd, Nat.reduceSub, Array.replicate_succ, Array.replicate_zero, List.push_toArray, List.append_toArray, List.nil_append, List.cons_append]
  have hBx' : (W.alloc (.cells #[.int .u8 0, .int .u8 0] 90)).cell? ⟨Bx, 0, none⟩ = some (.slice A n c) := cell_kept hBx (World.grownBy_alloc W _ none) (fun r e => by cases e)
  have hb0 : Below W.heap.size W (W.alloc (.cells #[.int .u8 0, .int .u8 0] 90)) := (Below.refl _ W).alloc (Nat.le_refl _) _
  have hI0 : It l X B B1 A n c ps J W [] [] ps.flatten (W.alloc (.cells #[.int .u8 0, .int .u8 0] 90)) :=
    ⟨hJ _ _ _ h0 hb0, hR.keep (fun p hp => hb0.cell (by omega)), by simp, by simp, World.alloc_heap_new W _⟩
  gi_wp2
  gi_loopw [10, 4] (fun i f wr => ∃ (k : Nat) (hold : List Int) (pre : List (Int × Int)), k ≤ n ∧ i = .int .i64 k ∧ f = .int .i64 hold.length ∧ hold.length ≤ 1 ∧ It l X B B1 A n c ps J W hold pre (ps.drop k).flatten wr) (fun i _ _ => n - (intOf i).toNat)
  case atStart => exact ⟨0, [], [], Nat.zero_le _, rfl, rfl, by simp, by simpa using hI0⟩
  case round =>
    obtain ⟨k, hold, pre, hk, rfl, rfl, hh, hI⟩ := hrel
    by_cases hlt : k < n
    · obtain ⟨b, o, A', n', c', rfl, hbb, hcell, hrd⟩ := hI.rows.2.2.2 k hlt
      rw [drop_flat ps k (by rw [HP.out]; exact hlt)] at hI
      generalize ps.getD k [] = zs at *
      obtain ⟨more, hmore⟩ : ∃ more, (ps.drop (k + 1)).flatten = more := ⟨_, rfl⟩
      rw [hmore] at hI
      have HM := Lib.hid hmore; clear hmore
      clear hI0 hBx hBx' hR h0 hb0
      gi_wp2
      gi_loopw [4, 6] (fun f p wr => ∃ (hold : List Int) (pre : List (Int × Int)) (xs : List Int) (A' : Option Addr) (n' c' : Nat), f = .int .i64 hold.length ∧ hold.length ≤ 1 ∧ p = .slice A' n' c' ∧ Rd .u8 wr B A' n' c' xs ∧ It l X B B1 (some ⟨b, o, none⟩) n c ps J W hold pre (xs ++ more) wr) (fun _ p _ => lenOf p)
      case atStart => exact ⟨hold, pre, zs, A', n', c', rfl, hh, rfl, hrd, hI⟩
      case round =>
        clear hcell hrd hI hh
        obtain ⟨hold, pre, xs, A', n', c', rfl, hh, rfl, hrd, hI⟩ := hrel
        have hmax := hrd.max
        have hcap := hrd.cap
        have hlen := hrd.len
        by_cases hpos : 0 < n'
        · obtain ⟨ba, oa, rfl, hba, hc0⟩ := hrd.at_ (i := 0) hpos
          match hold, hh with
          | [h], _ =>
            match xs, hlen with
            | [], hlen => simp at hlen; omega
            | y :: r, hlen =>
              have hP := hI.pair
              simp only [List.getD_cons_zero] at hP hc0
              have hsrc : ∀ j, j < 1 → wr.cell? ⟨ba, oa + j, none⟩ = some (.int .u8 ([y].getD j 0)) := fun j hj => by
                have := rd_src hrd j (by omega)
                have hj0 : j = 0 := by omega
                subst hj0
                exact this
              obtain ⟨w2, hrun, hp2, hb2⟩ := copy_run (w := wr) W.heap.size 1 1 1 ba oa n' c' [.int .u8 h, .int .u8 0] 90 hP [y] 1 rfl (Nat.min_eq_right (by omega)).symm hsrc (by simp) [.int .u8 h, .int .u8 y] rfl
              obtain ⟨hJ2, hR2, hs2⟩ := hI.wrote hB hl1 hl2 hX hJ hb2 hp2
              have hall : pairsV ps.flatten = (pre ++ [(h, y)]) ++ pairsV (r ++ more) := by rw [hI.all]; simp [pairsV_two]
              obtain ⟨fn, tmps, assign, body, hy, hRd⟩ := hY pre (h, y) w2 ⟨_, hall.symm⟩ hJ2
              obtain ⟨e1, e2, e3, e4⟩ := pair_cells hp2
              dsimp only [encP] at hy
              have hcut := hrd.cut (f := 1) (t := n') (by omega) (Nat.le_refl _)
              have hr1 : (List.take (n' - 1) (List.drop 1 (y :: r))) = r := by
                rw [List.drop_one, List.tail_cons]
                exact List.take_of_length_le (by simp at hlen; omega)
              rw [hr1] at hcut
              by_cases hc1 : c' = 1
              case' pos =>
                rw [if_pos hc1] at hcut
                obtain rfl : n' = 1 := by omega
                subst hc1
              case' neg => rw [if_neg hc1] at hcut
              all_goals
                gi_wp2
                refine ⟨rfl, hRd.mono ?_⟩
                rintro e w3 ⟨rfl, hJ3, haw⟩
                have hp3 := keep_pair hB hl1 hl2 hX hJ hp2 haw
                obtain ⟨f1, f2, f3, f4⟩ := pair_cells hp3
                obtain ⟨hp4, hb4⟩ := clear_pair hp3 0 0
                gi_wp2
                go_roundw
                case rel =>
                  refine ⟨[], pre ++ [(h, y)], r, _, _, _, rfl, by simp, rfl, ?_, It.went hB hl1 hl2 hX hJ hR2 hs2 hJ3 haw hb4 hp4 hall⟩
                  exact rd_went hcut hB hl1 hl2 hX hs2 hb2 haw hb4
                case measure => simp [lenOf] <;> omega
          | [], _ =>
            match xs, hlen with
            | [], hlen => simp at hlen; omega
            | [y], hlen =>
              obtain rfl : n' = 1 := by simpa using hlen.symm
              have hP := hI.pair
              simp only [List.getD_nil] at hP
              have hsrc : ∀ j, j < 1 → wr.cell? ⟨ba, oa + j, none⟩ = some (.int .u8 ([y].getD j 0)) := fun j hj => rd_src hrd j hj
              obtain ⟨w2, hrun, hp2, hb2⟩ := copy_run (w := wr) W.heap.size 0 2 2 ba oa 1 c' [.int .u8 0, .int .u8 0] 90 hP [y] 1 rfl rfl hsrc (by simp) [.int .u8 y, .int .u8 0] rfl
              obtain ⟨hJ2, hR2, hs2⟩ := hI.wrote hB hl1 hl2 hX hJ hb2 hp2
              have hI2 : It l X B B1 (some ⟨b, o, none⟩) n c ps J W [y] pre ([] ++ more) w2 := ⟨hJ2, hR2, by rw [hI.all]; rfl, hs2, hp2⟩
              have hcut := (hrd.cut (f := 1) (t := 1) (by omega) (Nat.le_refl _)).below hb2 (by omega)
              by_cases hc1 : c' = 1
              case' pos =>
                rw [if_pos hc1] at hcut
                subst hc1
              case' neg => rw [if_neg hc1] at hcut
              all_goals
                gi_wp2
                go_roundw
                case rel => exact ⟨[y], pre, [], _, _, _, rfl, by simp, rfl, hcut, hI2⟩
                case measure => simp [lenOf]
            | x :: y :: r, hlen =>
              have hP := hI.pair
              simp only [List.getD_nil] at hP
              have hn2 : 2 ≤ n' := by simp at hlen; omega
              have hsrc : ∀ j, j < 2 → wr.cell? ⟨ba, oa + j, none⟩ = some (.int .u8 ([x, y].getD j 0)) := fun j hj => by
                have := rd_src hrd j (by omega)
                match j, hj with
                | 0, _ => exact this
                | 1, _ => exact this
              obtain ⟨w2, hrun, hp2, hb2⟩ := copy_run (w := wr) W.heap.size 0 2 2 ba oa n' c' [.int .u8 0, .int .u8 0] 90 hP [x, y] 2 rfl (Nat.min_eq_right (by omega)).symm hsrc (by simp) [.int .u8 x, .int .u8 y] rfl
              obtain ⟨hJ2, hR2, hs2⟩ := hI.wrote hB hl1 hl2 hX hJ hb2 hp2
              have hall : pairsV ps.flatten = (pre ++ [(x, y)]) ++ pairsV (r ++ more) := by rw [hI.all]; simp [pairsV_two]
              obtain ⟨fn, tmps, assign, body, hy, hRd⟩ := hY pre (x, y) w2 ⟨_, hall.symm⟩ hJ2
              obtain ⟨e1, e2, e3, e4⟩ := pair_cells hp2
              dsimp only [encP] at hy
              have hcut := hrd.cut (f := 2) (t := n') (by omega) (Nat.le_refl _)
              have hr1 : (List.take (n' - 2) (List.drop 2 (x :: y :: r))) = r := by
                show List.take (n' - 2) r = r
                exact List.take_of_length_le (by simp at hlen; omega)
              rw [hr1] at hcut
              by_cases hc1 : c' = 2
              case' pos =>
                rw [if_pos hc1] at hcut
                obtain rfl : n' = 2 := by omega
                subst hc1
              case' neg => rw [if_neg hc1] at hcut
              all_goals
                gi_wp2
                refine ⟨rfl, hRd.mono ?_⟩
                rintro e w3 ⟨rfl, hJ3, haw⟩
                have hp3 := keep_pair hB hl1 hl2 hX hJ hp2 haw
                obtain ⟨f1, f2, f3, f4⟩ := pair_cells hp3
                obtain ⟨hp4, hb4⟩ := clear_pair hp3 0 0
                gi_wp2
                go_roundw
                case rel =>
                  refine ⟨[], pre ++ [(x, y)], r, _, _, _, rfl, by simp, rfl, ?_, It.went hB hl1 hl2 hX hJ hR2 hs2 hJ3 haw hb4 hp4 hall⟩
                  exact rd_went hcut hB hl1 hl2 hX hs2 hb2 haw hb4
                case measure => simp [lenOf] <;> omega
        · obtain rfl : n' = 0 := by omega
          obtain rfl : xs = [] := List.eq_nil_of_length_eq_zero hlen
          gi_wp2
          go_roundw
          case rel => exact ⟨k + 1, hold, pre, by omega, by go_num, rfl, hh, by rw [HM.out]; exact hI⟩
          case measure => simp [intOf]; omega
    · obtain rfl : k = n := by omega
      rw [List.drop_eq_nil_of_le (by rw [HP.out]; exact Nat.le_refl _)] at hI
      have hall := hI.all
      simp only [List.flatten_nil, List.append_nil] at hall
      match hold, hh with
      | [], _ =>
        gi_wp2
        go_end0
        rw [pairsV_nil, List.append_nil] at hall
        exact ⟨⟨_, rfl⟩, by rw [hall]; exact hI.j⟩
      | [x], _ =>
        rw [pairsV_one] at hall
        obtain ⟨fn, tmps, assign, body, hy, hRd⟩ := hY pre (x, 0) wr (by rw [hall]; exact List.prefix_rfl) hI.j
        have hc := pair_cells hI.pair
        simp only [List.getD_cons_zero] at hc
        dsimp only [encP] at hy
        gi_wp2
        refine ⟨rfl, hRd.mono ?_⟩
        rintro e W3 ⟨rfl, hJ3, _⟩
        gi_wp2
        go_end0
        exact ⟨⟨_, rfl⟩, by rw [hall]; exact hJ3⟩
theorem pairs_seqs {w : World} (Bx : Nat) (X : Nat → Prop) (B : Nat) (A : Option Addr) (n c : Nat) (ps : List (List Int)) (hB : B ≤ w.heap.size) (hX : ∀ k, X k → B ≤ k ∧ k < w.heap.size) (hx : Bx < w.heap.size) (hBx : w.cell? ⟨Bx, 0, none⟩ = some (.slice A n c))
    (hR : Rows2 w X B w.heap.size A n c ps) : Seqs Tryd.prog 61 #[.pointer (some ⟨Bx, 0, none⟩)] encP X (pairsV ps.flatten) w := by
  intro l J W hb hl1 hl2 hJ hY h0
  exact pairs1_in l Bx X B w.heap.size A n c ps J W hB hl1 hl2 hX hJ hY ((hb.cell (p := ⟨Bx, 0, none⟩) hx).trans hBx) (hR.keep fun p hp => hb.cell (by omega)) h0
end Go.Proofs.YtbefoapnlehdmaaDoor
