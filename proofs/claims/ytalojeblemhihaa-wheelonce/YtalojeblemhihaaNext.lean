/-
  Contracts of the program's wheel: least, Next.
-/
import Derived.Test.YtalojeblemhihaaLift
import Derived.Deep.MidRow
namespace Go.Proofs.Ytalojeblemhihaa
open Go.RowKit
set_option linter.unusedVariables false

section
variable {w : World} {p lo hi now : Nat} {R : List Tm} {V : Nat → List Int} {bd : Nat} {g : Nat → Nat}
/-- The levels, all as one value. -/
def lvs (g : Nat → Nat) : List Value := (List.range 64).map fun i => .map (some (g i))
theorem WhB.range64 (h : WhB w p lo hi now R V bd g) : w.rangeAt p 2 (lvs g) := fun j v hv => by
  unfold lvs at hv
  rw [List.getElem?_map, Option.map_eq_some_iff] at hv
  obtain ⟨i, hi, rfl⟩ := hv
  obtain ⟨h1, h2⟩ := List.getElem?_eq_some_iff.1 hi
  have h3 : j = i := by simpa using h2
  subst h3
  exact h.cl (by simpa using h1)
theorem info64c : (Try.prog.info? 64).map (·.size) = some 64 := by kernel_rfl
theorem info64 (g : Nat → Nat) : (Try.prog.info? 64).map (·.size) = some (lvs g).length := by
  have e : (lvs g).length = 64 := by simp [lvs]
  rw [e]
  exact info64c
theorem index64 (g : Nat → Nat) (W : World) (k : Nat) (hk : k < 64) : (Instr.index 64 (.agg (lvs g).toArray) (.int .i64 k)).run Try.prog W = .ok (.map (some (g k))) W := by
  have hs : (lvs g).length = 64 := by simp [lvs]
  have he : (lvs g)[k]? = some (.map (some (g k))) := by simp [lvs, hk]
  have h1 : ¬ (k : Int) < 0 := by omega
  have h2 : (k : Int) < 64 := by omega
  generalize lvs g = l at *
  simp [Instr.index, run_underlying Try.underlying64, asIntOf, go_sem, Result.andThen]
  rw [if_pos hk, he]
  rfl
/-- The least time at which one of the timers of L is due. -/
structure Least (R : List Tm) (L : List Int) (m : Nat) : Prop where
  le : m ≤ 4611686018427387904
  low : ∀ t ∈ L, m ≤ dueT t R
  hit : m = 4611686018427387904 ∨ ∃ t ∈ L, m = dueT t R
theorem Least.start (R : List Tm) : Least R [] 4611686018427387904 := ⟨Nat.le_refl _, by simp, .inl rfl⟩
theorem Least.step {L : List Int} {m : Nat} (h : Least R L m) (x : Int) : Least R (L ++ [x]) (min m (dueT x R)) := by
  refine ⟨by have := h.le; omega, fun t ht => ?_, ?_⟩
  · rcases List.mem_append.1 ht with h1 | h1
    · have := h.low t h1; omega
    · have : t = x := by simpa using h1
      subst this; omega
  · by_cases hm : m ≤ dueT x R
    · rw [Nat.min_eq_left hm]
      rcases h.hit with e | ⟨t, h1, h2⟩
      · exact .inl e
      · exact .inr ⟨t, List.mem_append.2 (.inl h1), h2⟩
    · rw [Nat.min_eq_right (by omega)]
      exact .inr ⟨x, by simp, rfl⟩
set_option maxRecDepth 100000 in
set_option maxHeartbeats 2000000 in
theorem least_any (h : WhB w p lo hi now R V bd g) (k : Nat) (hk : k < 64) :
    Calls Try.prog 34 #[ptr p, .map (some (g k))] w fun e w' => ∃ m, e = .returned (.int .u64 (m : Nat)) ∧ Least R (V k) m ∧ Below w.heap.size w w' := by
  have hroom := h.room
  obtain ⟨D, hown, hD⟩ := h.lev k hk
  obtain ⟨N, hN⟩ : ∃ N, (V k).length = N := ⟨_, rfl⟩
  rw [hN] at hown
  go_enter Try.func34, Try.ntmps34
  go_wp2_with (first
    | (at_range; refine wpList_range_own _ rfl _ 63 rfl 3 74 k3 Try.underlying63 elS (g k) N D rfl hown ?_; intro w0 hrg0 hg0 hs0)
    | go_in)
  go_frame
  have hb0 : Below w.heap.size w w0 := (Below.refl _ w).grown hg0 (Nat.le_refl _) (by simp)
  clear hs0
  go_loopw [5] (fun v w2 => ∃ (left : Lit → Bool) (cnt m : Nat) (Lc : List Int), v = .int .u64 (m : Nat) ∧ w2.ranges Try.prog 3 elS (g k) w.heap.size N D left cnt ∧ Got D left Lc ∧ Least R Lc m ∧ Below w.heap.size w w2) (fun _ w2 => w2.rangeLeft (g k) w.heap.size)
  case atStart => exact ⟨_, _, 4611686018427387904, [], rfl, hrg0, Got.start D, Least.start R, hb0⟩
  case round =>
    obtain ⟨left, cnt, m, Lc, rfl, hrg, hG, hm, hb⟩ := hrel
    go_wp2_with (first
      | (at_next; refine wpList_next_ranges _ rfl _ rfl 3 k3 elS (Value.int .i64) (fun _ : Unit => Value.agg #[]) (fun key kl hkey => by obtain ⟨x, rfl, _⟩ := Maps.keyOf_int_inv Try.underlying3 hkey; exact ⟨x, rfl⟩) (fun v y hv => ⟨(), (unitElem_inv hv).1⟩) (g k) w.heap.size N D left cnt rfl hrg ?_ ?_)
      | go_in)
    · intro _ hl0
      have hP := hG.end_ hD hl0
      have hM : Least R (V k) m := ⟨hm.le, fun t ht => hm.low t (hP.mem_iff.2 ht), by
        rcases hm.hit with e | ⟨t, h1, h2⟩
        · exact .inl e
        · exact .inr ⟨t, hP.mem_iff.1 h1, h2⟩⟩
      clear hl0 hP hrg hG hm
      go_wp2
      go_ret
      exact ⟨m, rfl, hM, hb⟩
    · intro x u kl y w1 cnt1 hkey hlk hv hat hrg1 hlt hg1 hs1 hen
      obtain ⟨x', ex, rfl, hx⟩ := Maps.keyOf_int_inv Try.underlying3 hkey
      cases ex
      have G' := hG.step hx hlk (Maps.has_true_of_atKey hat)
      have b1 := hb.grown hg1 hb.size (fun q hq => by cases hq; exact Nat.le_refl _)
      have h1 := h.new b1
      have c1 := h1.c1
      have L1 := h1.dues.look1 h1.ok hx
      have hM := hm.step x
      have hmi : (min (m : Int) (dueT x R : Int)) = ((min m (dueT x R) : Nat) : Int) := by omega
      clear hs1 hb hg1 hkey hat hG h1
      generalize dueT x R = d at *
      go_wp2
      go_roundw
      case rel => exact ⟨_, _, _, Lc ++ [x], rfl, hrg1, G', hM, b1⟩
      case measure => rw [hrg1.left_eq, hrg.left_eq]; exact hlt

/-- When the first timer is due. -/
def nextT (R : List Tm) : Nat := (R.head?.map fun x => x.2).getD 0
theorem Right.lv64 {now : Nat} {R : List Tm} {d : Nat} {t : Int} (hO : Ok R) (hn : now ≤ 4611686018427387904) (hd : (t, d) ∈ R) : lv now d < 64 := by
  have := (hO.wf _ hd).2
  have := lv_63 (n := now) (d := d) (by omega) (by simp at *; omega)
  omega
theorem Right.first {now : Nat} {R : List Tm} {V : Nat → List Int} (r : Right now R V) (hO : Ok R) (hn : now ≤ 4611686018427387904) {k : Nat} (hk : k < 64) (hno : ∀ j, j < k → V j = []) (hy : V k ≠ []) {m : Nat} (hm : Least R (V k) m) : R ≠ [] ∧ m = nextT R := by
  obtain ⟨t, ht⟩ := List.exists_mem_of_ne_nil _ hy
  obtain ⟨d, h1, h2⟩ := (r k hk t).1 ht
  cases R with
  | nil => simp at h1
  | cons x rr =>
    refine ⟨by simp, ?_⟩
    show m = x.2
    have hx : (x.1, x.2) ∈ x :: rr := by simp
    have hxd := hO.head _ h1
    have b1 := (hO.wf _ h1).2
    have b2 := (hO.wf _ hx).2
    simp only at b1 b2 hxd
    have hm1 := lv_mono (n := now) (by omega) (by omega) (by omega) hxd
    have hl := Right.lv64 hO hn hx
    have hxV := (r _ hl x.1).2 ⟨x.2, hx, rfl⟩
    have hge : ¬ lv now x.2 < k := fun hlt => by
      rw [hno _ hlt] at hxV
      simp at hxV
    have e : lv now x.2 = k := by omega
    rw [e] at hxV
    have hlow := hm.low _ hxV
    rw [dueT_of hO hx] at hlow
    rcases hm.hit with e1 | ⟨s, hs, e1⟩
    · omega
    · obtain ⟨d', h3, _⟩ := (r k hk s).1 hs
      have := hO.head _ h3
      rw [dueT_of hO h3] at e1
      simp only at this
      omega
theorem Right.none {now : Nat} {R : List Tm} {V : Nat → List Int} (r : Right now R V) (hO : Ok R) (hn : now ≤ 4611686018427387904) (hno : ∀ j, j < 64 → V j = []) : R = [] := by
  cases R with
  | nil => rfl
  | cons x rr =>
    have hx : (x.1, x.2) ∈ x :: rr := by simp
    have hl := Right.lv64 hO hn hx
    have := (r _ hl x.1).2 ⟨x.2, hx, rfl⟩
    rw [hno _ hl] at this
    simp at this
set_option maxRecDepth 100000 in
set_option maxHeartbeats 2000000 in
theorem next_any (h : WhR w p lo hi now R bd g) :
    Calls Try.prog 22 #[ptr p] w fun e w' => e = .returned (.tuple #[.int .u64 (nextT R : Nat), .bool (!R.isEmpty)]) ∧ Below w.heap.size w w' := by
  obtain ⟨V, h, r⟩ := h
  have ld := h.range64
  have li := info64 g
  have ix := index64 g
  have hp := h.lt
  go_enter Try.func22, Try.ntmps22
  go_wp2_with (refine wpList_load_mid rfl 64 (.tmp 8) rfl p 2 rfl (lvs g) _ ld Try.underlying64 rfl li ?_)
  generalize (lvs g).toArray = vs at *
  clear ld li
  go_loopw [10] (fun i wr => ∃ k : Nat, k ≤ 64 ∧ i = .int .i64 k ∧ wr = w ∧ ∀ j, j < k → V j = []) (fun i _ => 64 - (intOf i).toNat)
  case atStart => exact ⟨0, by omega, rfl, by first | rfl | trivial, fun j hj => absurd hj (by omega)⟩
  case round =>
    obtain ⟨k, hk, rfl, rfl, hno⟩ := hrel
    by_cases hk64 : k < 64
    · have hki : (k : Int) < 64 := by omega
      have i1 := ix wr k hk64
      have ln := (h.lev k hk64).len
      have T := least_any h k hk64
      by_cases hv : V k = []
      · have hno' : ∀ j, j < k + 1 → V j = [] := fun j hj => by
          by_cases e : j = k
          · rw [e]; exact hv
          · exact hno j (by omega)
        rw [hv] at ln
        clear h T hno hv r
        go_wp2
        go_roundw
        case rel => exact ⟨k + 1, by omega, by go_num, by first | rfl | trivial, hno'⟩
        case measure => simp [intOf]; omega
      · have hlen : 0 < (V k).length := List.length_pos_iff.2 hv
        have G : Hid (∀ m, Least R (V k) m → R ≠ [] ∧ m = nextT R) := Lib.hid (fun m hm => r.first h.ok h.le hk64 hno hv hm)
        generalize (V k).length = nv at *
        have hnv : (0 : Int) < (nv : Int) := by omega
        clear h hno hv r
        go_wp2_with fail
        refine T.mono ?_
        rintro e w2 ⟨m, rfl, hm, hb⟩
        obtain ⟨g1, g2⟩ := G.out m hm
        have g3 : R.isEmpty = false := by cases R <;> simp_all
        clear T G hm
        go_wp2
        go_ret2
        exact ⟨by rw [g3]; rfl, hb⟩
    · obtain rfl : k = 64 := by omega
      have e := r.none h.ok h.le hno
      subst e
      clear h r
      go_wp2
      go_ret2
      exact ⟨rfl, Below.refl _ _⟩
end
end Go.Proofs.Ytalojeblemhihaa
