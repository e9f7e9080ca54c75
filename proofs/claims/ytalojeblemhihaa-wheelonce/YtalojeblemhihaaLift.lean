/-
  The contract of the program's wheel's lift: the timers of all levels up to one.
-/
import Derived.Test.YtalojeblemhihaaCancel
import Derived.Test.YtalojeblemhihaaLits
namespace Go.Proofs.Ytalojeblemhihaa
open Go.RowKit
set_option linter.unusedVariables false

theorem info3 : (Try.prog.info? 3).map (fun i => (i.zero, i.size, i.bytes)) = some (some (.int .i64 0), 1, 8) := by kernel_rfl

/-- What the levels below k hold, one behind the other. -/
def catV (V : Nat → List Int) (k : Nat) : List Int := (List.range k).flatMap V
def clrV (V : Nat → List Int) (k : Nat) : Nat → List Int := fun n => if n < k then [] else V n
theorem catV_succ (V : Nat → List Int) (k : Nat) : catV V (k + 1) = catV V k ++ V k := by simp [catV, List.range_succ, List.flatMap_append]
theorem catV_len {V : Nat → List Int} (h : ∀ i, i < 64 → (V i).length ≤ 16384) : ∀ k, k ≤ 64 → (catV V k).length ≤ k * 16384
  | 0, _ => by simp [catV]
  | k + 1, hk => by
    rw [catV_succ, List.length_append]
    have := catV_len h k (by omega)
    have := h k (by omega)
    omega
theorem clrV_zero (V : Nat → List Int) : clrV V 0 = V := by funext n; simp [clrV]
theorem clrV_succ (V : Nat → List Int) (k : Nat) : updV (clrV V k) k [] = clrV V (k + 1) := by
  funext n
  unfold updV clrV
  by_cases h : n = k
  · subst h; simp
  · by_cases h1 : n < k
    · have h2 : n < k + 1 := by omega
      simp [h, h1, h2]
    · have h2 : ¬ n < k + 1 := by omega
      simp [h, h1, h2]
theorem clrV_self (V : Nat → List Int) (k : Nat) : clrV V k k = V k := by simp [clrV]
theorem mem_catV {V : Nat → List Int} {k : Nat} {t : Int} : t ∈ catV V k ↔ ∃ n, n < k ∧ t ∈ V n := by simp [catV]

/-- What has been met of a set while it is ranged over. -/
structure Got (D : DataW Unit) (left : Lit → Bool) (L : List Int) : Prop where
  nodup : L.Nodup
  wf : ∀ t ∈ L, wfI t
  mem : ∀ t, wfI t → (t ∈ L ↔ (Maps.has D (.int .i64 t) = true ∧ left (.int .i64 t) = false))
theorem same_int {t x : Int} (hx : wfI x) : (Lit.int .i64 t).sameKey (.int .i64 x) = decide (t = x) := by
  by_cases h : t = x
  · subst h
    rw [WideAt.sameKey_self (isKey hx)]
    simp
  · rw [Maps.sameKey_ne (litne h)]
    simp [h]
theorem Got.start (D : DataW Unit) : Got D (Maps.has D) [] := ⟨List.nodup_nil, by simp, fun t _ => by
  cases Maps.has D (.int .i64 t) <;> simp⟩
theorem Got.step {D : DataW Unit} {left : Lit → Bool} {L : List Int} {x : Int} (h : Got D left L) (hx : wfI x) (hl : left (.int .i64 x) = true) (hh : Maps.has D (.int .i64 x) = true) :
    Got D (fun z => left z && !z.sameKey (.int .i64 x)) (L ++ [x]) := by
  have hn : x ∉ L := fun hm => by
    have := ((h.mem x hx).1 hm).2
    rw [hl] at this
    cases this
  refine ⟨List.nodup_append.2 ⟨h.nodup, by simp, fun a ha b hb => ?_⟩, fun t ht => ?_, fun t ht => ?_⟩
  · have : b = x := by simpa using hb
    subst this
    rintro rfl
    exact hn ha
  · rcases List.mem_append.1 ht with h1 | h1
    · exact h.wf t h1
    · have : t = x := by simpa using h1
      rw [this]; exact hx
  · rw [List.mem_append, h.mem t ht, same_int hx]
    by_cases e : t = x
    · subst e
      simp [hh]
    · simp [e]
theorem Got.sub {D : DataW Unit} {left : Lit → Bool} {L L0 : List Int} (h : Got D left L) (hD : LvD D L0) : ∀ t ∈ L, t ∈ L0 := fun t ht => by
  have h1 := ((h.mem t (h.wf t ht)).1 ht).1
  rw [hD.has t (h.wf t ht)] at h1
  simpa using h1
theorem Got.end_ {D : DataW Unit} {left : Lit → Bool} {L L0 : List Int} (h : Got D left L) (hD : LvD D L0) (hl : ∀ kl, left kl = false) : L.Perm L0 := by
  refine (List.perm_ext_iff_of_nodup h.nodup hD.nodup).2 fun t => ⟨h.sub hD t, fun ht => (h.mem t (hD.wf t ht)).2 ⟨?_, hl _⟩⟩
  rw [hD.has t (hD.wf t ht)]
  simpa using ht
theorem blk_iter {k e : TypeId} {q : IntKind} {w : World} {base : Nat} {A : Option Addr} {n c : Nat} {xs : List Int} {P : Program} {E : Value → Option (DataW Unit × List MemPlace)} {b r N : Nat} {D : DataW Unit} {left : Lit → Bool} {cnt : Nat}
    (ho : Out q e w base A n c xs) (hr : w.ranges P k E b r N D left cnt) : some b ≠ (Value.slice A n c).ownBlock ∧ some r ≠ (Value.slice A n c).ownBlock := by
  obtain ⟨es, clock, since, seen, c0, hb, _, _, _, hr, _⟩ := hr
  cases A with
  | none => simp [Value.ownBlock]
  | some ad =>
    obtain ⟨_, cur, hh⟩ := ho.block ad rfl
    constructor
    · intro e1
      have e2 : b = ad.block := by simpa [Value.ownBlock] using e1
      rw [← e2, hb] at hh
      cases hh
    · intro e1
      have e2 : r = ad.block := by simpa [Value.ownBlock] using e1
      rw [← e2, hr] at hh
      cases hh

theorem Kept.low {S : Nat → Prop} {w w' w'' : World} (h : Kept S w w') (h' : Below w.heap.size w' w'') : Kept S w w'' :=
  ⟨h'.os.trans h.os, h'.tape.trans h.tape, h'.output.trans h.output, Nat.le_trans h.size h'.size, fun k hk hs => (h'.block k hk).trans (h.block k hk hs)⟩
section
variable {w : World} {p lo hi now : Nat} {R : List Tm} {V : Nat → List Int} {bd : Nat} {g : Nat → Nat}
set_option maxRecDepth 100000 in
set_option maxHeartbeats 2000000 in
theorem lift_any (h : WhB w p lo hi now R V bd g) (top : Nat) (ht : top < 64) :
    Calls Try.prog 30 #[ptr p, .int .i64 top] w fun e w' => ∃ A n c L, e = .returned (.slice A n c) ∧ Out .i64 3 w' w.heap.size A n c L ∧ L.Perm (catV V (top + 1)) ∧ WhB w' p lo hi now R (clrV V (top + 1)) bd g ∧ OnlyW lo hi w w' := by
  have hroom := h.room
  have hcat := catV_len (V := V) (fun i hi => h.vlen hi)
  have hp := h.lt
  have h0 : WhB w p lo hi now R (clrV V 0) bd g := by rw [clrV_zero]; exact h
  obtain ⟨m, hm⟩ : ∃ m : Nat, top + 1 = m := ⟨_, rfl⟩
  have hmi : (top : Int) + 1 = (m : Int) := by omega
  have hm64 : m ≤ 64 := by omega
  rw [hm]
  have hmi1 : (0 : Int) ≤ (m : Int) := by omega
  have hmi2 : (m : Int) ≤ 64 := by omega
  have hmi3 : ¬ (m : Int) < 0 := by omega
  have hmi4 : ¬ (64 : Int) < (m : Int) := by omega
  clear h hm ht
  go_enter Try.func30, Try.ntmps30
  go_wp2
  go_loopw [5, 16] (fun v i wr => ∃ (k : Nat) (A : Option Addr) (n c : Nat) (L : List Int), k ≤ m ∧ i = .int .i64 k ∧ v = .slice A n c ∧ Out .i64 3 wr w.heap.size A n c L ∧ L.Perm (catV V k) ∧ WhB wr p lo hi now R (clrV V k) bd g ∧ OnlyW lo hi w wr) (fun _ i _ => m - (intOf i).toNat)
  case atStart => exact ⟨0, none, 0, 0, [], Nat.zero_le _, rfl, rfl, Out.nil, .refl _, h0, Kept.refl _ _⟩
  case round =>
    obtain ⟨k, A, n, c, L, hk, rfl, rfl, ho, hL, hW, hK⟩ := hrel
    obtain ⟨wo, rfl⟩ : ∃ wo : World, wo = wr := ⟨_, rfl⟩
    clear h0
    by_cases hkn : k < m
    · have hk64 : k < 64 := by omega
      have cl := hW.cl hk64
      have hki : (k : Int) < (m : Int) := by omega
      obtain ⟨D, hown, hD⟩ := hW.lev k hk64
      have hD' : LvD D (V k) := by rw [clrV_self] at hD; exact hD
      have hgk := hW.ing k hk64
      have hvl : (V k).length ≤ 16384 := by have := hW.vlen hk64; rwa [clrV_self] at this
      have hLl : L.length ≤ 64 * 16384 := by rw [hL.length_eq]; have := hcat k (by omega); have := Nat.mul_le_mul_right 16384 (show k ≤ 64 by omega); omega
      have hsz := hK.size
      obtain ⟨N, hN⟩ : ∃ N, (clrV V k k).length = N := ⟨_, rfl⟩
      rw [hN] at hown
      clear hmi hmi1 hmi2 hmi3 hmi4 hm64
      go_wp2_with (first
        | (at_range; refine wpList_range_own _ rfl _ 63 rfl 3 74 k3 Try.underlying63 elS (g k) N D rfl hown ?_; intro w0 hrg0 hg0 hs0)
        | go_in)
      go_frame
      have hb0 : Below wo.heap.size wo w0 := (Below.refl _ wo).grown hg0 (Nat.le_refl _) (by simp)
      clear hs0
      go_loopw [5] (fun v w2 => ∃ (left : Lit → Bool) (cnt : Nat) (A : Option Addr) (n c : Nat) (Lc : List Int), v = .slice A n c ∧ w2.ranges Try.prog 3 elS (g k) wo.heap.size N D left cnt ∧ Got D left Lc ∧ Out .i64 3 w2 w.heap.size A n c (L ++ Lc) ∧ Below w.heap.size wo w2) (fun _ w2 => w2.rangeLeft (g k) wo.heap.size)
      case atStart => exact ⟨_, _, A, n, c, [], rfl, hrg0, Got.start D, by rw [List.append_nil]; exact ho.below hb0 (Nat.le_refl _), hb0.mono hsz⟩
      case round =>
        obtain ⟨left, cnt, A, n, c, Lc, rfl, hrg, hG, ho, hb⟩ := hrel
        go_wp2_with (first
          | (at_next; refine wpList_next_ranges _ rfl _ rfl 3 k3 elS (Value.int .i64) (fun _ : Unit => Value.agg #[]) (fun key kl hkey => by obtain ⟨x, rfl, _⟩ := Maps.keyOf_int_inv Try.underlying3 hkey; exact ⟨x, rfl⟩) (fun v y hv => ⟨(), (unitElem_inv hv).1⟩) (g k) wo.heap.size N D left cnt rfl hrg ?_ ?_)
          | go_in)
        · intro _ hl0
          have hP := hG.end_ hD' hl0
          have hWb := hW.below hb hroom
          obtain ⟨w3, e3, hL3, ht3⟩ : ∃ w', (∀ ty, (Builtin.clear_ #[63] ty #[.map (some (g k))]).run Try.prog wr = .ok (.tuple #[]) w') ∧ LvAt w' (g k) [] ∧ wr.mapTurned w' (g k) := by
            obtain ⟨w', a, b, c⟩ := (hWb.lev k hk64).clear 0
            exact ⟨w', fun _ => a, b, c⟩
          have hW3 := hWb.turnL hk64 ht3 hL3 (by simp)
          rw [clrV_succ] at hW3
          have ho3 := ho.kept (kept_turned (S := (· = g k)) ht3 rfl) (fun ad e => by have := (ho.block ad e).1; omega)
          have hK3 : OnlyW lo hi w w3 := (hK.low hb).trans (kept_turned ht3 hgk)
          have hL4 : (L ++ Lc).Perm (catV V (k + 1)) := by rw [catV_succ]; exact hL.append hP
          clear hl0 hP hWb hL3 ht3 ho hb hrg hG hW hK
          go_wp2
          go_roundw
          case rel => exact ⟨k + 1, A, n, c, _, by omega, by go_num, rfl, ho3, hL4, hW3, hK3⟩
          case measure => simp [intOf]; omega
        · intro x u kl y w1 cnt1 hkey hlk hv hat hrg1 hlt hg1 hs1 hen
          obtain ⟨x', ex, rfl, hx⟩ := Maps.keyOf_int_inv Try.underlying3 hkey
          cases ex
          have G' := hG.step hx hlk (Maps.has_true_of_atKey hat)
          have hcl := sub_len G'.nodup (G'.sub hD')
          rw [List.length_append] at hcl
          have hnl := ho.len
          rw [List.length_append] at hnl
          have b1 := hb.grown hg1 (Nat.le_trans hsz hb.size) (fun q hq => by cases hq; exact hsz)
          have ho1 := ho.grown hg1 (fun q hq => by
            cases hq
            have := (blk_iter ho hrg).2
            cases A with
            | none => exact .inl rfl
            | some ad => exact .inr ⟨ad, rfl, fun e => this (by simp [Value.ownBlock, e])⟩)
          clear hs1
          have bl := alloc_below w1 (.cells #[.int .i64 x] 3)
          have ho2 := ho1.below bl (Nat.le_refl _)
          have b2 := b1.trans (bl.mono (Nat.le_trans hsz b1.size))
          have bs := Nat.le_trans hsz b2.size
          have hrg2 := hrg1.alloc (.cells #[.int .i64 x] 3)
          have hbi := blk_iter ho2 hrg2
          have r3 : Rd .i64 (w1.alloc (.cells #[.int .i64 x] 3)) (w1.heap.size + 1) (some ⟨w1.heap.size, 0, none⟩) 1 1 [x] := rd_lit .i64 3 w1 [x] 1 rfl (by omega) (by intro y hy; simp at hy; subst hy; exact hx)
          clear hb ho ho1 hg1 b1 bl hkey hat hG hrg1
          go_wp2_with (at_builtin; refine wpList_app rfl (.tmp 26) (.tmp 28) 47 rfl w.heap.size Try.underlying47 info3 (by omega) A n c (L ++ Lc) rfl ho2 (some ⟨w1.heap.size, 0, none⟩) 1 1 (w1.heap.size + 1) [x] rfl r3 (by simp at hcl; omega) bs ?_)
          intro A' n' c' w' o' hg'
          have hrg3 := hrg2.kept hg' hbi.1 hbi.2
          have b3 := b2.grown hg' bs (fun q hq => ho2.own_ge q hq)
          clear hg' r3 ho2 b2 bs hrg2 hbi
          go_wp2
          go_roundw
          case rel => exact ⟨_, _, A', n', c', Lc ++ [x], rfl, hrg3, G', o', b3⟩
          case measure => rw [hrg3.left_eq, hrg.left_eq]; exact hlt
    · obtain rfl : k = m := by omega
      clear hcat hroom
      go_wp2
      go_ret
      exact ⟨A, n, c, L, rfl, ho, hL, hW, hK⟩
end
end Go.Proofs.Ytalojeblemhihaa
