/-
  The law PlaceTexts, walked.
-/
import Derived.Test.YtemhahfodblehaaDoorAlive
namespace Go.Proofs.YtemhahfodblehaaDoor
open Go.RowKit

theorem parse_lit {s : List UInt8} {p q : Int} (h : parseV s = (p, q)) (hs : s.length ≤ 1000) (W : World) (k : Kn W) : Calls Tryd.prog 25 #[strV s] W fun e w' => e = .returned (.tuple #[.int .u32 p, .int .i64 q]) ∧ Below W.heap.size W w' := by
  have := parse_any s hs W k
  rw [h] at this
  exact this
theorem refParse_lit {s : List UInt8} {p q : Int} (h : parseV s = (p, q)) (hs : s.length ≤ 1000) (W : World) : Calls Tryd.prog 26 #[strV s] W fun e w' => e = .returned (.tuple #[.int .u32 p, .int .i64 q]) ∧ Below W.heap.size W w' := by
  have := refParse_any s hs W
  rw [h] at this
  exact this
theorem mac_lit {s : List UInt8} {m0 m1 m2 m3 m4 m5 : Nat} {z : Int} (h : macP s = ([m0, m1, m2, m3, m4, m5], z)) (hs : s.length ≤ 1000) (W : World) (k : Kn W) : Calls Tryd.prog 27 #[strV s] W fun e w' => e = .returned (.tuple #[.agg #[.int .u8 m0, .int .u8 m1, .int .u8 m2, .int .u8 m3, .int .u8 m4, .int .u8 m5], .int .i64 z]) ∧ Below W.heap.size W w' := by
  have := parseMac_any s hs W k
  rw [h] at this
  exact this
theorem refMac_lit {s : List UInt8} {m0 m1 m2 m3 m4 m5 : Nat} {z : Int} (h : macP s = ([m0, m1, m2, m3, m4, m5], z)) (W : World) : Calls Tryd.prog 28 #[strV s] W fun e w' => e = .returned (.tuple #[.agg #[.int .u8 m0, .int .u8 m1, .int .u8 m2, .int .u8 m3, .int .u8 m4, .int .u8 m5], .int .i64 z]) ∧ Below W.heap.size W w' := by
  have := refParseMac_any s W
  rw [h] at this
  exact this
theorem eq37 (m0 m1 m2 m3 m4 m5 : Int) (w : World) : (Op.equalIn 10000 37 (.agg #[.int .u8 m0, .int .u8 m1, .int .u8 m2, .int .u8 m3, .int .u8 m4, .int .u8 m5]) (.agg #[.int .u8 m0, .int .u8 m1, .int .u8 m2, .int .u8 m3, .int .u8 m4, .int .u8 m5])).run Tryd.prog w = .ok true w := by
  have u5 := Tryd.underlying5
  have a5 := Tryd.isAgg5
  have z5 := Tryd.sizeOf5
  rw [show (10000 : Nat) = 9999 + 1 from rfl, Op.equalIn]
  simp only [Sem.run_bind, run_underlying Tryd.underlying37, Result.andThen_ok]
  simp only [Std.Legacy.Range.forIn_eq_forIn_range', Std.Legacy.Range.size, Nat.sub_zero, Nat.add_sub_cancel, Nat.div_one, List.range'_succ, List.range'_zero, List.forIn_cons, List.forIn_nil]
  go_simp
/-- What the law's walk knows: the Mac that came in, those that were parsed. -/
structure KT (w : World) (g : Nat) (ns : List Nat) (h j : Nat) (ms : List Nat) (W : World) : Prop where
  m1 : W.heap[g]? = some (.cells (macC ns) 37 (0, 0))
  m2 : W.heap[h]? = some (.cells (macC ms) 37 (0, 0))
  m3 : W.heap[j]? = some (.cells (macC ms) 36 (0, 0))
  kn : Kn W
  below : Below w.heap.size w W
section
variable {w W V : World} {g h j : Nat} {ns ms : List Nat}
theorem KT.step (k : KT w g ns h j ms W) (hb : Below W.heap.size W V) : KT w g ns h j ms V :=
  ⟨(hb.block _ (lt_of_heap k.m1)).trans k.m1, (hb.block _ (lt_of_heap k.m2)).trans k.m2, (hb.block _ (lt_of_heap k.m3)).trans k.m3, k.kn.step hb, k.below.trans (hb.mono k.below.size)⟩
theorem KT.drew (k : KT w g ns h j ms W) : KT w g ns h j ms W.drew := k.step ⟨rfl, rfl, rfl, Nat.le_refl _, fun _ _ => rfl⟩
theorem KT.parts {a0 a1 a2 a3 a4 a5 m0 m1 m2 m3 m4 m5 : Nat} (k : KT w g [a0, a1, a2, a3, a4, a5] h j [m0, m1, m2, m3, m4, m5] W) : W.cell? ⟨g, 0, none⟩ = some (.int .u8 a0) ∧ W.cell? ⟨g, 1, none⟩ = some (.int .u8 a1) ∧ W.cell? ⟨g, 2, none⟩ = some (.int .u8 a2) ∧ W.cell? ⟨g, 3, none⟩ = some (.int .u8 a3) ∧ W.cell? ⟨g, 4, none⟩ = some (.int .u8 a4) ∧ W.cell? ⟨g, 5, none⟩ = some (.int .u8 a5) ∧ W.cell? ⟨h, 0, none⟩ = some (.int .u8 m0) ∧ W.cell? ⟨h, 1, none⟩ = some (.int .u8 m1) ∧ W.cell? ⟨h, 2, none⟩ = some (.int .u8 m2) ∧ W.cell? ⟨h, 3, none⟩ = some (.int .u8 m3) ∧ W.cell? ⟨h, 4, none⟩ = some (.int .u8 m4) ∧ W.cell? ⟨h, 5, none⟩ = some (.int .u8 m5) ∧ W.cell? ⟨j, 0, none⟩ = some (.int .u8 m0) ∧ W.cell? ⟨j, 1, none⟩ = some (.int .u8 m1) ∧ W.cell? ⟨j, 2, none⟩ = some (.int .u8 m2) ∧ W.cell? ⟨j, 3, none⟩ = some (.int .u8 m3) ∧ W.cell? ⟨j, 4, none⟩ = some (.int .u8 m4) ∧ W.cell? ⟨j, 5, none⟩ = some (.int .u8 m5) ∧ KT w g [a0, a1, a2, a3, a4, a5] h j [m0, m1, m2, m3, m4, m5] W := by
  obtain ⟨⟨e0, e1, e2, e3, e4, e5⟩, -⟩ := mac6 k.m1
  obtain ⟨⟨f0, f1, f2, f3, f4, f5⟩, -⟩ := mac6 k.m2
  obtain ⟨⟨g0, g1, g2, g3, g4, g5⟩, -⟩ := mac6 k.m3
  exact ⟨e0, e1, e2, e3, e4, e5, f0, f1, f2, f3, f4, f5, g0, g1, g2, g3, g4, g5, k⟩
end
/-- One Mac's block. -/
structure KS1 (w : World) (g : Nat) (ns : List Nat) (W : World) : Prop where
  m1 : W.heap[g]? = some (.cells (macC ns) 37 (0, 0))
  kn : Kn W
  below : Below w.heap.size w W
theorem KS1.step {w W V : World} {g : Nat} {ns : List Nat} (k : KS1 w g ns W) (hb : Below W.heap.size W V) : KS1 w g ns V :=
  ⟨(hb.block _ (lt_of_heap k.m1)).trans k.m1, k.kn.step hb, k.below.trans (hb.mono k.below.size)⟩
set_option maxRecDepth 100000 in
set_option maxHeartbeats 8000000 in
theorem texts_law (x : Int) (a0 a1 a2 a3 a4 a5 : Nat) (s : List UInt8) (w : World) (kn : Kn w) (hx : W32 x) (ha : a0 < 256 ∧ a1 < 256 ∧ a2 < 256 ∧ a3 < 256 ∧ a4 < 256 ∧ a5 < 256) :
    Calls Tryd.prog 4 #[.int .u32 x, .agg #[.int .u8 a0, .int .u8 a1, .int .u8 a2, .int .u8 a3, .int .u8 a4, .int .u8 a5], strV s] w fun e w' => e = .returned (.bool true) ∧ Below w.heap.size w w' := by
  obtain ⟨l0, l1, l2, l3, l4, l5⟩ := ha
  obtain ⟨n, rfl⟩ := Int.eq_ofNat_of_zero_le hx.1
  have hn : n < 4294967296 := by have := hx.2; omega
  have hsz : ((⟨s.toArray⟩ : ByteArray).size : Int) = s.length := by show ((s.toArray.size : Nat) : Int) = _; simp
  have k : KS1 w w.heap.size [a0, a1, a2, a3, a4, a5] (w.alloc (.cells #[.int .u8 a0, .int .u8 a1, .int .u8 a2, .int .u8 a3, .int .u8 a4, .int .u8 a5] 37)) := ⟨World.alloc_heap_new _ _, kn.alloc _, alloc_below _ _⟩
  by_cases hl : 1000 < s.length
  · go_enter Tryd.func4, Tryd.ntmps4
    go_wp2_with fail
    with_reducible refine (alive_any _ k.kn).mono ?_
    rintro ev w1 ⟨rfl, hb⟩
    replace k := k.step hb
    go_wp2
    go_ret
    exact ⟨rfl, k.below⟩
  have hs : s.length ≤ 1000 := by omega
  obtain ⟨p, q, hP⟩ : ∃ p q, parseV s = (p, q) := ⟨_, _, rfl⟩
  obtain ⟨ms, z, hM⟩ : ∃ ms z, macP s = (ms, z) := ⟨_, _, rfl⟩
  have hms := macP_six s
  rw [hM] at hms
  obtain ⟨m0, m1, m2, m3, m4, m5, rfl⟩ := six hms.1
  have hml := hms.2
  simp only [List.mem_cons, List.not_mem_nil, or_false, forall_eq_or_imp, forall_eq] at hml
  obtain ⟨ml0, ml1, ml2, ml3, ml4, ml5⟩ := hml
  go_enter Tryd.func4, Tryd.ntmps4
  go_wp2_with fail
  with_reducible refine (alive_any _ k.kn).mono ?_
  rintro ev w1 ⟨rfl, hb⟩
  replace k := k.step hb
  clear hb
  go_wp2_with fail
  with_reducible refine (parse_lit hP hs _ k.kn).mono ?_
  rintro ev w2 ⟨rfl, hb⟩
  replace k := k.step hb
  clear hb
  go_wp2_with fail
  with_reducible refine (refParse_lit hP hs _).mono ?_
  rintro ev w3 ⟨rfl, hb⟩
  replace k := k.step hb
  clear hb
  go_wp2_with fail
  with_reducible refine (mac_lit hM hs _ k.kn).mono ?_
  rintro ev w4 ⟨rfl, hb⟩
  replace k := k.step hb
  clear hb
  have kb := k.step (alloc_below w4 (.cells #[.int .u8 m0, .int .u8 m1, .int .u8 m2, .int .u8 m3, .int .u8 m4, .int .u8 m5] 37))
  have hm2 : (w4.alloc (.cells #[.int .u8 m0, .int .u8 m1, .int .u8 m2, .int .u8 m3, .int .u8 m4, .int .u8 m5] 37)).heap[w4.heap.size]? = some (.cells (macC [m0, m1, m2, m3, m4, m5]) 37 (0, 0)) := World.alloc_heap_new _ _
  clear k
  go_wp2_with fail
  with_reducible refine (refMac_lit hM _).mono ?_
  rintro ev w5 ⟨rfl, hb⟩
  replace hm2 := (hb.block _ (lt_of_heap hm2)).trans hm2
  replace kb := kb.step hb
  clear hb
  have kt : KT w w.heap.size [a0, a1, a2, a3, a4, a5] w4.heap.size w5.heap.size [m0, m1, m2, m3, m4, m5] (w5.alloc (.cells #[.int .u8 m0, .int .u8 m1, .int .u8 m2, .int .u8 m3, .int .u8 m4, .int .u8 m5] 36)) := by
    have k6 := kb.step (alloc_below w5 (.cells #[.int .u8 m0, .int .u8 m1, .int .u8 m2, .int .u8 m3, .int .u8 m4, .int .u8 m5] 36))
    exact ⟨k6.m1, (Below.heap_alloc _ _ _ (lt_of_heap hm2)).trans hm2, World.alloc_heap_new _ _, k6.kn, k6.below⟩
  clear kb hm2
  go_wp2_with fail
  generalize hW : w5.alloc (.cells #[.int .u8 m0, .int .u8 m1, .int .u8 m2, .int .u8 m3, .int .u8 m4, .int .u8 m5] 36) = W at kt ⊢
  generalize hj : w5.heap.size = j at kt ⊢
  generalize hh : w4.heap.size = h at kt ⊢
  generalize hg : w.heap.size = g at kt ⊢
  have hq := fun W => eq37 m0 m1 m2 m3 m4 m5 W
  go_region_held3 (fun w' => w'.cell? ⟨g, 0, none⟩ = some (.int .u8 a0) ∧ w'.cell? ⟨g, 1, none⟩ = some (.int .u8 a1) ∧ w'.cell? ⟨g, 2, none⟩ = some (.int .u8 a2) ∧ w'.cell? ⟨g, 3, none⟩ = some (.int .u8 a3) ∧ w'.cell? ⟨g, 4, none⟩ = some (.int .u8 a4) ∧ w'.cell? ⟨g, 5, none⟩ = some (.int .u8 a5) ∧ w'.cell? ⟨h, 0, none⟩ = some (.int .u8 m0) ∧ w'.cell? ⟨h, 1, none⟩ = some (.int .u8 m1) ∧ w'.cell? ⟨h, 2, none⟩ = some (.int .u8 m2) ∧ w'.cell? ⟨h, 3, none⟩ = some (.int .u8 m3) ∧ w'.cell? ⟨h, 4, none⟩ = some (.int .u8 m4) ∧ w'.cell? ⟨h, 5, none⟩ = some (.int .u8 m5) ∧ w'.cell? ⟨j, 0, none⟩ = some (.int .u8 m0) ∧ w'.cell? ⟨j, 1, none⟩ = some (.int .u8 m1) ∧ w'.cell? ⟨j, 2, none⟩ = some (.int .u8 m2) ∧ w'.cell? ⟨j, 3, none⟩ = some (.int .u8 m3) ∧ w'.cell? ⟨j, 4, none⟩ = some (.int .u8 m4) ∧ w'.cell? ⟨j, 5, none⟩ = some (.int .u8 m5) ∧ KT w g [a0, a1, a2, a3, a4, a5] h j [m0, m1, m2, m3, m4, m5] w')
    (first
      | assumption
      | (exact KT.parts (KT.drew kt))
      | (go_split_ands; exact KT.parts (KT.step (by assumption) hb1)))
    (first
      | (go_at_call 29; go_split_ands; with_reducible refine (text_any n hn _ (KT.kn (by assumption))).mono ?_; rintro ev w6 ⟨rfl, hb1⟩)
      | (go_at_call 30; go_split_ands; with_reducible refine (refText_any n hn _).mono ?_; rintro ev w6 ⟨rfl, hb1⟩)
      | (go_at_call 31; go_split_ands; with_reducible refine (macText_any a0 a1 a2 a3 a4 a5 l0 l1 l2 l3 l4 l5 _ (KT.kn (by assumption))).mono ?_; rintro ev w6 ⟨rfl, hb1⟩)
      | (go_at_call 32; go_split_ands; with_reducible refine (refMac_any a0 a1 a2 a3 a4 a5 l0 l1 l2 l3 l4 l5 _).mono ?_; rintro ev w6 ⟨rfl, hb1⟩)
      | (go_at_call 33; go_split_ands; with_reducible refine (group_any a0 a1 a2 a3 a4 a5 _ (by omega)).mono ?_; rintro ev w6 ⟨rfl, hb1⟩))
  all_goals go_split_ands
  have kk : KT w g [a0, a1, a2, a3, a4, a5] h j [m0, m1, m2, m3, m4, m5] w6 := by assumption
  clear kt
  go_wp2_with fail
  · rename_i hc
    exfalso
    have r1 : (a0 : Int).tmod 2 = (a0 : Int) % 2 := Int.tmod_eq_emod_of_nonneg (by omega)
    rw [r1] at hc
    by_cases hpp : (a0 : Int) % 2 = 1 <;> simp [hpp] at hc
  have hpq : (∃ n' : Nat, p = n' ∧ n' < 4294967296 ∧ q = 0 ∧ textL n' = s) ∨ q = 10 := by
    by_cases ht : ∃ n', IsText s n'
    · obtain ⟨n', ht⟩ := ht
      rw [parse_some ht] at hP
      injection hP with h1 h2
      exact .inl ⟨n', h1.symm, ht.1, h2.symm, ht.2⟩
    · rw [parse_none ht] at hP
      injection hP with h1 h2
      exact .inr h2.symm
  have hmz : (z = 0 ∧ macL m0 m1 m2 m3 m4 m5 = s) ∨ z = 10 := by
    by_cases ht : ∃ ms, IsMac s ms
    · obtain ⟨ms', ht⟩ := ht
      rw [macP_some ht] at hM
      injection hM with h1 h2
      have h3 := ht.2.2
      rw [h1, macI_six] at h3
      exact .inl ⟨h2.symm, h3⟩
    · rw [macP_none ht] at hM
      injection hM with h1 h2
      exact .inr h2.symm
  have HPQ := Lib.hid hpq
  have HMZ := Lib.hid hmz
  clear hpq hmz hP hM hq
  have hT0 : parseV (textL n) = ((n : Int), 0) := parse_some (show IsText (textL n) n from ⟨hn, rfl⟩)
  have hM0 : macP (macL a0 a1 a2 a3 a4 a5) = ([a0, a1, a2, a3, a4, a5], 0) := macP_some (show IsMac (macL a0 a1 a2 a3 a4 a5) [a0, a1, a2, a3, a4, a5] from ⟨rfl, by simp [*], macI_six _ _ _ _ _ _⟩)
  with_reducible refine (text_any n hn _ kk.kn).mono ?_
  rintro ev w7 ⟨rfl, hb2⟩
  replace kk := kk.step hb2
  clear hb2
  go_wp2_with fail
  with_reducible refine (parse_lit hT0 (Nat.le_trans (text_short n) (by omega)) _ kk.kn).mono ?_
  rintro ev w8 ⟨rfl, hb2⟩
  replace kk := kk.step hb2
  clear hb2
  obtain ⟨⟨e0, e1, e2, e3, e4, e5⟩, -⟩ := mac6 kk.m1
  go_wp2_with fail
  with_reducible refine (macText_any a0 a1 a2 a3 a4 a5 l0 l1 l2 l3 l4 l5 _ kk.kn).mono ?_
  rintro ev w9 ⟨rfl, hb2⟩
  replace kk := kk.step hb2
  clear hb2 e0 e1 e2 e3 e4 e5
  go_wp2_with fail
  with_reducible refine (mac_lit hM0 (by simp [macL, hexL]) _ kk.kn).mono ?_
  rintro ev w10 ⟨rfl, hb2⟩
  replace kk := kk.step hb2
  clear hb2
  have k9 := kk.step (alloc_below w10 (.cells #[.int .u8 a0, .int .u8 a1, .int .u8 a2, .int .u8 a3, .int .u8 a4, .int .u8 a5] 37))
  have hm4 : (w10.alloc (.cells #[.int .u8 a0, .int .u8 a1, .int .u8 a2, .int .u8 a3, .int .u8 a4, .int .u8 a5] 37)).heap[w10.heap.size]? = some (.cells (macC [a0, a1, a2, a3, a4, a5]) 37 (0, 0)) := World.alloc_heap_new _ _
  obtain ⟨⟨e0, e1, e2, e3, e4, e5⟩, -⟩ := mac6 k9.m1
  obtain ⟨⟨f0, f1, f2, f3, f4, f5⟩, -⟩ := mac6 k9.m2
  obtain ⟨⟨i0, i1, i2, i3, i4, i5⟩, -⟩ := mac6 hm4
  have hq := fun W => eq37 a0 a1 a2 a3 a4 a5 W
  have kw := k9.kn
  clear kk
  rcases HPQ.out with ⟨n', rfl, hn', rfl, htx⟩ | rfl
  · rcases HMZ.out with ⟨rfl, hmx⟩ | rfl
    · go_wp2_with fail
      with_reducible refine (text_any n' hn' _ kw).mono ?_
      rintro ev w11 ⟨rfl, hb2⟩
      replace k9 := k9.step hb2
      clear hb2 f0 f1 f2 f3 f4 f5
      obtain ⟨⟨f0, f1, f2, f3, f4, f5⟩, -⟩ := mac6 k9.m2
      rw [htx]
      go_wp2_with fail
      with_reducible refine (macText_any m0 m1 m2 m3 m4 m5 ml0 ml1 ml2 ml3 ml4 ml5 _ k9.kn).mono ?_
      rintro ev w12 ⟨rfl, hb2⟩
      replace k9 := k9.step hb2
      rw [hmx]
      go_wp2
      subst hg
      go_ret
      exact ⟨rfl, k9.below⟩
    · go_wp2_with fail
      with_reducible refine (text_any n' hn' _ kw).mono ?_
      rintro ev w11 ⟨rfl, hb2⟩
      replace k9 := k9.step hb2
      rw [htx]
      go_wp2
      subst hg
      go_ret
      exact ⟨rfl, k9.below⟩
  · rcases HMZ.out with ⟨rfl, hmx⟩ | rfl
    · go_wp2_with fail
      with_reducible refine (macText_any m0 m1 m2 m3 m4 m5 ml0 ml1 ml2 ml3 ml4 ml5 _ kw).mono ?_
      rintro ev w12 ⟨rfl, hb2⟩
      replace k9 := k9.step hb2
      rw [hmx]
      go_wp2
      subst hg
      go_ret
      exact ⟨rfl, k9.below⟩
    · go_wp2
      subst hg
      go_ret
      exact ⟨rfl, k9.below⟩
end Go.Proofs.YtemhahfodblehaaDoor
