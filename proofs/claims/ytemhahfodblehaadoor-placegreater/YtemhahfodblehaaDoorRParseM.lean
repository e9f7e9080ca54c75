/-
  The contract of ParseMac (the document's).
-/
import Derived.Test.YtemhahfodblehaaDoorParseM2
import Derived.Test.YtemhahfodblehaaDoorRParse
import Derived.Deep.RegionHeld3
namespace Go.Proofs.YtemhahfodblehaaDoor
open Go.RowKit

theorem mac_chars {s : List UInt8} {ms : List Nat} (h : IsMac s ms) : s.length = 17 ∧ ∀ i, i < 6 → ∀ (h1 : 3 * i < s.length) (h2 : 3 * i + 1 < s.length), s[3 * i]'h1 = hexC (ms.getD i 0 / 16) ∧ s[3 * i + 1]'h2 = hexC (ms.getD i 0 % 16) := by
  obtain ⟨hl, _, rfl⟩ := h
  obtain ⟨a, b, c, d, e, f, rfl⟩ := six hl
  simp only [macI_six]
  refine ⟨rfl, fun i hi h1 h2 => ?_⟩
  have : i = 0 ∨ i = 1 ∨ i = 2 ∨ i = 3 ∨ i = 4 ∨ i = 5 := by omega
  rcases this with rfl | rfl | rfl | rfl | rfl | rfl <;> exact ⟨rfl, rfl⟩
theorem fill_six {s : List UInt8} {ys : List Nat} {k : Nat} (h : Fill s k ys) (hk : k = 6 ∨ s.length ≤ 3 * k + 1) (hne : macI ys 6 ≠ s) : ¬ ∃ ms, IsMac s ms := by
  rintro ⟨ms, hm⟩
  have h17 := (mac_chars hm).1
  have e : ys = ms := by
    apply List.ext_getElem?
    intro i
    by_cases hi : i < 6
    · have := h.2.2 ms hm i (by omega)
      have h1 : i < ys.length := by rw [h.1]; exact hi
      have h2 : i < ms.length := by rw [hm.1]; exact hi
      simp only [List.getD, List.getElem?_eq_getElem h1, List.getElem?_eq_getElem h2, Option.getD_some] at this ⊢
      rw [this]
    · rw [List.getElem?_eq_none (by rw [h.1]; omega), List.getElem?_eq_none (by rw [hm.1]; omega)]
  rw [e] at hne
  exact hne hm.2.2
theorem fill_next {s : List UInt8} {ys : List Nat} {k : Nat} (h : Fill s k ys) (hk : k < 6) (h1 : 3 * k < s.length) (h2 : 3 * k + 1 < s.length) (d e : Nat) (hd : digV ((s[3 * k]'h1).toNat : Int) = d) (he : digV ((s[3 * k + 1]'h2).toNat : Int) = e) : Fill s (k + 1) (ys.set k (d * 16 + e)) := by
  have hd15 := digV_bd ((s[3 * k]'h1).toNat : Int)
  have he15 := digV_bd ((s[3 * k + 1]'h2).toNat : Int)
  refine ⟨by simp [h.1], fun y hy => ?_, fun ms hm i hi => ?_⟩
  · rcases List.mem_or_eq_of_mem_set hy with hy | rfl
    · exact h.2.1 y hy
    · omega
  · by_cases hik : i = k
    · subst hik
      obtain ⟨c1, c2⟩ := (mac_chars hm).2 i hk h1 h2
      have hm256 : ms.getD i 0 < 256 := by
        have hlt : i < ms.length := by rw [hm.1]; exact hk
        have : ms.getD i 0 = ms[i] := by simp [List.getD, List.getElem?_eq_getElem hlt]
        rw [this]; exact hm.2.1 _ (List.getElem_mem _)
      rw [c1, digV_hex _ (by omega)] at hd
      rw [c2, digV_hex _ (by omega)] at he
      have hlt : i < ys.length := by rw [h.1]; exact hk
      have : (ys.set i (d * 16 + e)).getD i 0 = d * 16 + e := by simp [List.getD, hlt]
      rw [this]
      omega
    · rw [← h.2.2 ms hm i (by omega)]
      simp only [List.getD, List.getElem?_set_ne (Ne.symm hik)]
/-- What the loop knows between two rounds. -/
structure RI (w : World) (s : List UInt8) (k : Nat) (W : World) : Prop where
  r1 : W.heap[w.heap.size]? = some (.cells (macC [0, 0, 0, 0, 0, 0]) 36 (0, 0))
  mac : ∃ ys, W.heap[w.heap.size + 1]? = some (.cells (macC ys) 36 (0, 0)) ∧ Fill s k ys
  below : Below w.heap.size w W
theorem RI.step {w W V : World} {s : List UInt8} {k : Nat} (h : RI w s k W) (hb : Below W.heap.size W V) : RI w s k V := by
  obtain ⟨ys, h1, h2⟩ := h.mac
  exact ⟨(hb.block _ (lt_of_heap h.r1)).trans h.r1, ⟨ys, (hb.block _ (lt_of_heap h1)).trans h1, h2⟩, h.below.trans (hb.mono h.below.size)⟩
set_option maxRecDepth 100000 in
set_option maxHeartbeats 2000000 in
theorem refParseMac_any (s : List UInt8) (w : World) : Calls Tryd.prog 28 #[strV s] w fun e w' => e = .returned (.tuple #[.agg (macC (macP s).1), .int .i64 (macP s).2]) ∧ Below w.heap.size w w' := by
  have hsz : ((⟨s.toArray⟩ : ByteArray).size : Int) = s.length := by show ((s.toArray.size : Nat) : Int) = _; simp
  have k0 : RI w s 0 ((w.alloc (.cells (macC [0, 0, 0, 0, 0, 0]) 36)).alloc (.cells (macC [0, 0, 0, 0, 0, 0]) 36)) := by
    have h2 := World.alloc_heap_new (w.alloc (.cells (macC [0, 0, 0, 0, 0, 0]) 36)) (.cells (macC [0, 0, 0, 0, 0, 0]) 36)
    rw [World.size_alloc] at h2
    exact ⟨(Below.heap_alloc _ _ _ (by simp)).trans (World.alloc_heap_new w _), ⟨_, h2, ⟨rfl, by simp, fun ms hm i hi => absurd hi (by omega)⟩⟩, ((Below.refl _ w).alloc (Nat.le_refl _) _).alloc (by simp) _⟩
  go_enter Tryd.func28, Tryd.ntmps28
  go_wp2
  go_loopw [5] (fun vi wr => ∃ (k : Nat), vi = .int .i64 k ∧ k ≤ 6 ∧ RI w s k wr) (fun vi _ => 6 - (intOf vi).toNat)
  case atStart => exact ⟨0, rfl, by omega, k0⟩
  case round =>
    clear k0
    obtain ⟨k, rfl, hk, hI⟩ := hrel
    by_cases hlt : k < 6 ∧ 3 * k + 1 < s.length
    · obtain ⟨hk6, h2⟩ := hlt
      have h1 : 3 * k < s.length := by omega
      obtain ⟨ys, hip, hf⟩ := hI.mac
      obtain ⟨m1, m2⟩ := mac_cell hip (i := k) (by rw [hf.1]; exact hk6)
      have c1 := fun W => run_char W s (3 * k) h1
      have c2 := fun W => run_char W s (3 * k + 1) h2
      obtain ⟨d, hd⟩ := Int.eq_ofNat_of_zero_le (digV_bd ((s[3 * k]'h1).toNat : Int)).1
      obtain ⟨e, he⟩ := Int.eq_ofNat_of_zero_le (digV_bd ((s[3 * k + 1]'h2).toNat : Int)).1
      have hd15 := (digV_bd ((s[3 * k]'h1).toNat : Int)).2
      have he15 := (digV_bd ((s[3 * k + 1]'h2).toNat : Int)).2
      have HN := Lib.hid (fill_next hf hk6 h1 h2 d e hd he)
      rw [hd] at hd15
      rw [he] at he15
      generalize s[3 * k]'h1 = ch1 at c1 hd
      generalize s[3 * k + 1]'h2 = ch2 at c2 he
      obtain ⟨p, hp⟩ : ∃ p : Nat, p = 3 * k := ⟨_, rfl⟩
      rw [← hp] at c1 c2 h1 h2
      have w1 : IntKind.i64.wrap (3 * (k : Int)) = p := by rw [IntKind.wrap_i64]; omega
      have w1' : 3 * (k : Int) = p := by omega
      have w1'' : IntKind.i64.wrap (p : Int) = p := by rw [IntKind.wrap_i64]; omega
      have w2 : IntKind.i64.wrap ((p : Int) + 1) = (p : Int) + 1 := by rw [IntKind.wrap_i64]; omega
      have c2' : ∀ W, (Instr.index 9 (strV s) (.int .i64 ((p : Int) + 1))).run Tryd.prog W = .ok (.int .u8 (ch2.toNat : Int)) W := fun W => c2 W
      have w3 : IntKind.u8.wrap ((d : Int) * 16) = (d : Int) * 16 := by rw [IntKind.wrap_u8']; omega
      have w4 : IntKind.u8.wrap ((d : Int) * 16 + e) = (d : Int) * 16 + e := by rw [IntKind.wrap_u8']; omega
      have hk0 : (0 : Int) ≤ (k : Int) := by omega
      have hst : RI w s (k + 1) (wr.drew.setCell ⟨w.heap.size + 1, k, none⟩ (.int .u8 ((d * 16 + e : Nat) : Int))) := by
        have hb : Below wr.heap.size wr wr.drew := ⟨rfl, rfl, rfl, Nat.le_refl _, fun _ _ => rfl⟩
        have hI' := hI.step hb
        exact ⟨(Below.heap_setCell _ _ _ _ (by simp)).trans hI'.r1, ⟨_, mac_set (w := wr.drew) hip k (d * 16 + e), HN.out⟩, hI'.below.setCell (p := ⟨w.heap.size + 1, k, none⟩) (by show w.heap.size ≤ w.heap.size + 1; omega) _⟩
      have hval : ((d * 16 + e : Nat) : Int) = (d : Int) * 16 + e := by omega
      rw [hval] at hst
      clear hp c2 hval
      go_wp2_with fail
      go_region_held3 (fun _ => True) (first | trivial) (first | (go_at_call 40; refine (digit_any _ _).mono ?_; rintro ev w2 ⟨rfl, rfl⟩))
      all_goals go_wp2
      all_goals exact ⟨⟨k + 1, by go_num, by omega, hst⟩, by simp [intOf]; omega⟩
    · obtain ⟨ys, hip, hf⟩ := hI.mac
      obtain ⟨a, b, c, d, e, f, hys⟩ := six hf.1
      subst hys
      have hl6 := hf.2.1
      simp only [List.mem_cons, List.not_mem_nil, or_false, forall_eq_or_imp, forall_eq] at hl6
      have hc := refMac_any a b c d e f hl6.1 hl6.2.1 hl6.2.2.1 hl6.2.2.2.1 hl6.2.2.2.2.1 hl6.2.2.2.2.2 wr
      have hsix := macI_six a b c d e f
      have hbad := fun hne => fill_six hf (by omega) hne
      have hfk : k = 6 ∨ s.length ≤ 3 * k + 1 := by omega
      obtain ⟨⟨e0, e1, e2, e3, e4, e5⟩, f0, f1, f2, f3, f4, f5⟩ := mac6 hip
      by_cases hk6 : k < 6
      case' pos =>
        have hk6' : (k : Int) < 6 := by omega
        have hlen : ¬ (3 * (k : Int) + 1 < (s.length : Int)) := by omega
      case' neg =>
        have hk6' : ¬ ((k : Int) < 6) := by omega
      all_goals
        go_wp2_with fail
        with_reducible refine hc.mono ?_
        rintro ev w2 ⟨rfl, hb2⟩
        have hI2 := hI.step hb2
        have hip2 := (hb2.block _ (lt_of_heap hip)).trans hip
        clear e0 e1 e2 e3 e4 e5 f0 f1 f2 f3 f4 f5
        obtain ⟨⟨e0, e1, e2, e3, e4, e5⟩, f0, f1, f2, f3, f4, f5⟩ := mac6 hip2
        obtain ⟨⟨g0, g1, g2, g3, g4, g5⟩, i0, i1, i2, i3, i4, i5⟩ := mac6 hI2.r1
        by_cases htx : macL a b c d e f = s
        · have hps := macP_some (s := s) (ms := [a, b, c, d, e, f]) ⟨rfl, hf.2.1, hsix.trans htx⟩
          have hse := str_eq s
          rw [htx]
          clear htx hsix hbad
          go_wp2
          have zz := mac6 (put6_same hI2.r1 rfl a b c d e f)
          refine bodyPost_ret (v := .tuple #[.agg (macC [a, b, c, d, e, f]), .int .i64 0]) ?_ rfl ⟨by rw [hps], hI2.below.trans (put6_below (Nat.le_refl _) a b c d e f)⟩
          simp [results, Tryd.results28, go_sem, zz, macC]
        · have hsn : (macL a b c d e f == s) = false := by simpa using htx
          have hps := macP_none (s := s) (hbad (by rw [hsix]; exact htx))
          go_wp2
          have hp6 := put6_same hI2.r1 rfl 0 0 0 0 0 0
          have hb6 := put6_below (w := w2) (Nat.le_refl w.heap.size) 0 0 0 0 0 0
          change bodyPost _ _ _ _ _ (put6 w2 w.heap.size 0 0 0 0 0 0)
          generalize put6 w2 w.heap.size 0 0 0 0 0 0 = Z at hp6 hb6 ⊢
          have zz := mac6 hp6
          refine bodyPost_ret (v := .tuple #[.agg (macC [0, 0, 0, 0, 0, 0]), .int .i64 10]) ?_ rfl ⟨by rw [hps], hI2.below.trans hb6⟩
          simp [results, Tryd.results28, go_sem, zz, macC]
end Go.Proofs.YtemhahfodblehaaDoor
