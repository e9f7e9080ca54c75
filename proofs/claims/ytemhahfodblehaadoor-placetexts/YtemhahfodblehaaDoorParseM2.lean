/-
  ParseMac, walked.
-/
import Derived.Test.YtemhahfodblehaaDoorParseM
namespace Go.Proofs.YtemhahfodblehaaDoor
open Go.RowKit Go.Shelf
attribute [local go_sem] Oper.semAt_some

theorem alloc6 (w : World) (o1 o2 o3 o4 o5 o6 : Obj) : ∃ V, (((((w.alloc o1).alloc o2).alloc o3).alloc o4).alloc o5).alloc o6 = V ∧ V.heap.size = w.heap.size + 6 ∧ Below w.heap.size w V ∧
    V.heap[w.heap.size]? = some o1 ∧ V.heap[w.heap.size + 1]? = some o2 ∧ V.heap[w.heap.size + 1 + 1]? = some o3 ∧ V.heap[w.heap.size + 1 + 1 + 1]? = some o4 ∧ V.heap[w.heap.size + 1 + 1 + 1 + 1]? = some o5 ∧ V.heap[w.heap.size + 1 + 1 + 1 + 1 + 1]? = some o6 := by
  obtain ⟨V, hV, hs, hb, h1, h2, h3, h4, h5⟩ := alloc5 w o1 o2 o3 o4 o5
  refine ⟨_, rfl, ?_, ?_, ?_, ?_, ?_, ?_, ?_, ?_⟩
  all_goals rw [hV]
  · simp [hs]
  · exact hb.alloc (by omega) _
  · exact (Below.heap_alloc _ _ _ (by omega)).trans h1
  · exact (Below.heap_alloc _ _ _ (by omega)).trans h2
  · exact (Below.heap_alloc _ _ _ (by omega)).trans h3
  · exact (Below.heap_alloc _ _ _ (by omega)).trans h4
  · exact (Below.heap_alloc _ _ _ (by omega)).trans h5
  · have := World.alloc_heap_new V o6
    rw [hs] at this
    exact this
theorem mac_cell {w : World} {g : Nat} {ys : List Nat} {t : TypeId} (h : w.heap[g]? = some (.cells (macC ys) t (0, 0))) {i : Nat} (hi : i < ys.length) : w.cell? ⟨g, i, none⟩ = some (.int .u8 (ys.getD i 0 : Nat)) ∧ w.frozen? ⟨g, i, none⟩ = false := by
  simp [World.cell?, World.frozen?, h, macC, hi, List.getD]
theorem mac_set {w : World} {g : Nat} {ys : List Nat} {t : TypeId} (h : w.heap[g]? = some (.cells (macC ys) t (0, 0))) (i u : Nat) : (w.setCell ⟨g, i, none⟩ (.int .u8 (u : Int))).heap[g]? = some (.cells (macC (ys.set i u)) t (0, 0)) := by
  simp only [World.setCell, Array.getElem?_modify, h]
  simp [macC, List.map_set]
/-- Six bytes, stored. -/
@[reducible] def put6 (w : World) (g : Nat) (a b c d e f : Nat) : World := ((((((w.setCell ⟨g, 0, none⟩ (.int .u8 (a : Nat))).setCell ⟨g, 1, none⟩ (.int .u8 (b : Nat))).setCell ⟨g, 2, none⟩ (.int .u8 (c : Nat))).setCell ⟨g, 3, none⟩ (.int .u8 (d : Nat))).setCell ⟨g, 4, none⟩ (.int .u8 (e : Nat))).setCell ⟨g, 5, none⟩ (.int .u8 (f : Nat)))
theorem put6_away (w : World) (g a b c d e f : Nat) : Away (fun k => k = g) w (put6 w g a b c d e f) :=
  (((((Away.set _ _ _ _).trans (Away.set _ _ _ _)).trans (Away.set _ _ _ _)).trans (Away.set _ _ _ _)).trans (Away.set _ _ _ _)).trans (Away.set _ _ _ _)
theorem put6_size (w : World) (g a b c d e f : Nat) : (put6 w g a b c d e f).heap.size = w.heap.size := by simp only [put6, size_set]
theorem put6_other (w : World) (g a b c d e f : Nat) {k : Nat} (hk : k ≠ g) : (put6 w g a b c d e f).heap[k]? = w.heap[k]? := by
  simp only [put6]
  rw [Below.heap_setCell _ _ _ k hk, Below.heap_setCell _ _ _ k hk, Below.heap_setCell _ _ _ k hk, Below.heap_setCell _ _ _ k hk, Below.heap_setCell _ _ _ k hk, Below.heap_setCell _ _ _ k hk]
theorem put6_same {w : World} {g : Nat} {ys : List Nat} {t : TypeId} (h : w.heap[g]? = some (.cells (macC ys) t (0, 0))) (hl : ys.length = 6) (a b c d e f : Nat) : (put6 w g a b c d e f).heap[g]? = some (.cells (macC [a, b, c, d, e, f]) t (0, 0)) := by
  obtain ⟨a', b', c', d', e', f', rfl⟩ := six hl
  exact mac_set (mac_set (mac_set (mac_set (mac_set (mac_set h 0 a) 1 b) 2 c) 3 d) 4 e) 5 f
theorem put6_below {w : World} {B g : Nat} (hB : B ≤ g) (a b c d e f : Nat) : Below B w (put6 w g a b c d e f) :=
  ⟨(put6_away w g a b c d e f).os, (put6_away w g a b c d e f).tape, (put6_away w g a b c d e f).output, (put6_away w g a b c d e f).size, fun k hk => put6_other w g a b c d e f (by omega)⟩
/-- The six cells of a Mac's block. -/
theorem mac6 {w : World} {g a b c d e f : Nat} {t : TypeId} (h : w.heap[g]? = some (.cells (macC [a, b, c, d, e, f]) t (0, 0))) :
    (w.cell? ⟨g, 0, none⟩ = some (.int .u8 a) ∧ w.cell? ⟨g, 1, none⟩ = some (.int .u8 b) ∧ w.cell? ⟨g, 2, none⟩ = some (.int .u8 c) ∧ w.cell? ⟨g, 3, none⟩ = some (.int .u8 d) ∧ w.cell? ⟨g, 4, none⟩ = some (.int .u8 e) ∧ w.cell? ⟨g, 5, none⟩ = some (.int .u8 f)) ∧
    (w.frozen? ⟨g, 0, none⟩ = false ∧ w.frozen? ⟨g, 1, none⟩ = false ∧ w.frozen? ⟨g, 2, none⟩ = false ∧ w.frozen? ⟨g, 3, none⟩ = false ∧ w.frozen? ⟨g, 4, none⟩ = false ∧ w.frozen? ⟨g, 5, none⟩ = false) := by
  refine ⟨⟨?_, ?_, ?_, ?_, ?_, ?_⟩, ?_, ?_, ?_, ?_, ?_, ?_⟩
  all_goals first | exact (mac_cell h (by simp)).1 | exact (mac_cell h (by simp)).2
/-- What the loop of ParseMac knows between two rounds. -/
structure QI (w V : World) (s : List UInt8) (k : Nat) (W : World) : Prop where
  r1 : W.heap[w.heap.size]? = some (.cells (macC [0, 0, 0, 0, 0, 0]) 37 (0, 0))
  r2 : W.heap[w.heap.size + 1]? = some (.cells #[.int .i64 0] 38 (0, 0))
  mac : ∃ ys, W.heap[w.heap.size + 1 + 1]? = some (.cells (macC ys) 37 (0, 0)) ∧ Fill s k ys
  num : W.heap[w.heap.size + 1 + 1 + 1]? = some (.cells #[.int .i64 k] 3 (0, 0))
  six : k ≤ 6
  below : Below w.heap.size w W
  size : V.heap.size ≤ W.heap.size
  kn : Kn W
/-- What it knows when it is left. -/
structure QX (w V : World) (s : List UInt8) (W : World) : Prop where
  r1 : W.heap[w.heap.size]? = some (.cells (macC [0, 0, 0, 0, 0, 0]) 37 (0, 0))
  r2 : W.heap[w.heap.size + 1]? = some (.cells #[.int .i64 10] 38 (0, 0))
  below : Below w.heap.size w W
  size : V.heap.size ≤ W.heap.size
  bad : ¬ ∃ ms, IsMac s ms
theorem QI.low {w V W W' : World} {s : List UInt8} {k : Nat} (h : QI w V s k W) (hV : w.heap.size + 6 ≤ V.heap.size) (h6 : 6 ≤ w.heap.size) (hb : Below V.heap.size W W') : QI w V s k W' := by
  obtain ⟨a, h1, h2⟩ := h.mac
  exact ⟨(hb.block _ (by omega)).trans h.r1, (hb.block _ (by omega)).trans h.r2, ⟨a, (hb.block _ (by omega)).trans h1, h2⟩, (hb.block _ (by omega)).trans h.num, h.six, h.below.trans (hb.mono (by omega)), Nat.le_trans h.size hb.size, h.kn.same hb.size (fun i hi => hb.block i (by omega))⟩
theorem leave6 {w V U w2 : World} {s : List UInt8} {k : Nat} (hI : QI w V s k w2) (haw : Away (fun k => w.heap.size ≤ k ∧ k ≤ w.heap.size + 1 + 1 + 1) U w2) (hno : ¬ ∃ ms, IsMac s ms) :
    Away (fun k => w.heap.size ≤ k ∧ k ≤ w.heap.size + 1 + 1 + 1) U ((put6 w2 w.heap.size 0 0 0 0 0 0).setCell ⟨w.heap.size + 1, 0, none⟩ (.int .i64 10)) ∧ Code.ret = Code.ret ∧ QX w V s ((put6 w2 w.heap.size 0 0 0 0 0 0).setCell ⟨w.heap.size + 1, 0, none⟩ (.int .i64 10)) := by
  refine ⟨(haw.trans ((put6_away _ _ _ _ _ _ _ _).mono (fun k hk => by omega))).trans ((Away.set _ _ _ _).mono (fun k hk => by omega)), rfl, ?_⟩
  exact ⟨(Below.heap_setCell _ _ _ _ (by simp)).trans (put6_same hI.r1 rfl 0 0 0 0 0 0), box_set ((put6_other _ _ _ _ _ _ _ _ (by omega)).trans hI.r2) _,
    (hI.below.trans (put6_below (Nat.le_refl _) _ _ _ _ _ _)).setCell (p := ⟨w.heap.size + 1, 0, none⟩) (by show w.heap.size ≤ w.heap.size + 1; omega) _, by rw [size_set, put6_size]; exact hI.size, hno⟩
theorem go6 {w V U w2 : World} {s : List UInt8} {k u : Nat} {ys : List Nat} (h6 : 6 ≤ w.heap.size) (hI : QI w V s k w2) (hip : w2.heap[w.heap.size + 1 + 1]? = some (.cells (macC ys) 37 (0, 0))) (haw : Away (fun k => w.heap.size ≤ k ∧ k ≤ w.heap.size + 1 + 1 + 1) U w2) (hk : k < 6) (hf : Fill s (k + 1) (ys.set k u)) :
    Away (fun k => w.heap.size ≤ k ∧ k ≤ w.heap.size + 1 + 1 + 1) U ((w2.setCell ⟨w.heap.size + 1 + 1, k, none⟩ (.int .u8 (u : Int))).setCell ⟨w.heap.size + 1 + 1 + 1, 0, none⟩ (.int .i64 ((k : Int) + 1))) ∧ QI w V s (k + 1) ((w2.setCell ⟨w.heap.size + 1 + 1, k, none⟩ (.int .u8 (u : Int))).setCell ⟨w.heap.size + 1 + 1 + 1, 0, none⟩ (.int .i64 ((k : Int) + 1))) := by
  refine ⟨(haw.trans ((Away.set _ _ _ _).mono (fun k hk => by omega))).trans ((Away.set _ _ _ _).mono (fun k hk => by omega)), ?_⟩
  have oth : ∀ i, i ≠ w.heap.size + 1 + 1 → i ≠ w.heap.size + 1 + 1 + 1 → ((w2.setCell ⟨w.heap.size + 1 + 1, k, none⟩ (.int .u8 (u : Int))).setCell ⟨w.heap.size + 1 + 1 + 1, 0, none⟩ (.int .i64 ((k : Int) + 1))).heap[i]? = w2.heap[i]? := fun i h1 h2 => (Below.heap_setCell _ _ _ i h2).trans (Below.heap_setCell _ _ _ i h1)
  exact ⟨(oth _ (by omega) (by omega)).trans hI.r1, (oth _ (by omega) (by omega)).trans hI.r2, ⟨_, (Below.heap_setCell _ _ _ _ (by simp)).trans (mac_set hip k u), hf⟩, box_set ((Below.heap_setCell _ _ _ _ (by simp)).trans hI.num) _, by omega,
    (hI.below.setCell (p := ⟨w.heap.size + 1 + 1, k, none⟩) (by show w.heap.size ≤ w.heap.size + 1 + 1; omega) _).setCell (p := ⟨w.heap.size + 1 + 1 + 1, 0, none⟩) (by show w.heap.size ≤ w.heap.size + 1 + 1 + 1; omega) _,
    by rw [size_set, size_set]; exact hI.size, hI.kn.same (by rw [size_set, size_set]; exact Nat.le_refl _) (fun i hi => oth i (by omega) (by omega))⟩
set_option maxRecDepth 100000 in
set_option maxHeartbeats 4000000 in
theorem parseMac_any (s : List UInt8) (hs : s.length ≤ 1000) (w : World) (k0 : Kn w) : Calls Tryd.prog 27 #[strV s] w fun e w' => e = .returned (.tuple #[.agg (macC (macP s).1), .int .i64 (macP s).2]) ∧ Below w.heap.size w w' := by
  refine (callsIn_wide (n := 0)).1 ?_
  refine callsIn_of_wp_marks Tryd.func27 rfl trivial ?_ rfl
  simp only [Tryd.ntmps27, List.size_toArray, List.length_cons, List.length_nil, Nat.reduceAdd, Nat.reduceSub, Array.replicate_succ, Array.replicate_zero, List.push_toArray, List.append_toArray, List.nil_append, List.cons_append]
  gi_wp2_with (refine ⟨trivial, rfl, ?_⟩; gi_at_call 38; refine (parts_any _ _ _ ⟨_, rfl⟩).mono ?_; rintro e w' ⟨rfl, rfl⟩)
  obtain ⟨V, hV, hsz, hbV, v0, v1, v2, v3, v4, v5⟩ := alloc6 w (.cells (macC [0, 0, 0, 0, 0, 0]) 37) (.cells #[.int .i64 0] 38) (.cells (macC [0, 0, 0, 0, 0, 0]) 37) (.cells #[.int .i64 0] 3) (.cells #[strV s] 9) (.cells #[.string ⟨#[58]⟩] 9)
  have h6 := k0.big
  have kV := k0.step hbV
  have hseq := parts_seqs (w := V) (w.heap.size + 1 + 1 + 1 + 1) (w.heap.size + 1 + 1 + 1 + 1 + 1) (fun k => w.heap.size ≤ k ∧ k ≤ w.heap.size + 1 + 1 + 1) 58 s hs (by omega) (by omega) (fun k hk => by omega) (box_cell v4).1 (box_cell v5).1 kV
  change Code.wpIn _ _ _ _ _ _ _
  rw [show (((((w.alloc (.cells #[.int .u8 0, .int .u8 0, .int .u8 0, .int .u8 0, .int .u8 0, .int .u8 0] 37)).alloc (.cells #[.int .i64 0] 38)).alloc (.cells #[.int .u8 0, .int .u8 0, .int .u8 0, .int .u8 0, .int .u8 0, .int .u8 0] 37)).alloc (.cells #[.int .i64 0] 3)).alloc (.cells #[strV s] 9)).alloc (.cells #[.string ⟨#[58]⟩] 9) = V from hV]
  refine wpIn_seqs2 (gf := 45) rfl (enters_of Tryd.func45 (by kernel_rfl) rfl) hseq (fun k hk => by omega) (fun _ => rfl)
    (fun pre W => QI w V s pre.length W) (fun c _ W => c = .ret ∧ QX w V s W)
    (fun pre A B h hb => h.low (by omega) h6 hb)
    (fun c pre A B h hb => ⟨h.1, (hb.block _ (by omega)).trans h.2.r1, (hb.block _ (by omega)).trans h.2.r2, h.2.below.trans (hb.mono (by omega)), Nat.le_trans h.2.size hb.size, h.2.bad⟩)
    ⟨v0, v1, ⟨_, v2, ⟨rfl, by simp, fun ms hm i hi => absurd hi (by simp)⟩⟩, v3, by simp, hbV, Nat.le_refl _, kV⟩ ?round ?done ?stop
  case round =>
    rintro l pre x W hl hlW hpre hI
    simp only [encS]
    gi_wp2
    refine ⟨Away.refl _ W, fun o => ?_⟩
    have hput : Below V.heap.size W (W.putObj l o) := ⟨rfl, rfl, rfl, by simp, fun k hk => World.putObj_heap_other (by omega)⟩
    have hU := hI.low (by omega) h6 hput
    have hUs : W.heap.size = (W.putObj l o).heap.size := by simp
    clear hI hput
    generalize W.putObj l o = U at hU hUs ⊢
    have hx : x.length ≤ 1000 := Nat.le_trans (partsF_len 58 _ _ x (hpre.subset (by simp))) hs
    have hc := uint16_any x U hU.kn hx
    gi_wp2_with (refine ⟨trivial, rfl, ?_⟩; gi_at_call 39; refine (CallsIn.inRound l (callsIn_wide.2 hc)).mono ?_; rintro e w2 ⟨⟨u, ev, rfl, hu, hcase⟩, hb2⟩; refine Hid.out ?_)
    refine Lib.hid ?_
    have hUV := hU.size
    have hI2 := hU.low (by omega) h6 (hb2.mono hUV)
    have haw : Away (fun k => w.heap.size ≤ k ∧ k ≤ w.heap.size + 1 + 1 + 1) U w2 := Away.of_below hb2 (fun k h1 h2 => by omega)
    obtain ⟨ys, hip, hmade⟩ := hI2.mac
    obtain ⟨n1, n2⟩ := box_cell hI2.num
    obtain ⟨q1, q2⟩ := box_cell hI2.r2
    clear hc hb2 hU
    have hm6 := mac6 hI2.r1
    rcases hcase with ⟨hy, rfl⟩ | ⟨hbad, p, rfl⟩
    · by_cases hk6 : pre.length = 6
      · have hno := mac_bad hpre (.inr (by omega))
        have hk6' : (pre.length : Int) = 6 := by omega
        obtain ⟨⟨e0, e1, e2, e3, e4, e5⟩, f0, f1, f2, f3, f4, f5⟩ := hm6
        gi_wp2
        exact leave6 hI2 haw hno
      · have hk5 : pre.length < 6 := by have := hI2.six; omega
        obtain ⟨m1, m2⟩ := mac_cell hip (i := pre.length) (by rw [hmade.1]; exact hk5)
        obtain ⟨u', rfl⟩ := Int.eq_ofNat_of_zero_le hu.1
        have hf := hmade.step hpre hk5 hy (by omega)
        rw [List.length_append] at hf
        have hgo := go6 h6 hI2 hip haw hk5 hf
        gi_wp2
        have e : (pre ++ [x]).length = pre.length + 1 := by simp
        simp only [leftBy, e]
        exact hgo
    · have hno := mac_bad hpre (.inl hbad)
      obtain ⟨⟨e0, e1, e2, e3, e4, e5⟩, f0, f1, f2, f3, f4, f5⟩ := hm6
      gi_wp2
      exact leave6 hI2 haw hno
  case done =>
    rintro D W hD hI hK
    obtain ⟨ys, hip, hmade⟩ := hI.mac
    obtain ⟨a, b, c, d, e, f, hys⟩ := six hmade.1
    subst hys
    have hlt := hmade.2.1
    simp only [List.mem_cons, List.not_mem_nil, or_false, forall_eq_or_imp, forall_eq] at hlt
    have hc := macText_any a b c d e f hlt.1 hlt.2.1 hlt.2.2.1 hlt.2.2.2.1 hlt.2.2.2.2.1 hlt.2.2.2.2.2 W hI.kn
    obtain ⟨⟨e0, e1, e2, e3, e4, e5⟩, f0, f1, f2, f3, f4, f5⟩ := mac6 hip
    gi_wp2_with (refine ⟨trivial, rfl, ?_⟩; gi_at_call 31; refine (callsIn_wide.2 hc).mono ?_; rintro e w2 ⟨rfl, hb2⟩; refine Hid.out ?_)
    refine Lib.hid ?_
    have hI2 := hI.low (by omega) h6 (hb2.mono hI.size)
    have hK2 := (hb2.block D (lt_of_heap hK)).trans hK
    have hip2 := (hb2.block (w.heap.size + 1 + 1) (lt_of_heap hip)).trans hip
    clear hip e0 e1 e2 e3 e4 e5 f0 f1 f2 f3 f4 f5 hI hK hb2 hc
    obtain ⟨⟨e0, e1, e2, e3, e4, e5⟩, f0, f1, f2, f3, f4, f5⟩ := mac6 hip2
    obtain ⟨⟨g0, g1, g2, g3, g4, g5⟩, i0, i1, i2, i3, i4, i5⟩ := mac6 hI2.r1
    obtain ⟨q1, q2⟩ := box_cell hI2.r2
    have hsix := macI_six a b c d e f
    by_cases htx : macL a b c d e f = s
    · have hps := macP_some (s := s) (ms := [a, b, c, d, e, f]) ⟨rfl, hmade.2.1, hsix.trans htx⟩
      have hse := str_eq s
      rw [htx]
      clear htx hsix
      gi_wp2
      have z1 : ((put6 w2 w.heap.size a b c d e f).setCell ⟨w.heap.size + 1, 0, none⟩ (.int .i64 0)).heap[w.heap.size]? = some (.cells (macC [a, b, c, d, e, f]) 37 (0, 0)) := (Below.heap_setCell _ _ _ _ (by simp)).trans (put6_same hI2.r1 rfl a b c d e f)
      have z2 : ((put6 w2 w.heap.size a b c d e f).setCell ⟨w.heap.size + 1, 0, none⟩ (.int .i64 0)).heap[w.heap.size + 1]? = some (.cells #[.int .i64 0] 38 (0, 0)) := box_set ((put6_other _ _ _ _ _ _ _ _ (by omega)).trans hI2.r2) _
      have zK : ((put6 w2 w.heap.size a b c d e f).setCell ⟨w.heap.size + 1, 0, none⟩ (.int .i64 0)).heap[D]? = some (.deferred (some [])) := (Below.heap_setCell _ _ _ _ (by show D ≠ w.heap.size + 1; omega)).trans ((put6_other _ _ _ _ _ _ _ _ (by omega)).trans hK2)
      have zb : Below w.heap.size w ((put6 w2 w.heap.size a b c d e f).setCell ⟨w.heap.size + 1, 0, none⟩ (.int .i64 0)) := (hI2.below.trans (put6_below (Nat.le_refl _) _ _ _ _ _ _)).setCell (p := ⟨w.heap.size + 1, 0, none⟩) (by show w.heap.size ≤ w.heap.size + 1; omega) _
      change bodyPostM _ _ _ _ _ _ _ ((put6 w2 w.heap.size a b c d e f).setCell ⟨w.heap.size + 1, 0, none⟩ (.int .i64 0))
      generalize ((put6 w2 w.heap.size a b c d e f).setCell ⟨w.heap.size + 1, 0, none⟩ (.int .i64 0)) = Z at z1 z2 zK zb ⊢
      have zz := fun o => mac6 (w := Z.putObj D o) ((World.putObj_heap_other (by omega)).trans z1)
      have c2 : ∀ o, (Z.putObj D o).cell? ⟨w.heap.size + 1, 0, none⟩ = some (.int .i64 0) := fun o => (World.cell?_of_block (w := Z) (World.putObj_heap_other (by show w.heap.size + 1 ≠ D; omega))).trans (box_cell z2).1
      refine ⟨by simp, .inl ⟨_, _, rfl, run_takeDeferred zK, ?_⟩⟩
      exact ⟨.tuple #[.agg (macC [a, b, c, d, e, f]), .int .i64 0], by simp [results, Tryd.results27, go_sem, zz, c2, macC], by rw [hps], zb.trans ⟨rfl, rfl, rfl, by simp, fun k hk => World.putObj_heap_other (by omega)⟩⟩
    · have hsn : (macL a b c d e f == s) = false := by simpa using htx
      have hps := macP_none (s := s) (hmade.last (by rw [hsix]; exact htx))
      gi_wp2
      have z1 : ((put6 w2 w.heap.size 0 0 0 0 0 0).setCell ⟨w.heap.size + 1, 0, none⟩ (.int .i64 10)).heap[w.heap.size]? = some (.cells (macC [0, 0, 0, 0, 0, 0]) 37 (0, 0)) := (Below.heap_setCell _ _ _ _ (by simp)).trans (put6_same hI2.r1 rfl 0 0 0 0 0 0)
      have z2 : ((put6 w2 w.heap.size 0 0 0 0 0 0).setCell ⟨w.heap.size + 1, 0, none⟩ (.int .i64 10)).heap[w.heap.size + 1]? = some (.cells #[.int .i64 10] 38 (0, 0)) := box_set ((put6_other _ _ _ _ _ _ _ _ (by omega)).trans hI2.r2) _
      have zK : ((put6 w2 w.heap.size 0 0 0 0 0 0).setCell ⟨w.heap.size + 1, 0, none⟩ (.int .i64 10)).heap[D]? = some (.deferred (some [])) := (Below.heap_setCell _ _ _ _ (by show D ≠ w.heap.size + 1; omega)).trans ((put6_other _ _ _ _ _ _ _ _ (by omega)).trans hK2)
      have zb : Below w.heap.size w ((put6 w2 w.heap.size 0 0 0 0 0 0).setCell ⟨w.heap.size + 1, 0, none⟩ (.int .i64 10)) := (hI2.below.trans (put6_below (Nat.le_refl _) _ _ _ _ _ _)).setCell (p := ⟨w.heap.size + 1, 0, none⟩) (by show w.heap.size ≤ w.heap.size + 1; omega) _
      change bodyPostM _ _ _ _ _ _ _ ((put6 w2 w.heap.size 0 0 0 0 0 0).setCell ⟨w.heap.size + 1, 0, none⟩ (.int .i64 10))
      generalize ((put6 w2 w.heap.size 0 0 0 0 0 0).setCell ⟨w.heap.size + 1, 0, none⟩ (.int .i64 10)) = Z at z1 z2 zK zb ⊢
      have zz := fun o => mac6 (w := Z.putObj D o) ((World.putObj_heap_other (by omega)).trans z1)
      have c2 : ∀ o, (Z.putObj D o).cell? ⟨w.heap.size + 1, 0, none⟩ = some (.int .i64 10) := fun o => (World.cell?_of_block (w := Z) (World.putObj_heap_other (by show w.heap.size + 1 ≠ D; omega))).trans (box_cell z2).1
      refine ⟨by simp, .inl ⟨_, _, rfl, run_takeDeferred zK, ?_⟩⟩
      exact ⟨.tuple #[.agg (macC [0, 0, 0, 0, 0, 0]), .int .i64 10], by simp [results, Tryd.results27, go_sem, zz, c2, macC], by rw [hps], zb.trans ⟨rfl, rfl, rfl, by simp, fun k hk => World.putObj_heap_other (by omega)⟩⟩
  case stop =>
    rintro D c pre W hD hpre ⟨rfl, hX⟩ hK
    have hps := macP_none hX.bad
    gi_wp2
    have z1 : W.heap[w.heap.size]? = some (.cells (macC [0, 0, 0, 0, 0, 0]) 37 (0, 0)) := hX.r1
    have z2 : W.heap[w.heap.size + 1]? = some (.cells #[.int .i64 10] 38 (0, 0)) := hX.r2
    have zK : W.heap[D]? = some (.deferred (some [])) := hK
    have zb : Below w.heap.size w W := hX.below
    generalize W = Z at z1 z2 zK zb ⊢
    have zz := fun o => mac6 (w := Z.putObj D o) ((World.putObj_heap_other (by omega)).trans z1)
    have c2 : ∀ o, (Z.putObj D o).cell? ⟨w.heap.size + 1, 0, none⟩ = some (.int .i64 10) := fun o => (World.cell?_of_block (w := Z) (World.putObj_heap_other (by show w.heap.size + 1 ≠ D; omega))).trans (box_cell z2).1
    refine ⟨by simp, .inl ⟨_, _, rfl, run_takeDeferred zK, ?_⟩⟩
    exact ⟨.tuple #[.agg (macC [0, 0, 0, 0, 0, 0]), .int .i64 10], by simp [results, Tryd.results27, go_sem, zz, c2, macC], by rw [hps], zb.trans ⟨rfl, rfl, rfl, by simp, fun k hk => World.putObj_heap_other (by omega)⟩⟩
end Go.Proofs.YtemhahfodblehaaDoor
