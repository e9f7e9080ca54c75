/-
  Parse, walked.
-/
import Derived.Test.YtemhahfodblehaaDoorParse
namespace Go.Proofs.YtemhahfodblehaaDoor
open Go.RowKit Go.Shelf
attribute [local go_sem] Oper.semAt_some

theorem box_new (w : World) (v : Value) (t : TypeId) : (w.alloc (.cells #[v] t)).heap[w.heap.size]? = some (.cells #[v] t (0, 0)) := World.alloc_heap_new w _
theorem box_cell {w : World} {g : Nat} {v : Value} {t : TypeId} (h : w.heap[g]? = some (.cells #[v] t (0, 0))) : w.cell? ⟨g, 0, none⟩ = some v ∧ w.frozen? ⟨g, 0, none⟩ = false := by simp [World.cell?, World.frozen?, h]
theorem box_set {w : World} {g : Nat} {v : Value} {t : TypeId} (h : w.heap[g]? = some (.cells #[v] t (0, 0))) (u : Value) : (w.setCell ⟨g, 0, none⟩ u).heap[g]? = some (.cells #[u] t (0, 0)) := by
  simp only [World.setCell, Array.getElem?_modify, h]
  simp
theorem lt_of_heap {z : World} {k : Nat} {o : Obj} (h : z.heap[k]? = some o) : k < z.heap.size := (Array.getElem?_eq_some_iff.1 h).1
theorem str_ne {a b : List UInt8} (h : a ≠ b) : ((⟨a.toArray⟩ : ByteArray).toList == (⟨b.toArray⟩ : ByteArray).toList) = false := by
  rw [ByteArray.toList_eq, ByteArray.toList_eq]
  simpa using h
theorem str_eq (a : List UInt8) : ((⟨a.toArray⟩ : ByteArray).toList == (⟨a.toArray⟩ : ByteArray).toList) = true := by simp

theorem alloc5 (w : World) (o1 o2 o3 o4 o5 : Obj) : ∃ V, ((((w.alloc o1).alloc o2).alloc o3).alloc o4).alloc o5 = V ∧ V.heap.size = w.heap.size + 5 ∧ Below w.heap.size w V ∧
    V.heap[w.heap.size]? = some o1 ∧ V.heap[w.heap.size + 1]? = some o2 ∧ V.heap[w.heap.size + 1 + 1]? = some o3 ∧ V.heap[w.heap.size + 1 + 1 + 1]? = some o4 ∧ V.heap[w.heap.size + 1 + 1 + 1 + 1]? = some o5 := by
  refine ⟨_, rfl, by simp, ?_, ?_, ?_, ?_, ?_, ?_⟩
  · exact (((((Below.refl _ w).alloc (Nat.le_refl _) _).alloc (by simp) _).alloc (by simp <;> omega) _).alloc (by simp <;> omega) _).alloc (by simp <;> omega) _
  · exact (Below.heap_alloc _ _ _ (by simp <;> omega)).trans ((Below.heap_alloc _ _ _ (by simp <;> omega)).trans ((Below.heap_alloc _ _ _ (by simp <;> omega)).trans ((Below.heap_alloc _ _ _ (by simp)).trans (World.alloc_heap_new w _))))
  · have := World.alloc_heap_new (w.alloc o1) o2
    rw [World.size_alloc] at this
    exact (Below.heap_alloc _ _ _ (by simp <;> omega)).trans ((Below.heap_alloc _ _ _ (by simp <;> omega)).trans ((Below.heap_alloc _ _ _ (by simp)).trans this))
  · have := World.alloc_heap_new ((w.alloc o1).alloc o2) o3
    rw [World.size_alloc, World.size_alloc] at this
    exact (Below.heap_alloc _ _ _ (by simp <;> omega)).trans ((Below.heap_alloc _ _ _ (by simp)).trans this)
  · have := World.alloc_heap_new (((w.alloc o1).alloc o2).alloc o3) o4
    rw [World.size_alloc, World.size_alloc, World.size_alloc] at this
    exact (Below.heap_alloc _ _ _ (by simp)).trans this
  · have := World.alloc_heap_new ((((w.alloc o1).alloc o2).alloc o3).alloc o4) o5
    rw [World.size_alloc, World.size_alloc, World.size_alloc, World.size_alloc] at this
    exact this
theorem size_set (w : World) (p : Addr) (v : Value) : (w.setCell p v).heap.size = w.heap.size := by simp [World.setCell]
/-- What the loop of Parse knows between two rounds. -/
structure PI (w V : World) (s : List UInt8) (k : Nat) (W : World) : Prop where
  r1 : W.heap[w.heap.size]? = some (.cells #[.int .u32 0] 22 (0, 0))
  r2 : W.heap[w.heap.size + 1]? = some (.cells #[.int .i64 0] 38 (0, 0))
  ip : ∃ a, W.heap[w.heap.size + 1 + 1]? = some (.cells #[.int .u32 a] 22 (0, 0)) ∧ Made s k a
  below : Below w.heap.size w W
  size : V.heap.size ≤ W.heap.size
  kn : Kn W
/-- What it knows when it is left. -/
structure PX (w V : World) (s : List UInt8) (W : World) : Prop where
  r1 : W.heap[w.heap.size]? = some (.cells #[.int .u32 0] 22 (0, 0))
  r2 : W.heap[w.heap.size + 1]? = some (.cells #[.int .i64 10] 38 (0, 0))
  below : Below w.heap.size w W
  size : V.heap.size ≤ W.heap.size
  bad : ¬ ∃ n, IsText s n
theorem PI.low {w V W W' : World} {s : List UInt8} {k : Nat} (h : PI w V s k W) (hV : w.heap.size + 5 ≤ V.heap.size) (h6 : 6 ≤ w.heap.size) (hb : Below V.heap.size W W') : PI w V s k W' := by
  obtain ⟨a, h1, h2⟩ := h.ip
  exact ⟨(hb.block _ (by omega)).trans h.r1, (hb.block _ (by omega)).trans h.r2, ⟨a, (hb.block _ (by omega)).trans h1, h2⟩, h.below.trans (hb.mono (by omega)), Nat.le_trans h.size hb.size, h.kn.same hb.size (fun i hi => hb.block i (by omega))⟩
set_option maxRecDepth 100000 in
set_option maxHeartbeats 2000000 in
theorem parse_any (s : List UInt8) (hs : s.length ≤ 1000) (w : World) (k0 : Kn w) : Calls Tryd.prog 25 #[strV s] w fun e w' => e = .returned (.tuple #[.int .u32 (parseV s).1, .int .i64 (parseV s).2]) ∧ Below w.heap.size w w' := by
  refine (callsIn_wide (n := 0)).1 ?_
  refine callsIn_of_wp_marks Tryd.func25 rfl trivial ?_ rfl
  simp only [Tryd.ntmps25, List.size_toArray, List.length_cons, List.length_nil, Nat.reduceAdd, Nat.reduceSub, Array.replicate_succ, Array.replicate_zero, List.push_toArray, List.append_toArray, List.nil_append, List.cons_append]
  gi_wp2_with (refine ⟨trivial, rfl, ?_⟩; gi_at_call 38; refine (parts_any _ _ _ ⟨_, rfl⟩).mono ?_; rintro e w' ⟨rfl, rfl⟩)
  obtain ⟨V, hV, hsz, hbV, v0, v1, v2, v3, v4⟩ := alloc5 w (.cells #[.int .u32 0] 22) (.cells #[.int .i64 0] 38) (.cells #[.int .u32 0] 22) (.cells #[strV s] 9) (.cells #[.string ⟨#[46]⟩] 9)
  have h6 := k0.big
  have kV := k0.step hbV
  have hseq := parts_seqs (w := V) (w.heap.size + 1 + 1 + 1) (w.heap.size + 1 + 1 + 1 + 1) (fun k => w.heap.size ≤ k ∧ k ≤ w.heap.size + 1 + 1) 46 s hs (by omega) (by omega) (fun k hk => by omega) (box_cell v3).1 (box_cell v4).1 kV
  simp only [hV]
  refine wpIn_seqs2 (gf := 45) rfl (enters_of Tryd.func45 (by kernel_rfl) rfl) hseq (fun k hk => by omega) (fun _ => rfl)
    (fun pre W => PI w V s pre.length W) (fun c _ W => c = .ret ∧ PX w V s W)
    (fun pre A B h hb => h.low (by omega) h6 hb)
    (fun c pre A B h hb => ⟨h.1, (hb.block _ (by omega)).trans h.2.r1, (hb.block _ (by omega)).trans h.2.r2, h.2.below.trans (hb.mono (by omega)), Nat.le_trans h.2.size hb.size, h.2.bad⟩)
    ⟨v0, v1, ⟨0, v2, ⟨by unfold W32; omega, fun n hn => by have := hn.1; show (0 : Int) = ((n / 4294967296 : Nat) : Int); omega⟩⟩, hbV, Nat.le_refl _, kV⟩ ?round ?done ?stop
  case round =>
    rintro l pre x W hl hlW hpre hI
    simp only [encS]
    gi_wp2
    refine ⟨Away.refl _ W, fun o => ?_⟩
    have hput : Below V.heap.size W (W.putObj l o) := ⟨rfl, rfl, rfl, by simp, fun k hk => World.putObj_heap_other (by omega)⟩
    have hU := hI.low (by omega) h6 hput
    have hUs : W.heap.size = (W.putObj l o).heap.size := by simp
    clear hI hput
    generalize W.putObj l o = U at hU hUs ⊢
    have hx : x.length ≤ 1000 := Nat.le_trans (partsF_len 46 _ _ x (hpre.subset (by simp))) hs
    have hc := uint10_any x U hU.kn hx
    gi_wp2_with (refine ⟨trivial, rfl, ?_⟩; gi_at_call 39; refine (CallsIn.inRound l (callsIn_wide.2 hc)).mono ?_; rintro e w2 ⟨⟨u, ev, rfl, hu, hcase⟩, hb2⟩; refine Hid.out ?_)
    refine Lib.hid ?_
    have hUV := hU.size
    have hI2 := hU.low (by omega) h6 (hb2.mono hUV)
    have haw : Away (fun k => w.heap.size ≤ k ∧ k ≤ w.heap.size + 1 + 1) U w2 := Away.of_below hb2 (fun k h1 h2 => by omega)
    obtain ⟨a, hip, hmade⟩ := hI2.ip
    obtain ⟨i1, i2⟩ := box_cell hip
    obtain ⟨p1, p2⟩ := box_cell hI2.r1
    obtain ⟨q1, q2⟩ := box_cell hI2.r2
    have ha := hmade.1
    unfold W32 at ha
    clear hc hb2 hU
    rcases hcase with ⟨y, hy, rfl, rfl⟩ | ⟨hbad, p, rfl⟩
    · have hst := hmade.step hpre ⟨y, hy, rfl⟩ hu
      gi_wp2
      refine ⟨haw.trans ((Away.set _ _ _ _).mono (fun k hk => by omega)), ?_⟩
      exact ⟨(Below.heap_setCell _ _ _ _ (by simp; omega)).trans hI2.r1, (Below.heap_setCell _ _ _ _ (by simp)).trans hI2.r2, ⟨_, box_set hip _, hst⟩, hI2.below.setCell (p := ⟨w.heap.size + 1 + 1, 0, none⟩) (by show w.heap.size ≤ w.heap.size + 1 + 1; omega) _,
        by rw [size_set]; exact hI2.size, hI2.kn.same (by rw [size_set]; exact Nat.le_refl _) (fun i hi => Below.heap_setCell _ _ _ _ (by show i ≠ w.heap.size + 1 + 1; omega))⟩
    · have hno := Made.bad hpre hbad
      gi_wp2
      refine ⟨(haw.trans ((Away.set _ _ _ _).mono (fun k hk => by omega))).trans ((Away.set _ _ _ _).mono (fun k hk => by omega)), rfl, ?_⟩
      exact ⟨(Below.heap_setCell _ _ _ _ (by simp)).trans (box_set hI2.r1 _), box_set ((Below.heap_setCell _ _ _ _ (by simp)).trans hI2.r2) _, (hI2.below.setCell (p := ⟨w.heap.size, 0, none⟩) (Nat.le_refl _) _).setCell (p := ⟨w.heap.size + 1, 0, none⟩) (by show w.heap.size ≤ w.heap.size + 1; omega) _,
        by rw [size_set, size_set]; exact hI2.size, hno⟩
  case done =>
    rintro D W hD hI hK
    obtain ⟨a, hip, hmade⟩ := hI.ip
    obtain ⟨i1, i2⟩ := box_cell hip
    obtain ⟨p1, p2⟩ := box_cell hI.r1
    obtain ⟨q1, q2⟩ := box_cell hI.r2
    obtain ⟨n, hn⟩ := Int.eq_ofNat_of_zero_le hmade.1.1
    have hn32 : n < 4294967296 := by have := hmade.1.2; omega
    subst hn
    have hc := text_any n hn32 W hI.kn
    gi_wp2_with (refine ⟨trivial, rfl, ?_⟩; gi_at_call 29; refine (callsIn_wide.2 hc).mono ?_; rintro e w2 ⟨rfl, hb2⟩; refine Hid.out ?_)
    refine Lib.hid ?_
    have hI2 := hI.low (by omega) h6 (hb2.mono hI.size)
    have hK2 := (hb2.block D (lt_of_heap hK)).trans hK
    have hip2 := (hb2.block (w.heap.size + 1 + 1) (lt_of_heap hip)).trans hip
    clear hip i1 i2 p1 p2 q1 q2 hI hK hb2 hc
    obtain ⟨i1, i2⟩ := box_cell hip2
    obtain ⟨p1, p2⟩ := box_cell hI2.r1
    obtain ⟨q1, q2⟩ := box_cell hI2.r2
    by_cases htx : textL n = s
    · have hps := parse_some (s := s) (n := n) ⟨hn32, htx⟩
      have hse := str_eq s
      have HT := Lib.hid htx
      rw [htx]
      clear htx
      gi_wp2
      have z1 : ((w2.setCell ⟨w.heap.size, 0, none⟩ (.int .u32 n)).setCell ⟨w.heap.size + 1, 0, none⟩ (.int .i64 0)).heap[w.heap.size]? = some (.cells #[.int .u32 n] 22 (0, 0)) := (Below.heap_setCell _ _ _ _ (by simp)).trans (box_set hI2.r1 _)
      have z2 : ((w2.setCell ⟨w.heap.size, 0, none⟩ (.int .u32 n)).setCell ⟨w.heap.size + 1, 0, none⟩ (.int .i64 0)).heap[w.heap.size + 1]? = some (.cells #[.int .i64 0] 38 (0, 0)) := box_set ((Below.heap_setCell _ _ _ _ (by simp)).trans hI2.r2) _
      have zK : ((w2.setCell ⟨w.heap.size, 0, none⟩ (.int .u32 n)).setCell ⟨w.heap.size + 1, 0, none⟩ (.int .i64 0)).heap[D]? = some (.deferred (some [])) := (Below.heap_setCell _ _ _ _ (by show D ≠ w.heap.size + 1; omega)).trans ((Below.heap_setCell _ _ _ _ (by show D ≠ w.heap.size; omega)).trans hK2)
      have zb : Below w.heap.size w ((w2.setCell ⟨w.heap.size, 0, none⟩ (.int .u32 n)).setCell ⟨w.heap.size + 1, 0, none⟩ (.int .i64 0)) := (hI2.below.setCell (p := ⟨w.heap.size, 0, none⟩) (Nat.le_refl _) _).setCell (p := ⟨w.heap.size + 1, 0, none⟩) (by show w.heap.size ≤ w.heap.size + 1; omega) _
      generalize ((w2.setCell ⟨w.heap.size, 0, none⟩ (.int .u32 n)).setCell ⟨w.heap.size + 1, 0, none⟩ (.int .i64 0)) = Z at z1 z2 zK zb ⊢
      have c1 : ∀ o, (Z.putObj D o).cell? ⟨w.heap.size, 0, none⟩ = some (.int .u32 n) := fun o => (World.cell?_of_block (w := Z) (World.putObj_heap_other (by show w.heap.size ≠ D; omega))).trans (box_cell z1).1
      have c2 : ∀ o, (Z.putObj D o).cell? ⟨w.heap.size + 1, 0, none⟩ = some (.int .i64 0) := fun o => (World.cell?_of_block (w := Z) (World.putObj_heap_other (by show w.heap.size + 1 ≠ D; omega))).trans (box_cell z2).1
      refine ⟨by simp, .inl ⟨_, _, rfl, run_takeDeferred zK, ?_⟩⟩
      exact ⟨.tuple #[.int .u32 n, .int .i64 0], by simp [results, Tryd.results25, go_sem, c1, c2], by rw [hps], zb.trans ⟨rfl, rfl, rfl, by simp, fun k hk => World.putObj_heap_other (by omega)⟩⟩
    · have hsn : (textL n == s) = false := by simpa using htx
      have hps := parse_none (s := s) (by
        rintro ⟨n', hn'⟩
        have := hmade.2 n' hn'
        obtain ⟨h1, h2⟩ := hn'
        rw [← h2, text_parts h1] at this
        simp at this
        have e : n = n' := by omega
        rw [e] at htx
        exact htx h2)
      gi_wp2
      have z1 : ((w2.setCell ⟨w.heap.size, 0, none⟩ (.int .u32 0)).setCell ⟨w.heap.size + 1, 0, none⟩ (.int .i64 10)).heap[w.heap.size]? = some (.cells #[.int .u32 0] 22 (0, 0)) := (Below.heap_setCell _ _ _ _ (by simp)).trans (box_set hI2.r1 _)
      have z2 : ((w2.setCell ⟨w.heap.size, 0, none⟩ (.int .u32 0)).setCell ⟨w.heap.size + 1, 0, none⟩ (.int .i64 10)).heap[w.heap.size + 1]? = some (.cells #[.int .i64 10] 38 (0, 0)) := box_set ((Below.heap_setCell _ _ _ _ (by simp)).trans hI2.r2) _
      have zK : ((w2.setCell ⟨w.heap.size, 0, none⟩ (.int .u32 0)).setCell ⟨w.heap.size + 1, 0, none⟩ (.int .i64 10)).heap[D]? = some (.deferred (some [])) := (Below.heap_setCell _ _ _ _ (by show D ≠ w.heap.size + 1; omega)).trans ((Below.heap_setCell _ _ _ _ (by show D ≠ w.heap.size; omega)).trans hK2)
      have zb : Below w.heap.size w ((w2.setCell ⟨w.heap.size, 0, none⟩ (.int .u32 0)).setCell ⟨w.heap.size + 1, 0, none⟩ (.int .i64 10)) := (hI2.below.setCell (p := ⟨w.heap.size, 0, none⟩) (Nat.le_refl _) _).setCell (p := ⟨w.heap.size + 1, 0, none⟩) (by show w.heap.size ≤ w.heap.size + 1; omega) _
      generalize ((w2.setCell ⟨w.heap.size, 0, none⟩ (.int .u32 0)).setCell ⟨w.heap.size + 1, 0, none⟩ (.int .i64 10)) = Z at z1 z2 zK zb ⊢
      have c1 : ∀ o, (Z.putObj D o).cell? ⟨w.heap.size, 0, none⟩ = some (.int .u32 0) := fun o => (World.cell?_of_block (w := Z) (World.putObj_heap_other (by show w.heap.size ≠ D; omega))).trans (box_cell z1).1
      have c2 : ∀ o, (Z.putObj D o).cell? ⟨w.heap.size + 1, 0, none⟩ = some (.int .i64 10) := fun o => (World.cell?_of_block (w := Z) (World.putObj_heap_other (by show w.heap.size + 1 ≠ D; omega))).trans (box_cell z2).1
      refine ⟨by simp, .inl ⟨_, _, rfl, run_takeDeferred zK, ?_⟩⟩
      exact ⟨.tuple #[.int .u32 0, .int .i64 10], by simp [results, Tryd.results25, go_sem, c1, c2], by rw [hps], zb.trans ⟨rfl, rfl, rfl, by simp, fun k hk => World.putObj_heap_other (by omega)⟩⟩
  case stop =>
    rintro D c pre W hD hpre ⟨rfl, hX⟩ hK
    have hps := parse_none hX.bad
    gi_wp2
    have z1 : W.heap[w.heap.size]? = some (.cells #[.int .u32 0] 22 (0, 0)) := hX.r1
    have z2 : W.heap[w.heap.size + 1]? = some (.cells #[.int .i64 10] 38 (0, 0)) := hX.r2
    have zK : W.heap[D]? = some (.deferred (some [])) := hK
    have zb : Below w.heap.size w W := hX.below
    generalize W = Z at z1 z2 zK zb ⊢
    have c1 : ∀ o, (Z.putObj D o).cell? ⟨w.heap.size, 0, none⟩ = some (.int .u32 0) := fun o => (World.cell?_of_block (w := Z) (World.putObj_heap_other (by show w.heap.size ≠ D; omega))).trans (box_cell z1).1
    have c2 : ∀ o, (Z.putObj D o).cell? ⟨w.heap.size + 1, 0, none⟩ = some (.int .i64 10) := fun o => (World.cell?_of_block (w := Z) (World.putObj_heap_other (by show w.heap.size + 1 ≠ D; omega))).trans (box_cell z2).1
    refine ⟨by simp, .inl ⟨_, _, rfl, run_takeDeferred zK, ?_⟩⟩
    exact ⟨.tuple #[.int .u32 0, .int .i64 10], by simp [results, Tryd.results25, go_sem, c1, c2], by rw [hps], zb.trans ⟨rfl, rfl, rfl, by simp, fun k hk => World.putObj_heap_other (by omega)⟩⟩
end Go.Proofs.YtemhahfodblehaaDoor
