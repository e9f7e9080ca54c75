/-
  The contract of Patch.
-/
import Derived.Test.YtibjhehaflgomaaTotal
namespace Go.Proofs.Ytibjhehaflgomaa
open Go.RowKit Go.Shelf
attribute [local go_sem] Oper.semAt_some

set_option maxRecDepth 100000 in
set_option maxHeartbeats 1000000 in
theorem patch_no (s : Int) (A A2 : Option Addr) (n c n2 c2 : Nat) (xs ys : List Int) (w : World) (hr : Rd .u8 w w.heap.size A n c xs) (hr2 : Rd .u8 w w.heap.size A2 n2 c2 ys) (h : ¬ (n = n2 ∧ n % 2 = 0)) :
    Calls Try.prog 11 #[.int .u16 s, .slice A n c, .slice A2 n2 c2] w fun e w' => e = .returned (.tuple #[.int .u16 0, .int .i64 11]) ∧ Below w.heap.size w w' := by
  have hmax := hr.max
  have hcap := hr.cap
  have hmax2 := hr2.max
  have hcap2 := hr2.cap
  refine (callsIn_wide (n := 0)).1 ?_
  refine callsIn_of_wp_marks Try.func11 rfl trivial ?_ rfl
  simp only [Try.ntmps11, List.size_toArray, List.length_cons, List.length_nil, Nat.reduceAdd, Nat.reduceSub, Array.replicate_succ, Array.replicate_zero, List.push_toArray, List.append_toArray, List.nil_append, List.cons_append]
  by_cases hn : n = n2
  · have hr : (n : Int).tmod 2 = 1 := by
      have : (n : Int).tmod 2 = ((n % 2 : Nat) : Int) := rfl
      omega
    gi_wp2
    exact ⟨_, results_tmp2 rfl _ _ _, rfl, ((Below.refl _ w).alloc (Nat.le_refl _) _).alloc (by simp) _⟩
  · have hn' : ¬ (n : Int) = (n2 : Int) := by omega
    gi_wp2
    exact ⟨_, results_tmp2 rfl _ _ _, rfl, ((Below.refl _ w).alloc (Nat.le_refl _) _).alloc (by simp) _⟩

/-- A slice of one slice of bytes. -/
theorem rows_one {V : World} {X : Nat → Prop} {B B1 g : Nat} {A : Option Addr} {n c : Nat} {xs : List Int} (hc : V.cell? ⟨g, 0, none⟩ = some (.slice A n c)) (hr : Rd .u8 V B A n c xs) (hg : g < B1) (hx : ¬ X g) : Rows2 V X B B1 (some ⟨g, 0, none⟩) 1 1 [xs] :=
  ⟨rfl, by omega, by omega, fun i hi => by
    obtain rfl : i = 0 := by omega
    exact ⟨g, 0, A, n, c, rfl, ⟨hg, hx⟩, hc, hr⟩⟩

/-- What the loop of Patch knows between two rounds. -/
structure PI (w : World) (V : World) (s : Int) (ys : List Int) (pre : List (Int × Int)) (W : World) : Prop where
  sum : W.heap[w.heap.size]? = some (.cells #[.int .u16 (turnF s (pre.zip (pairsV ys)))] 23 (0, 0))
  now : ∃ A' n' c', W.heap[w.heap.size + 1]? = some (.cells #[.slice A' n' c'] 24 (0, 0)) ∧ Rd .u8 W w.heap.size A' n' c' (ys.drop (2 * pre.length))
  below : Below w.heap.size w W
  size : V.heap.size ≤ W.heap.size

/-- What the last statement of a round reads, from world z0 on. -/
structure KF (z0 : World) (g h1 h2 : Nat) (ss x y u v : Int) (z : World) : Prop where
  sum : z.heap[g]? = some (.cells #[.int .u16 ss] 23 (0, 0))
  old : z.heap[h1]? = some (.cells #[.int .u8 x, .int .u8 y] 47 (0, 0))
  next : z.heap[h2]? = some (.cells #[.int .u8 u, .int .u8 v] 47 (0, 0))
  bel : Below z0.heap.size z0 z
theorem lt_of_heap {z : World} {k : Nat} {o : Obj} (h : z.heap[k]? = some o) : k < z.heap.size := (Array.getElem?_eq_some_iff.1 h).1
theorem KF.step {z0 : World} {g h1 h2 : Nat} {ss x y u v : Int} {z X z' : World} (h : KF z0 g h1 h2 ss x y u v z) (hb : Below X.heap.size X z') (hX : Below z.heap.size z X) : KF z0 g h1 h2 ss x y u v z' := by
  have hb' : Below z.heap.size z z' := hX.trans (hb.mono hX.size)
  exact ⟨(hb'.block _ (lt_of_heap h.sum)).trans h.sum, (hb'.block _ (lt_of_heap h.old)).trans h.old, (hb'.block _ (lt_of_heap h.next)).trans h.next, h.bel.trans (hb'.mono h.bel.size)⟩
theorem KF.parts {z0 : World} {g h1 h2 : Nat} {ss x y u v : Int} {z : World} (h : KF z0 g h1 h2 ss x y u v z) :
    (z.cell? ⟨g, 0, none⟩ = some (.int .u16 ss) ∧ z.frozen? ⟨g, 0, none⟩ = false) ∧ (z.cell? ⟨h1, 0, none⟩ = some (.int .u8 x) ∧ z.cell? ⟨h1, 1, none⟩ = some (.int .u8 y)) ∧ (z.cell? ⟨h2, 0, none⟩ = some (.int .u8 u) ∧ z.cell? ⟨h2, 1, none⟩ = some (.int .u8 v)) :=
  ⟨box_cell h.sum, ⟨(pair_cells h.old).1, (pair_cells h.old).2.1⟩, (pair_cells h.next).1, (pair_cells h.next).2.1⟩

theorem patch_end {w V U z F0 : World} {h1 h2 : Nat} {s ss x y u v : Int} {ys more : List Int} {pre : List (Int × Int)} {A3 : Option Addr} {n3 c3 : Nat} (k : KF z w.heap.size h1 h2 ss x y u v F0)
    (hz1 : z.heap[w.heap.size + 1]? = some (.cells #[.slice A3 n3 c3] 24 (0, 0))) (hz2 : Away (fun k => k = w.heap.size ∨ k = w.heap.size + 1) U z) (hbU : Below w.heap.size w U) (hVU : V.heap.size ≤ U.heap.size) (hs : w.heap.size + 2 ≤ U.heap.size) (hrd3 : Rd .u8 U w.heap.size A3 n3 c3 more)
    (HZ : Hid (turnF s ((pre ++ [(x, y)]).zip (pairsV ys)) = turnV ss (numP (x, y)) (numP (u, v)))) (HM : Hid (List.drop (2 * pre.length + 2) ys = more)) :
    Away (fun k => k = w.heap.size ∨ k = w.heap.size + 1) U (F0.setCell ⟨w.heap.size, 0, none⟩ (.int .u16 (turnV ss (numP (x, y)) (numP (u, v))))) ∧ PI w V s ys (pre ++ [(x, y)]) (F0.setCell ⟨w.heap.size, 0, none⟩ (.int .u16 (turnV ss (numP (x, y)) (numP (u, v))))) := by
  have hzs := hz2.size
  have a1 : Away (fun k => k = w.heap.size ∨ k = w.heap.size + 1) U (F0.setCell ⟨w.heap.size, 0, none⟩ (.int .u16 (turnV ss (numP (x, y)) (numP (u, v))))) :=
    (hz2.trans (Away.of_below k.bel (fun k h1 h2 => by omega))).trans ((Away.set _ _ _ _).mono (fun k hk => .inl hk))
  have hb : Below w.heap.size U (F0.setCell ⟨w.heap.size, 0, none⟩ (.int .u16 (turnV ss (numP (x, y)) (numP (u, v))))) := a1.below (by omega) (fun k hk => by omega)
  refine ⟨a1, ?_, ⟨A3, n3, c3, ?_, ?_⟩, hbU.trans hb, Nat.le_trans hVU a1.size⟩
  · rw [HZ.out]; exact box_set k.sum _
  · exact (Below.heap_setCell _ _ _ _ (by simp)).trans ((k.bel.block _ (by omega)).trans hz1)
  · have e : 2 * (pre ++ [(x, y)]).length = 2 * pre.length + 2 := by simp; omega
    rw [e, HM.out]
    exact hrd3.below hb (Nat.le_refl _)

set_option maxRecDepth 100000 in
set_option maxHeartbeats 4000000 in
theorem patch_ok (s : Int) (A A2 : Option Addr) (n c c2 : Nat) (xs ys : List Int) (w : World) (hs : W16 s) (hr : Rd .u8 w w.heap.size A n c xs) (hr2 : Rd .u8 w w.heap.size A2 n c2 ys) (h : n % 2 = 0) :
    Calls Try.prog 11 #[.int .u16 s, .slice A n c, .slice A2 n c2] w fun e w' => e = .returned (.tuple #[.int .u16 (patF s xs ys), .int .i64 0]) ∧ Below w.heap.size w w' := by
  have hmax := hr.max
  have hcap := hr.cap
  have hmax2 := hr2.max
  have hcap2 := hr2.cap
  have hm0 : (n : Int).tmod 2 = 0 := by
    have : (n : Int).tmod 2 = ((n % 2 : Nat) : Int) := rfl
    omega
  have hbx := byts_of hr.2.2.2.1
  have hby := byts_of hr2.2.2.2.1
  have HL := Lib.hid hr.len
  have HL2 := Lib.hid hr2.len
  refine (callsIn_wide (n := 0)).1 ?_
  refine callsIn_of_wp_marks Try.func11 rfl trivial ?_ rfl
  simp only [Try.ntmps11, List.size_toArray, List.length_cons, List.length_nil, Nat.reduceAdd, Nat.reduceSub, Array.replicate_succ, Array.replicate_zero, List.push_toArray, List.append_toArray, List.nil_append, List.cons_append]
  gi_wp2_with (refine ⟨trivial, rfl, ?_⟩; gi_at_call 24; refine (pairs_any _ _ _ _).mono ?_; rintro e w' ⟨rfl, rfl⟩)
  obtain ⟨V, hV⟩ : ∃ V, (((w.alloc (.cells #[.int .u16 s] 23)).alloc (.cells #[.slice A2 n c2] 24)).alloc (.cells #[.slice A n c] 24)).alloc (.cells #[.slice (some ⟨w.heap.size + 1 + 1, 0, none⟩) 1 1] 22) = V := ⟨_, rfl⟩
  have hsz : V.heap.size = w.heap.size + 4 := by rw [← hV]; simp
  have hbV : Below w.heap.size w V := by rw [← hV]; exact ((((Below.refl _ w).alloc (Nat.le_refl _) _).alloc (by simp) _).alloc (by simp <;> omega) _).alloc (by simp <;> omega) _
  have v0 : V.heap[w.heap.size]? = some (.cells #[.int .u16 s] 23 (0, 0)) := by
    rw [← hV]; exact (Below.heap_alloc _ _ _ (by simp <;> omega)).trans ((Below.heap_alloc _ _ _ (by simp <;> omega)).trans ((Below.heap_alloc _ _ _ (by simp)).trans (box_new w _ _)))
  have v1 : V.heap[w.heap.size + 1]? = some (.cells #[.slice A2 n c2] 24 (0, 0)) := by
    rw [← hV]
    have := box_new (w.alloc (.cells #[.int .u16 s] 23)) (.slice A2 n c2) 24
    rw [World.size_alloc] at this
    exact (Below.heap_alloc _ _ _ (by simp <;> omega)).trans ((Below.heap_alloc _ _ _ (by simp)).trans this)
  have v2 : V.heap[w.heap.size + 1 + 1]? = some (.cells #[.slice A n c] 24 (0, 0)) := by
    rw [← hV]
    have := box_new ((w.alloc (.cells #[.int .u16 s] 23)).alloc (.cells #[.slice A2 n c2] 24)) (.slice A n c) 24
    rw [World.size_alloc, World.size_alloc] at this
    exact (Below.heap_alloc _ _ _ (by simp)).trans this
  have v3 : V.heap[w.heap.size + 1 + 1 + 1]? = some (.cells #[.slice (some ⟨w.heap.size + 1 + 1, 0, none⟩) 1 1] 22 (0, 0)) := by
    rw [← hV]
    have := box_new (((w.alloc (.cells #[.int .u16 s] 23)).alloc (.cells #[.slice A2 n c2] 24)).alloc (.cells #[.slice A n c] 24)) (.slice (some ⟨w.heap.size + 1 + 1, 0, none⟩) 1 1) 22
    rw [World.size_alloc, World.size_alloc, World.size_alloc] at this
    exact this
  have hseq := pairs_seqs (w := V) (w.heap.size + 1 + 1 + 1) (fun k => k = w.heap.size ∨ k = w.heap.size + 1) w.heap.size _ 1 1 [xs] (by omega) (fun k hk => by omega) (by omega) (box_cell v3).1
    (rows_one (box_cell v2).1 (hr.below hbV (Nat.le_refl _)) (by omega) (by omega))
  simp only [hV]
  rw [List.flatten_cons, List.flatten_nil, List.append_nil] at hseq
  refine wpIn_seqs (gf := 26) rfl (enters_of Try.func26 (by kernel_rfl) rfl) hseq (fun k hk => by omega) (fun _ => rfl) (PI w V s ys)
    (fun pre A B h hb => by
      obtain ⟨A', n', c', h1, h2⟩ := h.now
      exact ⟨(hb.block _ (by omega)).trans h.sum, ⟨A', n', c', (hb.block _ (by omega)).trans h1, h2.below hb (by omega)⟩, h.below.trans (hb.mono (by omega)), Nat.le_trans h.size hb.size⟩)
    ⟨v0, ⟨A2, n, c2, v1, hr2.below hbV (Nat.le_refl _)⟩, hbV, Nat.le_refl _⟩ ?round ?done
  case round =>
    rintro l pre x W hl hlW hpre hI
    obtain ⟨x, y⟩ := x
    simp only [encP]
    gi_wp2
    refine ⟨(Away.refl _ W).trans (Away.of_below ((Below.refl _ W).alloc (Nat.le_refl _) _) (fun k h1 h2 => by omega)), fun o => ?_⟩
    have hlp : 2 * pre.length + 1 < n := by
      have h1 := hpre.length_le
      rw [pairsV_len, HL.out] at h1
      simp at h1
      omega
    have hxy : BP (x, y) := pairsV_bd _ hbx _ (hpre.subset (by simp))
    have hsum : W16 (turnF s (pre.zip (pairsV ys))) := turnF_bd _ _ hs fun p hp => ⟨pairsV_bd _ hbx _ (hpre.subset (by simp [(List.of_mem_zip hp).1])), pairsV_bd _ hby _ (List.of_mem_zip hp).2⟩
    have hzip := congrArg (turnF s) (zip_step pre (x, y) ys (by rw [HL2.out]; exact hlp))
    rw [turnF_snoc] at hzip
    have hdrop := drop_two ys (2 * pre.length) (by rw [HL2.out]; exact hlp)
    have hu : BP (ys.getD (2 * pre.length) 0, ys.getD (2 * pre.length + 1) 0) := ⟨u8_bd (hr2.wf (by omega)), u8_bd (hr2.wf (by omega))⟩
    obtain ⟨A', n', c', hnow, hrd⟩ := hI.now
    have hIs := hI.sum
    have hIb := hI.below
    have hIz := hI.size
    have hlen' := hrd.len
    rw [List.length_drop, HL2.out] at hlen'
    rw [hdrop] at hrd
    generalize ys.getD (2 * pre.length) 0 = u at *
    generalize ys.getD (2 * pre.length + 1) 0 = v at *
    obtain ⟨more, hmore⟩ : ∃ more, ys.drop (2 * pre.length + 2) = more := ⟨_, rfl⟩
    rw [hmore] at hrd
    generalize hss : turnF s (pre.zip (pairsV ys)) = ss at *
    have HZ := Lib.hid hzip
    have HM := Lib.hid hmore
    clear hzip hmore hdrop hI hss
    obtain ⟨U, hU⟩ : ∃ U, (W.alloc (.cells #[.int .u8 x, .int .u8 y] 47)).putObj l o = U := ⟨_, rfl⟩
    have hUs : U.heap.size = W.heap.size + 1 := by rw [← hU]; simp
    have u0 : U.heap[w.heap.size]? = some (.cells #[.int .u16 ss] 23 (0, 0)) := by
      rw [← hU]; exact (World.putObj_heap_other (by omega)).trans ((Below.heap_alloc _ _ _ (by omega)).trans hIs)
    have u1 : U.heap[w.heap.size + 1]? = some (.cells #[.slice A' n' c'] 24 (0, 0)) := by
      rw [← hU]; exact (World.putObj_heap_other (by omega)).trans ((Below.heap_alloc _ _ _ (by omega)).trans hnow)
    have u2 : U.heap[W.heap.size]? = some (.cells #[.int .u8 x, .int .u8 y] 47 (0, 0)) := by
      rw [← hU]; exact (World.putObj_heap_other (by omega)).trans (World.alloc_heap_new W _)
    have hbU : Below w.heap.size W U := by
      rw [← hU]; exact ((Below.refl _ W).alloc (by omega) _).trans ⟨rfl, rfl, rfl, by simp, fun k hk => World.putObj_heap_other (by omega)⟩
    rw [hU]
    clear hU hnow hIs
    have hrdU := hrd.below hbU (Nat.le_refl _)
    clear hrd
    -- the array 'next'
    obtain ⟨Z, hZ⟩ : ∃ Z, U.alloc (.cells #[.int .u8 0, .int .u8 0] 47) = Z := ⟨_, rfl⟩
    have hZs : Z.heap.size = U.heap.size + 1 := by rw [← hZ]; simp
    have hbZ : Below U.heap.size U Z := by rw [← hZ]; exact (Below.refl _ U).alloc (Nat.le_refl _) _
    have z3 : Z.heap[U.heap.size]? = some (.cells #[.int .u8 0, .int .u8 0] 47 (0, 0)) := by rw [← hZ]; exact World.alloc_heap_new U _
    obtain ⟨z1, z2⟩ := box_cell ((hbZ.block _ (by omega)).trans u1)
    rw [hUs] at z3
    have hcap' := hrdU.cap
    have hmax' := hrdU.max
    have hrdZ := hrdU.below hbZ (by omega)
    obtain ⟨ba, oa, rfl, hba, -⟩ := hrdU.at_ (i := 0) (by omega)
    have hsrc : ∀ j, j < 2 → Z.drew.cell? ⟨ba, oa + j, none⟩ = some (.int .u8 ([u, v].getD j 0)) := fun j hj => by
      have := rd_src hrdZ j (by omega)
      match j, hj with
      | 0, _ => exact this
      | 1, _ => exact this
    obtain ⟨w2, hrun, hp2, hb2⟩ := copy_run (w := Z.drew) (W.heap.size + 1) 0 2 2 ba oa n' c' [.int .u8 0, .int .u8 0] 47 z3 [u, v] 2 rfl (Nat.min_eq_right (by omega)).symm hsrc (by simp) [.int .u8 u, .int .u8 v] rfl
    have hb2' : Below U.heap.size U w2 := hbZ.trans ⟨hb2.os, hb2.tape, hb2.output, hb2.size, by rw [hUs]; exact hb2.block⟩
    obtain ⟨y1, y2⟩ := box_cell ((hb2'.block _ (by omega)).trans u1)
    have hmx : Try.prog.follows .mixedOrders = true := by kernel_rfl
    have f0 := (hb2'.block _ (by omega)).trans u0
    have f2 := (hb2'.block _ (by omega)).trans u2
    have k0 : ∀ t, KF (w2.setCell ⟨w.heap.size + 1, 0, none⟩ t) w.heap.size W.heap.size (W.heap.size + 1) ss x y u v (w2.setCell ⟨w.heap.size + 1, 0, none⟩ t) := fun t =>
      ⟨(Below.heap_setCell _ _ _ _ (by simp)).trans f0, (Below.heap_setCell _ _ _ _ (by simp; omega)).trans f2, (Below.heap_setCell _ _ _ _ (by simp; omega)).trans hp2, Below.refl _ _⟩
    have hcut := hrdU.cut (f := 2) (t := n') (by omega) (Nat.le_refl _)
    gi_wp2
    rename_i K hK
    have hlast : ∀ A3 n3 c3, Rd .u8 U w.heap.size A3 n3 c3 more → K { tmps := #[.int .u16 s, .slice A n c, .slice A2 n c2, .pointer (some ⟨w.heap.size, 0, none⟩), undef, .pointer (some ⟨w.heap.size + 1, 0, none⟩), .int .u16 0, .int .i64 0, .pointer (some ⟨W.heap.size, 0, none⟩), .pointer (some ⟨W.heap.size + 1, 0, none⟩), .slice A n c, .int .i64 n, .slice A2 n c2, .int .i64 n, .bool false, .bool false, .slice A n c, .int .i64 n, .int .i64 0, .bool false, .bool false, .slice A n c, .slice (some ⟨w.heap.size + 1 + 1, 0, none⟩) 1 1, .func (.func 26) #[] #[.pointer (some ⟨w.heap.size + 1 + 1 + 1, 0, none⟩)], .agg #[.int .u8 x, .int .u8 y], .slice (some ⟨ba, oa, none⟩) n' c', .slice (some ⟨W.heap.size + 1, 0, none⟩) 2 2, .slice (some ⟨ba, oa, none⟩) n' c', .int .i64 2, .slice A3 n3 c3, undef, undef, undef, undef, undef, undef, undef], defers := [] } (w2.setCell ⟨w.heap.size + 1, 0, none⟩ (.slice A3 n3 c3)) := by
      intro A3 n3 c3 hrd3
      have k := k0 (.slice A3 n3 c3)
      have hz1 : (w2.setCell ⟨w.heap.size + 1, 0, none⟩ (.slice A3 n3 c3)).heap[w.heap.size + 1]? = some (.cells #[.slice A3 n3 c3] 24 (0, 0)) := box_set ((hb2'.block _ (by omega)).trans u1) _
      have hz2 : Away (fun k => k = w.heap.size ∨ k = w.heap.size + 1) U (w2.setCell ⟨w.heap.size + 1, 0, none⟩ (.slice A3 n3 c3)) := (Away.of_below hb2' (fun k h1 h2 => by omega)).trans ((Away.set _ _ _ _).mono (fun k hk => .inr hk))
      generalize w2.setCell ⟨w.heap.size + 1, 0, none⟩ (.slice A3 n3 c3) = z at *
      obtain ⟨⟨q1, q2⟩, ⟨q3, q4⟩, q5, q6⟩ := k.parts
      apply hK
      clear hK k0 hrun hcut hsrc
      gi_region_with_o (first
        | (refine ⟨trivial, rfl, ?_⟩; gi_at_call 25; refine (CallsIn.inRound l (callsIn_wide.2 (number_two _ _ _ (by first | exact hxy | exact hu)))).mono ?_; rintro e w' ⟨rfl, hb⟩; replace k := k.step hb (by first | exact Below.refl _ _ | exact (Below.refl _ _).drew); obtain ⟨⟨q1', q2'⟩, ⟨q3', q4'⟩, q5', q6'⟩ := k.parts)
        | (refine ⟨trivial, rfl, ?_⟩; gi_at_call 15; refine (CallsIn.inRound l (callsIn_wide.2 (turn_any _ _ _ _ hsum (numP_bd hxy) (numP_bd hu)))).mono ?_; rintro e w' ⟨rfl, rfl⟩))
      all_goals gi_wp2
      all_goals exact patch_end k hz1 hz2 (hIb.trans hbU) (by omega) (by omega) hrd3 HZ HM
    have htake : (List.take (n' - 2) (List.drop 2 (u :: v :: more))) = more := by
      show List.take (n' - 2) more = more
      exact List.take_of_length_le (by have := hrdU.len; simp at this; omega)
    rw [htake] at hcut
    by_cases hc1 : c' = 2
    case' pos =>
      rw [if_pos hc1] at hcut
      obtain rfl : n' = 2 := by omega
      subst hc1
    case' neg => rw [if_neg hc1] at hcut
    all_goals gi_region
    all_goals exact hlast _ _ _ hcut
  case done =>
    rintro D W hD hI hK
    obtain ⟨hc, hf⟩ := box_cell hI.sum
    gi_wp2
    refine ⟨by simp, .inl ⟨_, _, rfl, run_takeDeferred hK, ?_⟩⟩
    exact ⟨_, results_tmp2 rfl _ _ _, rfl, hI.below.trans ⟨rfl, rfl, rfl, by simp, fun k hk => World.putObj_heap_other (by omega)⟩⟩
end Go.Proofs.Ytibjhehaflgomaa
