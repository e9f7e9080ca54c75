/-
  Contract of the document's Make.
-/
import Derived.Test.YtggnkmllbpgfoaaDoorRParse
import Derived.Laws.OwnMore
namespace Go.Proofs.YtggnkmllbpgfoaaDoor
open Go.RowKit
set_option linter.unusedVariables false

theorem Out.set {w : World} {base g n c : Nat} {xs : List Int} (h : Out .u8 5 w base (some ⟨g, 0, none⟩) n c xs) (j : Nat) (x : Int) (hx : (Lit.int .u8 x).wf = true) :
    Out .u8 5 (w.setCell ⟨g, j, none⟩ (.int .u8 x)) base (some ⟨g, 0, none⟩) n c (xs.set j x) := by
  obtain ⟨h1, h2⟩ := h.1.stored j (.int .u8 x)
  refine ⟨by rw [List.map_set]; exact h1, fun y hy => ?_⟩
  rcases List.mem_or_eq_of_mem_set hy with hy | rfl
  · exact h.2 y hy
  · exact hx
theorem raw_eq (h : Hd) (xs : List Int) : ((two2 h.src ++ two2 h.dst) ++ [0, 0, 0, 0, 0, 0, 0, 0, 80, h.flags, 0, 0, 0, 0, 0, 0]) ++ xs = hdM h 0 ++ xs := by simp [hdM, two2]
theorem raw_set (h : Hd) (s : Int) (xs : List Int) : ((hdM h 0 ++ xs).set 16 (s / 256)).set 17 (s % 256) = hdM h s ++ xs := by simp [hdM, two2]
set_option maxRecDepth 100000 in
set_option maxHeartbeats 4000000 in
theorem refMake_far (h : Hd) (A : Option Addr) (n c : Nat) (xs : List Int) (f t : Int) (w : World) (hr : Rd .u8 w w.heap.size A n c xs) (hn : 1460 < n) : Calls Tryd.prog 17 #[.int .u16 h.src, .int .u16 h.dst, .int .u8 h.flags, .slice A n c, .int .u32 f, .int .u32 t] w (GivesN w 1 11) := by
  have st := R0.start hr
  have n1 : (1460 : Int) < (n : Int) := by omega
  clear hr
  go_enter Tryd.func17, Tryd.ntmps17
  go_wp2_with fail
  refine (refNew_at 1 11 (by decide) (by decide) (by decide) _).mono ?_
  rintro ev w1 ⟨A1, n1, c1, rfl, rd1, new1, hb1⟩
  have hsz := st.sz
  have far : Far (w.heap.size + 2) A1 := by
    rcases new1 with h | h | ⟨ad, h, h1, _⟩
    · exact .inl h
    · exact .inl h
    · exact .inr ⟨ad, h, Nat.le_trans hsz h1⟩
  replace st := st.z.step hb1
  have fin : ∀ (w2 : World), w2.heap[w.heap.size]? = some (.cells (pkC zeroH none 0 0) 33 (0, 0)) → Below w.heap.size w1 w2 → (∀ j, j ≠ w.heap.size → w2.heap[j]? = w1.heap[j]?) → w2.heap.size = w1.heap.size → RZ w w2 ∧ Rd .i64 w2 w2.heap.size A1 n1 c1 [1] := fun w2 h1 h2 h3 h4 =>
    ⟨⟨h1, (h3 _ (by omega)).trans st.y, st.below.trans h2⟩, by rw [h4]; exact rd1.other h3 (far.imp id fun ⟨ad, h, h'⟩ => ⟨ad, h, by omega⟩)⟩
  have fin2 : ∀ (w2 w3 : World), RZ w w2 → Rd .i64 w2 w2.heap.size A1 n1 c1 [1] → w3.heap[w.heap.size + 1]? = some (.cells (flC A1 n1 c1 11) 37 (0, 0)) → Below (w.heap.size + 1) w2 w3 → (∀ j, j ≠ w.heap.size + 1 → w3.heap[j]? = w2.heap[j]?) → w3.heap.size = w2.heap.size → RE w 1 11 A1 n1 c1 w3 := fun w2 w3 z2 r2 h1 h2 h3 h4 =>
    ⟨z2.z.below h2 (by omega), h1, by rw [h4]; exact r2.other h3 (far.imp id fun ⟨ad, h, h'⟩ => ⟨ad, h, by omega⟩), z2.below.trans (h2.mono (by omega))⟩
  have z1 := st.z
  replace far : Far w.heap.size A1 := far.less (by omega)
  clear hb1 new1 rd1 st hsz
  go_wp2_with (first
    | (refine wpList_stF rfl rfl 33 _ _ rfl w.heap.size (pkC zeroH none 0 0) rfl rfl 33 _ z1 (by kernel_rfl) rfl (pkC_one ..) ?_; intro w2 f2 hb2 ho2 hs2; obtain ⟨z2, r2⟩ := fin w2 f2 hb2 ho2 hs2; clear fin f2 hb2 ho2 hs2; have y2 := z2.y)
    | (refine wpList_stF rfl rfl 37 _ _ rfl (w.heap.size + 1) (flC A1 n1 c1 11) rfl rfl 37 _ y2 (by kernel_rfl) rfl (flC_one _ _ _ _) ?_; intro w3 f3 hb3 ho3 hs3; have re := fin2 w2 w3 z2 r2 f3 hb3 ho3 hs3; clear fin2 f3 hb3 ho3 hs3 y2))
  obtain ⟨a0, a1, a2, a3⟩ := re.z.cells
  have b0 : w3.cell? ⟨w.heap.size + 1, 0, none⟩ = some (.slice A1 n1 c1) := blk_cell re.y rfl
  have b1 : w3.cell? ⟨w.heap.size + 1, 1, none⟩ = some (.int .i64 11) := blk_cell re.y rfl
  exact bodyPost_ret (v := .tuple #[zeroP, .agg #[.slice A1 n1 c1, .int .i64 11]]) (by simp [results, Tryd.results17, go_sem, b0, b1, a0, a1, a2, a3]) rfl ⟨re.below, A1, n1, c1, rfl, re.rd, far⟩

set_option maxRecDepth 100000 in
set_option maxHeartbeats 4000000 in
theorem refMake_sum (h : Hd) (A : Option Addr) (n c m : Nat) (xs : List Int) (f t : Int) (w : World) (hk : h.ok) (hr : Rd .u8 w w.heap.size A n c xs) (hn : n ≤ 1460) (hm : 20 + n = m) (hf : Ip f) (ht : Ip t) (s : Int) (hs : 65535 - totV (epR f t m ++ (hdM h 0 ++ xs)) = s) :
    Calls Tryd.prog 17 #[.int .u16 h.src, .int .u16 h.dst, .int .u8 h.flags, .slice A n c, .int .u32 f, .int .u32 t] w (GivesY w h (hdM h s ++ xs)) := by
  have st := R0.start hr
  have n1 : ¬ (1460 : Int) < (n : Int) := by omega
  have ks := hk.src
  have kd := hk.dst
  have m1 : m ≤ 1480 := by omega
  have m2 : 20 ≤ m := by omega
  have i16 : (16 : Int) < (m : Int) := by omega
  have i17 : (17 : Int) < (m : Int) := by omega
  have x1 : IntKind.i64.wrap h.src = h.src := by rw [IntKind.wrap_i64]; omega
  have x2 : IntKind.i64.wrap h.dst = h.dst := by rw [IntKind.wrap_i64]; omega
  have wf16 : ∀ x ∈ [0, 0, 0, 0, 0, 0, 0, 0, 80, h.flags, 0, 0, 0, 0, 0, 0], (Lit.int .u8 x).wf = true := fun x hx => hdM_wf (h := ⟨0, 0, h.flags⟩) (s := 0) ⟨show (0 : Int) ≤ 0 ∧ (0 : Int) ≤ 65535 by omega, show (0 : Int) ≤ 0 ∧ (0 : Int) ≤ 65535 by omega, hk.flags⟩ (by omega) x (by
    simp only [hdM, two2, List.cons_append, List.nil_append, List.mem_cons, List.not_mem_nil, or_false] at hx ⊢
    rcases hx with rfl | rfl | rfl | rfl | rfl | rfl | rfl | rfl | rfl | rfl | rfl | rfl | rfl | rfl | rfl | rfl <;> simp)
  have ca := fun W => ends_any f t m W hf ht (by omega)
  have EL : Hid ((epR f t m).length = 12) := Lib.hid rfl
  have HM := Lib.hid hm
  have HX := Lib.hid hr.len
  have sb : 0 ≤ s ∧ s ≤ 65535 := by
    have hb := totV_bd (byts_of (xs := epR f t m ++ (hdM h 0 ++ xs)) (fun x hx => (List.mem_append.1 hx).elim (epR_wf hf ht (n := m) (by omega) x) (fun q => (List.mem_append.1 q).elim (hdM_wf hk (by omega) x) (hr.2.2.2.1 x))))
    unfold W16 at hb
    omega
  have u1 : s.tdiv 256 = s / 256 := by rw [Int.tdiv_eq_ediv_of_nonneg (by omega)]
  have u2 : s.tmod 256 = s % 256 := by rw [Int.tmod_eq_emod_of_nonneg (by omega)]
  have v1 : IntKind.u16.wrap (s / 256) = s / 256 := by rw [IntKind.wrap_u16]; omega
  have v2 : IntKind.u8.wrap (s / 256) = s / 256 := by rw [IntKind.wrap_u8]; omega
  have v3 : IntKind.u16.wrap (s % 256) = s % 256 := by rw [IntKind.wrap_u16]; omega
  have v4 : IntKind.u8.wrap (s % 256) = s % 256 := by rw [IntKind.wrap_u8]; omega
  have f1 : (Lit.int .u8 (s / 256)).wf = true := u8_mk (by omega)
  have f2 : (Lit.int .u8 (s % 256)).wf = true := u8_mk (by omega)
  replace hs := Lib.hid hs
  clear hr hm hf ht hk
  generalize epR f t m = EE at *
  go_enter Tryd.func17, Tryd.ntmps17
  go_wp2_with fail
  refine (refTwo_any h.src _ ks).mono ?_
  rintro ev w1 ⟨g1, rfl, r1, hg1, hb⟩
  have o1 := r1.own (n := 2) (Nat.le_trans st.sz hg1) rfl (by omega) (two2_wf ks)
  replace st := st.step hb
  clear hb r1 hg1
  go_wp2_with fail
  refine (refTwo_any h.dst _ kd).mono ?_
  rintro ev w2 ⟨g2, rfl, r2, -, hb⟩
  have d2 := r2.rdW (n := 2) rfl (by omega) (two2_wf kd)
  replace o1 := o1.below hb (Nat.le_refl _)
  replace st := st.step hb
  clear hb r2
  go_wp2_with (first
    | (at_builtin; refine wpList_app rfl (.tmp 23) (.tmp 26) 22 rfl (w.heap.size + 2) Tryd.underlying22 info5 (by omega) (some ⟨g1, 0, none⟩) 2 2 _ rfl o1 (some ⟨g2, 0, none⟩) 2 2 _ _ rfl d2 (by omega) st.sz ?_; intro A3 n3 c3 w3 o3 hgr; replace st := st.low (Nat.le_refl _) (grown_low o1 hgr st.sz); obtain rfl : 4 = n3 := o3.len; clear o1 d2 hgr; have hb := alloc_below w3 (.cells #[.int .u8 0, .int .u8 0, .int .u8 0, .int .u8 0, .int .u8 0, .int .u8 0, .int .u8 0, .int .u8 0, .int .u8 80, .int .u8 h.flags, .int .u8 0, .int .u8 0, .int .u8 0, .int .u8 0, .int .u8 0, .int .u8 0] 5); have d4 := Row.rdW (n := 16) (show Row (w3.alloc (.cells #[.int .u8 0, .int .u8 0, .int .u8 0, .int .u8 0, .int .u8 0, .int .u8 0, .int .u8 0, .int .u8 0, .int .u8 80, .int .u8 h.flags, .int .u8 0, .int .u8 0, .int .u8 0, .int .u8 0, .int .u8 0, .int .u8 0] 5)) w3.heap.size [0, 0, 0, 0, 0, 0, 0, 0, 80, h.flags, 0, 0, 0, 0, 0, 0] from heap_alloc_new w3 _) rfl (by omega) wf16; have o4 := o3.below hb (Nat.le_refl _); have st4 := st.step hb; clear hb st)
    | (at_builtin; refine wpList_app rfl (.tmp 28) (.tmp 30) 22 rfl (w.heap.size + 2) Tryd.underlying22 info5 (by omega) A3 4 c3 _ rfl o4 (some ⟨w3.heap.size, 0, none⟩) 16 16 _ _ rfl d4 (by omega) st4.sz ?_; intro A5 n5 c5 w5 o5 hgr; have st := st4.low (Nat.le_refl _) (grown_low o4 hgr st4.sz); obtain rfl : 20 = n5 := o5.len; clear o4 d4 hgr o3 st4)
    | (at_builtin; refine wpList_app rfl (.tmp 32) (.tmp 33) 22 rfl (w.heap.size + 2) Tryd.underlying22 info5 (by omega) A5 20 c5 _ rfl o5 A n c _ _ rfl st.rd (by omega) st.sz ?_; intro A6 n6 c6 w6 o6 hgr; replace st := st.low (Nat.le_refl _) (grown_low o5 hgr st.sz); obtain rfl : m = n6 := (by have q := o6.len; rw [List.length_append, HX.out, ← HM.out] at *; rw [← q]; rfl); clear o5 hgr))
  rw [raw_eq] at o6
  refine (ca _).mono ?_
  rintro ev w7 ⟨A7, c7, rfl, o7, hb7⟩
  have rd7 := (o6.rd.below hb7 (Nat.le_refl _)).more hb7.size
  clear ca
  go_wp2_with (at_builtin; refine wpList_app rfl (.tmp 39) (.tmp 40) 22 rfl w6.heap.size Tryd.underlying22 info5 (by omega) A7 12 c7 _ rfl o7 A6 m c6 _ _ rfl rd7 (by omega) hb7.size ?_; intro A8 n8 c8 w8 o8 hgr; have hb8 := hb7.trans (grown_low o7 hgr hb7.size); have hn8 := o8.len; rw [List.length_append, EL.out, o6.len] at hn8; have rd8 := o8.rd; clear o7 hgr rd7 hb7 o8)
  have cs := refSumOf_any A8 n8 c8 _ _ w8 rd8 (by omega)
  rw [hs.out] at cs
  refine cs.mono ?_
  rintro ev w9 ⟨rfl, rfl⟩
  replace o6 := o6.below hb8 (Nat.le_refl _)
  replace st := st.step hb8
  clear hb8 rd8 hn8 cs hs
  rcases o6.form with ⟨_, q, _⟩ | ⟨g, cur, rfl, hg, -⟩
  · omega
  have c16 := o6.rd.cellAt (i := 16) (by omega)
  have c17 := o6.rd.cellAt (i := 17) (by omega)
  rw [Nat.zero_add] at c16 c17
  have z16 := o6.1.frozenAt 16
  have z17 := o6.1.frozenAt 17
  have oS := (o6.set 16 (s / 256) f1).set 17 (s % 256) f2
  rw [raw_set] at oS
  have stS := (st.low (Nat.le_refl _) ((Only.setCell g 16 w8 (.int .u8 (s / 256))).below.mono hg)).low (Nat.le_refl _) ((Only.setCell g 17 _ (.int .u8 (s % 256))).below.mono hg)
  have i16' : 16 < m := by omega
  have i17' : 17 < m := by omega
  have b1 := stS.z.below
  clear o6 st
  go_wp2_with (first
    | (refine wpList_stF rfl rfl 33 _ _ rfl w.heap.size (pkC h (some ⟨g, 0, none⟩) m c6) rfl rfl 33 _ stS.z.z (by kernel_rfl) rfl (pkC_one ..) ?_; intro wA fA hbA hoA hsA; have yA := (hoA (w.heap.size + 1) (by omega)).trans stS.z.y; have bA := b1.trans hbA; have oA := oS.other (fun j hj => hoA j (by omega)); clear stS hbA hoA hsA oS b1)
    | (refine wpList_stF rfl rfl 37 _ _ rfl (w.heap.size + 1) (flC none 0 0 0) rfl rfl 37 _ yA (by kernel_rfl) rfl (flC_one _ _ _ _) ?_; intro wB fB hbB hoB hsB; have zB : PkAt wB w.heap.size 33 h (some ⟨g, 0, none⟩) m c6 := (hoB w.heap.size (by omega)).trans fA; have bB := bA.trans (hbB.mono (by omega)); have oB := oA.other (fun j hj => hoB j (by omega)); clear hbB hoB hsB bA yA oA fA))
  obtain ⟨a0, a1, a2, a3⟩ := zB.cells
  have b0 : wB.cell? ⟨w.heap.size + 1, 0, none⟩ = some (.slice none 0 0) := blk_cell fB rfl
  have b1 : wB.cell? ⟨w.heap.size + 1, 1, none⟩ = some (.int .i64 0) := blk_cell fB rfl
  exact bodyPost_ret (v := .tuple #[pkV h (some ⟨g, 0, none⟩) m c6, .agg #[.slice none 0 0, .int .i64 0]]) (by simp [results, Tryd.results17, go_sem, b0, b1, a0, a1, a2, a3]) rfl ⟨bB, _, _, _, rfl, oB.rebase (by omega)⟩
theorem refMake_ok (h : Hd) (A : Option Addr) (n c : Nat) (xs : List Int) (f t : Int) (w : World) (hk : h.ok) (hr : Rd .u8 w w.heap.size A n c xs) (hf : Ip f) (ht : Ip t) (hn : n ≤ 1460) :
    Calls Tryd.prog 17 #[.int .u16 h.src, .int .u16 h.dst, .int .u8 h.flags, .slice A n c, .int .u32 f, .int .u32 t] w (GivesY w h (mkR h f t xs)) := by
  have hl := hr.len
  have e : (20 : Int) + (xs.length : Int) = ((20 + n : Nat) : Int) := by omega
  unfold mkR sumM
  rw [e]
  exact refMake_sum h A n c (20 + n) xs f t w hk hr hn rfl hf ht _ rfl
end Go.Proofs.YtggnkmllbpgfoaaDoor
