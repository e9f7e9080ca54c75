/-
  Messages' sums by their parts; the contracts of Parse and Inner as the laws use them; what a law's walk knows of a message, a packet, with its fault.
-/
import Derived.Test.YtbefoapnlehdmaaDoorMAlive
namespace Go.Proofs.YtbefoapnlehdmaaDoor
open Go.RowKit
set_option linter.unusedVariables false

theorem S_pair (a b : Int) : S [a, b] = a * 256 + b := by
  simp [S, pairsV, plain, numP]
theorem S_hd (h : Ms) (s : Int) (ys : List Int) : S (mhP h s ++ ys) = S [h.ty, h.cd] + (s / 256 * 256 + s % 256) + S ([h.r0, h.r1, h.r2, h.r3] ++ ys) := by
  rw [show mhP h s ++ ys = [h.ty, h.cd] ++ ([s / 256, s % 256] ++ ([h.r0, h.r1, h.r2, h.r3] ++ ys)) from rfl, S_append _ _ (by simp), S_append _ _ (by simp), S_pair (s / 256)]
  omega
theorem S_ah (h : Ms) (ys : List Int) : S (ahL h ++ ys) = S [h.ty, h.cd] + S ([h.r0, h.r1, h.r2, h.r3] ++ ys) := by
  have := S_hd h 0 ys
  rw [show mhP h 0 = ahL h from rfl] at this
  omega
section
variable {h : Ms} {ys : List Int} (hk : h.ok) (hy : ∀ x ∈ ys, (Lit.int .u8 x).wf = true)
include hk hy
theorem parts_nn : 0 ≤ S [h.ty, h.cd] ∧ 0 ≤ S ([h.r0, h.r1, h.r2, h.r3] ++ ys) := by
  constructor
  · rw [S_pair]
    have := hk.ty; have := hk.cd
    omega
  · exact S_nn (byts_of (fun x q => (List.mem_append.1 q).elim (bytes_of4 hk.r0 hk.r1 hk.r2 hk.r3 x) (hy x)))
/-- What is written has its sum. -/
theorem mR_tot : totV (mR h ys) = 65535 := by
  have hw := mR_wf hk hy
  have ha : Byts (ahL h ++ ys) := byts_of (fun x q => (List.mem_append.1 q).elim (ahL_wf hk x) (hy x))
  have hs := mS_bd hk hy
  have hn := parts_nn hk hy
  have e0 : mS h ys = 65535 - totV (ahL h ++ ys) := rfl
  rw [totV_red ha, S_ah] at e0
  rw [totV_red (byts_of hw)]
  unfold mR
  rw [S_hd]
  have e1 := Int.mul_ediv_add_emod (mS h ys) 256
  generalize mS h ys = s at *
  generalize S [h.ty, h.cd] = a at *
  generalize S ([h.r0, h.r1, h.r2, h.r3] ++ ys) = b at *
  rw [show a + (s / 256 * 256 + s % 256) + b = (a + b) + s by omega]
  obtain ⟨t, ht⟩ : ∃ t, a + b = t := ⟨_, rfl⟩
  rw [ht] at e0 ⊢
  have ht0 : 0 ≤ t := by omega
  clear ht hn e1
  subst e0
  unfold red
  split <;> split <;> omega
end
theorem list_parts {xs : List Int} (h8 : 8 ≤ xs.length) : xs = [xs.getD 0 0, xs.getD 1 0, xs.getD 2 0, xs.getD 3 0] ++ ([xs.getD 4 0, xs.getD 5 0, xs.getD 6 0, xs.getD 7 0] ++ xs.drop 8) := by
  match xs, h8 with
  | a :: b :: c :: d :: e :: f :: g :: i :: R, _ => rfl
/-- A message's bytes are those that were parsed, or their sum's place has the other nought. -/
theorem back_parts {xs : List Int} (hx : ∀ x ∈ xs, (Lit.int .u8 x).wf = true) (h8 : 8 ≤ xs.length) (ht : totV xs = 65535) :
    mR (mOf xs) (xs.drop 8) = xs ∨ totV ((mR (mOf xs) (xs.drop 8)).take 2 ++ (mR (mOf xs) (xs.drop 8)).drop 4) = 0 ∨ totV ((mR (mOf xs) (xs.drop 8)).take 2 ++ (mR (mOf xs) (xs.drop 8)).drop 4) = 65535 := by
  have hd : ∀ x ∈ xs.drop 8, (Lit.int .u8 x).wf = true := fun x q => hx x (List.mem_of_mem_drop q)
  have hg : ∀ i, i < xs.length → 0 ≤ xs.getD i 0 ∧ xs.getD i 0 ≤ 255 := fun i hi => by
    have e : xs.getD i 0 = xs[i] := by simp [List.getD, List.getElem?_eq_getElem hi]
    rw [e]
    exact u8_bd (hx _ (List.getElem_mem _))
  have hk : (mOf xs).ok := ⟨hg 0 (by omega), hg 1 (by omega), hg 4 (by omega), hg 5 (by omega), hg 6 (by omega), hg 7 (by omega)⟩
  have hn := parts_nn hk hd
  have ha : Byts (ahL (mOf xs) ++ xs.drop 8) := byts_of (fun x q => (List.mem_append.1 q).elim (ahL_wf hk x) (hd x))
  have hw := mR_wf hk hd
  have e0 : mS (mOf xs) (xs.drop 8) = 65535 - totV (ahL (mOf xs) ++ xs.drop 8) := rfl
  have hsb := mS_bd hk hd
  have ep := list_parts h8
  have g2 := hg 2 (by omega)
  have g3 := hg 3 (by omega)
  have e1 : S xs = S [xs.getD 0 0, xs.getD 1 0] + (xs.getD 2 0 * 256 + xs.getD 3 0) + S ([xs.getD 4 0, xs.getD 5 0, xs.getD 6 0, xs.getD 7 0] ++ xs.drop 8) := by
    have := congrArg S ep
    rw [this]
    rw [show [xs.getD 0 0, xs.getD 1 0, xs.getD 2 0, xs.getD 3 0] ++ ([xs.getD 4 0, xs.getD 5 0, xs.getD 6 0, xs.getD 7 0] ++ xs.drop 8) = [xs.getD 0 0, xs.getD 1 0] ++ ([xs.getD 2 0, xs.getD 3 0] ++ ([xs.getD 4 0, xs.getD 5 0, xs.getD 6 0, xs.getD 7 0] ++ xs.drop 8)) from rfl, S_append _ _ (by simp), S_append _ _ (by simp), S_pair (xs.getD 2 0)]
    omega
  have eT : (mR (mOf xs) (xs.drop 8)).take 2 ++ (mR (mOf xs) (xs.drop 8)).drop 4 = [xs.getD 0 0, xs.getD 1 0] ++ ([xs.getD 4 0, xs.getD 5 0, xs.getD 6 0, xs.getD 7 0] ++ xs.drop 8) := rfl
  have hT : Byts ([xs.getD 0 0, xs.getD 1 0] ++ ([xs.getD 4 0, xs.getD 5 0, xs.getD 6 0, xs.getD 7 0] ++ xs.drop 8)) := by
    rw [← eT]
    exact byts_of (fun x q => (List.mem_append.1 q).elim (fun q => hw x (List.mem_of_mem_take q)) (fun q => hw x (List.mem_of_mem_drop q)))
  rw [eT, totV_red hT, S_append _ _ (by simp)]
  rw [totV_red ha, S_ah] at e0
  rw [totV_red (byts_of hx), e1] at ht
  have eS : mR (mOf xs) (xs.drop 8) = [xs.getD 0 0, xs.getD 1 0, mS (mOf xs) (xs.drop 8) / 256, mS (mOf xs) (xs.drop 8) % 256] ++ ([xs.getD 4 0, xs.getD 5 0, xs.getD 6 0, xs.getD 7 0] ++ xs.drop 8) := rfl
  have hn1 : 0 ≤ S [xs.getD 0 0, xs.getD 1 0] := hn.1
  have hn2 : 0 ≤ S ([xs.getD 4 0, xs.getD 5 0, xs.getD 6 0, xs.getD 7 0] ++ xs.drop 8) := hn.2
  rw [show S [(mOf xs).ty, (mOf xs).cd] = S [xs.getD 0 0, xs.getD 1 0] from rfl, show S ([(mOf xs).r0, (mOf xs).r1, (mOf xs).r2, (mOf xs).r3] ++ xs.drop 8) = S ([xs.getD 4 0, xs.getD 5 0, xs.getD 6 0, xs.getD 7 0] ++ xs.drop 8) from rfl] at e0
  generalize S [xs.getD 0 0, xs.getD 1 0] = a at *
  generalize S ([xs.getD 4 0, xs.getD 5 0, xs.getD 6 0, xs.getD 7 0] ++ xs.drop 8) = b at *
  have hs : mS (mOf xs) (xs.drop 8) = xs.getD 2 0 * 256 + xs.getD 3 0 ∨ red (a + b) = 0 ∨ red (a + b) = 65535 := by
    clear eS ep e1 eT hT ha hw hk hn
    generalize mS (mOf xs) (xs.drop 8) = s at *
    generalize xs.getD 2 0 = p at *
    generalize xs.getD 3 0 = q at *
    subst e0
    unfold red at *
    split at ht <;> split <;> omega
  rcases hs with hs | hs
  · left
    rw [eS, hs, show (xs.getD 2 0 * 256 + xs.getD 3 0) / 256 = xs.getD 2 0 by omega, show (xs.getD 2 0 * 256 + xs.getD 3 0) % 256 = xs.getD 3 0 by omega]
    exact ep.symm
  · exact .inr hs
theorem mR_mE {h : Ms} {ys : List Int} (hk : h.ok) (hy : ∀ x ∈ ys, (Lit.int .u8 x).wf = true) (hl : ys.length ≤ 1472) : mE (mR h ys) = (0, 0) := by
  have e := mR_len h ys
  have t := mR_tot hk hy
  rcases mE_cases (mR h ys) with ⟨h1, _⟩ | ⟨_, h2, _⟩ | ⟨_, _, h3, _⟩ | ⟨_, _, _, q⟩
  · omega
  · omega
  · exact absurd t h3
  · exact q
/-- Two slices of bytes in a row, just laid. -/
theorem rows_two {W : World} {A1 A2 : Option Addr} {n1 c1 n2 c2 : Nat} {xs ys : List Int} (h1 : Rd .u8 W W.heap.size A1 n1 c1 xs) (h2 : Rd .u8 W W.heap.size A2 n2 c2 ys) :
    Rows2 (W.alloc (.cells #[.slice A1 n1 c1, .slice A2 n2 c2] 22)) (fun _ => False) (W.alloc (.cells #[.slice A1 n1 c1, .slice A2 n2 c2] 22)).heap.size (W.alloc (.cells #[.slice A1 n1 c1, .slice A2 n2 c2] 22)).heap.size (some ⟨W.heap.size, 0, none⟩) 2 2 [xs, ys] := by
  have b := alloc_below W (.cells #[.slice A1 n1 c1, .slice A2 n2 c2] 22)
  have r1 := (h1.below b (Nat.le_refl _)).more b.size
  have r2 := (h2.below b (Nat.le_refl _)).more b.size
  have hc := heap_alloc_new W (.cells #[.slice A1 n1 c1, .slice A2 n2 c2] 22)
  have hs := blk_lt hc
  refine ⟨rfl, by omega, Nat.le_refl _, fun i hi => ?_⟩
  rcases (show i = 0 ∨ i = 1 by omega) with rfl | rfl
  · exact ⟨W.heap.size, 0, A1, n1, c1, rfl, ⟨hs, fun q => q⟩, blk_cell hc rfl, r1⟩
  · exact ⟨W.heap.size, 0, A2, n2, c2, rfl, ⟨hs, fun q => q⟩, blk_cell hc rfl, r2⟩
theorem total_two {W : World} {A1 A2 : Option Addr} {n1 c1 n2 c2 : Nat} {xs ys : List Int} (h1 : Rd .u8 W W.heap.size A1 n1 c1 xs) (h2 : Rd .u8 W W.heap.size A2 n2 c2 ys) :
    Calls Tryd.prog 17 #[.slice (some ⟨W.heap.size, 0, none⟩) 2 2] (W.alloc (.cells #[.slice A1 n1 c1, .slice A2 n2 c2] 22)) fun e w' => e = .returned (.int .u16 (totV (xs ++ ys))) ∧ Below W.heap.size W w' := by
  have := total_any _ 2 2 [xs, ys] _ (rows_two h1 h2)
  refine this.mono fun e w' ⟨h, hb⟩ => ⟨by simpa using h, (alloc_below W _).trans (hb.mono (alloc_below W _).size)⟩

section
variable {A : Option Addr} {n c m : Nat} {xs ys : List Int} {W : World} {r e : Int} {h : Ms} {q : Hd}
theorem mparse_no (hr : Rd .u8 W W.heap.size A n c xs) (hE : mE xs = (r, e)) (he : ¬ e = 0) : Calls Tryd.prog 10 #[.slice A n c] W fun ev w' => ev = .returned (.tuple #[zeroMV, errV r e]) ∧ Below W.heap.size W w' := by
  refine (mparse_any A n c xs W hr).mono ?_
  rintro ev w' ⟨hb, ⟨_, rfl⟩ | ⟨h1, _⟩⟩
  · rw [hE]
    exact ⟨rfl, hb⟩
  · rw [hE] at h1
    exact absurd h1 he
theorem mparse_yes (hr : Rd .u8 W W.heap.size A n c xs) (hE : (mE xs).2 = 0) (hh : mOf xs = h) (hy : xs.drop 8 = ys) (hm : n - 8 = m) :
    Calls Tryd.prog 10 #[.slice A n c] W fun ev w' => ∃ g, ev = .returned (.tuple #[msV h (some ⟨g, 0, none⟩) m m, .nilIface]) ∧ Row w' g ys ∧ W.heap.size ≤ g ∧ Below W.heap.size W w' := by
  refine (mparse_any A n c xs W hr).mono ?_
  rintro ev w' ⟨hb, ⟨h1, _⟩ | ⟨_, g, rfl, row, hg⟩⟩
  · exact absurd hE h1
  · rw [hh, hm]
    rw [hy] at row
    exact ⟨g, rfl, row, hg, hb⟩
theorem refMParse_no (hr : Rd .u8 W W.heap.size A n c xs) (hE : mE xs = (r, e)) (he : ¬ e = 0) : Calls Tryd.prog 11 #[.slice A n c] W (GivesMN W r e) := by
  rcases refMParse_all A n c xs W hr with ⟨_, q⟩ | ⟨q, _⟩
  · rw [hE] at q
    exact q
  · rw [hE] at q
    exact absurd q he
theorem refMParse_yes (hr : Rd .u8 W W.heap.size A n c xs) (hE : (mE xs).2 = 0) (hh : mOf xs = h) (hy : xs.drop 8 = ys) : Calls Tryd.prog 11 #[.slice A n c] W (GivesMY W h ys) := by
  rcases refMParse_all A n c xs W hr with ⟨q, _⟩ | ⟨_, q⟩
  · exact absurd hE q
  · rw [hh, hy] at q
    exact q
theorem inner_no (hr : Rd .u8 W W.heap.size A n c xs) (hE : iE h xs = (r, e)) (he : ¬ e = 0) : Calls Tryd.prog 26 #[msV h A n c] W fun ev w' => ev = .returned (.tuple #[zeroP, errV r e]) ∧ Below W.heap.size W w' := by
  refine (inner_any h A n c xs W hr).mono ?_
  rintro ev w' ⟨hb, ⟨_, rfl⟩ | ⟨h1, _⟩⟩
  · rw [hE]
    exact ⟨rfl, hb⟩
  · rw [hE] at h1
    exact absurd h1 he
theorem inner_yes (hr : Rd .u8 W W.heap.size A n c xs) (hE : (iE h xs).2 = 0) (hh : hdOf xs = q) (hy : bodyOf xs = ys) (hm : ys.length = m) :
    Calls Tryd.prog 26 #[msV h A n c] W fun ev w' => ∃ g, ev = .returned (.tuple #[pkV q (some ⟨g, 0, none⟩) m m, .nilIface]) ∧ Row w' g ys ∧ W.heap.size ≤ g ∧ Below W.heap.size W w' := by
  refine (inner_any h A n c xs W hr).mono ?_
  rintro ev w' ⟨hb, ⟨h1, _⟩ | ⟨_, g, k, rfl, row, hg, hl⟩⟩
  · exact absurd hE h1
  · rw [hy] at row hl
    obtain rfl : m = k := hm.symm.trans hl
    rw [hh]
    exact ⟨g, rfl, row, hg, hb⟩
theorem refInner_no (hr : Rd .u8 W W.heap.size A n c xs) (hE : iE h xs = (r, e)) (he : ¬ e = 0) : Calls Tryd.prog 27 #[msV h A n c] W (GivesN W r e) := by
  rcases refInner_all h A n c xs W hr with ⟨_, q⟩ | ⟨q, _⟩
  · rw [hE] at q
    exact q
  · rw [hE] at q
    exact absurd q he
theorem refInner_yes (hr : Rd .u8 W W.heap.size A n c xs) (hE : (iE h xs).2 = 0) (hh : hdOf xs = q) (hy : bodyOf xs = ys) : Calls Tryd.prog 27 #[msV h A n c] W (GivesY W q ys) := by
  rcases refInner_all h A n c xs W hr with ⟨q, _⟩ | ⟨_, q⟩
  · exact absurd hE q
  · rw [hh, hy] at q
    exact q
end
/-- A message of the program's: its block, its body. -/
structure Sp (g : Nat) (h : Ms) (B : Option Addr) (m : Nat) (ys : List Int) (W : World) : Prop where
  p : MsAt W g 27 h B m m
  r : Rd .u8 W W.heap.size B m m ys
/-- A message of the document's, with its fault. -/
structure Sq (g gf : Nat) (h : Ms) (D : Option Addr) (nd cd : Nat) (ys : List Int) (Af : Option Addr) (nf cf : Nat) (ef : Int) (rs : List Int) (W : World) : Prop where
  q : MsAt W g 32 h D nd cd
  r : Rd .u8 W W.heap.size D nd cd ys
  f : W.heap[gf]? = some (.cells (flC Af nf cf ef) 36 (0, 0))
  fr : Rd .i64 W W.heap.size Af nf cf rs
/-- A packet of the program's. -/
structure Pp (g : Nat) (h : Hd) (B : Option Addr) (m : Nat) (ys : List Int) (W : World) : Prop where
  p : PkAt W g 60 h B m m
  r : Rd .u8 W W.heap.size B m m ys
/-- A packet of the document's, with its fault. -/
structure Pq (g gf : Nat) (h : Hd) (D : Option Addr) (nd cd : Nat) (ys : List Int) (Af : Option Addr) (nf cf : Nat) (ef : Int) (rs : List Int) (W : World) : Prop where
  q : PkAt W g 63 h D nd cd
  r : Rd .u8 W W.heap.size D nd cd ys
  f : W.heap[gf]? = some (.cells (flC Af nf cf ef) 36 (0, 0))
  fr : Rd .i64 W W.heap.size Af nf cf rs
section
variable {w W V : World} {xs ys : List Int} {g gf : Nat} {h : Ms} {k : Hd} {B D Af : Option Addr} {m nd cd nf cf : Nat} {ef : Int} {rs : List Int}
theorem Sp.step (q : Sp g h B m ys W) (hb : Below W.heap.size W V) : Sp g h B m ys V := ⟨q.p.step hb, (q.r.below hb (Nat.le_refl _)).more hb.size⟩
theorem Sp.new (r : Rd .u8 W W.heap.size B m m ys) : Sp W.heap.size h B m ys (W.alloc (.cells (msC h B m m) 27)) := ⟨MsAt.new W 27 h B m m, (r.below (alloc_below _ _) (Nat.le_refl _)).more (alloc_below _ _).size⟩
theorem Sq.step (q : Sq g gf h D nd cd ys Af nf cf ef rs W) (hb : Below W.heap.size W V) : Sq g gf h D nd cd ys Af nf cf ef rs V := ⟨q.q.step hb, (q.r.below hb (Nat.le_refl _)).more hb.size, (hb.block _ (blk_lt q.f)).trans q.f, (q.fr.below hb (Nat.le_refl _)).more hb.size⟩
theorem Sq.new (r : Rd .u8 W W.heap.size D nd cd ys) (fr : Rd .i64 W W.heap.size Af nf cf rs) : Sq W.heap.size (W.heap.size + 1) h D nd cd ys Af nf cf ef rs ((W.alloc (.cells (msC h D nd cd) 32)).alloc (.cells (flC Af nf cf ef) 36)) := by
  have b1 := alloc_below W (.cells (msC h D nd cd) 32)
  have p1 := MsAt.new W 32 h D nd cd
  have s1 : (W.alloc (.cells (msC h D nd cd) 32)).heap.size = W.heap.size + 1 := by simp
  have r1 := (r.below b1 (Nat.le_refl _)).more b1.size
  have f1 := (fr.below b1 (Nat.le_refl _)).more b1.size
  generalize W.alloc (.cells (msC h D nd cd) 32) = W1 at *
  have b2 := alloc_below W1 (.cells (flC Af nf cf ef) 36)
  have y := heap_alloc_new W1 (.cells (flC Af nf cf ef) 36)
  rw [s1] at y
  exact ⟨p1.step b2, (r1.below b2 (Nat.le_refl _)).more b2.size, y, (f1.below b2 (Nat.le_refl _)).more b2.size⟩
theorem Sq.fault (q : Sq g gf h D nd cd ys Af nf cf ef rs W) : W.cell? ⟨gf, 0, none⟩ = some (.slice Af nf cf) ∧ W.cell? ⟨gf, 1, none⟩ = some (.int .i64 ef) := ⟨blk_cell q.f rfl, blk_cell q.f rfl⟩
theorem Pp.step (q : Pp g k B m ys W) (hb : Below W.heap.size W V) : Pp g k B m ys V := ⟨q.p.step hb, (q.r.below hb (Nat.le_refl _)).more hb.size⟩
theorem Pp.new (r : Rd .u8 W W.heap.size B m m ys) : Pp W.heap.size k B m ys (W.alloc (.cells (pkC k B m m) 60)) := ⟨PkAt.new W 60 k B m m, (r.below (alloc_below _ _) (Nat.le_refl _)).more (alloc_below _ _).size⟩
theorem Pq.step (q : Pq g gf k D nd cd ys Af nf cf ef rs W) (hb : Below W.heap.size W V) : Pq g gf k D nd cd ys Af nf cf ef rs V := ⟨q.q.step hb, (q.r.below hb (Nat.le_refl _)).more hb.size, (hb.block _ (blk_lt q.f)).trans q.f, (q.fr.below hb (Nat.le_refl _)).more hb.size⟩
theorem Pq.new (r : Rd .u8 W W.heap.size D nd cd ys) (fr : Rd .i64 W W.heap.size Af nf cf rs) : Pq W.heap.size (W.heap.size + 1) k D nd cd ys Af nf cf ef rs ((W.alloc (.cells (pkC k D nd cd) 63)).alloc (.cells (flC Af nf cf ef) 36)) := by
  have b1 := alloc_below W (.cells (pkC k D nd cd) 63)
  have p1 := PkAt.new W 63 k D nd cd
  have s1 : (W.alloc (.cells (pkC k D nd cd) 63)).heap.size = W.heap.size + 1 := by simp
  have r1 := (r.below b1 (Nat.le_refl _)).more b1.size
  have f1 := (fr.below b1 (Nat.le_refl _)).more b1.size
  generalize W.alloc (.cells (pkC k D nd cd) 63) = W1 at *
  have b2 := alloc_below W1 (.cells (flC Af nf cf ef) 36)
  have y := heap_alloc_new W1 (.cells (flC Af nf cf ef) 36)
  rw [s1] at y
  exact ⟨p1.step b2, (r1.below b2 (Nat.le_refl _)).more b2.size, y, (f1.below b2 (Nat.le_refl _)).more b2.size⟩
theorem Pq.fault (q : Pq g gf k D nd cd ys Af nf cf ef rs W) : W.cell? ⟨gf, 0, none⟩ = some (.slice Af nf cf) ∧ W.cell? ⟨gf, 1, none⟩ = some (.int .i64 ef) := ⟨blk_cell q.f rfl, blk_cell q.f rfl⟩
end
end Go.Proofs.YtbefoapnlehdmaaDoor
