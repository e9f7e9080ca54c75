/-
  The contract of the law's chain.
-/
import Derived.Test.YtmapfpjinfjojaaDoorRefF
import Derived.StillTailTactics
namespace Go.Proofs.YtmapfpjinfjojaaDoor
open Go.RowKit

/-- An error as it may be: none, or e wrapped by reasons. -/
def xV (e : Int) : Option (List Int) → Value
  | none => .nilIface
  | some rs => chainV e rs
def eV (e : Int) : Option (List Int) → Int
  | none => 0
  | some _ => e
def lV : Option (List Int) → List Int
  | none => []
  | some rs => rs
def oW (o : Option (List Int)) (r : Int) : Option (List Int) := o.map (wrapL · r)
theorem wrap_o (e r : Int) (o : Option (List Int)) (w : World) : Calls Tryd.prog 21 #[xV e o, .int .i64 r] w fun ev w' => ev = .returned (xV e (oW o r)) ∧ w = w' := by
  cases o with
  | none => exact wrap_nil r w
  | some rs => exact wrap_chain e r rs w
theorem lV_oW {e : Int} {o : Option (List Int)} (he : o = none ∨ ¬ e = 0) (r : Int) : (if eV e o = 0 then lV o else wrapL (lV o) r) = lV (oW o r) ∧ eV e o = eV e (oW o r) := by
  cases o with
  | none => exact ⟨rfl, rfl⟩
  | some rs => exact ⟨if_neg (he.resolve_left (fun h => by cases h)), rfl⟩
theorem refWrap_o (A : Option Addr) (n c : Nat) (o : Option (List Int)) (e r : Int) (w : World) (hr0 : Rd .i64 w w.heap.size A n c (lV o)) (hwf : (Lit.int .i64 r).wf = true) (hn : n ≤ 1000) (he : o = none ∨ ¬ e = 0) :
    Calls Tryd.prog 23 #[.agg #[.slice A n c, .int .i64 (eV e o)], .int .i64 r] w (GivesF w A (lV (oW o r)) (eV e (oW o r))) := by
  have h := refWrap_any A n c (lV o) (eV e o) r w hr0 hwf hn
  rw [(lV_oW he r).1] at h
  rw [← (lV_oW he r).2]
  exact h
theorem xV_one (e : Int) (o : Option (List Int)) : (xV e o).oneCell' = true := by
  cases o with
  | none => rfl
  | some rs => cases rs <;> rfl

/-- The error behind k of the numbers xs, begun by o. -/
def ch (o : Option (List Int)) (xs : List Int) (k : Nat) : Option (List Int) := (xs.take k).foldl oW o
theorem ch_zero (o : Option (List Int)) (xs : List Int) : ch o xs 0 = o := rfl
theorem ch_succ (o : Option (List Int)) (xs : List Int) (k : Nat) (hk : k < xs.length) : ch o xs (k + 1) = oW (ch o xs k) (xs.getD k 0) := by
  have e : xs.getD k 0 = xs[k] := by simp [List.getD, List.getElem?_eq_getElem hk]
  rw [e, ch, ch, List.take_succ_eq_append_getElem hk, List.foldl_append]
  rfl
theorem wrapL_len (rs : List Int) (r : Int) : (wrapL rs r).length ≤ rs.length + 1 := by unfold wrapL; split <;> simp
theorem ch_len (o : Option (List Int)) (xs : List Int) : ∀ k, k ≤ xs.length → (lV (ch o xs k)).length ≤ (lV o).length + k
  | 0, _ => by simp [ch_zero]
  | k + 1, h => by
    rw [ch_succ o xs k (by omega)]
    have := ch_len o xs k (by omega)
    cases hc : ch o xs k with
    | none => simp [oW, lV]
    | some rs =>
      rw [hc] at this
      have h2 := wrapL_len rs (xs.getD k 0)
      simp only [oW, lV, Option.map_some] at *
      omega

/-- What holds of the law's variables ahead of each round: f lies in block g, the result in block q. -/
structure RC (w : World) (q g : Nat) (e : Int) (o : Option (List Int)) (A : Option Addr) (n c : Nat) (wr : World) : Prop where
  f0 : wr.cell? ⟨g, 0, none⟩ = some (.slice A n c)
  f1 : wr.cell? ⟨g, 1, none⟩ = some (.int .i64 (eV e o))
  z0 : wr.frozen? ⟨g, 0, none⟩ = false
  z1 : wr.frozen? ⟨g, 1, none⟩ = false
  rd : Rd .i64 wr wr.heap.size A n c (lV o)
  far : A = none ∨ ∃ ad, A = some ad ∧ ad.block ≠ g ∧ ad.block ≠ q
  q0 : wr.cell? ⟨q, 0, none⟩ = some (.slice none 0 0)
  q1 : wr.cell? ⟨q, 1, none⟩ = some (.int .i64 0)
  y0 : wr.frozen? ⟨q, 0, none⟩ = false
  y1 : wr.frozen? ⟨q, 1, none⟩ = false
  ne : g ≠ q
  old : w.heap.size ≤ g ∧ w.heap.size ≤ q
  below : Below w.heap.size w wr
/-- A call of the document's Wrap, and its answer stored. -/
theorem RC.wrap {w : World} {q g : Nat} {e : Int} {o o' : Option (List Int)} {A A' : Option Addr} {n c n' c' : Nat} {wr w2 : World} (h : RC w q g e o A n c wr)
    (hr : Rd .i64 w2 w2.heap.size A' n' c' (lV o')) (hn : New wr w2 A A') (hb : Below wr.heap.size wr w2) :
    RC w q g e o' A' n' c' ((w2.setCell ⟨g, 0, none⟩ (.slice A' n' c')).setCell ⟨g, 1, none⟩ (.int .i64 (eV e o'))) := by
  have hg : g < wr.heap.size := cell_lt h.f0
  have hq : q < wr.heap.size := cell_lt h.q0
  have c0 : w2.cell? ⟨g, 0, none⟩ = some (.slice A n c) := (hb.cell hg).trans h.f0
  have c1 : w2.cell? ⟨g, 1, none⟩ = some (.int .i64 (eV e o)) := (hb.cell hg).trans h.f1
  have far : A' = none ∨ ∃ ad, A' = some ad ∧ ad.block ≠ g ∧ ad.block ≠ q := by
    rcases hn with rfl | rfl | ⟨ad, rfl, hl, _⟩
    · exact h.far
    · exact .inl rfl
    · exact .inr ⟨ad, rfl, by omega, by omega⟩
  have farg : A' = none ∨ ∃ ad, A' = some ad ∧ ad.block ≠ g := by
    rcases far with h1 | ⟨ad, h1, h2, _⟩
    · exact .inl h1
    · exact .inr ⟨ad, h1, h2⟩
  have qne : ∀ i j, (⟨g, i, none⟩ : Addr) ≠ ⟨q, j, none⟩ := fun i j e => h.ne (by injection e)
  refine ⟨?_, ?_, ?_, ?_, ?_, far, ?_, ?_, ?_, ?_, h.ne, h.old, ?_⟩
  · rw [World.cell?_setCell_other _ _ _ _ (by simp), World.cell?_setCell_same _ _ _ c0]
  · exact World.cell?_setCell_same _ _ _ (u := .int .i64 (eV e o)) (by rw [World.cell?_setCell_other _ _ _ _ (by simp)]; exact c1)
  · simp only [World.frozen?_setCell]; exact (hb.frozen hg).trans h.z0
  · simp only [World.frozen?_setCell]; exact (hb.frozen hg).trans h.z1
  · have := rd_setCell (o := 1) (u := .int .i64 (eV e o')) (rd_setCell (o := 0) (u := .slice A' n' c') hr farg) farg
    simpa using this
  · rw [World.cell?_setCell_other _ _ _ _ (qne _ _), World.cell?_setCell_other _ _ _ _ (qne _ _)]; exact (hb.cell hq).trans h.q0
  · rw [World.cell?_setCell_other _ _ _ _ (qne _ _), World.cell?_setCell_other _ _ _ _ (qne _ _)]; exact (hb.cell hq).trans h.q1
  · simp only [World.frozen?_setCell]; exact (hb.frozen hq).trans h.y0
  · simp only [World.frozen?_setCell]; exact (hb.frozen hq).trans h.y1
  · exact ((h.below.trans (hb.mono h.below.size)).setCell h.old.1 _).setCell h.old.1 _
/-- The answer is stored. -/
theorem RC.done {w : World} {q g : Nat} {e : Int} {o : Option (List Int)} {A : Option Addr} {n c : Nat} {wr : World} (h : RC w q g e o A n c wr) :
    Rd .i64 ((wr.setCell ⟨q, 0, none⟩ (.slice A n c)).setCell ⟨q, 1, none⟩ (.int .i64 (eV e o))) ((wr.setCell ⟨q, 0, none⟩ (.slice A n c)).setCell ⟨q, 1, none⟩ (.int .i64 (eV e o))).heap.size A n c (lV o) ∧
    Below w.heap.size w ((wr.setCell ⟨q, 0, none⟩ (.slice A n c)).setCell ⟨q, 1, none⟩ (.int .i64 (eV e o))) := by
  have farq : A = none ∨ ∃ ad, A = some ad ∧ ad.block ≠ q := by
    rcases h.far with h1 | ⟨ad, h1, _, h2⟩
    · exact .inl h1
    · exact .inr ⟨ad, h1, h2⟩
  refine ⟨?_, (h.below.setCell h.old.2 _).setCell h.old.2 _⟩
  have := rd_setCell (o := 1) (u := .int .i64 (eV e o)) (rd_setCell (o := 0) (u := .slice A n c) h.rd farq) farq
  simpa using this
theorem RC.drew {w : World} {q g : Nat} {e : Int} {o : Option (List Int)} {A : Option Addr} {n c : Nat} {wr : World} (h : RC w q g e o A n c wr) : RC w q g e o A n c wr.drew :=
  ⟨h.f0, h.f1, h.z0, h.z1, h.rd, h.far, h.q0, h.q1, h.y0, h.y1, h.ne, h.old, h.below.trans ⟨rfl, rfl, rfl, Nat.le_refl _, fun _ _ => rfl⟩⟩

/-- What chain answers. -/
def GivesC (w : World) (e : Int) (o : Option (List Int)) (ev : Ending) (w' : World) : Prop :=
  ∃ A n c, ev = .returned (.tuple #[xV e o, .agg #[.slice A n c, .int .i64 (eV e o)]]) ∧ Rd .i64 w' w'.heap.size A n c (lV o) ∧ Below w.heap.size w w'

set_option maxRecDepth 100000 in
set_option maxHeartbeats 2000000 in
theorem chain_bare (e : Int) (A : Option Addr) (n c : Nat) (xs : List Int) (w : World) (hr : Rd .i64 w w.heap.size A n c xs) (hn : n ≤ 50) (he : ¬ e = 0) :
    Calls Tryd.prog 8 #[.int .i64 e, .slice A n c, .bool true] w (GivesC w e (ch (some []) xs n)) := by
  have he' : (e == 0) = false := by simpa using he
  have hmax := hr.max
  have hcap := hr.cap
  have HL := Lib.hid hr.len
  have HE := Lib.hid he
  have hs : RC w w.heap.size (w.heap.size + 1) e (some []) none 0 0 ((w.alloc (.cells #[.slice none 0 0, .int .i64 0] 28)).alloc (.cells #[.slice none 0 0, .int .i64 e] 28)) :=
    ⟨by simp, by simp [eV], by simp, by simp, Rd.nil, .inl rfl, by simp, by simp, by simp, by simp, by omega, ⟨by omega, Nat.le_refl _⟩, (alloc_below w _).alloc (by simp) _⟩
  have HS := Lib.hid hs
  clear he hs
  go_enter Tryd.func8, Tryd.ntmps8
  go_wp2
  go_loopw [8, 10] (fun x i wr => ∃ k : Nat, k ≤ n ∧ i = .int .i64 k ∧ x = xV e (ch (some []) xs k) ∧ ∃ A' n' c', RC w w.heap.size (w.heap.size + 1) e (ch (some []) xs k) A' n' c' wr) (fun _ i _ => n - (intOf i).toNat)
  case atStart => exact ⟨0, Nat.zero_le _, rfl, rfl, _, _, _, HS.out⟩
  case round =>
    obtain ⟨k, hk, rfl, rfl, A', n', c', h⟩ := hrel
    clear HS
    have hx1 := xV_one e (ch (some []) xs k)
    by_cases hlt : k < n
    · obtain ⟨b, o, rfl, hbo, hc⟩ := (hr.below h.below (Nat.le_refl _)).at_ hlt
      have hwf := hr.wf hlt
      have Hch := Lib.hid (ch_succ (some []) xs k (by rw [HL.out]; exact hlt))
      have hn' : n' ≤ 1000 := by
        have h1 := h.rd.len
        have h2 := ch_len (some []) xs k (by rw [HL.out]; omega)
        simp [lV] at h2
        simp [lV] at h1
        omega
      generalize xs.getD k 0 = r at *
      have f0 := h.f0
      have f1 := h.f1
      have z0 := h.z0
      have z1 := h.z1
      go_wp2_with fail
      with_reducible refine (wrap_o e r _ _).mono ?_
      rintro ev w1 ⟨rfl, rfl⟩
      go_wp2_with fail
      go_still_tail 5, (by kernel_rfl)
      change wpList _ _ _ _ _ wr.drew
      have h' := h.drew
      clear f0 f1 z0 z1 hc h
      generalize wr.drew = w2 at h' ⊢
      go_wp2_with fail
      with_reducible refine (refWrap_o A' n' c' _ e r w2 h'.rd hwf hn' (.inr HE.out)).mono ?_
      rintro ev w3 ⟨A2, n2, c2, rfl, hr3, hnew, hb3⟩
      have hg : w.heap.size + 1 < w2.heap.size := cell_lt h'.f0
      have f0 := (hb3.cell (p := ⟨w.heap.size + 1, 0, none⟩) hg).trans h'.f0
      have f1 := (hb3.cell (p := ⟨w.heap.size + 1, 1, none⟩) hg).trans h'.f1
      have z0 := (hb3.frozen (p := ⟨w.heap.size + 1, 0, none⟩) hg).trans h'.z0
      have z1 := (hb3.frozen (p := ⟨w.heap.size + 1, 1, none⟩) hg).trans h'.z1
      have hR := h'.wrap hr3 hnew hb3
      clear h' hr3 hnew hb3
      go_wp2
      go_roundw
      case rel => exact ⟨k + 1, by omega, by go_num, by rw [Hch.out], A2, n2, c2, by rw [Hch.out]; exact hR⟩
      case measure => simp [intOf]; omega
    · obtain rfl : k = n := by omega
      have f0 := h.f0
      have f1 := h.f1
      have q0 := h.q0
      have q1 := h.q1
      have y0 := h.y0
      have y1 := h.y1
      go_wp2_with fail
      go_still_tail 3, (by kernel_rfl)
      change wpList _ _ _ _ _ wr.drew
      have h' := h.drew
      clear f0 f1 q0 q1 y0 y1 h
      generalize wr.drew = w2 at h' ⊢
      have q0 := h'.q0
      have q1 := h'.q1
      have y0 := h'.y0
      have y1 := h'.y1
      have hd := h'.done
      clear h'
      go_wp2
      exact bodyPost_ret (v := .tuple #[xV e (ch (some []) xs k), .agg #[.slice A' n' c', .int .i64 (eV e (ch (some []) xs k))]]) (by simp [results, Tryd.results8, go_sem, q0, q1]) rfl ⟨A', n', c', rfl, hd.1, hd.2⟩

/-- The error with which chain begins, where its first wrapping is a fault. -/
def o0 (e r : Int) : Option (List Int) := if e = 0 ∨ isR r = false then none else some [r]
theorem o0_cases (e r : Int) : o0 e r = none ∨ ¬ e = 0 := by
  by_cases he : e = 0
  · exact .inl (if_pos (.inl he))
  · exact .inr he
theorem fault_o (e r : Int) (w : World) : Calls Tryd.prog 22 #[.int .i64 r, .int .i64 e] w fun ev w' => ev = .returned (xV e (o0 e r)) ∧ w = w' := by
  by_cases h : e = 0 ∨ isR r = false
  · rw [show o0 e r = none from if_pos h]
    exact fault_no r e w h.symm
  · rw [show o0 e r = some [r] from if_neg h]
    exact fault_yes r e w (by simpa using fun h' => h (.inr h')) (fun h' => h (.inl h'))
theorem refNew_o (e r : Int) (w : World) (hwf : (Lit.int .i64 r).wf = true) : Calls Tryd.prog 24 #[.int .i64 r, .int .i64 e] w (GivesF w none (lV (o0 e r)) (eV e (o0 e r))) := by
  have h := refNew_any r e w hwf
  by_cases hc : e = 0 ∨ isR r = false
  · rw [if_pos hc, if_pos hc] at h
    rw [show o0 e r = none from if_pos hc]
    exact h
  · rw [if_neg hc, if_neg hc] at h
    rw [show o0 e r = some [r] from if_neg hc]
    exact h
theorem ch_none (xs : List Int) (k : Nat) : ch none xs k = none := by
  unfold ch
  induction xs.take k with
  | nil => rfl
  | cons x l ih => exact ih
theorem ch_tail (o : Option (List Int)) (xs : List Int) (k : Nat) (h1 : 1 ≤ k) (hk : k < xs.length) : ch o xs.tail (k + 1 - 1) = oW (ch o xs.tail (k - 1)) (xs.getD k 0) := by
  have := ch_succ o xs.tail (k - 1) (by simp; omega)
  rw [show k + 1 - 1 = k - 1 + 1 by omega, this]
  congr 1
  cases xs with
  | nil => simp at hk
  | cons x l =>
    rw [show k = k - 1 + 1 by omega]
    simp [List.getD]

theorem chain_zero (e : Int) (A : Option Addr) (n c : Nat) (w : World) (b : Bool) (h : b = true ∧ e = 0 ∨ b = false ∧ n = 0) :
    Calls Tryd.prog 8 #[.int .i64 e, .slice A n c, .bool b] w (GivesC w e none) := by
  rcases h with ⟨rfl, rfl⟩ | ⟨rfl, rfl⟩
  all_goals
    go_enter Tryd.func8, Tryd.ntmps8
    go_wp2
    exact bodyPost_ret (v := .tuple #[.nilIface, .agg #[.slice none 0 0, .int .i64 0]]) (by simp [results, Tryd.results8, go_sem]) rfl ⟨none, 0, 0, rfl, Rd.nil, alloc_below w _⟩

set_option maxRecDepth 100000 in
set_option maxHeartbeats 2000000 in
theorem chain_fault (e : Int) (A : Option Addr) (n c : Nat) (xs : List Int) (w : World) (hr : Rd .i64 w w.heap.size A n c xs) (hn : n ≤ 50) (h1 : 0 < n) :
    Calls Tryd.prog 8 #[.int .i64 e, .slice A n c, .bool false] w (GivesC w e (ch (o0 e (xs.getD 0 0)) xs.tail (n - 1))) := by
  have hmax := hr.max
  have hcap := hr.cap
  have HL := Lib.hid hr.len
  obtain ⟨b, o, hA, hbo, hc⟩ := hr.at_ h1
  subst hA
  simp only [Nat.add_zero] at hc
  have hn0 : ((n : Int) == 0) = false := by simp; omega
  have hwf0 := hr.wf h1
  have HT := fun k h1 hk => Lib.hid (ch_tail (o0 e (xs.getD 0 0)) xs k h1 hk)
  have HLn := fun k hk => Lib.hid (ch_len (o0 e (xs.getD 0 0)) xs.tail k hk)
  have HO := Lib.hid (o0_cases e (xs.getD 0 0))
  have HN := Lib.hid (ch_none xs.tail)
  generalize xs.getD 0 0 = r0 at *
  have hl0 : (lV (o0 e r0)).length ≤ 1 := by unfold o0; split <;> simp [lV]
  have CF := fun W => Lib.hid (fault_o e r0 W)
  have CN := fun W => Lib.hid (refNew_o e r0 W hwf0)
  generalize o0 e r0 = oo at *
  have hsz1 : (w.alloc (.cells #[.slice none 0 0, .int .i64 0] 28)).heap.size = w.heap.size + 1 := by simp
  have HSZ := Lib.hid hsz1; clear hsz1
  go_enter Tryd.func8, Tryd.ntmps8
  go_wp2_with fail
  refine (CF _).out.mono ?_
  rintro ev w1 ⟨rfl, rfl⟩
  go_wp2_with fail
  refine (CN _).out.mono ?_
  rintro ev w2 ⟨A', n', c', rfl, hrd, hnew, hb⟩
  clear CF CN
  have hz : w.heap.size < w2.heap.size := by have := hb.size; simp at this; omega
  have hs : RC w w.heap.size w2.heap.size e (ch oo xs.tail (1 - 1)) A' n' c' (w2.alloc (.cells #[.slice A' n' c', .int .i64 (eV e oo)] 28)) := by
    rw [show ch oo xs.tail (1 - 1) = oo from rfl]
    refine ⟨by simp, by simp, by simp, by simp, (hrd.below (alloc_below _ _) (Nat.le_refl _)).more (by simp), ?_, ?_, ?_, ?_, ?_, by omega, ⟨by omega, Nat.le_refl _⟩, ((alloc_below w _).trans (hb.mono (by simp))).alloc (by omega) _⟩
    · rcases hnew with h | h | ⟨ad, h, h2, h3⟩
      · exact .inl h
      · exact .inl h
      · rw [HSZ.out] at h2
        exact .inr ⟨ad, h, by omega, by omega⟩
    · rw [World.cell?_alloc_lt _ _ _ (by simpa using hz), hb.cell (by simp)]; simp
    · rw [World.cell?_alloc_lt _ _ _ (by simpa using hz), hb.cell (by simp)]; simp
    · rw [World.frozen?_alloc_old _ _ _ (by simp; omega), hb.frozen (by simp)]; simp
    · rw [World.frozen?_alloc_old _ _ _ (by simp; omega), hb.frozen (by simp)]; simp
  have HS := Lib.hid hs
  clear hs hrd hnew hb hc
  go_wp2
  go_loopw [11, 13] (fun x i wr => ∃ k : Nat, 1 ≤ k ∧ k ≤ n ∧ i = .int .i64 k ∧ x = xV e (ch oo xs.tail (k - 1)) ∧ ∃ A' n' c', RC w w.heap.size w2.heap.size e (ch oo xs.tail (k - 1)) A' n' c' wr) (fun _ i _ => n - (intOf i).toNat)
  case atStart => exact ⟨1, by omega, by omega, rfl, rfl, _, _, _, HS.out⟩
  case round =>
    clear HS
    obtain ⟨k, hk1, hk, rfl, rfl, A', n', c', h⟩ := hrel
    have hx1 := xV_one e (ch oo xs.tail (k - 1))
    by_cases hlt : k < n
    · obtain ⟨b', o', hA, hbo', hc⟩ := (hr.below h.below (Nat.le_refl _)).at_ hlt
      obtain ⟨rfl, rfl⟩ : b = b' ∧ o = o' := by simpa using hA
      have hwf := hr.wf hlt
      have Hch := HT k hk1 (by rw [HL.out]; exact hlt)
      have hn' : n' ≤ 1000 := by
        have e1 := h.rd.len
        have e2 := (HLn (k - 1) (by simp [HL.out]; omega)).out
        omega
      have HO' : Hid (ch oo xs.tail (k - 1) = none ∨ ¬ e = 0) := Lib.hid (HO.out.imp (fun h => by rw [h]; exact HN.out _) id)
      clear HT HLn HO HN hA
      generalize xs.getD k 0 = r at *
      have f0 := h.f0
      have f1 := h.f1
      have z0 := h.z0
      have z1 := h.z1
      go_wp2_with fail
      with_reducible refine (wrap_o e r _ _).mono ?_
      rintro ev w1 ⟨rfl, rfl⟩
      go_wp2_with fail
      go_still_tail 5, (by kernel_rfl)
      change wpList _ _ _ _ _ wr.drew
      have h' := h.drew
      clear f0 f1 z0 z1 hc h
      generalize wr.drew = w4 at h' ⊢
      go_wp2_with fail
      with_reducible refine (refWrap_o A' n' c' _ e r w4 h'.rd hwf hn' HO'.out).mono ?_
      rintro ev w3 ⟨A2, n2, c2, rfl, hr3, hnew, hb3⟩
      have hg : w2.heap.size < w4.heap.size := cell_lt h'.f0
      have f0 := (hb3.cell (p := ⟨w2.heap.size, 0, none⟩) hg).trans h'.f0
      have f1 := (hb3.cell (p := ⟨w2.heap.size, 1, none⟩) hg).trans h'.f1
      have z0 := (hb3.frozen (p := ⟨w2.heap.size, 0, none⟩) hg).trans h'.z0
      have z1 := (hb3.frozen (p := ⟨w2.heap.size, 1, none⟩) hg).trans h'.z1
      have hR := h'.wrap hr3 hnew hb3
      clear h' hr3 hnew hb3
      go_wp2
      go_roundw
      case rel => exact ⟨k + 1, by omega, by omega, by go_num, by rw [Hch.out], A2, n2, c2, by rw [Hch.out]; exact hR⟩
      case measure => simp [intOf]; omega
    · obtain rfl : k = n := by omega
      have f0 := h.f0
      have f1 := h.f1
      go_wp2_with fail
      go_still_tail 3, (by kernel_rfl)
      change wpList _ _ _ _ _ wr.drew
      have h' := h.drew
      clear f0 f1 h
      generalize wr.drew = w4 at h' ⊢
      have q0 := h'.q0
      have q1 := h'.q1
      have y0 := h'.y0
      have y1 := h'.y1
      have hd := h'.done
      clear h'
      go_wp2
      exact bodyPost_ret (v := .tuple #[xV e (ch oo xs.tail (k - 1)), .agg #[.slice A' n' c', .int .i64 (eV e (ch oo xs.tail (k - 1)))]]) (by simp [results, Tryd.results8, go_sem, q0, q1]) rfl ⟨A', n', c', rfl, hd.1, hd.2⟩
end Go.Proofs.YtmapfpjinfjojaaDoor
