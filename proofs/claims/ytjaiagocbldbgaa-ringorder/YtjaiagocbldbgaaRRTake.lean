/-
  The contract of the document's ring's Take.
-/
import Derived.Test.YtjaiagocbldbgaaRRPut
namespace Go.Proofs.Ytjaiagocbldbgaa
open Go.RowKit
set_option linter.unusedVariables false

theorem rput_any (q p b z : Nat) (o : Int) (R : List Nat) (d : Nat) (A : Option Addr) (m cA B : Nat) (xs : List Int) (g cp : Nat) (L : Slots) (F : Nat → Prop) (w : World) (h : RrAt w q p b z o R d) (hd : d ≤ 100000)
    (hr : Rd .u8 w B A m cA xs) (hB : B ≤ w.heap.size) (hF : ∀ b, w.heap.size ≤ b → F b) (hp : Rp w p g cp L F) (hL : 0 < L.length) :
    Calls Try.prog 34 #[ptr q, .slice A m cA] w (GivesRL w q p b g cp z o (ptL L R z o xs) (ptR L R z o m) (drp (ptE L R z o m) d) F (ptE L R z o m)) := by
  obtain ⟨A0, n, c, h⟩ := h
  by_cases hf : R.length < z
  · by_cases hE : ptE L R z o m = 0
    · exact rputX_yes q p b A0 n c z o R d A m cA B xs g cp L F w h hd hr hB hF hp hL hf hE
    · exact rputX_no q p b A0 n c z o R d A m cA B xs g cp L F w h hd hr hB hF hp hL hf hE
  · exact rputX_full q p b A0 n c z o R d A m cA B xs g cp L F w h hd hr hB hF hp hL hf
theorem rmove_any (q p b z : Nat) (o : Int) (R : List Nat) (d : Nat) (bu fr : Int) (g cp : Nat) (L : Slots) (F : Nat → Prop) (w : World) (h : RrAt w q p b z o R d) (hd : d ≤ 100000) (hp : Rp w p g cp L F) (hL : 0 < L.length) :
    Calls Try.prog 36 #[ptr q, .int .i64 bu, .int .i64 fr] w (GivesRL w q p b g cp z o (mvL L R z o bu fr) (mvR L R z o bu fr) (drp (mvE L R z o bu fr) d) F (mvE L R z o bu fr)) := by
  obtain ⟨A0, n, c, h⟩ := h
  by_cases hf : R.length < z
  · by_cases hE : mvE L R z o bu fr = 0
    · exact rmvX_yes q p b A0 n c z o R d bu fr g cp L F w h hd hp hL hf hE
    · exact rmvX_no q p b A0 n c z o R d bu fr g cp L F w h hd hp hL hf hE
  · exact rmvX_full q p b A0 n c z o R d bu fr g cp L F w h hd hp hL hf

/-- What the document's Take gives, where there is a first one. -/
def GivesRK (w : World) (q p b g cp z : Nat) (o : Int) (x : Nat) (T : List Nat) (d : Nat) (L : Slots) (F : Nat → Prop) : Ending → World → Prop := fun e w' =>
  ∃ A m c, e = .returned (.tuple #[.slice A m c, .bool true]) ∧ Out .u8 5 w' w.heap.size A m c (byt L x) ∧ Rp w' p g cp (frL L (x : Int) o) F ∧ RrAt w' q p b z o T d ∧ Kept (fun k => k = g ∨ k = q ∨ IntB w b k) w w'
theorem rtake0_any (q p b z : Nat) (o : Int) (d : Nat) (w : World) (h : RrAt w q p b z o [] d) :
    Calls Try.prog 37 #[ptr q] w fun e w' => e = .returned (.tuple #[.slice none 0 0, .bool false]) ∧ w = w' := by
  obtain ⟨A, n, c, h⟩ := h
  obtain rfl : 0 = n := h.len
  obtain ⟨c0, c1, c2, c3, c4, ff, lt1⟩ := h.cells
  clear h
  go_enter Try.func37, Try.ntmps37
  go_wp2
  go_ret2
  exact ⟨rfl, rfl⟩
theorem GivesRK.of {w w1 w2 : World} {q p b n c z g cp : Nat} {A0 A A' : Option Addr} {o : Int} {x : Nat} {T : List Nat} {d : Nat} {L : Slots} {F : Nat → Prop} {m cc n' c' : Nat} (h : RrRow w q p b A0 n c z o (x :: T) d) (hp : Rp w p g cp L F) (hL : 0 < L.length)
    (hp1 : Rp w1 p g cp (frL L (x : Int) o) F) (hk : Kept (· = g) w w1) (ho : Out .u8 5 w1 w.heap.size A m cc (byt L x)) (hb : Below w1.heap.size w1 w2) (hT : Out .i64 3 w2 b A' n' c' (ints T)) :
    GivesRK w q p b g cp z o x T d L F (.returned (.tuple #[.slice A m cc, .bool true])) (w2.setCell ⟨q, 3, none⟩ (.slice A' n' c')) := by
  obtain ⟨hq, hg⟩ := h.qg hp hL
  have h1 := h.kept hk hq (fun k e => by rw [e]; exact hg)
  obtain ⟨h3, k3⟩ := h1.row (Kept.of_below hb) hT (by have := h.le; simp at this; omega)
  refine ⟨A, m, cc, rfl, ho.kept k3 (fun ad e => ?_), hp1.rref (by rw [frL_len]; exact hL) (by decide) (by decide) h1.blk k3, ⟨_, _, _, h3⟩, ?_⟩
  · obtain ⟨_, cur, hc⟩ := ho.block ad e
    rintro (e' | ⟨_, cur', hc'⟩)
    · exact blk_ne hc h1.blk (by decide) e'
    · exact blk_ne hc hc' (by decide) rfl
  refine ⟨k3.os.trans hk.os, k3.tape.trans hk.tape, k3.output.trans hk.output, Nat.le_trans hk.size k3.size, fun k hlt hS => ?_⟩
  have hkg : ¬ k = g := fun e => hS (.inl e)
  refine (k3.block k (Nat.lt_of_lt_of_le hlt hk.size) ?_).trans (hk.block k hlt hkg)
  rintro (e | e)
  · exact hS (.inr (.inl e))
  · exact hS (.inr (.inr (e.back hk hlt hkg)))
set_option maxRecDepth 100000 in
set_option maxHeartbeats 2000000 in
theorem rtake_one (q p b : Nat) (A0 : Option Addr) (n c z : Nat) (o : Int) (x : Nat) (T : List Nat) (d g cp : Nat) (L : Slots) (F : Nat → Prop) (w : World) (h : RrRow w q p b A0 n c z o (x :: T) d) (hp : Rp w p g cp L F) (hx : x < L.length) (hc1 : c = 1) :
    Calls Try.prog 37 #[ptr q] w (GivesRK w q p b g cp z o x T d L F) := by
  have hL : 0 < L.length := by omega
  have hn : T.length + 1 = n := by have := h.len; simpa using this
  have hn256 : n ≤ 256 := by have := h.le; have := h.size; have := h.len; omega
  have hnc := h.out.cap
  have hle := h.lt.2
  have G := Lib.hid (fun w1 w2 A A' m cc n' c' a b' c1 d' e' => GivesRK.of (w1 := w1) (w2 := w2) (A := A) (A' := A') (m := m) (cc := cc) (n' := n') (c' := c') h hp hL a b' c1 d' e')
  obtain ⟨hqg, hsg⟩ := h.qg hp hL
  have hcc := h.cells
  obtain ⟨b0, o0, hA, hb0, hcx⟩ := h.out.rd.at_ (show 0 < n by omega)
  have hox := h.out
  subst hA
  rw [show (ints (x :: T)).getD 0 0 = (x : Int) from rfl, Nat.add_zero] at hcx
  obtain ⟨A1, m1, c1b, hc1x, o1, -⟩ := hp.cell1 hx
  have hg0 := hp.cells
  obtain ⟨N, Gp, hN, hNl, hcp, hGp⟩ := hg0
  obtain rfl := hGp (by omega)
  have hxN : x < N := by omega
  have hlb : m1 ≤ 1514 := by rw [← o1.len]; exact (hp.good.2 x).2.2
  have HN := Lib.hid hN
  have ba := alloc_below w (.cells #[] 5)
  have o00 := Out.lit0 .u8 5 w w.heap.size (Nat.le_refl _)
  have r1 : Rd .u8 (w.alloc (.cells #[] 5)) w.heap.size A1 m1 c1b (byt L x) := o1.rd.below ba (Nat.le_refl _)
  have Fr := Lib.hid (fun W q => refFree_any p g cp L F (x : Int) o W q)
  have hp' := hp.below ba
  have hc' := hcc.below ba
  have b0lt := World.block_lt_of_cell? _ _ hcx
  have hglt := hp.lt
  have hrA := h.out.rd
  have HR := Lib.hid h
  obtain ⟨c0, c1, c2, c3, c4, ff, lt1⟩ := hcc
  have hn0 : ¬ (n : Int) = 0 := by omega
  have hn1 : (0 : Int) < (n : Int) := by omega
  have hxi : (x : Int) < (N : Int) := by omega
  have HP := Lib.hid hp
  clear h hp hx hL hN hox o1
  go_enter Try.func37, Try.ntmps37
  go_wp2_with (first
    | (at_builtin; refine wpList_app rfl (.tmp 18) (.tmp 29) 23 rfl w.heap.size Try.underlying23 info5 (by omega) (some ⟨w.heap.size, 0, none⟩) 0 0 [] rfl o00 A1 m1 c1b w.heap.size _ rfl r1 (by omega) (by simp) ?_))
  intro A2 m2 cc2 w2 o2 hg2
  have b2 : Below w.heap.size w w2 := ba.grown hg2 (by simp) (fun k hk => by simp [Value.ownBlock] at hk; omega)
  have hp2 := HP.out.below b2
  have hc2 := HR.out.cells.below b2
  have hr2 := HR.out.below b2
  clear o00 r1 ba hg2 hp' hc' c0 c1 c2 c3 c4 ff hcx hc1x hcp
  go_wp2
  refine wp_region_held_drew (S := fun w' => RrCells w' q p (some ⟨b0, o0, none⟩) n c z o d) (by kernel_rfl) (hc2.below (below_drew _)) (fun hHeld => ?_)
  replace hp2 := hp2.below (below_drew w2)
  replace o2 := o2.below (below_drew w2) (Nat.le_refl _)
  replace hr2 := hr2.below (below_drew w2)
  replace b2 := b2.trans ((below_drew w2).mono b2.size)
  clear hc2
  change wpAnyH _ _ _ _ _ _ _ _ (World.drew _)
  generalize World.drew w2 = W3 at *
  refine wpAnyH_at (i := 0) (some 31) (v := ?v0z1) rfl rfl (by kernel_rfl) (by kernel_rfl) (by kernel_rfl) (fun _ _ _ h => h) (Or.inl ⟨by rfl, ?y0z1⟩) (by assumption) ?r0z1
  case y0z1 =>
    intro w9 hSw
    obtain ⟨c0, c1, c2, c3, c4, ff, lt1⟩ := hSw
    go_simp
    all_goals with_reducible rfl
  simp only [Act.put, List.setIfInBounds_toArray, List.set_cons_zero, List.set_cons_succ]
  refine wpAnyH_at (i := 1) (some 32) (v := ?v1z2) rfl rfl (by kernel_rfl) (by kernel_rfl) (by kernel_rfl) (fun _ _ _ h => h) (Or.inl ⟨by rfl, ?y1z2⟩) (by assumption) ?r1z2
  case y1z2 =>
    intro w9 hSw
    obtain ⟨c0, c1, c2, c3, c4, ff, lt1⟩ := hSw
    go_simp
    all_goals with_reducible rfl
  simp only [Act.put, List.setIfInBounds_toArray, List.set_cons_zero, List.set_cons_succ]
  refine wpAnyH_at (i := 2) (some 33) (v := ?v2z3) rfl rfl (by kernel_rfl) (by kernel_rfl) (by kernel_rfl) (fun _ _ _ h => h) (Or.inl ⟨by rfl, ?y2z3⟩) (by assumption) ?r2z3
  case y2z3 =>
    intro w9 hSw
    obtain ⟨c0, c1, c2, c3, c4, ff, lt1⟩ := hSw
    go_simp
    all_goals with_reducible rfl
  simp only [Act.put, List.setIfInBounds_toArray, List.set_cons_zero, List.set_cons_succ]
  refine wpAnyH_at (i := 3) (some 34) (v := ?v3z4) rfl rfl (by kernel_rfl) (by kernel_rfl) (by kernel_rfl) (fun _ _ _ h => h) (Or.inl ⟨by rfl, ?y3z4⟩) (by assumption) ?r3z4
  case y3z4 =>
    intro w9 hSw
    obtain ⟨c0, c1, c2, c3, c4, ff, lt1⟩ := hSw
    go_simp
    all_goals with_reducible rfl
  simp only [Act.put, List.setIfInBounds_toArray, List.set_cons_zero, List.set_cons_succ]
  refine wpAnyH_at (i := 4) (some 35) (v := ?v4z5) rfl rfl (by kernel_rfl) (by kernel_rfl) (by kernel_rfl) (fun _ _ _ h => h) (Or.inl ⟨by rfl, ?y4z5⟩) (by assumption) ?r4z5
  case y4z5 =>
    intro w9 hSw
    obtain ⟨c0, c1, c2, c3, c4, ff, lt1⟩ := hSw
    go_simp
    all_goals with_reducible rfl
  simp only [Act.put, List.setIfInBounds_toArray, List.set_cons_zero, List.set_cons_succ]
  refine wpAnyH_at (i := 5) (some 36) (v := ?v5z6) rfl rfl (by kernel_rfl) (by kernel_rfl) (by kernel_rfl) (fun _ _ _ h => h) (Or.inl ⟨by rfl, ?y5z6⟩) (by assumption) ?r5z6
  case y5z6 =>
    intro w9 hSw
    obtain ⟨c0, c1, c2, c3, c4, ff, lt1⟩ := hSw
    go_simp
    all_goals with_reducible rfl
  simp only [Act.put, List.setIfInBounds_toArray, List.set_cons_zero, List.set_cons_succ]
  refine wpAnyH_at (i := 6) (some 37) (v := ?v6z7) rfl rfl (by kernel_rfl) (by kernel_rfl) (by kernel_rfl) (fun _ _ _ h => h) (Or.inl ⟨by rfl, ?y6z7⟩) (by assumption) ?r6z7
  case y6z7 =>
    intro w9 hSw
    obtain ⟨c0, c1, c2, c3, c4, ff, lt1⟩ := hSw
    go_simp
    all_goals with_reducible rfl
  simp only [Act.put, List.setIfInBounds_toArray, List.set_cons_zero, List.set_cons_succ]
  refine wpAnyH_at (i := 7) (some 38) (v := ?v7z8) rfl rfl (by kernel_rfl) (by kernel_rfl) (by kernel_rfl) (fun _ _ _ h => h) (Or.inl ⟨by rfl, ?y7z8⟩) (by assumption) ?r7z8
  case y7z8 =>
    intro w9 hSw
    obtain ⟨c0, c1, c2, c3, c4, ff, lt1⟩ := hSw
    go_simp
    all_goals with_reducible rfl
  simp only [Act.put, List.setIfInBounds_toArray, List.set_cons_zero, List.set_cons_succ]
  refine wpAnyH_at (i := 8) (some 39) (v := ?v8z9) rfl rfl (by kernel_rfl) (by kernel_rfl) (by kernel_rfl) (fun _ _ _ h => h) (Or.inl ⟨by rfl, ?y8z9⟩) (by assumption) ?r8z9
  case y8z9 =>
    intro w9 hSw
    obtain ⟨c0, c1, c2, c3, c4, ff, lt1⟩ := hSw
    go_simp
    all_goals with_reducible rfl
  simp only [Act.put, List.setIfInBounds_toArray, List.set_cons_zero, List.set_cons_succ]
  refine wpAnyH_one (i := 9) (by kernel_rfl) rfl ?_
  go_wp2_with fail
  refine (Fr.out W3 hp2).mono ?_
  rintro ev w4 ⟨rfl, hp4, k4⟩
  have hc4 := hHeld.kept k4 hqg
  have o4 := o2.kept k4 (fun ad e h => by have := (o2.block ad e).1; have h2 : ad.block = g := h; omega)
  have hg3 : ¬ IntB W3 b g := fun e => hsg (IntB.back (S := fun _ => False) (Kept.of_below b2) e hglt.2 (fun h => h))
  have hr4 := hr2.kept k4 hqg (fun k e => by rw [e]; exact hg3)
  have K4 : Kept (· = g) w w4 := Kept.ahead b2 k4
  clear hHeld hp2 Fr k4 b2 o2 hr2 hg3
  go_wp2
  have hHeld := hc4
  refine ⟨hHeld, ?_⟩
  try simp only [Act.put, List.setIfInBounds_toArray, List.set_cons_zero, List.set_cons_succ]
  refine wpAnyH_done (by kernel_rfl) ?_ _
  clear hHeld
  have ba4 := alloc_below w4 (.cells #[] 3)
  have hc5 := hc4.below ba4
  have o50 := Out.lit0 .i64 3 w4 b (Nat.le_trans hle K4.size)
  have rc := hr4.out.rd.cut (f := 1) (t := n) (by omega) (Nat.le_refl _)
  rw [if_pos hc1, show ((ints (x :: T)).drop 1).take (n - 1) = ints T from List.take_of_length_le (by simp [ints]; omega)] at rc
  have r5 := rc.below ba4 (Nat.le_refl _)
  have bl := hr4.lt
  obtain ⟨c0, c1, c2, c3, c4, ff, lt2⟩ := hc5
  clear rc hr4 hc4
  have GG := Lib.hid (fun w2 A' n' c' => G.out w4 w2 A2 A' m2 cc2 n' c' hp4 K4 o4)
  clear G hp4 o4 hrA
  subst hc1
  obtain rfl : n = 1 := by omega
  go_wp2_with (first
    | (at_builtin; refine wpList_app rfl (.tmp 42) (.tmp 47) 57 rfl b Try.underlying57 info3 (by omega) (some ⟨w4.heap.size, 0, none⟩) 0 0 [] rfl o50 (some ⟨b0, o0, none⟩) 0 0 w4.heap.size _ rfl r5 (by omega) (by simp; omega) ?_))
  intro A5 m5 cc5 w6 o6 hg6
  have b6 : Below w4.heap.size w4 w6 := ba4.grown hg6 (by simp) (fun k hk => by simp [Value.ownBlock] at hk; omega)
  have G9 := Lib.hid (GG.out w6 A5 m5 cc5 b6 o6)
  have hcw : RrCells (w4.alloc (.cells #[] 3)) q p (some ⟨b0, o0, none⟩) 1 1 z o d := ⟨c0, c1, c2, c3, c4, ff, lt2⟩
  have hq4 : q < w4.heap.size := bl.1
  have b7 : Below q.succ (w4.alloc (.cells #[] 3)) w6 := (Below.refl _ _).grown hg6 (by simp; omega) (fun k hk => by simp [Value.ownBlock] at hk; omega)
  have c3' : w6.cell? ⟨q, 3, none⟩ = some (.slice (some ⟨b0, o0, none⟩) 1 1) := (b7.cell (p := ⟨q, 3, none⟩) (by simp)).trans c3
  have ff' : w6.frozen? ⟨q, 3, none⟩ = false := (b7.frozen (p := ⟨q, 3, none⟩) (by simp)).trans (ff 3)
  clear GG o6 b6 b7 hg6 hcw c0 c1 c2 c3 c4 ff o50 r5 ba4
  generalize byt L x = ys at *
  go_wp2
  go_ret2
  exact G9.out
set_option maxRecDepth 100000 in
set_option maxHeartbeats 2000000 in
theorem rtake_more (q p b : Nat) (A0 : Option Addr) (n c z : Nat) (o : Int) (x : Nat) (T : List Nat) (d g cp : Nat) (L : Slots) (F : Nat → Prop) (w : World) (h : RrRow w q p b A0 n c z o (x :: T) d) (hp : Rp w p g cp L F) (hx : x < L.length) (hc1 : ¬ c = 1) :
    Calls Try.prog 37 #[ptr q] w (GivesRK w q p b g cp z o x T d L F) := by
  have hL : 0 < L.length := by omega
  have hn : T.length + 1 = n := by have := h.len; simpa using this
  have hn256 : n ≤ 256 := by have := h.le; have := h.size; have := h.len; omega
  have hnc := h.out.cap
  have hle := h.lt.2
  have G := Lib.hid (fun w1 w2 A A' m cc n' c' a b' c1 d' e' => GivesRK.of (w1 := w1) (w2 := w2) (A := A) (A' := A') (m := m) (cc := cc) (n' := n') (c' := c') h hp hL a b' c1 d' e')
  obtain ⟨hqg, hsg⟩ := h.qg hp hL
  have hcc := h.cells
  obtain ⟨b0, o0, hA, hb0, hcx⟩ := h.out.rd.at_ (show 0 < n by omega)
  have hox := h.out
  subst hA
  rw [show (ints (x :: T)).getD 0 0 = (x : Int) from rfl, Nat.add_zero] at hcx
  obtain ⟨A1, m1, c1b, hc1x, o1, -⟩ := hp.cell1 hx
  have hg0 := hp.cells
  obtain ⟨N, Gp, hN, hNl, hcp, hGp⟩ := hg0
  obtain rfl := hGp (by omega)
  have hxN : x < N := by omega
  have hlb : m1 ≤ 1514 := by rw [← o1.len]; exact (hp.good.2 x).2.2
  have HN := Lib.hid hN
  have ba := alloc_below w (.cells #[] 5)
  have o00 := Out.lit0 .u8 5 w w.heap.size (Nat.le_refl _)
  have r1 : Rd .u8 (w.alloc (.cells #[] 5)) w.heap.size A1 m1 c1b (byt L x) := o1.rd.below ba (Nat.le_refl _)
  have Fr := Lib.hid (fun W q => refFree_any p g cp L F (x : Int) o W q)
  have hp' := hp.below ba
  have hc' := hcc.below ba
  have b0lt := World.block_lt_of_cell? _ _ hcx
  have hglt := hp.lt
  have hrA := h.out.rd
  have HR := Lib.hid h
  obtain ⟨c0, c1, c2, c3, c4, ff, lt1⟩ := hcc
  have hn0 : ¬ (n : Int) = 0 := by omega
  have hn1 : (0 : Int) < (n : Int) := by omega
  have hxi : (x : Int) < (N : Int) := by omega
  have HP := Lib.hid hp
  clear h hp hx hL hN hox o1
  go_enter Try.func37, Try.ntmps37
  go_wp2_with (first
    | (at_builtin; refine wpList_app rfl (.tmp 18) (.tmp 29) 23 rfl w.heap.size Try.underlying23 info5 (by omega) (some ⟨w.heap.size, 0, none⟩) 0 0 [] rfl o00 A1 m1 c1b w.heap.size _ rfl r1 (by omega) (by simp) ?_))
  intro A2 m2 cc2 w2 o2 hg2
  have b2 : Below w.heap.size w w2 := ba.grown hg2 (by simp) (fun k hk => by simp [Value.ownBlock] at hk; omega)
  have hp2 := HP.out.below b2
  have hc2 := HR.out.cells.below b2
  have hr2 := HR.out.below b2
  clear o00 r1 ba hg2 hp' hc' c0 c1 c2 c3 c4 ff hcx hc1x hcp
  go_wp2
  refine wp_region_held_drew (S := fun w' => RrCells w' q p (some ⟨b0, o0, none⟩) n c z o d) (by kernel_rfl) (hc2.below (below_drew _)) (fun hHeld => ?_)
  replace hp2 := hp2.below (below_drew w2)
  replace o2 := o2.below (below_drew w2) (Nat.le_refl _)
  replace hr2 := hr2.below (below_drew w2)
  replace b2 := b2.trans ((below_drew w2).mono b2.size)
  clear hc2
  change wpAnyH _ _ _ _ _ _ _ _ (World.drew _)
  generalize World.drew w2 = W3 at *
  refine wpAnyH_at (i := 0) (some 31) (v := ?v0z10) rfl rfl (by kernel_rfl) (by kernel_rfl) (by kernel_rfl) (fun _ _ _ h => h) (Or.inl ⟨by rfl, ?y0z10⟩) (by assumption) ?r0z10
  case y0z10 =>
    intro w9 hSw
    obtain ⟨c0, c1, c2, c3, c4, ff, lt1⟩ := hSw
    go_simp
    all_goals with_reducible rfl
  simp only [Act.put, List.setIfInBounds_toArray, List.set_cons_zero, List.set_cons_succ]
  refine wpAnyH_at (i := 1) (some 32) (v := ?v1z11) rfl rfl (by kernel_rfl) (by kernel_rfl) (by kernel_rfl) (fun _ _ _ h => h) (Or.inl ⟨by rfl, ?y1z11⟩) (by assumption) ?r1z11
  case y1z11 =>
    intro w9 hSw
    obtain ⟨c0, c1, c2, c3, c4, ff, lt1⟩ := hSw
    go_simp
    all_goals with_reducible rfl
  simp only [Act.put, List.setIfInBounds_toArray, List.set_cons_zero, List.set_cons_succ]
  refine wpAnyH_at (i := 2) (some 33) (v := ?v2z12) rfl rfl (by kernel_rfl) (by kernel_rfl) (by kernel_rfl) (fun _ _ _ h => h) (Or.inl ⟨by rfl, ?y2z12⟩) (by assumption) ?r2z12
  case y2z12 =>
    intro w9 hSw
    obtain ⟨c0, c1, c2, c3, c4, ff, lt1⟩ := hSw
    go_simp
    all_goals with_reducible rfl
  simp only [Act.put, List.setIfInBounds_toArray, List.set_cons_zero, List.set_cons_succ]
  refine wpAnyH_at (i := 3) (some 34) (v := ?v3z13) rfl rfl (by kernel_rfl) (by kernel_rfl) (by kernel_rfl) (fun _ _ _ h => h) (Or.inl ⟨by rfl, ?y3z13⟩) (by assumption) ?r3z13
  case y3z13 =>
    intro w9 hSw
    obtain ⟨c0, c1, c2, c3, c4, ff, lt1⟩ := hSw
    go_simp
    all_goals with_reducible rfl
  simp only [Act.put, List.setIfInBounds_toArray, List.set_cons_zero, List.set_cons_succ]
  refine wpAnyH_at (i := 4) (some 35) (v := ?v4z14) rfl rfl (by kernel_rfl) (by kernel_rfl) (by kernel_rfl) (fun _ _ _ h => h) (Or.inl ⟨by rfl, ?y4z14⟩) (by assumption) ?r4z14
  case y4z14 =>
    intro w9 hSw
    obtain ⟨c0, c1, c2, c3, c4, ff, lt1⟩ := hSw
    go_simp
    all_goals with_reducible rfl
  simp only [Act.put, List.setIfInBounds_toArray, List.set_cons_zero, List.set_cons_succ]
  refine wpAnyH_at (i := 5) (some 36) (v := ?v5z15) rfl rfl (by kernel_rfl) (by kernel_rfl) (by kernel_rfl) (fun _ _ _ h => h) (Or.inl ⟨by rfl, ?y5z15⟩) (by assumption) ?r5z15
  case y5z15 =>
    intro w9 hSw
    obtain ⟨c0, c1, c2, c3, c4, ff, lt1⟩ := hSw
    go_simp
    all_goals with_reducible rfl
  simp only [Act.put, List.setIfInBounds_toArray, List.set_cons_zero, List.set_cons_succ]
  refine wpAnyH_at (i := 6) (some 37) (v := ?v6z16) rfl rfl (by kernel_rfl) (by kernel_rfl) (by kernel_rfl) (fun _ _ _ h => h) (Or.inl ⟨by rfl, ?y6z16⟩) (by assumption) ?r6z16
  case y6z16 =>
    intro w9 hSw
    obtain ⟨c0, c1, c2, c3, c4, ff, lt1⟩ := hSw
    go_simp
    all_goals with_reducible rfl
  simp only [Act.put, List.setIfInBounds_toArray, List.set_cons_zero, List.set_cons_succ]
  refine wpAnyH_at (i := 7) (some 38) (v := ?v7z17) rfl rfl (by kernel_rfl) (by kernel_rfl) (by kernel_rfl) (fun _ _ _ h => h) (Or.inl ⟨by rfl, ?y7z17⟩) (by assumption) ?r7z17
  case y7z17 =>
    intro w9 hSw
    obtain ⟨c0, c1, c2, c3, c4, ff, lt1⟩ := hSw
    go_simp
    all_goals with_reducible rfl
  simp only [Act.put, List.setIfInBounds_toArray, List.set_cons_zero, List.set_cons_succ]
  refine wpAnyH_at (i := 8) (some 39) (v := ?v8z18) rfl rfl (by kernel_rfl) (by kernel_rfl) (by kernel_rfl) (fun _ _ _ h => h) (Or.inl ⟨by rfl, ?y8z18⟩) (by assumption) ?r8z18
  case y8z18 =>
    intro w9 hSw
    obtain ⟨c0, c1, c2, c3, c4, ff, lt1⟩ := hSw
    go_simp
    all_goals with_reducible rfl
  simp only [Act.put, List.setIfInBounds_toArray, List.set_cons_zero, List.set_cons_succ]
  refine wpAnyH_one (i := 9) (by kernel_rfl) rfl ?_
  go_wp2_with fail
  refine (Fr.out W3 hp2).mono ?_
  rintro ev w4 ⟨rfl, hp4, k4⟩
  have hc4 := hHeld.kept k4 hqg
  have o4 := o2.kept k4 (fun ad e h => by have := (o2.block ad e).1; have h2 : ad.block = g := h; omega)
  have hg3 : ¬ IntB W3 b g := fun e => hsg (IntB.back (S := fun _ => False) (Kept.of_below b2) e hglt.2 (fun h => h))
  have hr4 := hr2.kept k4 hqg (fun k e => by rw [e]; exact hg3)
  have K4 : Kept (· = g) w w4 := Kept.ahead b2 k4
  clear hHeld hp2 Fr k4 b2 o2 hr2 hg3
  go_wp2
  have hHeld := hc4
  refine ⟨hHeld, ?_⟩
  try simp only [Act.put, List.setIfInBounds_toArray, List.set_cons_zero, List.set_cons_succ]
  refine wpAnyH_done (by kernel_rfl) ?_ _
  clear hHeld
  have ba4 := alloc_below w4 (.cells #[] 3)
  have hc5 := hc4.below ba4
  have o50 := Out.lit0 .i64 3 w4 b (Nat.le_trans hle K4.size)
  have rc := hr4.out.rd.cut (f := 1) (t := n) (by omega) (Nat.le_refl _)
  rw [if_neg hc1, show ((ints (x :: T)).drop 1).take (n - 1) = ints T from List.take_of_length_le (by simp [ints]; omega)] at rc
  have r5 := rc.below ba4 (Nat.le_refl _)
  have bl := hr4.lt
  obtain ⟨c0, c1, c2, c3, c4, ff, lt2⟩ := hc5
  clear rc hr4 hc4
  have GG := Lib.hid (fun w2 A' n' c' => G.out w4 w2 A2 A' m2 cc2 n' c' hp4 K4 o4)
  clear G hp4 o4 hrA
  simp only [Option.map_some, Addr.add] at r5
  go_wp2_with (first
    | (at_builtin; refine wpList_app rfl (.tmp 42) (.tmp 47) 57 rfl b Try.underlying57 info3 (by omega) (some ⟨w4.heap.size, 0, none⟩) 0 0 [] rfl o50 (some ⟨b0, o0 + 1, none⟩) (n - 1) (c - 1) w4.heap.size _ rfl r5 (by omega) (by simp; omega) ?_))
  intro A5 m5 cc5 w6 o6 hg6
  have b6 : Below w4.heap.size w4 w6 := ba4.grown hg6 (by simp) (fun k hk => by simp [Value.ownBlock] at hk; omega)
  have G9 := Lib.hid (GG.out w6 A5 m5 cc5 b6 o6)
  have hcw : RrCells (w4.alloc (.cells #[] 3)) q p (some ⟨b0, o0, none⟩) n c z o d := ⟨c0, c1, c2, c3, c4, ff, lt2⟩
  have hq4 : q < w4.heap.size := bl.1
  have b7 : Below q.succ (w4.alloc (.cells #[] 3)) w6 := (Below.refl _ _).grown hg6 (by simp; omega) (fun k hk => by simp [Value.ownBlock] at hk; omega)
  have c3' : w6.cell? ⟨q, 3, none⟩ = some (.slice (some ⟨b0, o0, none⟩) n c) := (b7.cell (p := ⟨q, 3, none⟩) (by simp)).trans c3
  have ff' : w6.frozen? ⟨q, 3, none⟩ = false := (b7.frozen (p := ⟨q, 3, none⟩) (by simp)).trans (ff 3)
  clear GG o6 b6 b7 hg6 hcw c0 c1 c2 c3 c4 ff o50 r5 ba4
  generalize byt L x = ys at *
  go_wp2
  go_ret2
  exact G9.out
theorem rtake1_any (q p b z : Nat) (o : Int) (x : Nat) (T : List Nat) (d g cp : Nat) (L : Slots) (F : Nat → Prop) (w : World) (h : RrAt w q p b z o (x :: T) d) (hp : Rp w p g cp L F) (hx : x < L.length) :
    Calls Try.prog 37 #[ptr q] w (GivesRK w q p b g cp z o x T d L F) := by
  obtain ⟨A, n, c, h⟩ := h
  by_cases hc : c = 1
  · exact rtake_one q p b A n c z o x T d g cp L F w h hp hx hc
  · exact rtake_more q p b A n c z o x T d g cp L F w h hp hx hc
end Go.Proofs.Ytjaiagocbldbgaa
