/-
  Contract of Parse.
-/
import Derived.Test.YtggnkmllbpgfoaaTProg
namespace Go.Proofs.Ytggnkmllbpgfoaa
open Go.RowKit

/-- What Parse answers. -/
def GivesP (f t : Int) (w : World) (xs : List Int) (n : Nat) (ev : Ending) (w' : World) : Prop :=
  Below w.heap.size w w' ∧ ((¬ (pE f t xs).2 = 0 ∧ ev = .returned (.tuple #[zeroP, errV (pE f t xs).1 (pE f t xs).2])) ∨
    ((pE f t xs).2 = 0 ∧ ∃ g, ev = .returned (.tuple #[pkV (hdOf xs) (some ⟨g, 0, none⟩) n n, .nilIface]) ∧ Row w' g xs ∧ w.heap.size ≤ g))
/-- What the walk knows: the answer's block, the bytes. -/
structure KR (w : World) (A : Option Addr) (n c : Nat) (xs : List Int) (W : World) : Prop where
  z : ∃ h A' n' c', PkAt W w.heap.size 27 h A' n' c'
  rd : Rd .u8 W w.heap.size A n c xs
  below : Below w.heap.size w W
section
variable {w W V : World} {A : Option Addr} {n c : Nat} {xs : List Int}
theorem KR.lt (q : KR w A n c xs W) : w.heap.size < W.heap.size := by
  obtain ⟨_, _, _, _, z⟩ := q.z
  exact z.lt
theorem KR.step (q : KR w A n c xs W) (hb : Below W.heap.size W V) : KR w A n c xs V := ⟨(by obtain ⟨h, a, n, c, z⟩ := q.z; exact ⟨h, a, n, c, z.step hb⟩), q.rd.below hb q.below.size, q.below.trans (hb.mono q.below.size)⟩
end
theorem KR.start {w : World} {A : Option Addr} {n c : Nat} {xs : List Int} (hr : Rd .u8 w w.heap.size A n c xs) : KR w A n c xs (w.alloc (.cells (pkC zeroH none 0 0) 27)) := ⟨⟨_, _, _, _, PkAt.new w 27 zeroH none 0 0⟩, hr.below (alloc_below _ _) (Nat.le_refl _), alloc_below _ _⟩

set_option maxRecDepth 100000 in
set_option maxHeartbeats 4000000 in
theorem parse_bad (A : Option Addr) (n c : Nat) (xs : List Int) (f t : Int) (w : World) (hr : Rd .u8 w w.heap.size A n c xs) (hbe : ¬ (bE xs).2 = 0) :
    Calls Try.prog 6 #[.slice A n c, .int .u32 f, .int .u32 t] w fun ev w' => Below w.heap.size w w' ∧ ev = .returned (.tuple #[zeroP, errV (bE xs).1 (bE xs).2]) := by
  have k0 := KR.start hr
  have hb1 : ∀ W, KR w A n c xs W → Calls Try.prog 13 #[.slice A n c] W fun ev w' => W = w' ∧ ev = .returned (errV (bE xs).1 (bE xs).2) := fun W k =>
    (look_any A n c w.heap.size xs W k.rd).mono fun ev w' ⟨h1, h2⟩ => ⟨h1, h2.elim (fun q => q.2) (fun q => absurd q.1 hbe)⟩
  clear hbe
  generalize bE xs = ee at *
  obtain ⟨r, e0⟩ := ee
  dsimp only at hb1 ⊢
  go_enter Try.func6, Try.ntmps6
  go_wp2_with fail
  with_reducible refine (hb1 _ k0).mono ?_
  rintro e w1 ⟨rfl, rfl⟩
  have k := k0
  generalize w.alloc (.cells (pkC zeroH none 0 0) 27) = W0 at k ⊢
  clear k0 hb1 hr
  obtain ⟨h0, A0, n0, c0, hz⟩ := k.z
  go_wp2_with (refine wpList_stF rfl rfl 27 _ _ rfl w.heap.size (pkC zeroH none 0 0) rfl rfl 27 _ hz (by kernel_rfl) rfl (pkC_one ..) ?_; intro w7 h7 hb7 ho7 hs7)
  have h7' : PkAt w7 w.heap.size 27 zeroH none 0 0 := h7
  have b7 : Below w.heap.size w w7 := k.below.trans hb7
  obtain ⟨c0, c1, c2, c3⟩ := h7'.cells
  refine bodyPost_ret (v := .tuple #[zeroP, errV r e0]) (by simp [results, Try.results6, go_sem, c0, c1, c2, c3]) rfl ⟨b7, rfl⟩

set_option maxRecDepth 100000 in
set_option maxHeartbeats 4000000 in
theorem parse_sum (A : Option Addr) (n c : Nat) (xs : List Int) (f t : Int) (w : World) (hr : Rd .u8 w w.heap.size A n c xs) (hf : Ip f) (ht : Ip t) (hbe : (bE xs).2 = 0) (hs : sumB f t xs = false) :
    Calls Try.prog 6 #[.slice A n c, .int .u32 f, .int .u32 t] w fun ev w' => Below w.heap.size w w' ∧ ev = .returned (.tuple #[zeroP, errV 2 13]) := by
  have hcap := hr.cap
  have hmax := hr.max
  have hl := hr.len
  obtain ⟨h20, -, -, hTm⟩ := bE_ok hbe
  rw [hl] at h20 hTm
  obtain ⟨b, o, rfl, -, -⟩ := hr.at_ (i := 0) (by omega)
  have k0 := KR.start hr
  have hb1 : ∀ W, KR w (some ⟨b, o, none⟩) n c xs W → Calls Try.prog 13 #[.slice (some ⟨b, o, none⟩) n c] W fun ev w' => W = w' ∧ ev = .returned .nilIface := fun W k =>
    (look_any _ n c w.heap.size xs W k.rd).mono fun ev w' ⟨h1, h2⟩ => ⟨h1, h2.elim (fun q => absurd hbe q.1) (fun q => q.2)⟩
  have cs : Hid (∀ W, KR w (some ⟨b, o, none⟩) n c xs W → Calls Try.prog 9 #[.slice (some ⟨b, o, none⟩) n c, .int .u32 f, .int .u32 t] W fun e w' => e = .returned (.bool false) ∧ Below W.heap.size W w') := Lib.hid (fun W k => by
    have := sums_any (some ⟨b, o, none⟩) n c xs f t W (k.rd.more k.below.size) hf ht (by omega)
    rwa [hs] at this)
  clear hs hbe hl
  clear hr
  go_enter Try.func6, Try.ntmps6
  go_wp2_with fail
  with_reducible refine (hb1 _ k0).mono ?_
  rintro e w1 ⟨rfl, rfl⟩
  have k := k0
  generalize w.alloc (.cells (pkC zeroH none 0 0) 27) = W0 at k ⊢
  clear k0 hb1
  go_wp2_with fail
  with_reducible refine (cs.out _ k).mono ?_
  rintro e w2 ⟨rfl, hb⟩
  replace k := k.step hb
  clear hb cs
  obtain ⟨h0, A0, n0, c0, hz⟩ := k.z
  go_wp2_with (first
    | (go_at_call 14; with_reducible refine (fault_any 2 13 _ (by decide) (by decide)).mono ?_; rintro e w5 ⟨rfl, rfl⟩)
    | (refine wpList_stF rfl rfl 27 _ _ rfl w.heap.size (pkC zeroH none 0 0) rfl rfl 27 _ hz (by kernel_rfl) rfl (pkC_one ..) ?_; intro w7 h7 hb7 ho7 hs7))
  have h7' : PkAt w7 w.heap.size 27 zeroH none 0 0 := h7
  have b7 : Below w.heap.size w w7 := k.below.trans hb7
  obtain ⟨c0, c1, c2, c3⟩ := h7'.cells
  clear h7
  refine bodyPost_ret (v := .tuple #[zeroP, errV 2 13]) (by simp [results, Try.results6, go_sem, c0, c1, c2, c3]) rfl ⟨b7, rfl⟩

set_option maxRecDepth 100000 in
set_option maxHeartbeats 4000000 in
theorem parse_good (A : Option Addr) (n c : Nat) (xs : List Int) (f t : Int) (w : World) (hr : Rd .u8 w w.heap.size A n c xs) (hf : Ip f) (ht : Ip t) (hbe : (bE xs).2 = 0) (hs : sumB f t xs = true) :
    Calls Try.prog 6 #[.slice A n c, .int .u32 f, .int .u32 t] w fun ev w' => Below w.heap.size w w' ∧ ∃ g, ev = .returned (.tuple #[pkV (hdOf xs) (some ⟨g, 0, none⟩) n n, .nilIface]) ∧ Row w' g xs ∧ w.heap.size ≤ g := by
  have hcap := hr.cap
  have hmax := hr.max
  have hl := hr.len
  obtain ⟨h20, -, -, hTm⟩ := bE_ok hbe
  rw [hl] at h20 hTm
  obtain ⟨b, o, rfl, -, -⟩ := hr.at_ (i := 0) (by omega)
  have k0 := KR.start hr
  have hb1 : ∀ W, KR w (some ⟨b, o, none⟩) n c xs W → Calls Try.prog 13 #[.slice (some ⟨b, o, none⟩) n c] W fun ev w' => W = w' ∧ ev = .returned .nilIface := fun W k =>
    (look_any _ n c w.heap.size xs W k.rd).mono fun ev w' ⟨h1, h2⟩ => ⟨h1, h2.elim (fun q => absurd hbe q.1) (fun q => q.2)⟩
  have cs : Hid (∀ W, KR w (some ⟨b, o, none⟩) n c xs W → Calls Try.prog 9 #[.slice (some ⟨b, o, none⟩) n c, .int .u32 f, .int .u32 t] W fun e w' => e = .returned (.bool true) ∧ Below W.heap.size W w') := Lib.hid (fun W k => by
    have := sums_any (some ⟨b, o, none⟩) n c xs f t W (k.rd.more k.below.size) hf ht (by omega)
    rwa [hs] at this)
  clear hs hbe hl
  clear hr
  have k2 : ¬ c = 2 := by omega
  have j2 : (2 : Int) ≤ (n : Int) := by omega
  have j13 : (13 : Int) < (n : Int) := by omega
  have t0 : ∀ W, KR w (some ⟨b, o, none⟩) n c xs W → Calls Try.prog 15 #[.slice (some ⟨b, o, none⟩) n c] W fun e w' => e = .returned (.int .u16 (hdOf xs).src) ∧ ∃ m', w' = W.drewN m' := fun W k => two_any _ n c w.heap.size xs W k.rd (by omega)
  have t2 : ∀ W, KR w (some ⟨b, o, none⟩) n c xs W → Calls Try.prog 15 #[.slice (some ⟨b, o + 2, none⟩) (n - 2) (c - 2)] W fun e w' => e = .returned (.int .u16 (hdOf xs).dst) ∧ ∃ m', w' = W.drewN m' := fun W k => two_any _ (n - 2) (c - 2) w.heap.size (xs.drop 2) W (k.rd.cutS 2 (by omega) k2) (by omega)
  have t13 : ∀ W, KR w (some ⟨b, o, none⟩) n c xs W → W.cell? ⟨b, o + 13, none⟩ = some (.int .u8 (hdOf xs).flags) := fun W k => k.rd.cellAt (by omega)
  have tc : Hid (∀ W, KR w (some ⟨b, o, none⟩) n c xs W → Calls Try.prog 16 #[.slice (some ⟨b, o, none⟩) n c] W (GivesRow W xs n)) := Lib.hid (fun W k => cp_any _ n c xs W (k.rd.more k.below.size) (by omega))
  generalize hdOf xs = h at *
  go_enter Try.func6, Try.ntmps6
  go_wp2_with fail
  with_reducible refine (hb1 _ k0).mono ?_
  rintro e w1 ⟨rfl, rfl⟩
  have k := k0
  generalize w.alloc (.cells (pkC zeroH none 0 0) 27) = W0 at k ⊢
  clear k0 hb1
  go_wp2_with fail
  with_reducible refine (cs.out _ k).mono ?_
  rintro e w2 ⟨rfl, hb⟩
  replace k := k.step hb
  clear hb cs
  go_wp2_with fail
  refine wp_region_held_drew (S := fun w' => KR w (some ⟨b, o, none⟩) n c xs w') (by kernel_rfl) (k.step (below_drew _)) (fun hHeld => ?_)
  change wpAnyH _ _ _ _ _ _ _ _ (World.drew _)
  generalize World.drew _ = W1 at hHeld ⊢
  clear k
  refine wpAnyH_at (i := 0) (some 22) (v := ?v0z1) rfl rfl (by kernel_rfl) (by kernel_rfl) (by kernel_rfl) (fun _ _ _ h => h) (Or.inl ⟨by rfl, ?y0z1⟩) (by assumption) ?r0z1
  case y0z1 =>
    intro w9 hSw
    clear hSw
    go_simp
    all_goals with_reducible rfl
  simp only [Act.put, List.setIfInBounds_toArray, List.set_cons_zero, List.set_cons_succ]
  refine wpAnyH_at (i := 2) (some 24) (v := ?v2z2) rfl rfl (by kernel_rfl) (by kernel_rfl) (by kernel_rfl) (fun _ _ _ h => h) (Or.inl ⟨by rfl, ?y2z2⟩) (by assumption) ?r2z2
  case y2z2 =>
    intro w9 hSw
    clear hSw
    go_simp
    all_goals with_reducible rfl
  simp only [Act.put, List.setIfInBounds_toArray, List.set_cons_zero, List.set_cons_succ]
  refine wpAnyH_at (i := 3) (some 25) (v := ?v3z3) rfl rfl (by kernel_rfl) (by kernel_rfl) (by kernel_rfl) (fun _ _ _ h => h) (Or.inl ⟨by rfl, ?y3z3⟩) (by assumption) ?r3z3
  case y3z3 =>
    intro w9 hSw
    clear hSw
    go_simp
    all_goals with_reducible rfl
  simp only [Act.put, List.setIfInBounds_toArray, List.set_cons_zero, List.set_cons_succ]
  refine wpAnyH_at (i := 5) (some 27) (v := ?v5z4) rfl rfl (by kernel_rfl) (by kernel_rfl) (by kernel_rfl) (fun _ _ _ h => h) (Or.inl ⟨by rfl, ?y5z4⟩) (by assumption) ?r5z4
  case y5z4 =>
    intro w9 hSw
    clear hSw
    go_simp
    all_goals with_reducible rfl
  simp only [Act.put, List.setIfInBounds_toArray, List.set_cons_zero, List.set_cons_succ]
  refine wpAnyH_at (i := 6) (some 28) (v := ?v6z5) rfl rfl (by kernel_rfl) (by kernel_rfl) (by kernel_rfl) (fun _ _ _ h => h) (Or.inl ⟨by rfl, ?y6z5⟩) (by assumption) ?r6z5
  case y6z5 =>
    intro w9 hSw
    clear hSw
    go_simp
    all_goals with_reducible rfl
  simp only [Act.put, List.setIfInBounds_toArray, List.set_cons_zero, List.set_cons_succ]
  refine wpAnyH_at (i := 7) (some 29) (v := ?v7z6) rfl rfl (by kernel_rfl) (by kernel_rfl) (by kernel_rfl) (fun _ _ _ h => h) (Or.inl ⟨by rfl, ?y7z6⟩) (by assumption) ?r7z6
  case y7z6 =>
    intro w9 hSw
    have c13 := t13 _ hSw; clear hSw
    go_simp
    all_goals with_reducible rfl
  simp only [Act.put, List.setIfInBounds_toArray, List.set_cons_zero, List.set_cons_succ]
  refine wpAnyH_at (i := 8) (some 30) (v := ?v8z7) rfl rfl (by kernel_rfl) (by kernel_rfl) (by kernel_rfl) (fun _ _ _ h => h) (Or.inl ⟨by rfl, ?y8z7⟩) (by assumption) ?r8z7
  case y8z7 =>
    intro w9 hSw
    clear hSw
    go_simp
    all_goals with_reducible rfl
  simp only [Act.put, List.setIfInBounds_toArray, List.set_cons_zero, List.set_cons_succ]
  refine wpAnyH_one (i := 1) (by kernel_rfl) rfl ?_
  go_wp2_with (go_at_call 15; with_reducible refine (t0 _ hHeld).mono ?_; rintro e w9 ⟨rfl, m9, rfl⟩)
  replace hHeld := hHeld.step (Still.drewN _ m9).below
  refine ⟨hHeld, ?_⟩
  generalize W1.drewN m9 = W2 at *
  refine wpAnyH_one (i := 4) (by kernel_rfl) rfl ?_
  go_wp2_with (go_at_call 15; with_reducible refine (t2 _ hHeld).mono ?_; rintro e w9 ⟨rfl, m8, rfl⟩)
  replace hHeld := hHeld.step (Still.drewN _ m8).below
  refine ⟨hHeld, ?_⟩
  generalize W2.drewN m8 = W3 at *
  refine wpAnyH_one (i := 9) (by kernel_rfl) rfl ?_
  go_wp2_with (go_at_call 16; refine (tc.out _ hHeld).mono ?_; rintro e W4 ⟨g, rfl, row, hg, hb⟩)
  have hlt := hHeld.lt
  replace hHeld := hHeld.step hb
  refine ⟨hHeld, ?_⟩
  refine wpAnyH_at (i := 10) (some 32) (v := ?v10z8) rfl rfl (by kernel_rfl) (by kernel_rfl) (by kernel_rfl) (fun _ _ _ h => h) (Or.inl ⟨by rfl, ?y10z8⟩) (by assumption) ?r10z8
  case y10z8 =>
    intro w9 hSw
    clear hSw
    go_simp
    all_goals with_reducible rfl
  simp only [Act.put, List.setIfInBounds_toArray, List.set_cons_zero, List.set_cons_succ]
  refine wpAnyH_one (i := 11) (by kernel_rfl) rfl ?_
  obtain ⟨h0, A0, n0, c0, hz⟩ := hHeld.z
  refine wpList_stF rfl rfl 27 _ _ rfl w.heap.size (pkC h (some ⟨g, 0, none⟩) n n) rfl rfl 27 _ hz (by kernel_rfl) rfl (pkC_one ..) ?_
  intro w5 h5 hb5 ho5 hs5
  have h5' : PkAt w5 w.heap.size 27 h (some ⟨g, 0, none⟩) n n := h5
  have r5 : Row w5 g xs := (ho5 g (by omega)).trans row
  have hH5 : KR w (some ⟨b, o, none⟩) n c xs w5 := ⟨⟨_, _, _, _, h5'⟩, hHeld.rd.below hb5 (by omega), hHeld.below.trans (hb5.mono (by omega))⟩
  have hg2 : w.heap.size ≤ g := by omega
  clear hHeld hz hb5 ho5 h5 hb row t0 t2 t13 tc hg hlt hs5
  go_wp2
  refine ⟨hH5, ?_⟩
  refine wpAnyH_at (i := 12) (some 7) (v := ?v12z9) rfl rfl (by kernel_rfl) (by kernel_rfl) (by kernel_rfl) (fun _ _ _ h => h) (Or.inl ⟨by rfl, ?y12z9⟩) (by assumption) ?r12z9
  case y12z9 =>
    intro w9 hSw
    clear hSw
    go_simp
    all_goals with_reducible rfl
  simp only [Act.put, List.setIfInBounds_toArray, List.set_cons_zero, List.set_cons_succ]
  refine wpAnyH_done (by kernel_rfl) ?_ _
  obtain ⟨a0, a1, a2, a3⟩ := h5'.cells
  go_wp2
  exact bodyPost_ret (v := .tuple #[pkV h (some ⟨g, 0, none⟩) n n, .nilIface]) (by simp [results, Try.results6, go_sem, *]) rfl ⟨hH5.below, g, rfl, r5, hg2⟩

theorem parse_any (A : Option Addr) (n c : Nat) (xs : List Int) (f t : Int) (w : World) (hr : Rd .u8 w w.heap.size A n c xs) (hf : Ip f) (ht : Ip t) :
    Calls Try.prog 6 #[.slice A n c, .int .u32 f, .int .u32 t] w (GivesP f t w xs n) := by
  by_cases hbe : (bE xs).2 = 0
  · by_cases hs : sumB f t xs = true
    · exact (parse_good A n c xs f t w hr hf ht hbe hs).mono fun ev w' ⟨h1, h2⟩ => ⟨h1, .inr ⟨by rw [pE_yes hbe hs], h2⟩⟩
    · have hs' : sumB f t xs = false := by simpa using hs
      exact (parse_sum A n c xs f t w hr hf ht hbe hs').mono fun ev w' ⟨h1, h2⟩ => ⟨h1, .inl ⟨by rw [pE_sum hbe hs']; decide, by rw [pE_sum hbe hs']; exact h2⟩⟩
  · exact (parse_bad A n c xs f t w hr hbe).mono fun ev w' ⟨h1, h2⟩ => ⟨h1, .inl ⟨by rw [pE_bad hbe]; exact hbe, by rw [pE_bad hbe]; exact h2⟩⟩
end Go.Proofs.Ytggnkmllbpgfoaa
