/-
  What a packet's bytes, cut short or not, are as a packet. Nothing of the program.
-/
import Derived.Test.YtbefoapnlehdmaaDoorMW
namespace Go.Proofs.YtbefoapnlehdmaaDoor
open Go.RowKit

theorem z_len {h : Hd} {n : Nat} {p q : Int} {xs : List Int} (hx : xs.length = n) : (hdP h n p q ++ xs).length = 20 + n := by
  rw [List.length_append, hx]
  rfl
theorem z_first (h : Hd) (n : Nat) (p q : Int) (xs : List Int) : (hdP h n p q ++ xs).getD 0 0 = 69 := rfl
theorem z_hdL (h : Hd) (n : Nat) (p q : Int) (xs : List Int) : hdL (hdP h n p q ++ xs) = 20 := rfl
theorem z_told (h : Hd) (n : Nat) (p q : Int) (xs : List Int) : told (hdP h n p q ++ xs) = 20 + n := by
  show ((20 + (n : Int)) / 256 * 256 + (20 + (n : Int)) % 256).toNat = 20 + n
  omega
theorem z_flg (h : Hd) (n : Nat) (p q : Int) (xs : List Int) : flg (hdP h n p q ++ xs) = if h.keep then 16384 else 0 := by
  show (if h.keep then 64 else 0) * 256 + 0 = _
  cases h.keep <;> rfl
theorem z_hd (h : Hd) (n : Nat) (p q : Int) (xs : List Int) : hdOf (hdP h n p q ++ xs) = h := by
  refine hdE_eq rfl ?_ ?_ rfl rfl ?_ ?_
  · show h.id / 256 * 256 + h.id % 256 = h.id
    omega
  · show (flg (hdP h n p q ++ xs) == 16384) = h.keep
    rw [z_flg]
    cases h.keep <;> decide
  · show h.src / 16777216 * 16777216 + h.src / 65536 % 256 * 65536 + h.src / 256 % 256 * 256 + h.src % 256 = h.src
    omega
  · show h.dst / 16777216 * 16777216 + h.dst / 65536 % 256 * 65536 + h.dst / 256 % 256 * 256 + h.dst % 256 = h.dst
    omega
theorem z_rE (h : Hd) (n : Nat) (p q : Int) (xs : List Int) : rE 20 (hdP h n p q ++ xs) = (0, 0) := by
  unfold rE
  rw [z_flg, if_neg (by omega), if_neg (by cases h.keep <;> decide)]
section
variable {h : Hd} {n : Nat} {p q : Int} {xs : List Int} {t : Nat}
theorem zt_len (hx : xs.length = n) (ht : t ≤ 20 + n) : ((hdP h n p q ++ xs).take t).length = t := by rw [List.length_take, z_len hx]; omega
theorem zt_first (ht : 1 ≤ t) : ((hdP h n p q ++ xs).take t).getD 0 0 = 69 := getD_take (by omega)
theorem zt_hdL (ht : 1 ≤ t) : hdL ((hdP h n p q ++ xs).take t) = 20 := by
  unfold hdL
  rw [zt_first ht]
  rfl
theorem zt_told (ht : 4 ≤ t) : told ((hdP h n p q ++ xs).take t) = 20 + n := by
  unfold told
  rw [num2_take (by omega)]
  exact z_told h n p q xs
theorem zt_bE (b : Bool) (hx : xs.length = n) (h20 : 20 ≤ t) (ht : t ≤ 20 + n) (hb : b = true → t = 20 + n) : bE b ((hdP h n p q ++ xs).take t) = (0, 0) := by
  unfold bE
  rw [if_neg (by rw [zt_len hx ht]; omega), if_neg (by rw [zt_first (by omega)]; decide), if_neg (by rw [zt_hdL (by omega)]; omega), if_neg (by
    rw [zt_len hx ht, zt_told (by omega), zt_hdL (by omega)]
    rintro (q | q)
    · omega
    · have := hb q.1
      omega), if_neg (by rw [zt_told (by omega), zt_hdL (by omega)]; omega)]
theorem zt_peek (hx : xs.length = n) (h20 : 20 ≤ t) (ht : t ≤ 20 + n) : pE false ((hdP h n p q ++ xs).take t) = (0, 0) := by
  have e := zt_bE (p := p) (q := q) (h := h) false hx h20 ht (fun q => absurd q (by decide))
  rw [pE_read (by rw [e]) (fun q => absurd q (by decide)), zt_hdL (by omega), rE_take h20, z_rE]
theorem zt_hd (h20 : 20 ≤ t) : hdOf ((hdP h n p q ++ xs).take t) = h := by rw [hdOf_take h20, z_hd]
theorem zt_body (h20 : 20 ≤ t) (ht : t ≤ 20 + n) : bodyOf ((hdP h n p q ++ xs).take t) = xs.take (t - 20) := by
  unfold bodyOf
  rw [zt_told (by omega), List.take_take, Nat.min_eq_right ht, List.drop_take, List.drop_append]
  rfl
end
/-- What an error about a packet embeds is that packet, with the first eight bytes of its body. -/
theorem err_body (h : Hd) (n : Nat) (xs : List Int) : hdR h n ++ xs.take 8 = (hdR h n ++ xs).take 28 := by
  rw [List.take_append]
  rfl
theorem err_inner {h : Hd} {n : Nat} {xs : List Int} (hx : xs.length = n) (hn : 8 ≤ n) : pE false (hdR h n ++ xs.take 8) = (0, 0) ∧ hdOf (hdR h n ++ xs.take 8) = h ∧ bodyOf (hdR h n ++ xs.take 8) = xs.take 8 := by
  rw [err_body]
  unfold hdR
  exact ⟨zt_peek hx (by omega) (by omega), zt_hd (by omega), zt_body (by omega) (by omega)⟩
theorem err_iE {m : Ms} {h : Hd} {n : Nat} {xs : List Int} (hc : clsV m = 1) (hx : xs.length = n) (hn : 8 ≤ n) : (iE m (hdR h n ++ xs.take 8)).2 = 0 := by
  obtain ⟨h1, h2, h3⟩ := err_inner (h := h) hx hn
  rw [iE_good hc (by rw [h1]) (by rw [h3, List.length_take]; omega)]
end Go.Proofs.YtbefoapnlehdmaaDoor

namespace Go.Proofs.YtbefoapnlehdmaaDoor
open Go.RowKit
set_option linter.unusedVariables false

/-- What the walk knows: the packet's box, the packet that is embedded. -/
structure KQ (w : World) (h : Hd) (A : Option Addr) (n c : Nat) (xs : List Int) (W : World) : Prop where
  kn : Kn w W
  p : PkAt W w.heap.size 60 h A n c
  rd : Rd .u8 W w.heap.size A n c xs
theorem KQ.step {w W V : World} {h : Hd} {A : Option Addr} {n c : Nat} {xs : List Int} (q : KQ w h A n c xs W) (hb : Below W.heap.size W V) : KQ w h A n c xs V := ⟨q.kn.step hb, q.p.step hb, q.rd.below hb q.kn.below.size⟩
theorem KQ.start {w : World} {h : Hd} {A : Option Addr} {n c : Nat} {xs : List Int} (hg : Laid w) (hr : Rd .u8 w w.heap.size A n c xs) : KQ w h A n c xs (w.alloc (.cells (pkC h A n c) 60)) := ⟨(Kn.start hg).alloc _, PkAt.new w 60 h A n c, hr.below (alloc_below _ _) (Nat.le_refl _)⟩
theorem errors_short_true (cd : Int) (h : Hd) (A : Option Addr) (n c : Nat) (xs : List Int) (w : World) (hg : Laid w) (hk : h.ok) (hcd : 0 ≤ cd ∧ cd ≤ 255) (hr : Rd .u8 w w.heap.size A n c xs) (hn : n < 8) : Calls Tryd.prog 6 #[.bool true, .int .u8 cd, pkV h A n c] w fun e w' => e = .returned (.bool true) ∧ Below w.heap.size w w' := by
  have q := KQ.start (h := h) hg hr
  have n1 : (n : Int) < 8 := by omega
  have hmax := Nat.le_trans hr.cap hr.max
  clear hr
  go_enter Tryd.func6, Tryd.ntmps6
  go_wp2_with (go_at_call 8; refine (alive_any _ q.kn.laid).mono ?_; rintro ev w1 ⟨rfl, hb⟩; replace q := q.step hb; clear hb; obtain ⟨a0, a1, a2, a3, a4, a5, a6, a7⟩ := q.p.cells)
  go_ret
  exact ⟨rfl, q.kn.below⟩
theorem errors_far_true (cd : Int) (h : Hd) (A : Option Addr) (n c : Nat) (xs : List Int) (w : World) (hg : Laid w) (hk : h.ok) (hcd : 0 ≤ cd ∧ cd ≤ 255) (hr : Rd .u8 w w.heap.size A n c xs) (hn : 3000 < n) : Calls Tryd.prog 6 #[.bool true, .int .u8 cd, pkV h A n c] w fun e w' => e = .returned (.bool true) ∧ Below w.heap.size w w' := by
  have q := KQ.start (h := h) hg hr
  have n1 : ¬ (n : Int) < 8 := by omega
  have n2 : (3000 : Int) < (n : Int) := by omega
  have hmax := Nat.le_trans hr.cap hr.max
  clear hr
  go_enter Tryd.func6, Tryd.ntmps6
  go_wp2_with (go_at_call 8; refine (alive_any _ q.kn.laid).mono ?_; rintro ev w1 ⟨rfl, hb⟩; replace q := q.step hb; clear hb; obtain ⟨a0, a1, a2, a3, a4, a5, a6, a7⟩ := q.p.cells)
  go_ret
  exact ⟨rfl, q.kn.below⟩
theorem errors_short_false (cd : Int) (h : Hd) (A : Option Addr) (n c : Nat) (xs : List Int) (w : World) (hg : Laid w) (hk : h.ok) (hcd : 0 ≤ cd ∧ cd ≤ 255) (hr : Rd .u8 w w.heap.size A n c xs) (hn : n < 8) : Calls Tryd.prog 6 #[.bool false, .int .u8 cd, pkV h A n c] w fun e w' => e = .returned (.bool true) ∧ Below w.heap.size w w' := by
  have q := KQ.start (h := h) hg hr
  have n1 : (n : Int) < 8 := by omega
  have hmax := Nat.le_trans hr.cap hr.max
  clear hr
  go_enter Tryd.func6, Tryd.ntmps6
  go_wp2_with (go_at_call 8; refine (alive_any _ q.kn.laid).mono ?_; rintro ev w1 ⟨rfl, hb⟩; replace q := q.step hb; clear hb; obtain ⟨a0, a1, a2, a3, a4, a5, a6, a7⟩ := q.p.cells)
  go_ret
  exact ⟨rfl, q.kn.below⟩
theorem errors_far_false (cd : Int) (h : Hd) (A : Option Addr) (n c : Nat) (xs : List Int) (w : World) (hg : Laid w) (hk : h.ok) (hcd : 0 ≤ cd ∧ cd ≤ 255) (hr : Rd .u8 w w.heap.size A n c xs) (hn : 3000 < n) : Calls Tryd.prog 6 #[.bool false, .int .u8 cd, pkV h A n c] w fun e w' => e = .returned (.bool true) ∧ Below w.heap.size w w' := by
  have q := KQ.start (h := h) hg hr
  have n1 : ¬ (n : Int) < 8 := by omega
  have n2 : (3000 : Int) < (n : Int) := by omega
  have hmax := Nat.le_trans hr.cap hr.max
  clear hr
  go_enter Tryd.func6, Tryd.ntmps6
  go_wp2_with (go_at_call 8; refine (alive_any _ q.kn.laid).mono ?_; rintro ev w1 ⟨rfl, hb⟩; replace q := q.step hb; clear hb; obtain ⟨a0, a1, a2, a3, a4, a5, a6, a7⟩ := q.p.cells)
  go_ret
  exact ⟨rfl, q.kn.below⟩
set_option maxRecDepth 100000 in
set_option maxHeartbeats 4000000 in
theorem errors_near_true (cd : Int) (h : Hd) (A : Option Addr) (n c : Nat) (xs : List Int) (w : World) (hg : Laid w) (hk : h.ok) (hcd : 0 ≤ cd ∧ cd ≤ 255) (hr : Rd .u8 w w.heap.size A n c xs) (h8 : 8 ≤ n) (hn : n ≤ 3000) : Calls Tryd.prog 6 #[.bool true, .int .u8 cd, pkV h A n c] w fun e w' => e = .returned (.bool true) ∧ Below w.heap.size w w' := by
  have q := KQ.start (h := h) hg hr
  have n1 : ¬ (n : Int) < 8 := by omega
  have n2 : ¬ (3000 : Int) < (n : Int) := by omega
  have hcap := hr.cap
  have hmax := hr.max
  have j8 : (8 : Int) ≤ (c : Int) := by omega
  have hl := hr.len
  have hwx := hr.2.2.2.1
  obtain ⟨hM, hMe⟩ : ∃ m : Ms, m = ⟨11, cd, 0, 0, 0, 0⟩ := ⟨_, rfl⟩
  have hMk : hM.ok := by subst hMe; exact ⟨by dsimp only; omega, hcd, by dsimp only; omega, by dsimp only; omega, by dsimp only; omega, by dsimp only; omega⟩
  have hMc : clsV hM = 1 := by subst hMe; rfl
  have hMd : (hM.cd == cd) = true := by subst hMe; simp
  obtain ⟨bd, hbd⟩ : ∃ b, hdR h n ++ xs.take 8 = b := ⟨_, rfl⟩
  have hbw : ∀ x ∈ bd, (Lit.int .u8 x).wf = true := by rw [← hbd]; exact fun x q => (List.mem_append.1 q).elim (hdR_wf hk (by omega) x) (fun q => hwx x (List.mem_of_mem_take q))
  have hbl : bd.length = 28 := by rw [← hbd, List.length_append, List.length_take, hl, hdR_len]; omega
  have hiE : (iE hM bd).2 = 0 := by rw [← hbd]; exact err_iE hMc hl h8
  obtain ⟨-, hhd, hbo⟩ := err_inner (h := h) (n := n) (xs := xs) hl h8
  rw [hbd] at hhd hbo
  have hx8 : (xs.take 8).length = 8 := by rw [List.length_take, hl]; omega
  have cE := Lib.hid (fun W (q : Rd .u8 W W.heap.size A n c xs) => by
    have := merror_any 11 cd h A n c 8 28 xs W hk q (by omega) (by omega) rfl
    rwa [hbd, ← hMe] at this)
  have cB := Lib.hid (fun W g (q : Row W g bd) => mbytes_near hM (some ⟨g, 0, none⟩) 28 28 36 bd W hMk (q.rdW hbl (by omega) hbw) (by omega) rfl)
  obtain ⟨zs, hzs⟩ : ∃ z, mR hM bd = z := ⟨_, rfl⟩
  have hzl : zs.length = 36 := by rw [← hzs, mR_len, hbl]
  have hzw : ∀ x ∈ zs, (Lit.int .u8 x).wf = true := by rw [← hzs]; exact mR_wf hMk hbw
  have cP := Lib.hid (fun W g (q : Row W g zs) => mparse_yes (m := 28) (q.rdW hzl (by omega) hzw) (by rw [← hzs, mR_mE hMk hbw (by omega)]) (by subst hzs; exact mR_hd bd) (by subst hzs; exact mR_body hM bd) rfl)
  have cI := Lib.hid (fun W g (q : Row W g bd) => inner_yes (q.rdW hbl (by omega) hbw) hiE hhd hbo hx8)
  have cC := Lib.hid (fun A n c W => by have := class_any hM A n c W; rwa [hMc] at this)
  rw [hzs] at cB
  have H8 := Lib.hid hx8
  have W8 : Hid (∀ x ∈ xs.take 8, (Lit.int .u8 x).wf = true) := Lib.hid (fun x q => hwx x (List.mem_of_mem_take q))
  have R8 := Lib.hid (fun W (q : Rd .u8 W w.heap.size A n c xs) => q.cutTo 8 h8)
  have HM := Lib.hid hMe
  clear hbd hbw hbl hiE hhd hbo hzs hzl hzw hMk hMc hl hwx hr hk hx8 hMe
  go_enter Tryd.func6, Tryd.ntmps6
  go_wp2_with (go_at_call 8; refine (alive_any _ q.kn.laid).mono ?_; rintro ev w1 ⟨rfl, hb⟩; replace q := q.step hb; clear hb; obtain ⟨a0, a1, a2, a3, a4, a5, a6, a7⟩ := q.p.cells)
  refine (cE.out _ (q.rd.more q.kn.below.size)).mono ?_
  rintro ev w2 ⟨gE, rfl, rE, -, hb⟩
  have ba := alloc_below w2 (.cells (msC hM (some ⟨gE, 0, none⟩) 28 28) 27)
  have m := MsAt.new w2 27 hM (some ⟨gE, 0, none⟩) 28 28
  replace rE := rE.below ba rE.lt
  replace hb := hb.trans (ba.mono hb.size)
  replace q := q.step hb
  clear hb ba cE a0 a1 a2 a3 a4 a5 a6 a7
  obtain ⟨a0, a1, a2, a3, a4, a5, a6⟩ := m.cells
  go_wp2_with fail
  refine (cB.out _ _ rE).mono ?_
  rintro ev w3 ⟨gB, rfl, rB, -, hb⟩
  replace q := q.step hb
  clear hb cB m rE a0 a1 a2 a3 a4 a5 a6
  go_wp2_with fail
  refine (cP.out _ _ rB).mono ?_
  rintro ev w4 ⟨gP, rfl, rP, -, hb⟩
  have ba := alloc_below w4 (.cells (msC hM (some ⟨gP, 0, none⟩) 28 28) 27)
  have x := MsAt.new w4 27 hM (some ⟨gP, 0, none⟩) 28 28
  replace rP := rP.below ba rP.lt
  replace hb := hb.trans (ba.mono hb.size)
  replace q := q.step hb
  clear hb ba cP rB
  obtain ⟨a0, a1, a2, a3, a4, a5, a6⟩ := x.cells
  go_wp2_with fail
  refine (cI.out _ _ rP).mono ?_
  rintro ev w5 ⟨g8, rfl, r8, -, hb⟩
  have ba := alloc_below w5 (.cells (pkC h (some ⟨g8, 0, none⟩) 8 8) 60)
  have e : Pp w5.heap.size h (some ⟨g8, 0, none⟩) 8 (xs.take 8) (w5.alloc (.cells (pkC h (some ⟨g8, 0, none⟩) 8 8) 60)) := Pp.new (r8.rdW H8.out (by omega) W8.out)
  replace hb := hb.trans (ba.mono hb.size)
  replace q := q.step hb
  replace x := x.step hb
  clear hb ba cI rP r8 a0 a1 a2 a3 a4 a5 a6
  obtain ⟨a0, a1, a2, a3, a4, a5, a6⟩ := x.cells
  go_wp2_with (go_at_call 19; refine (cC.out _ _ _ _).mono ?_; rintro ev w6 ⟨rfl, hb⟩; replace q := q.step hb; replace x := x.step hb; replace e := e.step hb; clear hb a0 a1 a2 a3 a4 a5 a6; obtain ⟨a0, a1, a2, a3, a4, a5, a6⟩ := x.cells)
  clear a0 a1 a2 a3 a4 a5 a6 x
  replace q := q.step (below_drew _)
  replace e := e.step (below_drew _)
  refine wp_region_held_drew (S := fun w' => (KQ w h A n c xs w' ∧ Pp w5.heap.size h (some ⟨g8, 0, none⟩) 8 (xs.take 8) w')) (by kernel_rfl) ⟨q, e⟩ (fun hHeld => ?_)
  clear hHeld
  change wpAnyH _ _ _ _ _ _ _ _ (World.drew _)
  generalize World.drew _ = U0 at *
  have hHeld := And.intro q e
  refine wpAnyH_at (i := 0) (some 73) (v := ?v0z1) rfl rfl (by kernel_rfl) (by kernel_rfl) (by kernel_rfl) (fun _ _ _ h => h) (Or.inl ⟨by rfl, ?y0z1⟩) (by assumption) ?r0z1
  case y0z1 =>
    intro w9 hSw
    clear hSw
    go_simp
    all_goals with_reducible rfl
  simp only [Act.put, List.setIfInBounds_toArray, List.set_cons_zero, List.set_cons_succ]
  refine wpAnyH_at (i := 1) (some 74) (v := ?v1z2) rfl rfl (by kernel_rfl) (by kernel_rfl) (by kernel_rfl) (fun _ _ _ h => h) (Or.inl ⟨by rfl, ?y1z2⟩) (by assumption) ?r1z2
  case y1z2 =>
    intro w9 hSw
    (obtain ⟨a0, a1, a2, a3, a4, a5, a6, a7⟩ := (show (KQ w h A n c xs w9 ∧ Pp w5.heap.size h (some ⟨g8, 0, none⟩) 8 (xs.take 8) w9) from hSw).2.p.cells); clear hSw
    go_simp
    all_goals with_reducible rfl
  simp only [Act.put, List.setIfInBounds_toArray, List.set_cons_zero, List.set_cons_succ]
  refine wpAnyH_at (i := 2) (some 75) (v := ?v2z3) rfl rfl (by kernel_rfl) (by kernel_rfl) (by kernel_rfl) (fun _ _ _ h => h) (Or.inl ⟨by rfl, ?y2z3⟩) (by assumption) ?r2z3
  case y2z3 =>
    intro w9 hSw
    clear hSw
    go_simp
    all_goals with_reducible rfl
  simp only [Act.put, List.setIfInBounds_toArray, List.set_cons_zero, List.set_cons_succ]
  refine wpAnyH_at (i := 3) (some 76) (v := ?v3z4) rfl rfl (by kernel_rfl) (by kernel_rfl) (by kernel_rfl) (fun _ _ _ h => h) (Or.inl ⟨by rfl, ?y3z4⟩) (by assumption) ?r3z4
  case y3z4 =>
    intro w9 hSw
    (obtain ⟨a0, a1, a2, a3, a4, a5, a6, a7⟩ := (show (KQ w h A n c xs w9 ∧ Pp w5.heap.size h (some ⟨g8, 0, none⟩) 8 (xs.take 8) w9) from hSw).1.p.cells); clear hSw
    go_simp
    all_goals with_reducible rfl
  simp only [Act.put, List.setIfInBounds_toArray, List.set_cons_zero, List.set_cons_succ]
  refine wpAnyH_at (i := 4) (some 77) (v := ?v4z5) rfl rfl (by kernel_rfl) (by kernel_rfl) (by kernel_rfl) (fun _ _ _ h => h) (Or.inl ⟨by rfl, ?y4z5⟩) (by assumption) ?r4z5
  case y4z5 =>
    intro w9 hSw
    clear hSw
    go_simp
    all_goals with_reducible rfl
  simp only [Act.put, List.setIfInBounds_toArray, List.set_cons_zero, List.set_cons_succ]
  refine wpAnyH_at (i := 5) (some 78) (v := ?v5z6) rfl rfl (by kernel_rfl) (by kernel_rfl) (by kernel_rfl) (fun _ _ _ h => h) (Or.inl ⟨by rfl, ?y5z6⟩) (by assumption) ?r5z6
  case y5z6 =>
    intro w9 hSw
    clear hSw
    go_simp
    all_goals with_reducible rfl
  simp only [Act.put, List.setIfInBounds_toArray, List.set_cons_zero, List.set_cons_succ]
  refine wpAnyH_at (i := 6) (some 79) (v := ?v6z7) rfl rfl (by kernel_rfl) (by kernel_rfl) (by kernel_rfl) (fun _ _ _ h => h) (Or.inl ⟨by rfl, ?y6z7⟩) (by assumption) ?r6z7
  case y6z7 =>
    intro w9 hSw
    clear hSw
    go_simp
    all_goals with_reducible rfl
  simp only [Act.put, List.setIfInBounds_toArray, List.set_cons_zero, List.set_cons_succ]
  refine wpAnyH_at (i := 7) (some 80) (v := ?v7z8) rfl rfl (by kernel_rfl) (by kernel_rfl) (by kernel_rfl) (fun _ _ _ h => h) (Or.inl ⟨by rfl, ?y7z8⟩) (by assumption) ?r7z8
  case y7z8 =>
    intro w9 hSw
    (obtain ⟨a0, a1, a2, a3, a4, a5, a6, a7⟩ := (show (KQ w h A n c xs w9 ∧ Pp w5.heap.size h (some ⟨g8, 0, none⟩) 8 (xs.take 8) w9) from hSw).2.p.cells); clear hSw
    go_simp
    all_goals with_reducible rfl
  simp only [Act.put, List.setIfInBounds_toArray, List.set_cons_zero, List.set_cons_succ]
  refine wpAnyH_at (i := 8) (some 81) (v := ?v8z9) rfl rfl (by kernel_rfl) (by kernel_rfl) (by kernel_rfl) (fun _ _ _ h => h) (Or.inl ⟨by rfl, ?y8z9⟩) (by assumption) ?r8z9
  case y8z9 =>
    intro w9 hSw
    clear hSw
    go_simp
    all_goals with_reducible rfl
  simp only [Act.put, List.setIfInBounds_toArray, List.set_cons_zero, List.set_cons_succ]
  refine wpAnyH_at (i := 9) (some 82) (v := ?v9z10) rfl rfl (by kernel_rfl) (by kernel_rfl) (by kernel_rfl) (fun _ _ _ h => h) (Or.inl ⟨by rfl, ?y9z10⟩) (by assumption) ?r9z10
  case y9z10 =>
    intro w9 hSw
    (obtain ⟨a0, a1, a2, a3, a4, a5, a6, a7⟩ := (show (KQ w h A n c xs w9 ∧ Pp w5.heap.size h (some ⟨g8, 0, none⟩) 8 (xs.take 8) w9) from hSw).1.p.cells); clear hSw
    go_simp
    all_goals with_reducible rfl
  simp only [Act.put, List.setIfInBounds_toArray, List.set_cons_zero, List.set_cons_succ]
  refine wpAnyH_at (i := 10) (some 83) (v := ?v10z11) rfl rfl (by kernel_rfl) (by kernel_rfl) (by kernel_rfl) (fun _ _ _ h => h) (Or.inl ⟨by rfl, ?y10z11⟩) (by assumption) ?r10z11
  case y10z11 =>
    intro w9 hSw
    clear hSw
    go_simp
    all_goals with_reducible rfl
  simp only [Act.put, List.setIfInBounds_toArray, List.set_cons_zero, List.set_cons_succ]
  refine wpAnyH_at (i := 11) (some 84) (v := ?v11z12) rfl rfl (by kernel_rfl) (by kernel_rfl) (by kernel_rfl) (fun _ _ _ h => h) (Or.inl ⟨by rfl, ?y11z12⟩) (by assumption) ?r11z12
  case y11z12 =>
    intro w9 hSw
    clear hSw
    go_simp
    all_goals with_reducible rfl
  simp only [Act.put, List.setIfInBounds_toArray, List.set_cons_zero, List.set_cons_succ]
  refine wpAnyH_at (i := 12) (some 85) (v := ?v12z13) rfl rfl (by kernel_rfl) (by kernel_rfl) (by kernel_rfl) (fun _ _ _ h => h) (Or.inl ⟨by rfl, ?y12z13⟩) (by assumption) ?r12z13
  case y12z13 =>
    intro w9 hSw
    clear hSw
    go_simp
    all_goals with_reducible rfl
  simp only [Act.put, List.setIfInBounds_toArray, List.set_cons_zero, List.set_cons_succ]
  refine wpAnyH_at (i := 13) (some 86) (v := ?v13z14) rfl rfl (by kernel_rfl) (by kernel_rfl) (by kernel_rfl) (fun _ _ _ h => h) (Or.inl ⟨by rfl, ?y13z14⟩) (by assumption) ?r13z14
  case y13z14 =>
    intro w9 hSw
    clear hSw
    go_simp
    all_goals with_reducible rfl
  simp only [Act.put, List.setIfInBounds_toArray, List.set_cons_zero, List.set_cons_succ]
  refine wpAnyH_at (i := 14) (some 87) (v := ?v14z15) rfl rfl (by kernel_rfl) (by kernel_rfl) (by kernel_rfl) (fun _ _ _ h => h) (Or.inl ⟨by rfl, ?y14z15⟩) (by assumption) ?r14z15
  case y14z15 =>
    intro w9 hSw
    (obtain ⟨a0, a1, a2, a3, a4, a5, a6, a7⟩ := (show (KQ w h A n c xs w9 ∧ Pp w5.heap.size h (some ⟨g8, 0, none⟩) 8 (xs.take 8) w9) from hSw).2.p.cells); clear hSw
    go_simp
    all_goals with_reducible rfl
  simp only [Act.put, List.setIfInBounds_toArray, List.set_cons_zero, List.set_cons_succ]
  refine wpAnyH_at (i := 15) (some 88) (v := ?v15z16) rfl rfl (by kernel_rfl) (by kernel_rfl) (by kernel_rfl) (fun _ _ _ h => h) (Or.inl ⟨by rfl, ?y15z16⟩) (by assumption) ?r15z16
  case y15z16 =>
    intro w9 hSw
    clear hSw
    go_simp
    all_goals with_reducible rfl
  simp only [Act.put, List.setIfInBounds_toArray, List.set_cons_zero, List.set_cons_succ]
  refine wpAnyH_at (i := 16) (some 89) (v := ?v16z17) rfl rfl (by kernel_rfl) (by kernel_rfl) (by kernel_rfl) (fun _ _ _ h => h) (Or.inl ⟨by rfl, ?y16z17⟩) (by assumption) ?r16z17
  case y16z17 =>
    intro w9 hSw
    (obtain ⟨a0, a1, a2, a3, a4, a5, a6, a7⟩ := (show (KQ w h A n c xs w9 ∧ Pp w5.heap.size h (some ⟨g8, 0, none⟩) 8 (xs.take 8) w9) from hSw).1.p.cells); clear hSw
    go_simp
    all_goals with_reducible rfl
  simp only [Act.put, List.setIfInBounds_toArray, List.set_cons_zero, List.set_cons_succ]
  refine wpAnyH_at (i := 17) (some 90) (v := ?v17z18) rfl rfl (by kernel_rfl) (by kernel_rfl) (by kernel_rfl) (fun _ _ _ h => h) (Or.inl ⟨by rfl, ?y17z18⟩) (by assumption) ?r17z18
  case y17z18 =>
    intro w9 hSw
    clear hSw
    go_simp
    all_goals with_reducible rfl
  simp only [Act.put, List.setIfInBounds_toArray, List.set_cons_zero, List.set_cons_succ]
  refine wpAnyH_at (i := 18) (some 91) (v := ?v18z19) rfl rfl (by kernel_rfl) (by kernel_rfl) (by kernel_rfl) (fun _ _ _ h => h) (Or.inl ⟨by rfl, ?y18z19⟩) (by assumption) ?r18z19
  case y18z19 =>
    intro w9 hSw
    clear hSw
    go_simp
    all_goals with_reducible rfl
  simp only [Act.put, List.setIfInBounds_toArray, List.set_cons_zero, List.set_cons_succ]
  refine wpAnyH_at (i := 19) (some 92) (v := ?v19z20) rfl rfl (by kernel_rfl) (by kernel_rfl) (by kernel_rfl) (fun _ _ _ h => h) (Or.inl ⟨by rfl, ?y19z20⟩) (by assumption) ?r19z20
  case y19z20 =>
    intro w9 hSw
    clear hSw
    go_simp
    all_goals with_reducible rfl
  simp only [Act.put, List.setIfInBounds_toArray, List.set_cons_zero, List.set_cons_succ]
  refine wpAnyH_at (i := 20) (some 93) (v := ?v20z21) rfl rfl (by kernel_rfl) (by kernel_rfl) (by kernel_rfl) (fun _ _ _ h => h) (Or.inl ⟨by rfl, ?y20z21⟩) (by assumption) ?r20z21
  case y20z21 =>
    intro w9 hSw
    clear hSw
    go_simp
    all_goals with_reducible rfl
  simp only [Act.put, List.setIfInBounds_toArray, List.set_cons_zero, List.set_cons_succ]
  refine wpAnyH_at (i := 21) (some 94) (v := ?v21z22) rfl rfl (by kernel_rfl) (by kernel_rfl) (by kernel_rfl) (fun _ _ _ h => h) (Or.inl ⟨by rfl, ?y21z22⟩) (by assumption) ?r21z22
  case y21z22 =>
    intro w9 hSw
    (obtain ⟨a0, a1, a2, a3, a4, a5, a6, a7⟩ := (show (KQ w h A n c xs w9 ∧ Pp w5.heap.size h (some ⟨g8, 0, none⟩) 8 (xs.take 8) w9) from hSw).2.p.cells); clear hSw
    go_simp
    all_goals with_reducible rfl
  simp only [Act.put, List.setIfInBounds_toArray, List.set_cons_zero, List.set_cons_succ]
  refine wpAnyH_at (i := 22) (some 95) (v := ?v22z23) rfl rfl (by kernel_rfl) (by kernel_rfl) (by kernel_rfl) (fun _ _ _ h => h) (Or.inl ⟨by rfl, ?y22z23⟩) (by assumption) ?r22z23
  case y22z23 =>
    intro w9 hSw
    clear hSw
    go_simp
    all_goals with_reducible rfl
  simp only [Act.put, List.setIfInBounds_toArray, List.set_cons_zero, List.set_cons_succ]
  refine wpAnyH_at (i := 23) (some 96) (v := ?v23z24) rfl rfl (by kernel_rfl) (by kernel_rfl) (by kernel_rfl) (fun _ _ _ h => h) (Or.inl ⟨by rfl, ?y23z24⟩) (by assumption) ?r23z24
  case y23z24 =>
    intro w9 hSw
    (obtain ⟨a0, a1, a2, a3, a4, a5, a6, a7⟩ := (show (KQ w h A n c xs w9 ∧ Pp w5.heap.size h (some ⟨g8, 0, none⟩) 8 (xs.take 8) w9) from hSw).1.p.cells); clear hSw
    go_simp
    all_goals with_reducible rfl
  simp only [Act.put, List.setIfInBounds_toArray, List.set_cons_zero, List.set_cons_succ]
  refine wpAnyH_at (i := 24) (some 97) (v := ?v24z25) rfl rfl (by kernel_rfl) (by kernel_rfl) (by kernel_rfl) (fun _ _ _ h => h) (Or.inl ⟨by rfl, ?y24z25⟩) (by assumption) ?r24z25
  case y24z25 =>
    intro w9 hSw
    clear hSw
    go_simp
    all_goals with_reducible rfl
  simp only [Act.put, List.setIfInBounds_toArray, List.set_cons_zero, List.set_cons_succ]
  refine wpAnyH_at (i := 25) (some 98) (v := ?v25z26) rfl rfl (by kernel_rfl) (by kernel_rfl) (by kernel_rfl) (fun _ _ _ h => h) (Or.inl ⟨by rfl, ?y25z26⟩) (by assumption) ?r25z26
  case y25z26 =>
    intro w9 hSw
    clear hSw
    go_simp
    all_goals with_reducible rfl
  simp only [Act.put, List.setIfInBounds_toArray, List.set_cons_zero, List.set_cons_succ]
  refine wpAnyH_at (i := 26) (some 99) (v := ?v26z27) rfl rfl (by kernel_rfl) (by kernel_rfl) (by kernel_rfl) (fun _ _ _ h => h) (Or.inl ⟨by rfl, ?y26z27⟩) (by assumption) ?r26z27
  case y26z27 =>
    intro w9 hSw
    clear hSw
    go_simp
    all_goals with_reducible rfl
  simp only [Act.put, List.setIfInBounds_toArray, List.set_cons_zero, List.set_cons_succ]
  refine wpAnyH_at (i := 27) (some 100) (v := ?v27z28) rfl rfl (by kernel_rfl) (by kernel_rfl) (by kernel_rfl) (fun _ _ _ h => h) (Or.inl ⟨by rfl, ?y27z28⟩) (by assumption) ?r27z28
  case y27z28 =>
    intro w9 hSw
    clear hSw
    go_simp
    all_goals with_reducible rfl
  simp only [Act.put, List.setIfInBounds_toArray, List.set_cons_zero, List.set_cons_succ]
  refine wpAnyH_at (i := 28) (some 101) (v := ?v28z29) rfl rfl (by kernel_rfl) (by kernel_rfl) (by kernel_rfl) (fun _ _ _ h => h) (Or.inl ⟨by rfl, ?y28z29⟩) (by assumption) ?r28z29
  case y28z29 =>
    intro w9 hSw
    (obtain ⟨a0, a1, a2, a3, a4, a5, a6, a7⟩ := (show (KQ w h A n c xs w9 ∧ Pp w5.heap.size h (some ⟨g8, 0, none⟩) 8 (xs.take 8) w9) from hSw).2.p.cells); clear hSw
    go_simp
    all_goals with_reducible rfl
  simp only [Act.put, List.setIfInBounds_toArray, List.set_cons_zero, List.set_cons_succ]
  refine wpAnyH_at (i := 29) (some 102) (v := ?v29z30) rfl rfl (by kernel_rfl) (by kernel_rfl) (by kernel_rfl) (fun _ _ _ h => h) (Or.inl ⟨by rfl, ?y29z30⟩) (by assumption) ?r29z30
  case y29z30 =>
    intro w9 hSw
    clear hSw
    go_simp
    all_goals with_reducible rfl
  simp only [Act.put, List.setIfInBounds_toArray, List.set_cons_zero, List.set_cons_succ]
  refine wpAnyH_at (i := 30) (some 103) (v := ?v30z31) rfl rfl (by kernel_rfl) (by kernel_rfl) (by kernel_rfl) (fun _ _ _ h => h) (Or.inl ⟨by rfl, ?y30z31⟩) (by assumption) ?r30z31
  case y30z31 =>
    intro w9 hSw
    (obtain ⟨a0, a1, a2, a3, a4, a5, a6, a7⟩ := (show (KQ w h A n c xs w9 ∧ Pp w5.heap.size h (some ⟨g8, 0, none⟩) 8 (xs.take 8) w9) from hSw).1.p.cells); clear hSw
    go_simp
    all_goals with_reducible rfl
  simp only [Act.put, List.setIfInBounds_toArray, List.set_cons_zero, List.set_cons_succ]
  refine wpAnyH_at (i := 31) (some 104) (v := ?v31z32) rfl rfl (by kernel_rfl) (by kernel_rfl) (by kernel_rfl) (fun _ _ _ h => h) (Or.inl ⟨by rfl, ?y31z32⟩) (by assumption) ?r31z32
  case y31z32 =>
    intro w9 hSw
    clear hSw
    go_simp
    all_goals with_reducible rfl
  simp only [Act.put, List.setIfInBounds_toArray, List.set_cons_zero, List.set_cons_succ]
  refine wpAnyH_at (i := 32) (some 105) (v := ?v32z33) rfl rfl (by kernel_rfl) (by kernel_rfl) (by kernel_rfl) (fun _ _ _ h => h) (Or.inl ⟨by rfl, ?y32z33⟩) (by assumption) ?r32z33
  case y32z33 =>
    intro w9 hSw
    clear hSw
    go_simp
    all_goals with_reducible rfl
  simp only [Act.put, List.setIfInBounds_toArray, List.set_cons_zero, List.set_cons_succ]
  refine wpAnyH_at (i := 33) (some 106) (v := ?v33z34) rfl rfl (by kernel_rfl) (by kernel_rfl) (by kernel_rfl) (fun _ _ _ h => h) (Or.inl ⟨by rfl, ?y33z34⟩) (by assumption) ?r33z34
  case y33z34 =>
    intro w9 hSw
    clear hSw
    go_simp
    all_goals with_reducible rfl
  simp only [Act.put, List.setIfInBounds_toArray, List.set_cons_zero, List.set_cons_succ]
  refine wpAnyH_at (i := 34) (some 107) (v := ?v34z35) rfl rfl (by kernel_rfl) (by kernel_rfl) (by kernel_rfl) (fun _ _ _ h => h) (Or.inl ⟨by rfl, ?y34z35⟩) (by assumption) ?r34z35
  case y34z35 =>
    intro w9 hSw
    clear hSw
    go_simp
    all_goals with_reducible rfl
  simp only [Act.put, List.setIfInBounds_toArray, List.set_cons_zero, List.set_cons_succ]
  refine wpAnyH_at (i := 35) (some 108) (v := ?v35z36) rfl rfl (by kernel_rfl) (by kernel_rfl) (by kernel_rfl) (fun _ _ _ h => h) (Or.inl ⟨by rfl, ?y35z36⟩) (by assumption) ?r35z36
  case y35z36 =>
    intro w9 hSw
    (obtain ⟨a0, a1, a2, a3, a4, a5, a6, a7⟩ := (show (KQ w h A n c xs w9 ∧ Pp w5.heap.size h (some ⟨g8, 0, none⟩) 8 (xs.take 8) w9) from hSw).2.p.cells); clear hSw
    go_simp
    all_goals with_reducible rfl
  simp only [Act.put, List.setIfInBounds_toArray, List.set_cons_zero, List.set_cons_succ]
  refine wpAnyH_at (i := 36) (some 109) (v := ?v36z37) rfl rfl (by kernel_rfl) (by kernel_rfl) (by kernel_rfl) (fun _ _ _ h => h) (Or.inl ⟨by rfl, ?y36z37⟩) (by assumption) ?r36z37
  case y36z37 =>
    intro w9 hSw
    clear hSw
    go_simp
    all_goals with_reducible rfl
  simp only [Act.put, List.setIfInBounds_toArray, List.set_cons_zero, List.set_cons_succ]
  refine wpAnyH_at (i := 37) (some 110) (v := ?v37z38) rfl rfl (by kernel_rfl) (by kernel_rfl) (by kernel_rfl) (fun _ _ _ h => h) (Or.inl ⟨by rfl, ?y37z38⟩) (by assumption) ?r37z38
  case y37z38 =>
    intro w9 hSw
    (obtain ⟨a0, a1, a2, a3, a4, a5, a6, a7⟩ := (show (KQ w h A n c xs w9 ∧ Pp w5.heap.size h (some ⟨g8, 0, none⟩) 8 (xs.take 8) w9) from hSw).1.p.cells); clear hSw
    go_simp
    all_goals with_reducible rfl
  simp only [Act.put, List.setIfInBounds_toArray, List.set_cons_zero, List.set_cons_succ]
  refine wpAnyH_at (i := 38) (some 111) (v := ?v38z39) rfl rfl (by kernel_rfl) (by kernel_rfl) (by kernel_rfl) (fun _ _ _ h => h) (Or.inl ⟨by rfl, ?y38z39⟩) (by assumption) ?r38z39
  case y38z39 =>
    intro w9 hSw
    clear hSw
    go_simp
    all_goals with_reducible rfl
  simp only [Act.put, List.setIfInBounds_toArray, List.set_cons_zero, List.set_cons_succ]
  refine wpAnyH_at (i := 39) (some 112) (v := ?v39z40) rfl rfl (by kernel_rfl) (by kernel_rfl) (by kernel_rfl) (fun _ _ _ h => h) (Or.inl ⟨by rfl, ?y39z40⟩) (by assumption) ?r39z40
  case y39z40 =>
    intro w9 hSw
    clear hSw
    go_simp
    all_goals with_reducible rfl
  simp only [Act.put, List.setIfInBounds_toArray, List.set_cons_zero, List.set_cons_succ]
  refine wpAnyH_at (i := 40) (some 113) (v := ?v40z41) rfl rfl (by kernel_rfl) (by kernel_rfl) (by kernel_rfl) (fun _ _ _ h => h) (Or.inl ⟨by rfl, ?y40z41⟩) (by assumption) ?r40z41
  case y40z41 =>
    intro w9 hSw
    clear hSw
    go_simp
    all_goals with_reducible rfl
  simp only [Act.put, List.setIfInBounds_toArray, List.set_cons_zero, List.set_cons_succ]
  refine wpAnyH_at (i := 41) (some 114) (v := ?v41z42) rfl rfl (by kernel_rfl) (by kernel_rfl) (by kernel_rfl) (fun _ _ _ h => h) (Or.inl ⟨by rfl, ?y41z42⟩) (by assumption) ?r41z42
  case y41z42 =>
    intro w9 hSw
    clear hSw
    go_simp
    all_goals with_reducible rfl
  simp only [Act.put, List.setIfInBounds_toArray, List.set_cons_zero, List.set_cons_succ]
  refine wpAnyH_at (i := 42) (some 115) (v := ?v42z43) rfl rfl (by kernel_rfl) (by kernel_rfl) (by kernel_rfl) (fun _ _ _ h => h) (Or.inl ⟨by rfl, ?y42z43⟩) (by assumption) ?r42z43
  case y42z43 =>
    intro w9 hSw
    (obtain ⟨a0, a1, a2, a3, a4, a5, a6, a7⟩ := (show (KQ w h A n c xs w9 ∧ Pp w5.heap.size h (some ⟨g8, 0, none⟩) 8 (xs.take 8) w9) from hSw).2.p.cells); clear hSw
    go_simp
    all_goals with_reducible rfl
  simp only [Act.put, List.setIfInBounds_toArray, List.set_cons_zero, List.set_cons_succ]
  refine wpAnyH_at (i := 43) (some 116) (v := ?v43z44) rfl rfl (by kernel_rfl) (by kernel_rfl) (by kernel_rfl) (fun _ _ _ h => h) (Or.inl ⟨by rfl, ?y43z44⟩) (by assumption) ?r43z44
  case y43z44 =>
    intro w9 hSw
    clear hSw
    go_simp
    all_goals with_reducible rfl
  simp only [Act.put, List.setIfInBounds_toArray, List.set_cons_zero, List.set_cons_succ]
  refine wpAnyH_at (i := 44) (some 117) (v := ?v44z45) rfl rfl (by kernel_rfl) (by kernel_rfl) (by kernel_rfl) (fun _ _ _ h => h) (Or.inl ⟨by rfl, ?y44z45⟩) (by assumption) ?r44z45
  case y44z45 =>
    intro w9 hSw
    (obtain ⟨a0, a1, a2, a3, a4, a5, a6, a7⟩ := (show (KQ w h A n c xs w9 ∧ Pp w5.heap.size h (some ⟨g8, 0, none⟩) 8 (xs.take 8) w9) from hSw).1.p.cells); clear hSw
    go_simp
    all_goals with_reducible rfl
  simp only [Act.put, List.setIfInBounds_toArray, List.set_cons_zero, List.set_cons_succ]
  refine wpAnyH_at (i := 45) (some 118) (v := ?v45z46) rfl rfl (by kernel_rfl) (by kernel_rfl) (by kernel_rfl) (fun _ _ _ h => h) (Or.inl ⟨by rfl, ?y45z46⟩) (by assumption) ?r45z46
  case y45z46 =>
    intro w9 hSw
    clear hSw
    go_simp
    all_goals with_reducible rfl
  simp only [Act.put, List.setIfInBounds_toArray, List.set_cons_zero, List.set_cons_succ]
  refine wpAnyH_one (i := 46) (by kernel_rfl) rfl ?_
  have s := same_any _ _ _ _ _ _ (xs.take 8) _ _ U0 e.r (R8.out _ q.rd)
  go_wp2_with (go_at_call 15; refine (s).mono ?_; rintro ev U1 ⟨rfl, hb⟩)
  replace q := q.step hb
  replace e := e.step hb
  clear hb hHeld s
  have hHeld := And.intro q e
  refine ⟨hHeld, ?_⟩
  try simp only [Act.put, List.setIfInBounds_toArray, List.set_cons_zero, List.set_cons_succ]
  refine wpAnyH_at (i := 47) (some 120) (v := ?v47z47) rfl rfl (by kernel_rfl) (by kernel_rfl) (by kernel_rfl) (fun _ _ _ h => h) (Or.inl ⟨by rfl, ?y47z47⟩) (by assumption) ?r47z47
  case y47z47 =>
    intro w9 hSw
    clear hSw
    go_simp
    all_goals with_reducible rfl
  simp only [Act.put, List.setIfInBounds_toArray, List.set_cons_zero, List.set_cons_succ]
  refine wpAnyH_at (i := 48) (some 6) (v := ?v48z48) rfl rfl (by kernel_rfl) (by kernel_rfl) (by kernel_rfl) (fun _ _ _ h => h) (Or.inl ⟨by rfl, ?y48z48⟩) (by assumption) ?r48z48
  case y48z48 =>
    intro w9 hSw
    clear hSw
    go_simp
    all_goals with_reducible rfl
  simp only [Act.put, List.setIfInBounds_toArray, List.set_cons_zero, List.set_cons_succ]
  refine wpAnyH_done (by kernel_rfl) ?_ _
  go_wp2
  go_ret
  exact ⟨rfl, q.kn.below⟩
end Go.Proofs.YtbefoapnlehdmaaDoor
