/-
  Contracts of the document's Head and Bytes.
-/
import Derived.Test.YtbefoapnlehdmaaDoorRApp
import Derived.Test.YtbefoapnlehdmaaDoorSRefs
import Derived.Test.YtbefoapnlehdmaaDoorRefF
namespace Go.Proofs.YtbefoapnlehdmaaDoor
open Go.RowKit

theorem refNew_at (r e : Int) (hwf : (Lit.int .i64 r).wf = true) (hr : isR r = true) (he : ¬ e = 0) (w : World) : Calls Tryd.prog 38 #[.int .i64 r, .int .i64 e] w (GivesF w none [r] e) := by
  have := refNew_any r e w hwf
  rwa [if_neg (by simp [he, hr]), if_neg (by simp [he, hr])] at this
@[reducible] def flC (A : Option Addr) (n c : Nat) (e : Int) : Array Value := #[.slice A n c, .int .i64 e]
theorem flC_one (A : Option Addr) (n c : Nat) (e : Int) : (flC A n c e).all (·.oneCell') = true := by simp [Value.oneCell']
theorem Rd.other {k : IntKind} {w w' : World} {g B : Nat} {A : Option Addr} {n c : Nat} {xs : List Int} (h : Rd k w B A n c xs) (ho : ∀ j, j ≠ g → w'.heap[j]? = w.heap[j]?) (hg : A = none ∨ ∃ ad, A = some ad ∧ ad.block ≠ g) : Rd k w' B A n c xs :=
  ⟨h.1, h.2.1, h.2.2.1, h.2.2.2.1, fun i hi => by
    obtain ⟨b, o', e, hb, hc⟩ := h.2.2.2.2 i hi
    refine ⟨b, o', e, hb, ?_⟩
    rcases hg with hg | ⟨ad, hg, hne⟩
    · rw [hg] at e; cases e
    · rw [e] at hg
      injection hg with hg
      subst hg
      exact (World.cell?_of_block (a := ⟨b, o' + i, none⟩) (ho b hne)).trans hc⟩
/-- What the walk knows: the packet's box. -/
structure SB (w : World) (h : Hd) (A : Option Addr) (n c : Nat) (W : World) : Prop where
  pk : PkAt W w.heap.size 63 h A n c
  below : Below w.heap.size w W
  sz : w.heap.size + 1 ≤ W.heap.size
section
variable {w W V : World} {h : Hd} {A : Option Addr} {n c B : Nat}
theorem SB.low (q : SB w h A n c W) (hB : w.heap.size + 1 ≤ B) (hb : Below B W V) : SB w h A n c V := ⟨q.pk.below hb (by omega), q.below.trans (hb.mono (by omega)), Nat.le_trans q.sz hb.size⟩
theorem SB.step (q : SB w h A n c W) (hb : Below W.heap.size W V) : SB w h A n c V := q.low q.sz hb
end
theorem SB.start (h : Hd) (A : Option Addr) (n c : Nat) (w : World) : SB w h A n c (w.alloc (.cells (pkC h A n c) 63)) := ⟨PkAt.new w 63 h A n c, alloc_below _ _, by simp⟩
/-- The sum's place makes no difference to the sum. -/
theorem S_pad (a b : List Int) (h : a.length % 2 = 0) : S (a ++ ([0, 0] ++ b)) = S (a ++ b) := by
  rw [S_append a _ h, S_append a b h, S_append [0, 0] b rfl]
  have : S [0, 0] = 0 := by decide
  omega
theorem totV_pad {a b : List Int} (ha : Byts a) (hb : Byts b) (h : a.length % 2 = 0) : totV (a ++ ([0, 0] ++ b)) = totV (a ++ b) := by
  have h0 : Byts [0, 0] := fun x hx => by simp at hx; omega
  rw [totV_red (ha.app (h0.app hb)), totV_red (ha.app hb), S_pad a b h]
/-- A head's first ten bytes. -/
def hdX (h : Hd) (n : Nat) : List Int := [69, h.tos, (20 + (n : Int)) / 256, (20 + (n : Int)) % 256, h.id / 256, h.id % 256, (if h.keep then 64 else 0), 0, h.ttl, h.proto]
theorem hdP_split (h : Hd) (n : Nat) (p q : Int) : hdP h n p q = hdX h n ++ ([p, q] ++ (four h.src ++ four h.dst)) := rfl
theorem hd_sum {h : Hd} {n : Nat} (hk : h.ok) (hn : n ≤ 65515) : 65535 - totV (hdX h n ++ (four h.src ++ four h.dst)) = hdS h n := by
  have hw := hdP_wf (p := 0) (q := 0) hk hn (by omega) (by omega)
  rw [hdP_split] at hw
  unfold hdS
  rw [hdP_split, totV_pad (byts_of fun x hx => hw x (List.mem_append.2 (.inl hx))) (byts_of fun x hx => hw x (List.mem_append.2 (.inr (List.mem_append.2 (.inr hx))))) (show (hdX h n).length % 2 = 0 by simp [hdX])]
theorem wf2 {a b : Int} (ha : 0 ≤ a ∧ a ≤ 255) (hb : 0 ≤ b ∧ b ≤ 255) : ∀ x ∈ [a, b], (Lit.int .u8 x).wf = true := fun x hx => by
  simp only [List.mem_cons, List.not_mem_nil, or_false] at hx
  rcases hx with rfl | rfl
  · exact u8_mk ha
  · exact u8_mk hb
theorem Row.apart {w w' : World} {g : Nat} {xs : List Int} {B : Nat} {A0 : Option Addr} {n0 c0 : Nat} (h : Row w g xs) (hg0 : B ≤ g) (ho : Old B A0) (hg : w.grownBy w' (Value.slice A0 n0 c0).ownBlock) : Row w' g xs := by
  refine (hg.block g h.lt ?_).trans h
  intro q
  rcases ho with rfl | ⟨ad, rfl, q'⟩
  · cases q
  · have : g = ad.block := by simpa [Value.ownBlock] using q
    omega

set_option maxRecDepth 100000 in
set_option maxHeartbeats 4000000 in
theorem refHead_plain (h : Hd) (A : Option Addr) (n c : Nat) (k s : Int) (w : World) (hk : h.ok) (hkp : h.keep = false) (hn : n ≤ 65515) (hkn : (20 : Int) + (n : Int) = k) (hs : 65535 - totV ((((([69, h.tos] ++ two2 k) ++ two2 h.id) ++ two2 0) ++ [h.ttl, h.proto]) ++ (four h.src ++ four h.dst)) = s) (hsb : 0 ≤ s ∧ s ≤ 65535) :
    Calls Tryd.prog 53 #[pkV h A n c] w fun ev w' => ∃ A' n' c', ev = .returned (.slice A' n' c') ∧ Out .u8 5 w' w.heap.size A' n' c' (((((([69, h.tos] ++ two2 k) ++ two2 h.id) ++ two2 0) ++ [h.ttl, h.proto]) ++ two2 s) ++ (four h.src ++ four h.dst)) ∧ Below w.heap.size w w' := by
  have st := SB.start h A n c w
  have n1 : ¬ (65515 : Int) < (n : Int) := by omega
  have k0 : 0 ≤ k ∧ k ≤ 65535 := by omega
  have e1 : IntKind.i64.wrap k = k := by rw [IntKind.wrap_i64]; omega
  have e2 : IntKind.i64.wrap h.id = h.id := by rw [IntKind.wrap_i64]; have := hk.id; omega
  have e3 : IntKind.i64.wrap s = s := by rw [IntKind.wrap_i64]; omega
  have Hs := Lib.hid hs
  have Hk := Lib.hid hkp
  have HK := Lib.hid hk
  have w1_ := Lib.hid (wf2 (show 0 ≤ (69 : Int) ∧ (69 : Int) ≤ 255 by omega) hk.tos)
  have w2_ := Lib.hid (wf2 hk.ttl hk.proto)
  clear hs hkp hk
  obtain ⟨a0, a1, a2, a3, a4, a5, a6, a7⟩ := st.pk.cells
  go_enter Tryd.func53, Tryd.ntmps53
  go_wp2_with fail
  clear a0 a1 a2 a3 a4 a5 a6 a7
  go_cut [3] from 11 to 19 (fun x3 wc => ∃ A1 n1 c1, x3 = .slice A1 n1 c1 ∧ SB w h A n c wc ∧ Out .u8 5 wc (w.heap.size + 1) A1 n1 c1 ([69, h.tos] ++ two2 k))
  case first =>
    refine wp_region_held_drew (S := fun w' => SB w h A n c w') (by kernel_rfl) (st.step (below_drew _)) (fun hHeld => ?_)
    replace st := st.step (below_drew _)
    generalize (w.alloc (.cells (pkC h A n c) 63)).drew = W0 at *
    refine wpAnyH_at (i := 0) (some 11) (v := ?v0z1) rfl rfl (by kernel_rfl) (by kernel_rfl) (by kernel_rfl) (fun _ _ _ h => h) (Or.inl ⟨by rfl, ?y0z1⟩) (by assumption) ?r0z1
    case y0z1 =>
      intro w9 hSw
      clear hSw
      go_simp
      all_goals with_reducible rfl
    simp only [Act.put, List.setIfInBounds_toArray, List.set_cons_zero, List.set_cons_succ]
    refine wpAnyH_at (i := 1) (some 12) (v := ?v1z2) rfl rfl (by kernel_rfl) (by kernel_rfl) (by kernel_rfl) (fun _ _ _ h => h) (Or.inl ⟨by rfl, ?y1z2⟩) (by assumption) ?r1z2
    case y1z2 =>
      intro w9 hSw
      (obtain ⟨a0, a1, a2, a3, a4, a5, a6, a7⟩ := (show SB w h A n c w9 from hSw).pk.cells); clear hSw
      go_simp
      all_goals with_reducible rfl
    simp only [Act.put, List.setIfInBounds_toArray, List.set_cons_zero, List.set_cons_succ]
    refine wpAnyH_at (i := 3) (some 14) (v := ?v3z3) rfl rfl (by kernel_rfl) (by kernel_rfl) (by kernel_rfl) (fun _ _ _ h => h) (Or.inl ⟨by rfl, ?y3z3⟩) (by assumption) ?r3z3
    case y3z3 =>
      intro w9 hSw
      clear hSw
      go_simp
      all_goals with_reducible rfl
    simp only [Act.put, List.setIfInBounds_toArray, List.set_cons_zero, List.set_cons_succ]
    refine wpAnyH_at (i := 4) (some 15) (v := ?v4z4) rfl rfl (by kernel_rfl) (by kernel_rfl) (by kernel_rfl) (fun _ _ _ h => h) (Or.inl ⟨by rfl, ?y4z4⟩) (by assumption) ?r4z4
    case y4z4 =>
      intro w9 hSw
      (obtain ⟨a0, a1, a2, a3, a4, a5, a6, a7⟩ := (show SB w h A n c w9 from hSw).pk.cells); clear hSw
      go_simp
      all_goals with_reducible rfl
    simp only [Act.put, List.setIfInBounds_toArray, List.set_cons_zero, List.set_cons_succ]
    refine wpAnyH_at (i := 5) (some 16) (v := ?v5z5) rfl rfl (by kernel_rfl) (by kernel_rfl) (by kernel_rfl) (fun _ _ _ h => h) (Or.inl ⟨by rfl, ?y5z5⟩) (by assumption) ?r5z5
    case y5z5 =>
      intro w9 hSw
      clear hSw
      go_simp
      all_goals with_reducible rfl
    simp only [Act.put, List.setIfInBounds_toArray, List.set_cons_zero, List.set_cons_succ]
    refine wpAnyH_at (i := 6) (some 17) (v := ?v6z6) rfl rfl (by kernel_rfl) (by kernel_rfl) (by kernel_rfl) (fun _ _ _ h => h) (Or.inl ⟨by rfl, ?y6z6⟩) (by assumption) ?r6z6
    case y6z6 =>
      intro w9 hSw
      clear hSw
      go_simp
      all_goals with_reducible rfl
    simp only [Act.put, List.setIfInBounds_toArray, List.set_cons_zero, List.set_cons_succ]
    refine wpAnyH_two (i := 2) (j := 7) (by kernel_rfl) rfl rfl ?_ ?_
    · have rl : Row (W0.alloc (.cells #[.int .u8 69, .int .u8 h.tos] 5)) W0.heap.size [69, h.tos] := heap_alloc_new W0 _
      have gl := st.sz
      have bl := alloc_below W0 (.cells #[.int .u8 69, .int .u8 h.tos] 5)
      replace st := st.step bl
      clear hHeld bl
      have hHeld := st
      go_wp2
      refine ⟨hHeld, ?_⟩
      change wpAnyH _ _ _ _ _ _ _ _ (W0.alloc (.cells #[.int .u8 69, .int .u8 h.tos] 5))
      generalize W0.alloc (.cells #[.int .u8 69, .int .u8 h.tos] 5) = W1 at *
      generalize W0.heap.size = gL at *
      try simp only [Act.put, List.setIfInBounds_toArray, List.set_cons_zero, List.set_cons_succ]
      refine wpAnyH_one (i := 7) (by kernel_rfl) rfl ?_
      go_wp2_with (go_at_call 68; refine (refTwo_any k _ k0).mono ?_; rintro e W2 ⟨gT, rfl, rt, -, bt⟩)
      replace st := st.step bt
      replace rl := rl.below bt rl.lt
      clear bt
      clear hHeld
      have hHeld := st
      refine ⟨hHeld, ?_⟩
      try simp only [Act.put, List.setIfInBounds_toArray, List.set_cons_zero, List.set_cons_succ]
      have ol := rl.own (n := 2) gl rfl (by omega) w1_.out
      refine wpAnyH_one (i := 8) (by kernel_rfl) rfl ?_
      refine wpList_appD (some 19) rfl rfl (.tmp 13) (.tmp 18) 22 rfl (w.heap.size + 1) Tryd.underlying22 info5 (by omega) (some ⟨gL, 0, none⟩) 2 2 [69, h.tos] rfl ol (some ⟨gT, 0, none⟩) 2 2 _ (two2 k) rfl (rt.rdW (n := 2) rfl (by omega) (two2_wf k0)) (by omega) st.sz ?_
      intro A1 n1 c1 W3 oN hgr
      replace st := st.low (Nat.le_refl _) (grown_low ol hgr st.sz)
      clear hgr ol hHeld
      have hHeld := st
      go_wp2
      refine ⟨hHeld, ?_⟩
      try simp only [Act.put, List.setIfInBounds_toArray, List.set_cons_zero, List.set_cons_succ]
      refine wpAnyH_at (i := 9) (some 3) (v := ?v9z7) rfl rfl (by kernel_rfl) (by kernel_rfl) (by kernel_rfl) (fun _ _ _ h => h) (Or.inl ⟨by rfl, ?y9z7⟩) (by assumption) ?r9z7
      case y9z7 =>
        intro w9 hSw
        clear hSw
        go_simp
        all_goals with_reducible rfl
      simp only [Act.put, List.setIfInBounds_toArray, List.set_cons_zero, List.set_cons_succ]
      refine wpAnyH_done (by kernel_rfl) ?_ _
      go_wp2_with fail
      go_meet
      case rel => exact ⟨_, _, _, rfl, st, oN⟩
    · go_wp2_with (go_at_call 68; refine (refTwo_any k _ k0).mono ?_; rintro e W1 ⟨gT, rfl, rt, -, bt⟩)
      replace st := st.step bt
      clear bt
      clear hHeld
      have hHeld := st
      refine ⟨hHeld, ?_⟩
      try simp only [Act.put, List.setIfInBounds_toArray, List.set_cons_zero, List.set_cons_succ]
      refine wpAnyH_one (i := 2) (by kernel_rfl) rfl ?_
      have rl : Row (W1.alloc (.cells #[.int .u8 69, .int .u8 h.tos] 5)) W1.heap.size [69, h.tos] := heap_alloc_new W1 _
      have gl := st.sz
      have bl := alloc_below W1 (.cells #[.int .u8 69, .int .u8 h.tos] 5)
      replace st := st.step bl
      replace rt := rt.below bl rt.lt
      clear hHeld bl
      have hHeld := st
      go_wp2
      refine ⟨hHeld, ?_⟩
      change wpAnyH _ _ _ _ _ _ _ _ (W1.alloc (.cells #[.int .u8 69, .int .u8 h.tos] 5))
      generalize W1.alloc (.cells #[.int .u8 69, .int .u8 h.tos] 5) = W2 at *
      generalize W1.heap.size = gL at *
      try simp only [Act.put, List.setIfInBounds_toArray, List.set_cons_zero, List.set_cons_succ]
      have ol := rl.own (n := 2) gl rfl (by omega) w1_.out
      refine wpAnyH_one (i := 8) (by kernel_rfl) rfl ?_
      refine wpList_appD (some 19) rfl rfl (.tmp 13) (.tmp 18) 22 rfl (w.heap.size + 1) Tryd.underlying22 info5 (by omega) (some ⟨gL, 0, none⟩) 2 2 [69, h.tos] rfl ol (some ⟨gT, 0, none⟩) 2 2 _ (two2 k) rfl (rt.rdW (n := 2) rfl (by omega) (two2_wf k0)) (by omega) st.sz ?_
      intro A1 n1 c1 W3 oN hgr
      replace st := st.low (Nat.le_refl _) (grown_low ol hgr st.sz)
      clear hgr ol hHeld
      have hHeld := st
      go_wp2
      refine ⟨hHeld, ?_⟩
      try simp only [Act.put, List.setIfInBounds_toArray, List.set_cons_zero, List.set_cons_succ]
      refine wpAnyH_at (i := 9) (some 3) (v := ?v9z8) rfl rfl (by kernel_rfl) (by kernel_rfl) (by kernel_rfl) (fun _ _ _ h => h) (Or.inl ⟨by rfl, ?y9z8⟩) (by assumption) ?r9z8
      case y9z8 =>
        intro w9 hSw
        clear hSw
        go_simp
        all_goals with_reducible rfl
      simp only [Act.put, List.setIfInBounds_toArray, List.set_cons_zero, List.set_cons_succ]
      refine wpAnyH_done (by kernel_rfl) ?_ _
      go_wp2_with fail
      go_meet
      case rel => exact ⟨_, _, _, rfl, st, oN⟩
  case rest =>
    obtain ⟨A1, n1, c1, rfl, st, o1⟩ := hcut
    obtain rfl : n1 = 4 := by have := o1.len; simpa [two2] using this.symm
    obtain ⟨a0, a1, a2, a3, a4, a5, a6, a7⟩ := st.pk.cells
    go_wp2_with fail
    refine (refTwo_any h.id _ HK.out.id).mono ?_
    rintro ev w2 ⟨gT, rfl, rt, -, hb⟩
    replace st := st.step hb
    replace o1 := o1.below hb (Nat.le_refl _)
    have rr := rt.rdW (n := 2) rfl (by omega) (two2_wf HK.out.id)
    clear a0 a1 a2 a3 a4 a5 a6 a7
    clear hb rt
    go_wp2_with (at_builtin; refine wpList_app rfl (.tmp 20) (.tmp 24) 22 rfl (w.heap.size + 1) Tryd.underlying22 info5 (by omega) A1 4 c1 ([69, h.tos] ++ two2 k) rfl o1 (some ⟨gT, 0, none⟩) 2 2 _ (two2 h.id) rfl rr (by omega) st.sz ?_; intro A2 n2 c2 w3 o2 hgr; replace st := st.low (Nat.le_refl _) (grown_low o1 hgr st.sz); clear o1 rr hgr; (obtain ⟨a0, a1, a2, a3, a4, a5, a6, a7⟩ := st.pk.cells); rw [Hk.out] at a2)
    obtain rfl : n2 = 6 := by have := o2.len; simpa [two2] using this.symm
    clear a0 a1 a2 a3 a4 a5 a6 a7
    go_cut [3] from 28 to 37 (fun x3 wc => ∃ A1 n1 c1, x3 = .slice A1 n1 c1 ∧ SB w h A n c wc ∧ Out .u8 5 wc (w.heap.size + 1) A1 n1 c1 (((([69, h.tos] ++ two2 k) ++ two2 h.id) ++ two2 0) ++ [h.ttl, h.proto]))
    case first =>
      refine wp_region_held_drew (S := fun w' => SB w h A n c w') (by kernel_rfl) (st.step (below_drew _)) (fun hHeld => ?_)
      replace st := st.step (below_drew _)
      replace o2 := o2.below (below_drew _) (Nat.le_refl _)
      generalize w3.drew = W0 at *
      refine wpAnyH_at (i := 0) (some 28) (v := ?v0z9) rfl rfl (by kernel_rfl) (by kernel_rfl) (by kernel_rfl) (fun _ _ _ h => h) (Or.inl ⟨by rfl, ?y0z9⟩) (by assumption) ?r0z9
      case y0z9 =>
        intro w9 hSw
        clear hSw
        go_simp
        all_goals with_reducible rfl
      simp only [Act.put, List.setIfInBounds_toArray, List.set_cons_zero, List.set_cons_succ]
      refine wpAnyH_at (i := 1) (some 29) (v := ?v1z10) rfl rfl (by kernel_rfl) (by kernel_rfl) (by kernel_rfl) (fun _ _ _ h => h) (Or.inl ⟨by rfl, ?y1z10⟩) (by assumption) ?r1z10
      case y1z10 =>
        intro w9 hSw
        clear hSw
        go_simp
        all_goals with_reducible rfl
      simp only [Act.put, List.setIfInBounds_toArray, List.set_cons_zero, List.set_cons_succ]
      refine wpAnyH_at (i := 4) (some 32) (v := ?v4z11) rfl rfl (by kernel_rfl) (by kernel_rfl) (by kernel_rfl) (fun _ _ _ h => h) (Or.inl ⟨by rfl, ?y4z11⟩) (by assumption) ?r4z11
      case y4z11 =>
        intro w9 hSw
        clear hSw
        go_simp
        all_goals with_reducible rfl
      simp only [Act.put, List.setIfInBounds_toArray, List.set_cons_zero, List.set_cons_succ]
      refine wpAnyH_at (i := 5) (some 33) (v := ?v5z12) rfl rfl (by kernel_rfl) (by kernel_rfl) (by kernel_rfl) (fun _ _ _ h => h) (Or.inl ⟨by rfl, ?y5z12⟩) (by assumption) ?r5z12
      case y5z12 =>
        intro w9 hSw
        (obtain ⟨a0, a1, a2, a3, a4, a5, a6, a7⟩ := (show SB w h A n c w9 from hSw).pk.cells); clear hSw
        go_simp
        all_goals with_reducible rfl
      simp only [Act.put, List.setIfInBounds_toArray, List.set_cons_zero, List.set_cons_succ]
      refine wpAnyH_at (i := 6) (some 34) (v := ?v6z13) rfl rfl (by kernel_rfl) (by kernel_rfl) (by kernel_rfl) (fun _ _ _ h => h) (Or.inl ⟨by rfl, ?y6z13⟩) (by assumption) ?r6z13
      case y6z13 =>
        intro w9 hSw
        clear hSw
        go_simp
        all_goals with_reducible rfl
      simp only [Act.put, List.setIfInBounds_toArray, List.set_cons_zero, List.set_cons_succ]
      refine wpAnyH_at (i := 7) (some 35) (v := ?v7z14) rfl rfl (by kernel_rfl) (by kernel_rfl) (by kernel_rfl) (fun _ _ _ h => h) (Or.inl ⟨by rfl, ?y7z14⟩) (by assumption) ?r7z14
      case y7z14 =>
        intro w9 hSw
        (obtain ⟨a0, a1, a2, a3, a4, a5, a6, a7⟩ := (show SB w h A n c w9 from hSw).pk.cells); clear hSw
        go_simp
        all_goals with_reducible rfl
      simp only [Act.put, List.setIfInBounds_toArray, List.set_cons_zero, List.set_cons_succ]
      refine wpAnyH_two (i := 2) (j := 8) (by kernel_rfl) rfl rfl ?_ ?_
      · go_wp2_with (go_at_call 68; refine (refTwo_any 0 _ (by omega)).mono ?_; rintro e W1 ⟨gT, rfl, rt, -, bt⟩)
        replace st := st.step bt
        replace o2 := o2.below bt (Nat.le_refl _)
        clear bt
        clear hHeld
        have hHeld := st
        refine ⟨hHeld, ?_⟩
        try simp only [Act.put, List.setIfInBounds_toArray, List.set_cons_zero, List.set_cons_succ]
        refine wpAnyH_two (i := 3) (j := 8) (by kernel_rfl) rfl rfl ?_ ?_
        · refine wpList_appD (some 31) rfl rfl (.tmp 28) (.tmp 30) 22 rfl (w.heap.size + 1) Tryd.underlying22 info5 (by omega) A2 6 c2 (([69, h.tos] ++ two2 k) ++ two2 h.id) rfl o2 (some ⟨gT, 0, none⟩) 2 2 _ (two2 0) rfl (rt.rdW (n := 2) rfl (by omega) (two2_wf (by omega))) (by omega) st.sz ?_
          intro A3 n3 c3 W2 o3 hgr
          replace st := st.low (Nat.le_refl _) (grown_low o2 hgr st.sz)
          clear hgr o2 hHeld
          have hHeld := st
          go_wp2
          refine ⟨hHeld, ?_⟩
          try simp only [Act.put, List.setIfInBounds_toArray, List.set_cons_zero, List.set_cons_succ]
          obtain rfl : n3 = 8 := by have := o3.len; simpa [two2] using this.symm
          refine wpAnyH_one (i := 8) (by kernel_rfl) rfl ?_
          have rl : Row (W2.alloc (.cells #[.int .u8 h.ttl, .int .u8 h.proto] 5)) W2.heap.size [h.ttl, h.proto] := heap_alloc_new W2 _
          have gl := st.sz
          have bl := alloc_below W2 (.cells #[.int .u8 h.ttl, .int .u8 h.proto] 5)
          replace st := st.step bl
          replace o3 := o3.below bl (Nat.le_refl _)
          clear hHeld bl
          have hHeld := st
          go_wp2
          refine ⟨hHeld, ?_⟩
          change wpAnyH _ _ _ _ _ _ _ _ (W2.alloc (.cells #[.int .u8 h.ttl, .int .u8 h.proto] 5))
          generalize W2.alloc (.cells #[.int .u8 h.ttl, .int .u8 h.proto] 5) = W3 at *
          generalize W2.heap.size = gL at *
          try simp only [Act.put, List.setIfInBounds_toArray, List.set_cons_zero, List.set_cons_succ]
          refine wpAnyH_one (i := 9) (by kernel_rfl) rfl ?_
          refine wpList_appD (some 37) rfl rfl (.tmp 31) (.tmp 36) 22 rfl (w.heap.size + 1) Tryd.underlying22 info5 (by omega) A3 8 c3 ((([69, h.tos] ++ two2 k) ++ two2 h.id) ++ two2 0) rfl o3 (some ⟨gL, 0, none⟩) 2 2 _ [h.ttl, h.proto] rfl (rl.rdW (n := 2) rfl (by omega) w2_.out) (by omega) st.sz ?_
          intro A4 n4 c4 W4 oN hgr
          replace st := st.low (Nat.le_refl _) (grown_low o3 hgr st.sz)
          clear hgr o3 hHeld
          have hHeld := st
          go_wp2
          refine ⟨hHeld, ?_⟩
          try simp only [Act.put, List.setIfInBounds_toArray, List.set_cons_zero, List.set_cons_succ]
          refine wpAnyH_at (i := 10) (some 3) (v := ?v10z15) rfl rfl (by kernel_rfl) (by kernel_rfl) (by kernel_rfl) (fun _ _ _ h => h) (Or.inl ⟨by rfl, ?y10z15⟩) (by assumption) ?r10z15
          case y10z15 =>
            intro w9 hSw
            clear hSw
            go_simp
            all_goals with_reducible rfl
          simp only [Act.put, List.setIfInBounds_toArray, List.set_cons_zero, List.set_cons_succ]
          refine wpAnyH_done (by kernel_rfl) ?_ _
          go_wp2_with fail
          go_meet
          case rel => exact ⟨_, _, _, rfl, st, oN⟩
        · have ol2 := o2.old
          have rl : Row (W1.alloc (.cells #[.int .u8 h.ttl, .int .u8 h.proto] 5)) W1.heap.size [h.ttl, h.proto] := heap_alloc_new W1 _
          have gl := st.sz
          have bl := alloc_below W1 (.cells #[.int .u8 h.ttl, .int .u8 h.proto] 5)
          replace st := st.step bl
          replace o2 := o2.below bl (Nat.le_refl _)
          replace rt := rt.below bl rt.lt
          clear hHeld bl
          have hHeld := st
          go_wp2
          refine ⟨hHeld, ?_⟩
          change wpAnyH _ _ _ _ _ _ _ _ (W1.alloc (.cells #[.int .u8 h.ttl, .int .u8 h.proto] 5))
          generalize W1.alloc (.cells #[.int .u8 h.ttl, .int .u8 h.proto] 5) = W2 at *
          generalize W1.heap.size = gL at *
          try simp only [Act.put, List.setIfInBounds_toArray, List.set_cons_zero, List.set_cons_succ]
          refine wpAnyH_one (i := 3) (by kernel_rfl) rfl ?_
          refine wpList_appD (some 31) rfl rfl (.tmp 28) (.tmp 30) 22 rfl (w.heap.size + 1) Tryd.underlying22 info5 (by omega) A2 6 c2 (([69, h.tos] ++ two2 k) ++ two2 h.id) rfl o2 (some ⟨gT, 0, none⟩) 2 2 _ (two2 0) rfl (rt.rdW (n := 2) rfl (by omega) (two2_wf (by omega))) (by omega) st.sz ?_
          intro A3 n3 c3 W3 o3 hgr
          replace st := st.low (Nat.le_refl _) (grown_low o2 hgr st.sz)
          replace rl := rl.apart (Nat.le_refl _) ol2 hgr
          clear hgr o2 hHeld
          have hHeld := st
          go_wp2
          refine ⟨hHeld, ?_⟩
          try simp only [Act.put, List.setIfInBounds_toArray, List.set_cons_zero, List.set_cons_succ]
          obtain rfl : n3 = 8 := by have := o3.len; simpa [two2] using this.symm
          refine wpAnyH_one (i := 9) (by kernel_rfl) rfl ?_
          refine wpList_appD (some 37) rfl rfl (.tmp 31) (.tmp 36) 22 rfl (w.heap.size + 1) Tryd.underlying22 info5 (by omega) A3 8 c3 ((([69, h.tos] ++ two2 k) ++ two2 h.id) ++ two2 0) rfl o3 (some ⟨gL, 0, none⟩) 2 2 _ [h.ttl, h.proto] rfl (rl.rdW (n := 2) rfl (by omega) w2_.out) (by omega) st.sz ?_
          intro A4 n4 c4 W4 oN hgr
          replace st := st.low (Nat.le_refl _) (grown_low o3 hgr st.sz)
          clear hgr o3 hHeld
          have hHeld := st
          go_wp2
          refine ⟨hHeld, ?_⟩
          try simp only [Act.put, List.setIfInBounds_toArray, List.set_cons_zero, List.set_cons_succ]
          refine wpAnyH_at (i := 10) (some 3) (v := ?v10z16) rfl rfl (by kernel_rfl) (by kernel_rfl) (by kernel_rfl) (fun _ _ _ h => h) (Or.inl ⟨by rfl, ?y10z16⟩) (by assumption) ?r10z16
          case y10z16 =>
            intro w9 hSw
            clear hSw
            go_simp
            all_goals with_reducible rfl
          simp only [Act.put, List.setIfInBounds_toArray, List.set_cons_zero, List.set_cons_succ]
          refine wpAnyH_done (by kernel_rfl) ?_ _
          go_wp2_with fail
          go_meet
          case rel => exact ⟨_, _, _, rfl, st, oN⟩
      · have ol2 := o2.old
        have rl : Row (W0.alloc (.cells #[.int .u8 h.ttl, .int .u8 h.proto] 5)) W0.heap.size [h.ttl, h.proto] := heap_alloc_new W0 _
        have gl := st.sz
        have bl := alloc_below W0 (.cells #[.int .u8 h.ttl, .int .u8 h.proto] 5)
        replace st := st.step bl
        replace o2 := o2.below bl (Nat.le_refl _)
        clear hHeld bl
        have hHeld := st
        go_wp2
        refine ⟨hHeld, ?_⟩
        change wpAnyH _ _ _ _ _ _ _ _ (W0.alloc (.cells #[.int .u8 h.ttl, .int .u8 h.proto] 5))
        generalize W0.alloc (.cells #[.int .u8 h.ttl, .int .u8 h.proto] 5) = W1 at *
        generalize W0.heap.size = gL at *
        try simp only [Act.put, List.setIfInBounds_toArray, List.set_cons_zero, List.set_cons_succ]
        refine wpAnyH_one (i := 2) (by kernel_rfl) rfl ?_
        go_wp2_with (go_at_call 68; refine (refTwo_any 0 _ (by omega)).mono ?_; rintro e W2 ⟨gT, rfl, rt, -, bt⟩)
        replace st := st.step bt
        replace o2 := o2.below bt (Nat.le_refl _)
        replace rl := rl.below bt rl.lt
        clear bt
        clear hHeld
        have hHeld := st
        refine ⟨hHeld, ?_⟩
        try simp only [Act.put, List.setIfInBounds_toArray, List.set_cons_zero, List.set_cons_succ]
        refine wpAnyH_one (i := 3) (by kernel_rfl) rfl ?_
        refine wpList_appD (some 31) rfl rfl (.tmp 28) (.tmp 30) 22 rfl (w.heap.size + 1) Tryd.underlying22 info5 (by omega) A2 6 c2 (([69, h.tos] ++ two2 k) ++ two2 h.id) rfl o2 (some ⟨gT, 0, none⟩) 2 2 _ (two2 0) rfl (rt.rdW (n := 2) rfl (by omega) (two2_wf (by omega))) (by omega) st.sz ?_
        intro A3 n3 c3 W3 o3 hgr
        replace st := st.low (Nat.le_refl _) (grown_low o2 hgr st.sz)
        replace rl := rl.apart (Nat.le_refl _) ol2 hgr
        clear hgr o2 hHeld
        have hHeld := st
        go_wp2
        refine ⟨hHeld, ?_⟩
        try simp only [Act.put, List.setIfInBounds_toArray, List.set_cons_zero, List.set_cons_succ]
        obtain rfl : n3 = 8 := by have := o3.len; simpa [two2] using this.symm
        refine wpAnyH_one (i := 9) (by kernel_rfl) rfl ?_
        refine wpList_appD (some 37) rfl rfl (.tmp 31) (.tmp 36) 22 rfl (w.heap.size + 1) Tryd.underlying22 info5 (by omega) A3 8 c3 ((([69, h.tos] ++ two2 k) ++ two2 h.id) ++ two2 0) rfl o3 (some ⟨gL, 0, none⟩) 2 2 _ [h.ttl, h.proto] rfl (rl.rdW (n := 2) rfl (by omega) w2_.out) (by omega) st.sz ?_
        intro A4 n4 c4 W4 oN hgr
        replace st := st.low (Nat.le_refl _) (grown_low o3 hgr st.sz)
        clear hgr o3 hHeld
        have hHeld := st
        go_wp2
        refine ⟨hHeld, ?_⟩
        try simp only [Act.put, List.setIfInBounds_toArray, List.set_cons_zero, List.set_cons_succ]
        refine wpAnyH_at (i := 10) (some 3) (v := ?v10z17) rfl rfl (by kernel_rfl) (by kernel_rfl) (by kernel_rfl) (fun _ _ _ h => h) (Or.inl ⟨by rfl, ?y10z17⟩) (by assumption) ?r10z17
        case y10z17 =>
          intro w9 hSw
          clear hSw
          go_simp
          all_goals with_reducible rfl
        simp only [Act.put, List.setIfInBounds_toArray, List.set_cons_zero, List.set_cons_succ]
        refine wpAnyH_done (by kernel_rfl) ?_ _
        go_wp2_with fail
        go_meet
        case rel => exact ⟨_, _, _, rfl, st, oN⟩
    case rest =>
      obtain ⟨A4, n4, c4, rfl, st, o4⟩ := hcut
      obtain rfl : n4 = 10 := by have := o4.len; simpa [two2] using this.symm
      go_wp2_with fail
      refine wp_region_held_drew (S := fun w' => SB w h A n c w') (by kernel_rfl) (st.step (below_drew _)) (fun hHeld => ?_)
      replace st := st.step (below_drew _)
      replace o4 := o4.below (below_drew _) (Nat.le_refl _)
      have old4 := o4.old
      change wpAnyH _ _ _ _ _ _ _ _ (World.drew _)
      generalize World.drew _ = W4 at *
      have hB1 := st.sz
      refine wpAnyH_at (i := 0) (some 38) (v := ?v0z18) rfl rfl (by kernel_rfl) (by kernel_rfl) (by kernel_rfl) (fun _ _ _ h => h) (Or.inl ⟨by rfl, ?y0z18⟩) (by assumption) ?r0z18
      case y0z18 =>
        intro w9 hSw
        clear hSw
        go_simp
        all_goals with_reducible rfl
      simp only [Act.put, List.setIfInBounds_toArray, List.set_cons_zero, List.set_cons_succ]
      refine wpAnyH_at (i := 1) (some 39) (v := ?v1z19) rfl rfl (by kernel_rfl) (by kernel_rfl) (by kernel_rfl) (fun _ _ _ h => h) (Or.inl ⟨by rfl, ?y1z19⟩) (by assumption) ?r1z19
      case y1z19 =>
        intro w9 hSw
        (obtain ⟨a0, a1, a2, a3, a4, a5, a6, a7⟩ := (show SB w h A n c w9 from hSw).pk.cells); clear hSw
        go_simp
        all_goals with_reducible rfl
      simp only [Act.put, List.setIfInBounds_toArray, List.set_cons_zero, List.set_cons_succ]
      refine wpAnyH_at (i := 3) (some 41) (v := ?v3z20) rfl rfl (by kernel_rfl) (by kernel_rfl) (by kernel_rfl) (fun _ _ _ h => h) (Or.inl ⟨by rfl, ?y3z20⟩) (by assumption) ?r3z20
      case y3z20 =>
        intro w9 hSw
        clear hSw
        go_simp
        all_goals with_reducible rfl
      simp only [Act.put, List.setIfInBounds_toArray, List.set_cons_zero, List.set_cons_succ]
      refine wpAnyH_at (i := 4) (some 42) (v := ?v4z21) rfl rfl (by kernel_rfl) (by kernel_rfl) (by kernel_rfl) (fun _ _ _ h => h) (Or.inl ⟨by rfl, ?y4z21⟩) (by assumption) ?r4z21
      case y4z21 =>
        intro w9 hSw
        (obtain ⟨a0, a1, a2, a3, a4, a5, a6, a7⟩ := (show SB w h A n c w9 from hSw).pk.cells); clear hSw
        go_simp
        all_goals with_reducible rfl
      simp only [Act.put, List.setIfInBounds_toArray, List.set_cons_zero, List.set_cons_succ]
      refine wpAnyH_one (i := 2) (by kernel_rfl) rfl ?_
      go_wp2_with (go_at_call 69; refine (four_any h.src _ HK.out.src).mono ?_; rintro e W5 ⟨gS, rfl, rs, gs, bt⟩)
      replace st := st.step bt
      replace o4 := o4.below bt (Nat.le_refl _)
      have b45 := bt.size
      clear bt
      clear hHeld
      have hHeld := st
      refine ⟨hHeld, ?_⟩
      try simp only [Act.put, List.setIfInBounds_toArray, List.set_cons_zero, List.set_cons_succ]
      refine wpAnyH_one (i := 5) (by kernel_rfl) rfl ?_
      go_wp2_with (go_at_call 69; refine (four_any h.dst _ HK.out.dst).mono ?_; rintro e W6 ⟨gD, rfl, rd, -, bt⟩)
      replace st := st.step bt
      replace o4 := o4.below bt (Nat.le_refl _)
      replace rs := rs.below bt rs.lt
      have b46 := Nat.le_trans b45 bt.size
      clear bt
      clear hHeld
      have hHeld := st
      refine ⟨hHeld, ?_⟩
      try simp only [Act.put, List.setIfInBounds_toArray, List.set_cons_zero, List.set_cons_succ]
      refine wpAnyH_one (i := 6) (by kernel_rfl) rfl ?_
      have os := rs.own (n := 4) gs rfl (by omega) (four_wf HK.out.src)
      refine wpList_appD (some 44) rfl rfl (.tmp 40) (.tmp 43) 22 rfl W4.heap.size Tryd.underlying22 info5 (by omega) (some ⟨gS, 0, none⟩) 4 4 (four h.src) rfl os (some ⟨gD, 0, none⟩) 4 4 _ (four h.dst) rfl (rd.rdW (n := 4) rfl (by omega) (four_wf HK.out.dst)) (by omega) b46 ?_
      intro A5 n5 c5 W7 o5 hgr
      have b7 := grown_low os hgr b46
      replace st := st.low hB1 b7
      replace o4 := o4.keepLow old4 b7
      obtain rfl : n5 = 8 := by have := o5.len; simpa [four] using this.symm
      have b47 := Nat.le_trans b46 b7.size
      clear hgr os hHeld b7 rs rd gs b45 b46
      have hHeld := st
      go_wp2
      refine ⟨hHeld, ?_⟩
      try simp only [Act.put, List.setIfInBounds_toArray, List.set_cons_zero, List.set_cons_succ]
      refine wpAnyH_at (i := 7) (some 5) (v := ?v7z22) rfl rfl (by kernel_rfl) (by kernel_rfl) (by kernel_rfl) (fun _ _ _ h => h) (Or.inl ⟨by rfl, ?y7z22⟩) (by assumption) ?r7z22
      case y7z22 =>
        intro w9 hSw
        clear hSw
        go_simp
        all_goals with_reducible rfl
      simp only [Act.put, List.setIfInBounds_toArray, List.set_cons_zero, List.set_cons_succ]
      refine wpAnyH_done (by kernel_rfl) ?_ _
      clear hHeld
      have ba := alloc_below W7 (.cells #[] 5)
      have o0 := Out.lit0 .u8 5 W7 W7.heap.size (Nat.le_refl _)
      have st8 := st.step ba
      have o48 := o4.below ba (Nat.le_refl _)
      have o58 := o5.below ba (Nat.le_refl _)
      have ol4 := o4.old
      have ol5 := o5.old
      have b7 := ba.size
      have s7 := st.sz
      clear ba st o4 o5
      go_wp2_with (first
        | (at_builtin; refine wpList_app rfl (.tmp 45) (.tmp 46) 22 rfl W7.heap.size Tryd.underlying22 info5 (by omega) (some ⟨W7.heap.size, 0, none⟩) 0 0 [] rfl o0 A4 10 c4 _ (((([69, h.tos] ++ two2 k) ++ two2 h.id) ++ two2 0) ++ [h.ttl, h.proto]) rfl o48.rd (by omega) b7 ?_; intro A8 n8 c8 w8 o8 hgr; have b8 := grown_low o0 hgr b7; have st9 := st8.low s7 b8; have o49 := o48.keepLow ol4 b8; have o59 := o58.keepLow ol5 b8; have l8 : n8 ≤ 10 := by (have := o8.len; simp [two2] at this; omega))
        | (at_builtin; refine wpList_app rfl (.tmp 47) (.tmp 48) 22 rfl W7.heap.size Tryd.underlying22 info5 (by omega) A8 n8 c8 ([] ++ (((([69, h.tos] ++ two2 k) ++ two2 h.id) ++ two2 0) ++ [h.ttl, h.proto])) rfl o8 A5 8 c5 _ (four h.src ++ four h.dst) rfl o59.rd (by omega) (Nat.le_trans b7 b8.size) ?_; intro A9 n9 c9 w9 o9 hgr'; have b9 := grown_low o8 hgr' (Nat.le_trans b7 b8.size); have st10 := st9.low s7 b9; have o410 := o49.keepLow ol4 b9; have o510 := o59.keepLow ol5 b9; have l9 : n9 ≤ 18 := by (have := o9.len; simp [two2, four] at this; omega)))
      have cs := refSumOf_any A9 n9 c9 _ _ _ o9.rd (by omega)
      rw [List.nil_append, Hs.out] at cs
      refine cs.mono ?_
      rintro ev w10 ⟨rfl, rfl⟩
      clear cs st8 o48 o58 o0 hgr b8 st9 o49 o59 o8 hgr' b9 o9
      go_wp2_with fail
      refine (refTwo_any s _ hsb).mono ?_
      rintro ev w11 ⟨gT, rfl, rt, -, hb⟩
      have st11 := st10.step hb
      have o411 := o410.below hb (Nat.le_refl _)
      have o511 := o510.below hb (Nat.le_refl _)
      have rr := rt.rdW (n := 2) rfl (by omega) (two2_wf hsb)
      clear hb rt st10 o410 o510
      go_wp2_with (first
        | (at_builtin; refine wpList_app rfl (.tmp 51) (.tmp 54) 22 rfl (w.heap.size + 1) Tryd.underlying22 info5 (by omega) A4 10 c4 (((([69, h.tos] ++ two2 k) ++ two2 h.id) ++ two2 0) ++ [h.ttl, h.proto]) rfl o411 (some ⟨gT, 0, none⟩) 2 2 _ (two2 s) rfl rr (by omega) st11.sz ?_; intro A12 n12 c12 w12 o12 hgr; have st12 := st11.low (Nat.le_refl _) (grown_low o411 hgr st11.sz); have o512 := o511.apart (Nat.le_refl _) old4 hgr; have l12 : n12 ≤ 12 := by (have := o12.len; simp [two2] at this; omega))
        | (at_builtin; refine wpList_app rfl (.tmp 55) (.tmp 56) 22 rfl (w.heap.size + 1) Tryd.underlying22 info5 (by omega) A12 n12 c12 ((((([69, h.tos] ++ two2 k) ++ two2 h.id) ++ two2 0) ++ [h.ttl, h.proto]) ++ two2 s) rfl o12 A5 8 c5 _ (four h.src ++ four h.dst) rfl o512.rd (by omega) st12.sz ?_; intro A13 n13 c13 w13 o13 hgr'; have st13 := st12.low (Nat.le_refl _) (grown_low o12 hgr' st12.sz)))
      go_ret
      exact ⟨A13, n13, c13, rfl, o13.rebase (by omega), st13.below⟩

set_option maxRecDepth 100000 in
set_option maxHeartbeats 4000000 in
theorem refHead_keep (h : Hd) (A : Option Addr) (n c : Nat) (k s : Int) (w : World) (hk : h.ok) (hkp : h.keep = true) (hn : n ≤ 65515) (hkn : (20 : Int) + (n : Int) = k) (hs : 65535 - totV ((((([69, h.tos] ++ two2 k) ++ two2 h.id) ++ two2 16384) ++ [h.ttl, h.proto]) ++ (four h.src ++ four h.dst)) = s) (hsb : 0 ≤ s ∧ s ≤ 65535) :
    Calls Tryd.prog 53 #[pkV h A n c] w fun ev w' => ∃ A' n' c', ev = .returned (.slice A' n' c') ∧ Out .u8 5 w' w.heap.size A' n' c' (((((([69, h.tos] ++ two2 k) ++ two2 h.id) ++ two2 16384) ++ [h.ttl, h.proto]) ++ two2 s) ++ (four h.src ++ four h.dst)) ∧ Below w.heap.size w w' := by
  have st := SB.start h A n c w
  have n1 : ¬ (65515 : Int) < (n : Int) := by omega
  have k0 : 0 ≤ k ∧ k ≤ 65535 := by omega
  have e1 : IntKind.i64.wrap k = k := by rw [IntKind.wrap_i64]; omega
  have e2 : IntKind.i64.wrap h.id = h.id := by rw [IntKind.wrap_i64]; have := hk.id; omega
  have e3 : IntKind.i64.wrap s = s := by rw [IntKind.wrap_i64]; omega
  have Hs := Lib.hid hs
  have Hk := Lib.hid hkp
  have HK := Lib.hid hk
  have w1_ := Lib.hid (wf2 (show 0 ≤ (69 : Int) ∧ (69 : Int) ≤ 255 by omega) hk.tos)
  have w2_ := Lib.hid (wf2 hk.ttl hk.proto)
  clear hs hkp hk
  obtain ⟨a0, a1, a2, a3, a4, a5, a6, a7⟩ := st.pk.cells
  go_enter Tryd.func53, Tryd.ntmps53
  go_wp2_with fail
  clear a0 a1 a2 a3 a4 a5 a6 a7
  go_cut [3] from 11 to 19 (fun x3 wc => ∃ A1 n1 c1, x3 = .slice A1 n1 c1 ∧ SB w h A n c wc ∧ Out .u8 5 wc (w.heap.size + 1) A1 n1 c1 ([69, h.tos] ++ two2 k))
  case first =>
    refine wp_region_held_drew (S := fun w' => SB w h A n c w') (by kernel_rfl) (st.step (below_drew _)) (fun hHeld => ?_)
    replace st := st.step (below_drew _)
    generalize (w.alloc (.cells (pkC h A n c) 63)).drew = W0 at *
    refine wpAnyH_at (i := 0) (some 11) (v := ?v0z23) rfl rfl (by kernel_rfl) (by kernel_rfl) (by kernel_rfl) (fun _ _ _ h => h) (Or.inl ⟨by rfl, ?y0z23⟩) (by assumption) ?r0z23
    case y0z23 =>
      intro w9 hSw
      clear hSw
      go_simp
      all_goals with_reducible rfl
    simp only [Act.put, List.setIfInBounds_toArray, List.set_cons_zero, List.set_cons_succ]
    refine wpAnyH_at (i := 1) (some 12) (v := ?v1z24) rfl rfl (by kernel_rfl) (by kernel_rfl) (by kernel_rfl) (fun _ _ _ h => h) (Or.inl ⟨by rfl, ?y1z24⟩) (by assumption) ?r1z24
    case y1z24 =>
      intro w9 hSw
      (obtain ⟨a0, a1, a2, a3, a4, a5, a6, a7⟩ := (show SB w h A n c w9 from hSw).pk.cells); clear hSw
      go_simp
      all_goals with_reducible rfl
    simp only [Act.put, List.setIfInBounds_toArray, List.set_cons_zero, List.set_cons_succ]
    refine wpAnyH_at (i := 3) (some 14) (v := ?v3z25) rfl rfl (by kernel_rfl) (by kernel_rfl) (by kernel_rfl) (fun _ _ _ h => h) (Or.inl ⟨by rfl, ?y3z25⟩) (by assumption) ?r3z25
    case y3z25 =>
      intro w9 hSw
      clear hSw
      go_simp
      all_goals with_reducible rfl
    simp only [Act.put, List.setIfInBounds_toArray, List.set_cons_zero, List.set_cons_succ]
    refine wpAnyH_at (i := 4) (some 15) (v := ?v4z26) rfl rfl (by kernel_rfl) (by kernel_rfl) (by kernel_rfl) (fun _ _ _ h => h) (Or.inl ⟨by rfl, ?y4z26⟩) (by assumption) ?r4z26
    case y4z26 =>
      intro w9 hSw
      (obtain ⟨a0, a1, a2, a3, a4, a5, a6, a7⟩ := (show SB w h A n c w9 from hSw).pk.cells); clear hSw
      go_simp
      all_goals with_reducible rfl
    simp only [Act.put, List.setIfInBounds_toArray, List.set_cons_zero, List.set_cons_succ]
    refine wpAnyH_at (i := 5) (some 16) (v := ?v5z27) rfl rfl (by kernel_rfl) (by kernel_rfl) (by kernel_rfl) (fun _ _ _ h => h) (Or.inl ⟨by rfl, ?y5z27⟩) (by assumption) ?r5z27
    case y5z27 =>
      intro w9 hSw
      clear hSw
      go_simp
      all_goals with_reducible rfl
    simp only [Act.put, List.setIfInBounds_toArray, List.set_cons_zero, List.set_cons_succ]
    refine wpAnyH_at (i := 6) (some 17) (v := ?v6z28) rfl rfl (by kernel_rfl) (by kernel_rfl) (by kernel_rfl) (fun _ _ _ h => h) (Or.inl ⟨by rfl, ?y6z28⟩) (by assumption) ?r6z28
    case y6z28 =>
      intro w9 hSw
      clear hSw
      go_simp
      all_goals with_reducible rfl
    simp only [Act.put, List.setIfInBounds_toArray, List.set_cons_zero, List.set_cons_succ]
    refine wpAnyH_two (i := 2) (j := 7) (by kernel_rfl) rfl rfl ?_ ?_
    · have rl : Row (W0.alloc (.cells #[.int .u8 69, .int .u8 h.tos] 5)) W0.heap.size [69, h.tos] := heap_alloc_new W0 _
      have gl := st.sz
      have bl := alloc_below W0 (.cells #[.int .u8 69, .int .u8 h.tos] 5)
      replace st := st.step bl
      clear hHeld bl
      have hHeld := st
      go_wp2
      refine ⟨hHeld, ?_⟩
      change wpAnyH _ _ _ _ _ _ _ _ (W0.alloc (.cells #[.int .u8 69, .int .u8 h.tos] 5))
      generalize W0.alloc (.cells #[.int .u8 69, .int .u8 h.tos] 5) = W1 at *
      generalize W0.heap.size = gL at *
      try simp only [Act.put, List.setIfInBounds_toArray, List.set_cons_zero, List.set_cons_succ]
      refine wpAnyH_one (i := 7) (by kernel_rfl) rfl ?_
      go_wp2_with (go_at_call 68; refine (refTwo_any k _ k0).mono ?_; rintro e W2 ⟨gT, rfl, rt, -, bt⟩)
      replace st := st.step bt
      replace rl := rl.below bt rl.lt
      clear bt
      clear hHeld
      have hHeld := st
      refine ⟨hHeld, ?_⟩
      try simp only [Act.put, List.setIfInBounds_toArray, List.set_cons_zero, List.set_cons_succ]
      have ol := rl.own (n := 2) gl rfl (by omega) w1_.out
      refine wpAnyH_one (i := 8) (by kernel_rfl) rfl ?_
      refine wpList_appD (some 19) rfl rfl (.tmp 13) (.tmp 18) 22 rfl (w.heap.size + 1) Tryd.underlying22 info5 (by omega) (some ⟨gL, 0, none⟩) 2 2 [69, h.tos] rfl ol (some ⟨gT, 0, none⟩) 2 2 _ (two2 k) rfl (rt.rdW (n := 2) rfl (by omega) (two2_wf k0)) (by omega) st.sz ?_
      intro A1 n1 c1 W3 oN hgr
      replace st := st.low (Nat.le_refl _) (grown_low ol hgr st.sz)
      clear hgr ol hHeld
      have hHeld := st
      go_wp2
      refine ⟨hHeld, ?_⟩
      try simp only [Act.put, List.setIfInBounds_toArray, List.set_cons_zero, List.set_cons_succ]
      refine wpAnyH_at (i := 9) (some 3) (v := ?v9z29) rfl rfl (by kernel_rfl) (by kernel_rfl) (by kernel_rfl) (fun _ _ _ h => h) (Or.inl ⟨by rfl, ?y9z29⟩) (by assumption) ?r9z29
      case y9z29 =>
        intro w9 hSw
        clear hSw
        go_simp
        all_goals with_reducible rfl
      simp only [Act.put, List.setIfInBounds_toArray, List.set_cons_zero, List.set_cons_succ]
      refine wpAnyH_done (by kernel_rfl) ?_ _
      go_wp2_with fail
      go_meet
      case rel => exact ⟨_, _, _, rfl, st, oN⟩
    · go_wp2_with (go_at_call 68; refine (refTwo_any k _ k0).mono ?_; rintro e W1 ⟨gT, rfl, rt, -, bt⟩)
      replace st := st.step bt
      clear bt
      clear hHeld
      have hHeld := st
      refine ⟨hHeld, ?_⟩
      try simp only [Act.put, List.setIfInBounds_toArray, List.set_cons_zero, List.set_cons_succ]
      refine wpAnyH_one (i := 2) (by kernel_rfl) rfl ?_
      have rl : Row (W1.alloc (.cells #[.int .u8 69, .int .u8 h.tos] 5)) W1.heap.size [69, h.tos] := heap_alloc_new W1 _
      have gl := st.sz
      have bl := alloc_below W1 (.cells #[.int .u8 69, .int .u8 h.tos] 5)
      replace st := st.step bl
      replace rt := rt.below bl rt.lt
      clear hHeld bl
      have hHeld := st
      go_wp2
      refine ⟨hHeld, ?_⟩
      change wpAnyH _ _ _ _ _ _ _ _ (W1.alloc (.cells #[.int .u8 69, .int .u8 h.tos] 5))
      generalize W1.alloc (.cells #[.int .u8 69, .int .u8 h.tos] 5) = W2 at *
      generalize W1.heap.size = gL at *
      try simp only [Act.put, List.setIfInBounds_toArray, List.set_cons_zero, List.set_cons_succ]
      have ol := rl.own (n := 2) gl rfl (by omega) w1_.out
      refine wpAnyH_one (i := 8) (by kernel_rfl) rfl ?_
      refine wpList_appD (some 19) rfl rfl (.tmp 13) (.tmp 18) 22 rfl (w.heap.size + 1) Tryd.underlying22 info5 (by omega) (some ⟨gL, 0, none⟩) 2 2 [69, h.tos] rfl ol (some ⟨gT, 0, none⟩) 2 2 _ (two2 k) rfl (rt.rdW (n := 2) rfl (by omega) (two2_wf k0)) (by omega) st.sz ?_
      intro A1 n1 c1 W3 oN hgr
      replace st := st.low (Nat.le_refl _) (grown_low ol hgr st.sz)
      clear hgr ol hHeld
      have hHeld := st
      go_wp2
      refine ⟨hHeld, ?_⟩
      try simp only [Act.put, List.setIfInBounds_toArray, List.set_cons_zero, List.set_cons_succ]
      refine wpAnyH_at (i := 9) (some 3) (v := ?v9z30) rfl rfl (by kernel_rfl) (by kernel_rfl) (by kernel_rfl) (fun _ _ _ h => h) (Or.inl ⟨by rfl, ?y9z30⟩) (by assumption) ?r9z30
      case y9z30 =>
        intro w9 hSw
        clear hSw
        go_simp
        all_goals with_reducible rfl
      simp only [Act.put, List.setIfInBounds_toArray, List.set_cons_zero, List.set_cons_succ]
      refine wpAnyH_done (by kernel_rfl) ?_ _
      go_wp2_with fail
      go_meet
      case rel => exact ⟨_, _, _, rfl, st, oN⟩
  case rest =>
    obtain ⟨A1, n1, c1, rfl, st, o1⟩ := hcut
    obtain rfl : n1 = 4 := by have := o1.len; simpa [two2] using this.symm
    obtain ⟨a0, a1, a2, a3, a4, a5, a6, a7⟩ := st.pk.cells
    go_wp2_with fail
    refine (refTwo_any h.id _ HK.out.id).mono ?_
    rintro ev w2 ⟨gT, rfl, rt, -, hb⟩
    replace st := st.step hb
    replace o1 := o1.below hb (Nat.le_refl _)
    have rr := rt.rdW (n := 2) rfl (by omega) (two2_wf HK.out.id)
    clear a0 a1 a2 a3 a4 a5 a6 a7
    clear hb rt
    go_wp2_with (at_builtin; refine wpList_app rfl (.tmp 20) (.tmp 24) 22 rfl (w.heap.size + 1) Tryd.underlying22 info5 (by omega) A1 4 c1 ([69, h.tos] ++ two2 k) rfl o1 (some ⟨gT, 0, none⟩) 2 2 _ (two2 h.id) rfl rr (by omega) st.sz ?_; intro A2 n2 c2 w3 o2 hgr; replace st := st.low (Nat.le_refl _) (grown_low o1 hgr st.sz); clear o1 rr hgr; (obtain ⟨a0, a1, a2, a3, a4, a5, a6, a7⟩ := st.pk.cells); rw [Hk.out] at a2)
    obtain rfl : n2 = 6 := by have := o2.len; simpa [two2] using this.symm
    clear a0 a1 a2 a3 a4 a5 a6 a7
    go_cut [3] from 28 to 37 (fun x3 wc => ∃ A1 n1 c1, x3 = .slice A1 n1 c1 ∧ SB w h A n c wc ∧ Out .u8 5 wc (w.heap.size + 1) A1 n1 c1 (((([69, h.tos] ++ two2 k) ++ two2 h.id) ++ two2 16384) ++ [h.ttl, h.proto]))
    case first =>
      refine wp_region_held_drew (S := fun w' => SB w h A n c w') (by kernel_rfl) (st.step (below_drew _)) (fun hHeld => ?_)
      replace st := st.step (below_drew _)
      replace o2 := o2.below (below_drew _) (Nat.le_refl _)
      generalize w3.drew = W0 at *
      refine wpAnyH_at (i := 0) (some 28) (v := ?v0z31) rfl rfl (by kernel_rfl) (by kernel_rfl) (by kernel_rfl) (fun _ _ _ h => h) (Or.inl ⟨by rfl, ?y0z31⟩) (by assumption) ?r0z31
      case y0z31 =>
        intro w9 hSw
        clear hSw
        go_simp
        all_goals with_reducible rfl
      simp only [Act.put, List.setIfInBounds_toArray, List.set_cons_zero, List.set_cons_succ]
      refine wpAnyH_at (i := 1) (some 29) (v := ?v1z32) rfl rfl (by kernel_rfl) (by kernel_rfl) (by kernel_rfl) (fun _ _ _ h => h) (Or.inl ⟨by rfl, ?y1z32⟩) (by assumption) ?r1z32
      case y1z32 =>
        intro w9 hSw
        clear hSw
        go_simp
        all_goals with_reducible rfl
      simp only [Act.put, List.setIfInBounds_toArray, List.set_cons_zero, List.set_cons_succ]
      refine wpAnyH_at (i := 4) (some 32) (v := ?v4z33) rfl rfl (by kernel_rfl) (by kernel_rfl) (by kernel_rfl) (fun _ _ _ h => h) (Or.inl ⟨by rfl, ?y4z33⟩) (by assumption) ?r4z33
      case y4z33 =>
        intro w9 hSw
        clear hSw
        go_simp
        all_goals with_reducible rfl
      simp only [Act.put, List.setIfInBounds_toArray, List.set_cons_zero, List.set_cons_succ]
      refine wpAnyH_at (i := 5) (some 33) (v := ?v5z34) rfl rfl (by kernel_rfl) (by kernel_rfl) (by kernel_rfl) (fun _ _ _ h => h) (Or.inl ⟨by rfl, ?y5z34⟩) (by assumption) ?r5z34
      case y5z34 =>
        intro w9 hSw
        (obtain ⟨a0, a1, a2, a3, a4, a5, a6, a7⟩ := (show SB w h A n c w9 from hSw).pk.cells); clear hSw
        go_simp
        all_goals with_reducible rfl
      simp only [Act.put, List.setIfInBounds_toArray, List.set_cons_zero, List.set_cons_succ]
      refine wpAnyH_at (i := 6) (some 34) (v := ?v6z35) rfl rfl (by kernel_rfl) (by kernel_rfl) (by kernel_rfl) (fun _ _ _ h => h) (Or.inl ⟨by rfl, ?y6z35⟩) (by assumption) ?r6z35
      case y6z35 =>
        intro w9 hSw
        clear hSw
        go_simp
        all_goals with_reducible rfl
      simp only [Act.put, List.setIfInBounds_toArray, List.set_cons_zero, List.set_cons_succ]
      refine wpAnyH_at (i := 7) (some 35) (v := ?v7z36) rfl rfl (by kernel_rfl) (by kernel_rfl) (by kernel_rfl) (fun _ _ _ h => h) (Or.inl ⟨by rfl, ?y7z36⟩) (by assumption) ?r7z36
      case y7z36 =>
        intro w9 hSw
        (obtain ⟨a0, a1, a2, a3, a4, a5, a6, a7⟩ := (show SB w h A n c w9 from hSw).pk.cells); clear hSw
        go_simp
        all_goals with_reducible rfl
      simp only [Act.put, List.setIfInBounds_toArray, List.set_cons_zero, List.set_cons_succ]
      refine wpAnyH_two (i := 2) (j := 8) (by kernel_rfl) rfl rfl ?_ ?_
      · go_wp2_with (go_at_call 68; refine (refTwo_any 16384 _ (by omega)).mono ?_; rintro e W1 ⟨gT, rfl, rt, -, bt⟩)
        replace st := st.step bt
        replace o2 := o2.below bt (Nat.le_refl _)
        clear bt
        clear hHeld
        have hHeld := st
        refine ⟨hHeld, ?_⟩
        try simp only [Act.put, List.setIfInBounds_toArray, List.set_cons_zero, List.set_cons_succ]
        refine wpAnyH_two (i := 3) (j := 8) (by kernel_rfl) rfl rfl ?_ ?_
        · refine wpList_appD (some 31) rfl rfl (.tmp 28) (.tmp 30) 22 rfl (w.heap.size + 1) Tryd.underlying22 info5 (by omega) A2 6 c2 (([69, h.tos] ++ two2 k) ++ two2 h.id) rfl o2 (some ⟨gT, 0, none⟩) 2 2 _ (two2 16384) rfl (rt.rdW (n := 2) rfl (by omega) (two2_wf (by omega))) (by omega) st.sz ?_
          intro A3 n3 c3 W2 o3 hgr
          replace st := st.low (Nat.le_refl _) (grown_low o2 hgr st.sz)
          clear hgr o2 hHeld
          have hHeld := st
          go_wp2
          refine ⟨hHeld, ?_⟩
          try simp only [Act.put, List.setIfInBounds_toArray, List.set_cons_zero, List.set_cons_succ]
          obtain rfl : n3 = 8 := by have := o3.len; simpa [two2] using this.symm
          refine wpAnyH_one (i := 8) (by kernel_rfl) rfl ?_
          have rl : Row (W2.alloc (.cells #[.int .u8 h.ttl, .int .u8 h.proto] 5)) W2.heap.size [h.ttl, h.proto] := heap_alloc_new W2 _
          have gl := st.sz
          have bl := alloc_below W2 (.cells #[.int .u8 h.ttl, .int .u8 h.proto] 5)
          replace st := st.step bl
          replace o3 := o3.below bl (Nat.le_refl _)
          clear hHeld bl
          have hHeld := st
          go_wp2
          refine ⟨hHeld, ?_⟩
          change wpAnyH _ _ _ _ _ _ _ _ (W2.alloc (.cells #[.int .u8 h.ttl, .int .u8 h.proto] 5))
          generalize W2.alloc (.cells #[.int .u8 h.ttl, .int .u8 h.proto] 5) = W3 at *
          generalize W2.heap.size = gL at *
          try simp only [Act.put, List.setIfInBounds_toArray, List.set_cons_zero, List.set_cons_succ]
          refine wpAnyH_one (i := 9) (by kernel_rfl) rfl ?_
          refine wpList_appD (some 37) rfl rfl (.tmp 31) (.tmp 36) 22 rfl (w.heap.size + 1) Tryd.underlying22 info5 (by omega) A3 8 c3 ((([69, h.tos] ++ two2 k) ++ two2 h.id) ++ two2 16384) rfl o3 (some ⟨gL, 0, none⟩) 2 2 _ [h.ttl, h.proto] rfl (rl.rdW (n := 2) rfl (by omega) w2_.out) (by omega) st.sz ?_
          intro A4 n4 c4 W4 oN hgr
          replace st := st.low (Nat.le_refl _) (grown_low o3 hgr st.sz)
          clear hgr o3 hHeld
          have hHeld := st
          go_wp2
          refine ⟨hHeld, ?_⟩
          try simp only [Act.put, List.setIfInBounds_toArray, List.set_cons_zero, List.set_cons_succ]
          refine wpAnyH_at (i := 10) (some 3) (v := ?v10z37) rfl rfl (by kernel_rfl) (by kernel_rfl) (by kernel_rfl) (fun _ _ _ h => h) (Or.inl ⟨by rfl, ?y10z37⟩) (by assumption) ?r10z37
          case y10z37 =>
            intro w9 hSw
            clear hSw
            go_simp
            all_goals with_reducible rfl
          simp only [Act.put, List.setIfInBounds_toArray, List.set_cons_zero, List.set_cons_succ]
          refine wpAnyH_done (by kernel_rfl) ?_ _
          go_wp2_with fail
          go_meet
          case rel => exact ⟨_, _, _, rfl, st, oN⟩
        · have ol2 := o2.old
          have rl : Row (W1.alloc (.cells #[.int .u8 h.ttl, .int .u8 h.proto] 5)) W1.heap.size [h.ttl, h.proto] := heap_alloc_new W1 _
          have gl := st.sz
          have bl := alloc_below W1 (.cells #[.int .u8 h.ttl, .int .u8 h.proto] 5)
          replace st := st.step bl
          replace o2 := o2.below bl (Nat.le_refl _)
          replace rt := rt.below bl rt.lt
          clear hHeld bl
          have hHeld := st
          go_wp2
          refine ⟨hHeld, ?_⟩
          change wpAnyH _ _ _ _ _ _ _ _ (W1.alloc (.cells #[.int .u8 h.ttl, .int .u8 h.proto] 5))
          generalize W1.alloc (.cells #[.int .u8 h.ttl, .int .u8 h.proto] 5) = W2 at *
          generalize W1.heap.size = gL at *
          try simp only [Act.put, List.setIfInBounds_toArray, List.set_cons_zero, List.set_cons_succ]
          refine wpAnyH_one (i := 3) (by kernel_rfl) rfl ?_
          refine wpList_appD (some 31) rfl rfl (.tmp 28) (.tmp 30) 22 rfl (w.heap.size + 1) Tryd.underlying22 info5 (by omega) A2 6 c2 (([69, h.tos] ++ two2 k) ++ two2 h.id) rfl o2 (some ⟨gT, 0, none⟩) 2 2 _ (two2 16384) rfl (rt.rdW (n := 2) rfl (by omega) (two2_wf (by omega))) (by omega) st.sz ?_
          intro A3 n3 c3 W3 o3 hgr
          replace st := st.low (Nat.le_refl _) (grown_low o2 hgr st.sz)
          replace rl := rl.apart (Nat.le_refl _) ol2 hgr
          clear hgr o2 hHeld
          have hHeld := st
          go_wp2
          refine ⟨hHeld, ?_⟩
          try simp only [Act.put, List.setIfInBounds_toArray, List.set_cons_zero, List.set_cons_succ]
          obtain rfl : n3 = 8 := by have := o3.len; simpa [two2] using this.symm
          refine wpAnyH_one (i := 9) (by kernel_rfl) rfl ?_
          refine wpList_appD (some 37) rfl rfl (.tmp 31) (.tmp 36) 22 rfl (w.heap.size + 1) Tryd.underlying22 info5 (by omega) A3 8 c3 ((([69, h.tos] ++ two2 k) ++ two2 h.id) ++ two2 16384) rfl o3 (some ⟨gL, 0, none⟩) 2 2 _ [h.ttl, h.proto] rfl (rl.rdW (n := 2) rfl (by omega) w2_.out) (by omega) st.sz ?_
          intro A4 n4 c4 W4 oN hgr
          replace st := st.low (Nat.le_refl _) (grown_low o3 hgr st.sz)
          clear hgr o3 hHeld
          have hHeld := st
          go_wp2
          refine ⟨hHeld, ?_⟩
          try simp only [Act.put, List.setIfInBounds_toArray, List.set_cons_zero, List.set_cons_succ]
          refine wpAnyH_at (i := 10) (some 3) (v := ?v10z38) rfl rfl (by kernel_rfl) (by kernel_rfl) (by kernel_rfl) (fun _ _ _ h => h) (Or.inl ⟨by rfl, ?y10z38⟩) (by assumption) ?r10z38
          case y10z38 =>
            intro w9 hSw
            clear hSw
            go_simp
            all_goals with_reducible rfl
          simp only [Act.put, List.setIfInBounds_toArray, List.set_cons_zero, List.set_cons_succ]
          refine wpAnyH_done (by kernel_rfl) ?_ _
          go_wp2_with fail
          go_meet
          case rel => exact ⟨_, _, _, rfl, st, oN⟩
      · have ol2 := o2.old
        have rl : Row (W0.alloc (.cells #[.int .u8 h.ttl, .int .u8 h.proto] 5)) W0.heap.size [h.ttl, h.proto] := heap_alloc_new W0 _
        have gl := st.sz
        have bl := alloc_below W0 (.cells #[.int .u8 h.ttl, .int .u8 h.proto] 5)
        replace st := st.step bl
        replace o2 := o2.below bl (Nat.le_refl _)
        clear hHeld bl
        have hHeld := st
        go_wp2
        refine ⟨hHeld, ?_⟩
        change wpAnyH _ _ _ _ _ _ _ _ (W0.alloc (.cells #[.int .u8 h.ttl, .int .u8 h.proto] 5))
        generalize W0.alloc (.cells #[.int .u8 h.ttl, .int .u8 h.proto] 5) = W1 at *
        generalize W0.heap.size = gL at *
        try simp only [Act.put, List.setIfInBounds_toArray, List.set_cons_zero, List.set_cons_succ]
        refine wpAnyH_one (i := 2) (by kernel_rfl) rfl ?_
        go_wp2_with (go_at_call 68; refine (refTwo_any 16384 _ (by omega)).mono ?_; rintro e W2 ⟨gT, rfl, rt, -, bt⟩)
        replace st := st.step bt
        replace o2 := o2.below bt (Nat.le_refl _)
        replace rl := rl.below bt rl.lt
        clear bt
        clear hHeld
        have hHeld := st
        refine ⟨hHeld, ?_⟩
        try simp only [Act.put, List.setIfInBounds_toArray, List.set_cons_zero, List.set_cons_succ]
        refine wpAnyH_one (i := 3) (by kernel_rfl) rfl ?_
        refine wpList_appD (some 31) rfl rfl (.tmp 28) (.tmp 30) 22 rfl (w.heap.size + 1) Tryd.underlying22 info5 (by omega) A2 6 c2 (([69, h.tos] ++ two2 k) ++ two2 h.id) rfl o2 (some ⟨gT, 0, none⟩) 2 2 _ (two2 16384) rfl (rt.rdW (n := 2) rfl (by omega) (two2_wf (by omega))) (by omega) st.sz ?_
        intro A3 n3 c3 W3 o3 hgr
        replace st := st.low (Nat.le_refl _) (grown_low o2 hgr st.sz)
        replace rl := rl.apart (Nat.le_refl _) ol2 hgr
        clear hgr o2 hHeld
        have hHeld := st
        go_wp2
        refine ⟨hHeld, ?_⟩
        try simp only [Act.put, List.setIfInBounds_toArray, List.set_cons_zero, List.set_cons_succ]
        obtain rfl : n3 = 8 := by have := o3.len; simpa [two2] using this.symm
        refine wpAnyH_one (i := 9) (by kernel_rfl) rfl ?_
        refine wpList_appD (some 37) rfl rfl (.tmp 31) (.tmp 36) 22 rfl (w.heap.size + 1) Tryd.underlying22 info5 (by omega) A3 8 c3 ((([69, h.tos] ++ two2 k) ++ two2 h.id) ++ two2 16384) rfl o3 (some ⟨gL, 0, none⟩) 2 2 _ [h.ttl, h.proto] rfl (rl.rdW (n := 2) rfl (by omega) w2_.out) (by omega) st.sz ?_
        intro A4 n4 c4 W4 oN hgr
        replace st := st.low (Nat.le_refl _) (grown_low o3 hgr st.sz)
        clear hgr o3 hHeld
        have hHeld := st
        go_wp2
        refine ⟨hHeld, ?_⟩
        try simp only [Act.put, List.setIfInBounds_toArray, List.set_cons_zero, List.set_cons_succ]
        refine wpAnyH_at (i := 10) (some 3) (v := ?v10z39) rfl rfl (by kernel_rfl) (by kernel_rfl) (by kernel_rfl) (fun _ _ _ h => h) (Or.inl ⟨by rfl, ?y10z39⟩) (by assumption) ?r10z39
        case y10z39 =>
          intro w9 hSw
          clear hSw
          go_simp
          all_goals with_reducible rfl
        simp only [Act.put, List.setIfInBounds_toArray, List.set_cons_zero, List.set_cons_succ]
        refine wpAnyH_done (by kernel_rfl) ?_ _
        go_wp2_with fail
        go_meet
        case rel => exact ⟨_, _, _, rfl, st, oN⟩
    case rest =>
      obtain ⟨A4, n4, c4, rfl, st, o4⟩ := hcut
      obtain rfl : n4 = 10 := by have := o4.len; simpa [two2] using this.symm
      go_wp2_with fail
      refine wp_region_held_drew (S := fun w' => SB w h A n c w') (by kernel_rfl) (st.step (below_drew _)) (fun hHeld => ?_)
      replace st := st.step (below_drew _)
      replace o4 := o4.below (below_drew _) (Nat.le_refl _)
      have old4 := o4.old
      change wpAnyH _ _ _ _ _ _ _ _ (World.drew _)
      generalize World.drew _ = W4 at *
      have hB1 := st.sz
      refine wpAnyH_at (i := 0) (some 38) (v := ?v0z40) rfl rfl (by kernel_rfl) (by kernel_rfl) (by kernel_rfl) (fun _ _ _ h => h) (Or.inl ⟨by rfl, ?y0z40⟩) (by assumption) ?r0z40
      case y0z40 =>
        intro w9 hSw
        clear hSw
        go_simp
        all_goals with_reducible rfl
      simp only [Act.put, List.setIfInBounds_toArray, List.set_cons_zero, List.set_cons_succ]
      refine wpAnyH_at (i := 1) (some 39) (v := ?v1z41) rfl rfl (by kernel_rfl) (by kernel_rfl) (by kernel_rfl) (fun _ _ _ h => h) (Or.inl ⟨by rfl, ?y1z41⟩) (by assumption) ?r1z41
      case y1z41 =>
        intro w9 hSw
        (obtain ⟨a0, a1, a2, a3, a4, a5, a6, a7⟩ := (show SB w h A n c w9 from hSw).pk.cells); clear hSw
        go_simp
        all_goals with_reducible rfl
      simp only [Act.put, List.setIfInBounds_toArray, List.set_cons_zero, List.set_cons_succ]
      refine wpAnyH_at (i := 3) (some 41) (v := ?v3z42) rfl rfl (by kernel_rfl) (by kernel_rfl) (by kernel_rfl) (fun _ _ _ h => h) (Or.inl ⟨by rfl, ?y3z42⟩) (by assumption) ?r3z42
      case y3z42 =>
        intro w9 hSw
        clear hSw
        go_simp
        all_goals with_reducible rfl
      simp only [Act.put, List.setIfInBounds_toArray, List.set_cons_zero, List.set_cons_succ]
      refine wpAnyH_at (i := 4) (some 42) (v := ?v4z43) rfl rfl (by kernel_rfl) (by kernel_rfl) (by kernel_rfl) (fun _ _ _ h => h) (Or.inl ⟨by rfl, ?y4z43⟩) (by assumption) ?r4z43
      case y4z43 =>
        intro w9 hSw
        (obtain ⟨a0, a1, a2, a3, a4, a5, a6, a7⟩ := (show SB w h A n c w9 from hSw).pk.cells); clear hSw
        go_simp
        all_goals with_reducible rfl
      simp only [Act.put, List.setIfInBounds_toArray, List.set_cons_zero, List.set_cons_succ]
      refine wpAnyH_one (i := 2) (by kernel_rfl) rfl ?_
      go_wp2_with (go_at_call 69; refine (four_any h.src _ HK.out.src).mono ?_; rintro e W5 ⟨gS, rfl, rs, gs, bt⟩)
      replace st := st.step bt
      replace o4 := o4.below bt (Nat.le_refl _)
      have b45 := bt.size
      clear bt
      clear hHeld
      have hHeld := st
      refine ⟨hHeld, ?_⟩
      try simp only [Act.put, List.setIfInBounds_toArray, List.set_cons_zero, List.set_cons_succ]
      refine wpAnyH_one (i := 5) (by kernel_rfl) rfl ?_
      go_wp2_with (go_at_call 69; refine (four_any h.dst _ HK.out.dst).mono ?_; rintro e W6 ⟨gD, rfl, rd, -, bt⟩)
      replace st := st.step bt
      replace o4 := o4.below bt (Nat.le_refl _)
      replace rs := rs.below bt rs.lt
      have b46 := Nat.le_trans b45 bt.size
      clear bt
      clear hHeld
      have hHeld := st
      refine ⟨hHeld, ?_⟩
      try simp only [Act.put, List.setIfInBounds_toArray, List.set_cons_zero, List.set_cons_succ]
      refine wpAnyH_one (i := 6) (by kernel_rfl) rfl ?_
      have os := rs.own (n := 4) gs rfl (by omega) (four_wf HK.out.src)
      refine wpList_appD (some 44) rfl rfl (.tmp 40) (.tmp 43) 22 rfl W4.heap.size Tryd.underlying22 info5 (by omega) (some ⟨gS, 0, none⟩) 4 4 (four h.src) rfl os (some ⟨gD, 0, none⟩) 4 4 _ (four h.dst) rfl (rd.rdW (n := 4) rfl (by omega) (four_wf HK.out.dst)) (by omega) b46 ?_
      intro A5 n5 c5 W7 o5 hgr
      have b7 := grown_low os hgr b46
      replace st := st.low hB1 b7
      replace o4 := o4.keepLow old4 b7
      obtain rfl : n5 = 8 := by have := o5.len; simpa [four] using this.symm
      have b47 := Nat.le_trans b46 b7.size
      clear hgr os hHeld b7 rs rd gs b45 b46
      have hHeld := st
      go_wp2
      refine ⟨hHeld, ?_⟩
      try simp only [Act.put, List.setIfInBounds_toArray, List.set_cons_zero, List.set_cons_succ]
      refine wpAnyH_at (i := 7) (some 5) (v := ?v7z44) rfl rfl (by kernel_rfl) (by kernel_rfl) (by kernel_rfl) (fun _ _ _ h => h) (Or.inl ⟨by rfl, ?y7z44⟩) (by assumption) ?r7z44
      case y7z44 =>
        intro w9 hSw
        clear hSw
        go_simp
        all_goals with_reducible rfl
      simp only [Act.put, List.setIfInBounds_toArray, List.set_cons_zero, List.set_cons_succ]
      refine wpAnyH_done (by kernel_rfl) ?_ _
      clear hHeld
      have ba := alloc_below W7 (.cells #[] 5)
      have o0 := Out.lit0 .u8 5 W7 W7.heap.size (Nat.le_refl _)
      have st8 := st.step ba
      have o48 := o4.below ba (Nat.le_refl _)
      have o58 := o5.below ba (Nat.le_refl _)
      have ol4 := o4.old
      have ol5 := o5.old
      have b7 := ba.size
      have s7 := st.sz
      clear ba st o4 o5
      go_wp2_with (first
        | (at_builtin; refine wpList_app rfl (.tmp 45) (.tmp 46) 22 rfl W7.heap.size Tryd.underlying22 info5 (by omega) (some ⟨W7.heap.size, 0, none⟩) 0 0 [] rfl o0 A4 10 c4 _ (((([69, h.tos] ++ two2 k) ++ two2 h.id) ++ two2 16384) ++ [h.ttl, h.proto]) rfl o48.rd (by omega) b7 ?_; intro A8 n8 c8 w8 o8 hgr; have b8 := grown_low o0 hgr b7; have st9 := st8.low s7 b8; have o49 := o48.keepLow ol4 b8; have o59 := o58.keepLow ol5 b8; have l8 : n8 ≤ 10 := by (have := o8.len; simp [two2] at this; omega))
        | (at_builtin; refine wpList_app rfl (.tmp 47) (.tmp 48) 22 rfl W7.heap.size Tryd.underlying22 info5 (by omega) A8 n8 c8 ([] ++ (((([69, h.tos] ++ two2 k) ++ two2 h.id) ++ two2 16384) ++ [h.ttl, h.proto])) rfl o8 A5 8 c5 _ (four h.src ++ four h.dst) rfl o59.rd (by omega) (Nat.le_trans b7 b8.size) ?_; intro A9 n9 c9 w9 o9 hgr'; have b9 := grown_low o8 hgr' (Nat.le_trans b7 b8.size); have st10 := st9.low s7 b9; have o410 := o49.keepLow ol4 b9; have o510 := o59.keepLow ol5 b9; have l9 : n9 ≤ 18 := by (have := o9.len; simp [two2, four] at this; omega)))
      have cs := refSumOf_any A9 n9 c9 _ _ _ o9.rd (by omega)
      rw [List.nil_append, Hs.out] at cs
      refine cs.mono ?_
      rintro ev w10 ⟨rfl, rfl⟩
      clear cs st8 o48 o58 o0 hgr b8 st9 o49 o59 o8 hgr' b9 o9
      go_wp2_with fail
      refine (refTwo_any s _ hsb).mono ?_
      rintro ev w11 ⟨gT, rfl, rt, -, hb⟩
      have st11 := st10.step hb
      have o411 := o410.below hb (Nat.le_refl _)
      have o511 := o510.below hb (Nat.le_refl _)
      have rr := rt.rdW (n := 2) rfl (by omega) (two2_wf hsb)
      clear hb rt st10 o410 o510
      go_wp2_with (first
        | (at_builtin; refine wpList_app rfl (.tmp 51) (.tmp 54) 22 rfl (w.heap.size + 1) Tryd.underlying22 info5 (by omega) A4 10 c4 (((([69, h.tos] ++ two2 k) ++ two2 h.id) ++ two2 16384) ++ [h.ttl, h.proto]) rfl o411 (some ⟨gT, 0, none⟩) 2 2 _ (two2 s) rfl rr (by omega) st11.sz ?_; intro A12 n12 c12 w12 o12 hgr; have st12 := st11.low (Nat.le_refl _) (grown_low o411 hgr st11.sz); have o512 := o511.apart (Nat.le_refl _) old4 hgr; have l12 : n12 ≤ 12 := by (have := o12.len; simp [two2] at this; omega))
        | (at_builtin; refine wpList_app rfl (.tmp 55) (.tmp 56) 22 rfl (w.heap.size + 1) Tryd.underlying22 info5 (by omega) A12 n12 c12 ((((([69, h.tos] ++ two2 k) ++ two2 h.id) ++ two2 16384) ++ [h.ttl, h.proto]) ++ two2 s) rfl o12 A5 8 c5 _ (four h.src ++ four h.dst) rfl o512.rd (by omega) st12.sz ?_; intro A13 n13 c13 w13 o13 hgr'; have st13 := st12.low (Nat.le_refl _) (grown_low o12 hgr' st12.sz)))
      go_ret
      exact ⟨A13, n13, c13, rfl, o13.rebase (by omega), st13.below⟩
end Go.Proofs.YtbefoapnlehdmaaDoor

namespace Go.Proofs.YtbefoapnlehdmaaDoor
open Go.RowKit

theorem refHead_any (h : Hd) (A : Option Addr) (n c : Nat) (w : World) (hk : h.ok) (hn : n ≤ 65515) :
    Calls Tryd.prog 53 #[pkV h A n c] w fun ev w' => ∃ A' n' c', ev = .returned (.slice A' n' c') ∧ Out .u8 5 w' w.heap.size A' n' c' (hdR h n) ∧ Below w.heap.size w w' := by
  rw [show hdR h n = hdX h n ++ (two2 (hdS h n) ++ (four h.src ++ four h.dst)) from rfl]
  cases hkp : h.keep
  · skip
    have e : (((([69, h.tos] ++ two2 (20 + (n : Int))) ++ two2 h.id) ++ two2 0) ++ [h.ttl, h.proto]) = hdX h n := by simp [hdX, two2, hkp]
    have := refHead_plain h A n c _ (hdS h n) w hk hkp hn rfl (by rw [e]; exact hd_sum hk hn) (hdS_bd hk hn)
    rw [e, List.append_assoc] at this
    exact this
  · skip
    have e : (((([69, h.tos] ++ two2 (20 + (n : Int))) ++ two2 h.id) ++ two2 16384) ++ [h.ttl, h.proto]) = hdX h n := by simp [hdX, two2, hkp]
    have := refHead_keep h A n c _ (hdS h n) w hk hkp hn rfl (by rw [e]; exact hd_sum hk hn) (hdS_bd hk hn)
    rw [e, List.append_assoc] at this
    exact this
section
variable {w W V : World} {h : Hd} {A : Option Addr} {n c B : Nat} {xs : List Int}
end
end Go.Proofs.YtbefoapnlehdmaaDoor
