/-
  alive answers true.
-/
import Derived.Test.YthgdgjpckgfmbaaDoorPP
import Derived.Test.YthgdgjpckgfmbaaDoorBytes
import Derived.Test.YthgdgjpckgfmbaaDoorSameP
import Derived.Test.YthgdgjpckgfmbaaDoorIsL
namespace Go.Proofs.YthgdgjpckgfmbaaDoor
open Go.RowKit

@[reducible] def hA : Hd := ⟨0, 0, true, 64, 17, 3232235521, 3232235719⟩
theorem hA_ok : hA.ok := ⟨by decide, by decide, by decide, by decide, by decide, by decide⟩
def aB : List Int := [69, 0, 0, 21, 0, 0, 64, 0, 64, 17, 184, 191, 192, 168, 0, 1, 192, 168, 0, 199, 9, 7]
def aV : List Int := [101, 0, 0, 0, 0, 0, 0, 0, 0, 0, 0, 0, 0, 0, 0, 0, 0, 0, 0, 0]
@[reducible] def aC : Array Value := #[.int .u8 69, .int .u8 0, .int .u8 0, .int .u8 21, .int .u8 0, .int .u8 0, .int .u8 64, .int .u8 0, .int .u8 64, .int .u8 17, .int .u8 184, .int .u8 191, .int .u8 192, .int .u8 168, .int .u8 0, .int .u8 1, .int .u8 192, .int .u8 168, .int .u8 0, .int .u8 199, .int .u8 9, .int .u8 7]
@[reducible] def vC : Array Value := #[.int .u8 101, .int .u8 0, .int .u8 0, .int .u8 0, .int .u8 0, .int .u8 0, .int .u8 0, .int .u8 0, .int .u8 0, .int .u8 0, .int .u8 0, .int .u8 0, .int .u8 0, .int .u8 0, .int .u8 0, .int .u8 0, .int .u8 0, .int .u8 0, .int .u8 0, .int .u8 0]
theorem aB_wf : ∀ x ∈ aB, (Lit.int .u8 x).wf = true := by decide
theorem aV_wf : ∀ x ∈ aV, (Lit.int .u8 x).wf = true := by decide
theorem aB_good : pE true aB = (0, 0) := by decide
theorem aB_body : bodyOf aB = [9] := by decide
theorem aB_end : pE true (aB.take 20) = (1, 12) := by decide
theorem aB_peek : pE false (aB.take 20) = (0, 0) := by decide
theorem hd_eq {h k : Hd} (h1 : h.tos = k.tos) (h2 : h.id = k.id) (h3 : h.keep = k.keep) (h4 : h.ttl = k.ttl) (h5 : h.proto = k.proto) (h6 : h.src = k.src) (h7 : h.dst = k.dst) : h = k := by
  cases h
  cases k
  simp_all
theorem aB_hd : hdOf aB = hA := hd_eq (by decide) (by decide) (by decide) (by decide) (by decide) (by decide) (by decide)
theorem aB_hd20 : hdOf (aB.take 20) = hA := by rw [hdOf_take (by omega)]; exact aB_hd
theorem aB_body20 : bodyOf (aB.take 20) = [] := by decide
theorem aV_bad : pE true aV = (3, 15) := by decide
theorem aB_sum : hdS hA 1 = 47295 := by decide
theorem aB_head : hdR hA 1 = aB.take 20 := by unfold hdR; rw [aB_sum]; decide
theorem aB_bytes : hdR hA 1 ++ [9] = aB.take 21 := by rw [aB_head]; decide
theorem aRd {W : World} {g : Nat} (h : Row W g aB) (t : Nat) (ht : t ≤ 22) : Rd .u8 W W.heap.size (some ⟨g, 0, none⟩) t 22 (aB.take t) := (h.rdW (n := 22) rfl (by omega) aB_wf).cutTo t ht
theorem aParse {W : World} {g : Nat} (h : Row W g aB) : Calls Tryd.prog 11 #[.slice (some ⟨g, 0, none⟩) 22 22] W fun ev w' => ∃ g1, ev = .returned (.tuple #[pkV hA (some ⟨g1, 0, none⟩) 1 1, .nilIface]) ∧ Row w' g1 [9] ∧ Below W.heap.size W w' := by
  refine (parse_any _ 22 22 aB W (h.rdW (n := 22) rfl (by omega) aB_wf)).mono ?_
  rintro ev w' ⟨hb, ⟨h1, _⟩ | ⟨_, g1, m, rfl, row, _, hl⟩⟩
  · rw [aB_good] at h1
    exact absurd rfl h1
  · rw [aB_body] at row hl
    obtain rfl : 1 = m := hl
    rw [aB_hd]
    exact ⟨g1, rfl, row, hb⟩
theorem aEnd {W : World} {g : Nat} (h : Row W g aB) : Calls Tryd.prog 11 #[.slice (some ⟨g, 0, none⟩) 20 22] W fun ev w' => ev = .returned (.tuple #[zeroP, errV 1 12]) ∧ Below W.heap.size W w' := by
  refine (parse_any _ 20 22 (aB.take 20) W (aRd h 20 (by omega))).mono ?_
  rintro ev w' ⟨hb, ⟨_, rfl⟩ | ⟨h1, _⟩⟩
  · rw [aB_end]
    exact ⟨rfl, hb⟩
  · rw [aB_end] at h1
    exact absurd h1 (by decide)
theorem aPeek {W : World} {g : Nat} (h : Row W g aB) : Calls Tryd.prog 13 #[.slice (some ⟨g, 0, none⟩) 20 22] W fun ev w' => ∃ g1, ev = .returned (.tuple #[pkV hA (some ⟨g1, 0, none⟩) 0 0, .nilIface]) ∧ Row w' g1 [] ∧ Below W.heap.size W w' := by
  refine (peek_any _ 20 22 (aB.take 20) W (aRd h 20 (by omega))).mono ?_
  rintro ev w' ⟨hb, ⟨h1, _⟩ | ⟨_, g1, m, rfl, row, _, hl⟩⟩
  · rw [aB_peek] at h1
    exact absurd rfl h1
  · rw [aB_body20] at row hl
    obtain rfl : 0 = m := hl
    rw [aB_hd20]
    exact ⟨g1, rfl, row, hb⟩
theorem aVer {W : World} {g : Nat} (h : Row W g aV) : Calls Tryd.prog 11 #[.slice (some ⟨g, 0, none⟩) 20 20] W fun ev w' => ev = .returned (.tuple #[zeroP, errV 3 15]) ∧ Below W.heap.size W w' := by
  refine (parse_any _ 20 20 aV W (h.rdW (n := 20) rfl (by omega) aV_wf)).mono ?_
  rintro ev w' ⟨hb, ⟨_, rfl⟩ | ⟨h1, _⟩⟩
  · rw [aV_bad]
    exact ⟨rfl, hb⟩
  · rw [aV_bad] at h1
    exact absurd h1 (by decide)
theorem nine_wf : ∀ x ∈ [(9 : Int)], (Lit.int .u8 x).wf = true := by decide
theorem aBytes {W : World} {g : Nat} (h : Row W g [9]) : Calls Tryd.prog 19 #[pkV hA (some ⟨g, 0, none⟩) 1 1] W (GivesBy W (aB.take 21) 21) := by
  rw [← aB_bytes]
  exact bytes_ok hA _ 1 1 [9] W hA_ok (h.rdW (n := 1) rfl (by omega) nine_wf) (by omega)
theorem aHead (A : Option Addr) (W : World) : Calls Tryd.prog 21 #[pkV hA A 1 1] W (GivesRow W (aB.take 20) 20) := by
  rw [← aB_head]
  exact head_any hA A 1 1 W hA_ok (by omega)
theorem aT_wf : ∀ x ∈ aB.take 21, (Lit.int .u8 x).wf = true := fun x hx => aB_wf x (List.mem_of_mem_take hx)
theorem aH_wf : ∀ x ∈ aB.take 20, (Lit.int .u8 x).wf = true := fun x hx => aB_wf x (List.mem_of_mem_take hx)
theorem aSame {W : World} {g : Nat} (h : Row W g [9]) : Calls Tryd.prog 23 #[pkV hA (some ⟨g, 0, none⟩) 1 1, pkV hA (some ⟨g, 0, none⟩) 1 1] W fun ev w' => ev = .returned (.bool true) ∧ Below W.heap.size W w' := by
  have r := h.rdW (n := 1) rfl (by omega) nine_wf
  have := same_pk hA hA _ _ 1 1 1 1 [9] [9] W r r
  rwa [smB_self] at this
theorem aOther {W : World} {g g' : Nat} (h : Row W g [9]) (h' : Row W g' []) : Calls Tryd.prog 23 #[pkV hA (some ⟨g, 0, none⟩) 1 1, pkV hA (some ⟨g', 0, none⟩) 0 0] W fun ev w' => ev = .returned (.bool false) ∧ Below W.heap.size W w' := by
  have := same_pk hA hA _ _ 1 1 0 0 [9] [] W (h.rdW (n := 1) rfl (by omega) nine_wf) (h'.rdW (n := 0) rfl (by omega) (by simp))
  rwa [show smB hA hA [9] [] = false by decide] at this
/-- What alive's walk knows. -/
structure KA (w : World) (gb gp g1 gc gq g2 : Nat) (W : World) : Prop where
  kn : Kn w W
  row : Row W gb aB
  p : PkAt W gp 28 hA (some ⟨g1, 0, none⟩) 1 1
  r1 : Row W g1 [9]
  c : Row W gc (aB.take 21)
  q : PkAt W gq 28 hA (some ⟨g2, 0, none⟩) 0 0
  r2 : Row W g2 []
theorem KA.step {w W V : World} {gb gp g1 gc gq g2 : Nat} (h : KA w gb gp g1 gc gq g2 W) (hb : Below W.heap.size W V) : KA w gb gp g1 gc gq g2 V := ⟨h.kn.step hb, h.row.below hb h.row.lt, h.p.step hb, h.r1.below hb h.r1.lt, h.c.below hb h.c.lt, h.q.step hb, h.r2.below hb h.r2.lt⟩
set_option maxRecDepth 100000 in
set_option maxHeartbeats 4000000 in
theorem alive_any (w : World) (hg : Laid w) : Calls Tryd.prog 9 #[] w fun e w' => e = .returned (.bool true) ∧ Below w.heap.size w w' := by
  have k0 := (Kn.start hg).alloc (.cells aC 5)
  have row : Row (w.alloc (.cells aC 5)) w.heap.size aB := heap_alloc_new w _
  go_enter Tryd.func9, Tryd.ntmps9
  go_wp2_with fail
  refine (aParse row).mono ?_
  rintro ev w1 ⟨g1, rfl, r1, hb⟩
  replace k0 := (k0.step hb).alloc (.cells (pkC hA (some ⟨g1, 0, none⟩) 1 1) 28)
  replace row := (row.below hb row.lt).below (alloc_below w1 (.cells (pkC hA (some ⟨g1, 0, none⟩) 1 1) 28)) (row.below hb row.lt).lt
  replace r1 := r1.below (alloc_below w1 (.cells (pkC hA (some ⟨g1, 0, none⟩) 1 1) 28)) r1.lt
  have p := PkAt.new w1 28 hA (some ⟨g1, 0, none⟩) 1 1
  clear hb
  generalize w.heap.size = gb at row ⊢
  obtain ⟨a0, a1, a2, a3, a4, a5, a6, a7⟩ := p.cells
  go_wp2_with fail
  refine (aBytes r1).mono ?_
  rintro ev w2 ⟨gc, rfl, rc, -, hb⟩
  clear a0 a1 a2 a3 a4 a5 a6 a7
  replace k0 := k0.step hb
  replace row := row.below hb row.lt
  replace r1 := r1.below hb r1.lt
  replace p := p.step hb
  clear hb
  generalize w1.heap.size = gp at p ⊢
  go_wp2_with fail
  refine (aEnd row).mono ?_
  rintro ev w3 ⟨rfl, hb⟩
  replace hb := hb.trans ((alloc_below w3 (.cells (pkC zeroH none 0 0) 28)).mono hb.size)
  replace k0 := k0.step hb
  replace row := row.below hb row.lt
  replace r1 := r1.below hb r1.lt
  replace rc := rc.below hb rc.lt
  replace p := p.step hb
  clear hb
  go_wp2_with fail
  refine (aPeek row).mono ?_
  rintro ev w4 ⟨g2, rfl, r2, hb⟩
  replace hb := hb.trans ((alloc_below w4 (.cells (pkC hA (some ⟨g2, 0, none⟩) 0 0) 28)).mono hb.size)
  have k : KA w gb gp g1 gc w4.heap.size g2 (w4.alloc (.cells (pkC hA (some ⟨g2, 0, none⟩) 0 0) 28)) := ⟨k0.step hb, row.below hb row.lt, p.step hb, r1.below hb r1.lt, rc.below hb rc.lt, PkAt.new w4 28 hA _ 0 0, r2.below (alloc_below w4 _) r2.lt⟩
  clear k0 row p r1 rc r2 hb
  have row : Row ((w4.alloc (.cells (pkC hA (some ⟨g2, 0, none⟩) 0 0) 28)).alloc (.cells vC 5)) (w4.alloc (.cells (pkC hA (some ⟨g2, 0, none⟩) 0 0) 28)).heap.size aV := heap_alloc_new _ _
  replace k := k.step (alloc_below _ (.cells vC 5))
  have sz : (w4.alloc (.cells (pkC hA (some ⟨g2, 0, none⟩) 0 0) 28)).heap.size = w4.heap.size + 1 := by simp
  rw [sz] at row
  clear sz
  go_wp2_with fail
  refine (aVer row).mono ?_
  rintro ev w5 ⟨rfl, hb⟩
  replace hb := hb.trans ((alloc_below w5 (.cells (pkC zeroH none 0 0) 28)).mono hb.size)
  replace k := k.step hb
  clear hb row
  generalize w4.heap.size = gq at k ⊢
  go_wp2_with (at_make; refine wpList_mk (some 43) rfl rfl _ _ 22 rfl Tryd.underlying22 info5 1481 _ _ rfl rfl rfl rfl (by omega) ?_; intro w6 r6 hs6 hb6; replace k := k.step hb6; clear r6 hs6 hb6)
  refine (bytes_far zeroH _ 1481 1481 _ (by omega) (by omega)).mono ?_
  rintro ev w7 ⟨rfl, hb⟩
  replace k := k.step hb
  clear hb
  go_wp2_with fail
  refine wp_region_any (by kernel_rfl) ?_
  change wpAny _ _ _ _ _ _ _ (World.drew _)
  replace k := k.step (below_drew _)
  generalize w7.drew = W7 at *
  simp only [List.append_eq, List.cons_append, List.nil_append]
  refine wpAny_stretch 0 15 81 (by as_aux_lemma => kernel_rfl) (by as_aux_lemma => kernel_rfl) (by as_aux_lemma => kernel_rfl) ?_
  simp only [List.take_succ_cons, List.take_zero, List.drop_zero]
  go_wp2_with (go_at_call 25; with_reducible refine (whyIs_err 1 12 12 _).mono ?_; rintro e w8 ⟨rfl, hb⟩; replace k := k.step hb; clear hb)
  refine wpAny_stretch 15 20 61 (by as_aux_lemma => kernel_rfl) (by as_aux_lemma => kernel_rfl) (by as_aux_lemma => kernel_rfl) ?_
  simp only [List.take_succ_cons, List.take_zero, List.drop_succ_cons, List.drop_zero]
  go_wp2_with (first
    | (go_at_call 26; with_reducible refine (reason_err 3 15 _ k.kn.laid).mono ?_; rintro e w9 ⟨rfl, hb⟩; replace k := k.step hb; clear hb)
    | (go_at_call 25; with_reducible refine (whyIs_err 1 11 11 _).mono ?_; rintro e w10 ⟨rfl, hb⟩; replace k := k.step hb; clear hb))
  obtain ⟨a0, a1, a2, a3, a4, a5, a6, a7⟩ := k.p.cells
  refine wpAny_stretch 35 25 36 (by as_aux_lemma => kernel_rfl) (by as_aux_lemma => kernel_rfl) (by as_aux_lemma => kernel_rfl) ?_
  simp only [List.take_succ_cons, List.take_zero, List.drop_succ_cons, List.drop_zero]
  go_wp2
  clear a0 a1 a2 a3 a4 a5 a6 a7
  refine wpAny_of_held (S := fun w' => KA w gb gp g1 gc gq g2 w') _ _ _ _ ?_
  have hHeld := k
  refine wpAnyH_at (i := 60) (some 108) (v := ?v60z1) rfl rfl (by as_aux_lemma => kernel_rfl) (by as_aux_lemma => kernel_rfl) (by as_aux_lemma => kernel_rfl) (fun _ _ _ h => h) (Or.inl ⟨by rfl, ?y60z1⟩) (by assumption) ?r60z1
  case y60z1 =>
    intro w9 hSw
    clear hSw
    go_simp
    all_goals with_reducible rfl
  simp only [Act.put, List.setIfInBounds_toArray, List.set_cons_zero, List.set_cons_succ]
  refine wpAnyH_at (i := 61) (some 109) (v := ?v61z2) rfl rfl (by as_aux_lemma => kernel_rfl) (by as_aux_lemma => kernel_rfl) (by as_aux_lemma => kernel_rfl) (fun _ _ _ h => h) (Or.inl ⟨by rfl, ?y61z2⟩) (by assumption) ?r61z2
  case y61z2 =>
    intro w9 hSw
    (obtain ⟨a0, a1, a2, a3, a4, a5, a6, a7⟩ := (show KA w gb gp g1 gc gq g2 w9 from hSw).p.cells); clear hSw
    go_simp
    all_goals with_reducible rfl
  simp only [Act.put, List.setIfInBounds_toArray, List.set_cons_zero, List.set_cons_succ]
  refine wpAnyH_one (i := 62) (by as_aux_lemma => kernel_rfl) rfl ?_
  have r9 : Row (w10.alloc (.cells #[.int .u8 9] 5)) w10.heap.size [9] := heap_alloc_new w10 _
  replace k := k.step (alloc_below w10 (.cells #[.int .u8 9] 5))
  clear hHeld
  have hHeld := k
  go_wp2
  refine ⟨hHeld, ?_⟩
  change wpAnyH _ _ _ _ _ _ _ _ (w10.alloc (.cells #[.int .u8 9] 5))
  generalize (w10.alloc (.cells #[.int .u8 9] 5)) = W10 at *
  generalize w10.heap.size = g9 at *
  refine wpAnyH_one (i := 63) (by as_aux_lemma => kernel_rfl) rfl ?_
  go_wp2_with (go_at_call 18; refine (same_any _ _ _ _ _ _ [9] _ _ _ (k.r1.rdW (n := 1) rfl (by omega) nine_wf) (r9.rdW (n := 1) rfl (by omega) nine_wf)).mono ?_; rintro ev w11 ⟨rfl, hb⟩)
  replace k := k.step hb
  clear hHeld
  have hHeld := k
  clear r9
  clear hb
  refine ⟨hHeld, ?_⟩
  try simp only [Act.put, List.setIfInBounds_toArray, List.set_cons_zero, List.set_cons_succ]
  refine wpAnyH_at (i := 64) (some 112) (v := ?v64z3) rfl rfl (by as_aux_lemma => kernel_rfl) (by as_aux_lemma => kernel_rfl) (by as_aux_lemma => kernel_rfl) (fun _ _ _ h => h) (Or.inl ⟨by rfl, ?y64z3⟩) (by assumption) ?r64z3
  case y64z3 =>
    intro w9 hSw
    clear hSw
    go_simp
    all_goals with_reducible rfl
  simp only [Act.put, List.setIfInBounds_toArray, List.set_cons_zero, List.set_cons_succ]
  refine wpAnyH_at (i := 65) (some 113) (v := ?v65z4) rfl rfl (by as_aux_lemma => kernel_rfl) (by as_aux_lemma => kernel_rfl) (by as_aux_lemma => kernel_rfl) (fun _ _ _ h => h) (Or.inl ⟨by rfl, ?y65z4⟩) (by assumption) ?r65z4
  case y65z4 =>
    intro w9 hSw
    clear hSw
    go_simp
    all_goals with_reducible rfl
  simp only [Act.put, List.setIfInBounds_toArray, List.set_cons_zero, List.set_cons_succ]
  refine wpAnyH_at (i := 66) (some 114) (v := ?v66z5) rfl rfl (by as_aux_lemma => kernel_rfl) (by as_aux_lemma => kernel_rfl) (by as_aux_lemma => kernel_rfl) (fun _ _ _ h => h) (Or.inl ⟨by rfl, ?y66z5⟩) (by assumption) ?r66z5
  case y66z5 =>
    intro w9 hSw
    clear hSw
    go_simp
    all_goals with_reducible rfl
  simp only [Act.put, List.setIfInBounds_toArray, List.set_cons_zero, List.set_cons_succ]
  refine wpAnyH_at (i := 67) (some 115) (v := ?v67z6) rfl rfl (by as_aux_lemma => kernel_rfl) (by as_aux_lemma => kernel_rfl) (by as_aux_lemma => kernel_rfl) (fun _ _ _ h => h) (Or.inl ⟨by rfl, ?y67z6⟩) (by assumption) ?r67z6
  case y67z6 =>
    intro w9 hSw
    clear hSw
    go_simp
    all_goals with_reducible rfl
  simp only [Act.put, List.setIfInBounds_toArray, List.set_cons_zero, List.set_cons_succ]
  refine wpAnyH_at (i := 68) (some 116) (v := ?v68z7) rfl rfl (by as_aux_lemma => kernel_rfl) (by as_aux_lemma => kernel_rfl) (by as_aux_lemma => kernel_rfl) (fun _ _ _ h => h) (Or.inl ⟨by rfl, ?y68z7⟩) (by assumption) ?r68z7
  case y68z7 =>
    intro w9 hSw
    clear hSw
    go_simp
    all_goals with_reducible rfl
  simp only [Act.put, List.setIfInBounds_toArray, List.set_cons_zero, List.set_cons_succ]
  refine wpAnyH_one (i := 69) (by as_aux_lemma => kernel_rfl) rfl ?_
  go_wp2_with (go_at_call 18; refine (same_any _ _ _ _ _ _ (aB.take 21) _ _ _ (k.c.rdW (n := 21) rfl (by omega) aT_wf) (aRd k.row 21 (by omega))).mono ?_; rintro ev w12 ⟨rfl, hb⟩)
  replace k := k.step hb
  clear hHeld
  have hHeld := k
  clear hb
  refine ⟨hHeld, ?_⟩
  try simp only [Act.put, List.setIfInBounds_toArray, List.set_cons_zero, List.set_cons_succ]
  refine wpAnyH_at (i := 70) (some 118) (v := ?v70z8) rfl rfl (by as_aux_lemma => kernel_rfl) (by as_aux_lemma => kernel_rfl) (by as_aux_lemma => kernel_rfl) (fun _ _ _ h => h) (Or.inl ⟨by rfl, ?y70z8⟩) (by assumption) ?r70z8
  case y70z8 =>
    intro w9 hSw
    clear hSw
    go_simp
    all_goals with_reducible rfl
  simp only [Act.put, List.setIfInBounds_toArray, List.set_cons_zero, List.set_cons_succ]
  refine wpAnyH_at (i := 71) (some 119) (v := ?v71z9) rfl rfl (by as_aux_lemma => kernel_rfl) (by as_aux_lemma => kernel_rfl) (by as_aux_lemma => kernel_rfl) (fun _ _ _ h => h) (Or.inl ⟨by rfl, ?y71z9⟩) (by assumption) ?r71z9
  case y71z9 =>
    intro w9 hSw
    clear hSw
    go_simp
    all_goals with_reducible rfl
  simp only [Act.put, List.setIfInBounds_toArray, List.set_cons_zero, List.set_cons_succ]
  refine wpAnyH_at (i := 72) (some 120) (v := ?v72z10) rfl rfl (by as_aux_lemma => kernel_rfl) (by as_aux_lemma => kernel_rfl) (by as_aux_lemma => kernel_rfl) (fun _ _ _ h => h) (Or.inl ⟨by rfl, ?y72z10⟩) (by assumption) ?r72z10
  case y72z10 =>
    intro w9 hSw
    (obtain ⟨a0, a1, a2, a3, a4, a5, a6, a7⟩ := (show KA w gb gp g1 gc gq g2 w9 from hSw).p.cells); clear hSw
    go_simp
    all_goals with_reducible rfl
  simp only [Act.put, List.setIfInBounds_toArray, List.set_cons_zero, List.set_cons_succ]
  refine wpAnyH_at (i := 74) (some 122) (v := ?v74z11) rfl rfl (by as_aux_lemma => kernel_rfl) (by as_aux_lemma => kernel_rfl) (by as_aux_lemma => kernel_rfl) (fun _ _ _ h => h) (Or.inl ⟨by rfl, ?y74z11⟩) (by assumption) ?r74z11
  case y74z11 =>
    intro w9 hSw
    clear hSw
    go_simp
    all_goals with_reducible rfl
  simp only [Act.put, List.setIfInBounds_toArray, List.set_cons_zero, List.set_cons_succ]
  refine wpAnyH_at (i := 75) (some 123) (v := ?v75z12) rfl rfl (by as_aux_lemma => kernel_rfl) (by as_aux_lemma => kernel_rfl) (by as_aux_lemma => kernel_rfl) (fun _ _ _ h => h) (Or.inl ⟨by rfl, ?y75z12⟩) (by assumption) ?r75z12
  case y75z12 =>
    intro w9 hSw
    clear hSw
    go_simp
    all_goals with_reducible rfl
  simp only [Act.put, List.setIfInBounds_toArray, List.set_cons_zero, List.set_cons_succ]
  refine wpAnyH_one (i := 73) (by as_aux_lemma => kernel_rfl) rfl ?_
  go_wp2_with (go_at_call 21; refine (aHead _ _).mono ?_; rintro ev w13 ⟨gh, rfl, rh, -, hb⟩)
  replace k := k.step hb
  clear hHeld
  have hHeld := k
  clear hb
  refine ⟨hHeld, ?_⟩
  try simp only [Act.put, List.setIfInBounds_toArray, List.set_cons_zero, List.set_cons_succ]
  refine wpAnyH_one (i := 76) (by as_aux_lemma => kernel_rfl) rfl ?_
  go_wp2_with (go_at_call 18; refine (same_any _ _ _ _ _ _ (aB.take 20) _ _ _ (rh.rdW (n := 20) rfl (by omega) aH_wf) (aRd k.row 20 (by omega))).mono ?_; rintro ev w14 ⟨rfl, hb⟩)
  replace k := k.step hb
  clear hHeld
  have hHeld := k
  clear rh
  clear hb
  refine ⟨hHeld, ?_⟩
  try simp only [Act.put, List.setIfInBounds_toArray, List.set_cons_zero, List.set_cons_succ]
  refine wpAnyH_at (i := 77) (some 125) (v := ?v77z13) rfl rfl (by as_aux_lemma => kernel_rfl) (by as_aux_lemma => kernel_rfl) (by as_aux_lemma => kernel_rfl) (fun _ _ _ h => h) (Or.inl ⟨by rfl, ?y77z13⟩) (by assumption) ?r77z13
  case y77z13 =>
    intro w9 hSw
    clear hSw
    go_simp
    all_goals with_reducible rfl
  simp only [Act.put, List.setIfInBounds_toArray, List.set_cons_zero, List.set_cons_succ]
  refine wpAnyH_at (i := 78) (some 126) (v := ?v78z14) rfl rfl (by as_aux_lemma => kernel_rfl) (by as_aux_lemma => kernel_rfl) (by as_aux_lemma => kernel_rfl) (fun _ _ _ h => h) (Or.inl ⟨by rfl, ?y78z14⟩) (by assumption) ?r78z14
  case y78z14 =>
    intro w9 hSw
    clear hSw
    go_simp
    all_goals with_reducible rfl
  simp only [Act.put, List.setIfInBounds_toArray, List.set_cons_zero, List.set_cons_succ]
  refine wpAnyH_at (i := 79) (some 127) (v := ?v79z15) rfl rfl (by as_aux_lemma => kernel_rfl) (by as_aux_lemma => kernel_rfl) (by as_aux_lemma => kernel_rfl) (fun _ _ _ h => h) (Or.inl ⟨by rfl, ?y79z15⟩) (by assumption) ?r79z15
  case y79z15 =>
    intro w9 hSw
    clear hSw
    go_simp
    all_goals with_reducible rfl
  simp only [Act.put, List.setIfInBounds_toArray, List.set_cons_zero, List.set_cons_succ]
  refine wpAnyH_at (i := 80) (some 128) (v := ?v80z16) rfl rfl (by as_aux_lemma => kernel_rfl) (by as_aux_lemma => kernel_rfl) (by as_aux_lemma => kernel_rfl) (fun _ _ _ h => h) (Or.inl ⟨by rfl, ?y80z16⟩) (by assumption) ?r80z16
  case y80z16 =>
    intro w9 hSw
    (obtain ⟨a0, a1, a2, a3, a4, a5, a6, a7⟩ := (show KA w gb gp g1 gc gq g2 w9 from hSw).q.cells); clear hSw
    go_simp
    all_goals with_reducible rfl
  simp only [Act.put, List.setIfInBounds_toArray, List.set_cons_zero, List.set_cons_succ]
  refine wpAnyH_at (i := 81) (some 129) (v := ?v81z17) rfl rfl (by as_aux_lemma => kernel_rfl) (by as_aux_lemma => kernel_rfl) (by as_aux_lemma => kernel_rfl) (fun _ _ _ h => h) (Or.inl ⟨by rfl, ?y81z17⟩) (by assumption) ?r81z17
  case y81z17 =>
    intro w9 hSw
    clear hSw
    go_simp
    all_goals with_reducible rfl
  simp only [Act.put, List.setIfInBounds_toArray, List.set_cons_zero, List.set_cons_succ]
  refine wpAnyH_at (i := 82) (some 130) (v := ?v82z18) rfl rfl (by as_aux_lemma => kernel_rfl) (by as_aux_lemma => kernel_rfl) (by as_aux_lemma => kernel_rfl) (fun _ _ _ h => h) (Or.inl ⟨by rfl, ?y82z18⟩) (by assumption) ?r82z18
  case y82z18 =>
    intro w9 hSw
    clear hSw
    go_simp
    all_goals with_reducible rfl
  simp only [Act.put, List.setIfInBounds_toArray, List.set_cons_zero, List.set_cons_succ]
  refine wpAnyH_at (i := 83) (some 131) (v := ?v83z19) rfl rfl (by as_aux_lemma => kernel_rfl) (by as_aux_lemma => kernel_rfl) (by as_aux_lemma => kernel_rfl) (fun _ _ _ h => h) (Or.inl ⟨by rfl, ?y83z19⟩) (by assumption) ?r83z19
  case y83z19 =>
    intro w9 hSw
    clear hSw
    go_simp
    all_goals with_reducible rfl
  simp only [Act.put, List.setIfInBounds_toArray, List.set_cons_zero, List.set_cons_succ]
  refine wpAnyH_at (i := 84) (some 132) (v := ?v84z20) rfl rfl (by as_aux_lemma => kernel_rfl) (by as_aux_lemma => kernel_rfl) (by as_aux_lemma => kernel_rfl) (fun _ _ _ h => h) (Or.inl ⟨by rfl, ?y84z20⟩) (by assumption) ?r84z20
  case y84z20 =>
    intro w9 hSw
    clear hSw
    go_simp
    all_goals with_reducible rfl
  simp only [Act.put, List.setIfInBounds_toArray, List.set_cons_zero, List.set_cons_succ]
  refine wpAnyH_at (i := 85) (some 133) (v := ?v85z21) rfl rfl (by as_aux_lemma => kernel_rfl) (by as_aux_lemma => kernel_rfl) (by as_aux_lemma => kernel_rfl) (fun _ _ _ h => h) (Or.inl ⟨by rfl, ?y85z21⟩) (by assumption) ?r85z21
  case y85z21 =>
    intro w9 hSw
    (obtain ⟨a0, a1, a2, a3, a4, a5, a6, a7⟩ := (show KA w gb gp g1 gc gq g2 w9 from hSw).p.cells); clear hSw
    go_simp
    all_goals with_reducible rfl
  simp only [Act.put, List.setIfInBounds_toArray, List.set_cons_zero, List.set_cons_succ]
  refine wpAnyH_at (i := 86) (some 134) (v := ?v86z22) rfl rfl (by as_aux_lemma => kernel_rfl) (by as_aux_lemma => kernel_rfl) (by as_aux_lemma => kernel_rfl) (fun _ _ _ h => h) (Or.inl ⟨by rfl, ?y86z22⟩) (by assumption) ?r86z22
  case y86z22 =>
    intro w9 hSw
    (obtain ⟨a0, a1, a2, a3, a4, a5, a6, a7⟩ := (show KA w gb gp g1 gc gq g2 w9 from hSw).p.cells); clear hSw
    go_simp
    all_goals with_reducible rfl
  simp only [Act.put, List.setIfInBounds_toArray, List.set_cons_zero, List.set_cons_succ]
  refine wpAnyH_one (i := 87) (by as_aux_lemma => kernel_rfl) rfl ?_
  go_wp2_with (go_at_call 23; refine (aSame k.r1).mono ?_; rintro ev w15 ⟨rfl, hb⟩)
  replace k := k.step hb
  clear hHeld
  have hHeld := k
  clear hb
  refine ⟨hHeld, ?_⟩
  try simp only [Act.put, List.setIfInBounds_toArray, List.set_cons_zero, List.set_cons_succ]
  refine wpAnyH_at (i := 88) (some 136) (v := ?v88z23) rfl rfl (by as_aux_lemma => kernel_rfl) (by as_aux_lemma => kernel_rfl) (by as_aux_lemma => kernel_rfl) (fun _ _ _ h => h) (Or.inl ⟨by rfl, ?y88z23⟩) (by assumption) ?r88z23
  case y88z23 =>
    intro w9 hSw
    clear hSw
    go_simp
    all_goals with_reducible rfl
  simp only [Act.put, List.setIfInBounds_toArray, List.set_cons_zero, List.set_cons_succ]
  refine wpAnyH_at (i := 89) (some 137) (v := ?v89z24) rfl rfl (by as_aux_lemma => kernel_rfl) (by as_aux_lemma => kernel_rfl) (by as_aux_lemma => kernel_rfl) (fun _ _ _ h => h) (Or.inl ⟨by rfl, ?y89z24⟩) (by assumption) ?r89z24
  case y89z24 =>
    intro w9 hSw
    clear hSw
    go_simp
    all_goals with_reducible rfl
  simp only [Act.put, List.setIfInBounds_toArray, List.set_cons_zero, List.set_cons_succ]
  refine wpAnyH_at (i := 90) (some 138) (v := ?v90z25) rfl rfl (by as_aux_lemma => kernel_rfl) (by as_aux_lemma => kernel_rfl) (by as_aux_lemma => kernel_rfl) (fun _ _ _ h => h) (Or.inl ⟨by rfl, ?y90z25⟩) (by assumption) ?r90z25
  case y90z25 =>
    intro w9 hSw
    (obtain ⟨a0, a1, a2, a3, a4, a5, a6, a7⟩ := (show KA w gb gp g1 gc gq g2 w9 from hSw).p.cells); clear hSw
    go_simp
    all_goals with_reducible rfl
  simp only [Act.put, List.setIfInBounds_toArray, List.set_cons_zero, List.set_cons_succ]
  refine wpAnyH_at (i := 91) (some 139) (v := ?v91z26) rfl rfl (by as_aux_lemma => kernel_rfl) (by as_aux_lemma => kernel_rfl) (by as_aux_lemma => kernel_rfl) (fun _ _ _ h => h) (Or.inl ⟨by rfl, ?y91z26⟩) (by assumption) ?r91z26
  case y91z26 =>
    intro w9 hSw
    (obtain ⟨a0, a1, a2, a3, a4, a5, a6, a7⟩ := (show KA w gb gp g1 gc gq g2 w9 from hSw).q.cells); clear hSw
    go_simp
    all_goals with_reducible rfl
  simp only [Act.put, List.setIfInBounds_toArray, List.set_cons_zero, List.set_cons_succ]
  refine wpAnyH_one (i := 92) (by as_aux_lemma => kernel_rfl) rfl ?_
  go_wp2_with (go_at_call 23; refine (aOther k.r1 k.r2).mono ?_; rintro ev w16 ⟨rfl, hb⟩)
  replace k := k.step hb
  clear hHeld
  have hHeld := k
  clear hb
  refine ⟨hHeld, ?_⟩
  try simp only [Act.put, List.setIfInBounds_toArray, List.set_cons_zero, List.set_cons_succ]
  refine wpAnyH_at (i := 93) (some 141) (v := ?v93z27) rfl rfl (by as_aux_lemma => kernel_rfl) (by as_aux_lemma => kernel_rfl) (by as_aux_lemma => kernel_rfl) (fun _ _ _ h => h) (Or.inl ⟨by rfl, ?y93z27⟩) (by assumption) ?r93z27
  case y93z27 =>
    intro w9 hSw
    clear hSw
    go_simp
    all_goals with_reducible rfl
  simp only [Act.put, List.setIfInBounds_toArray, List.set_cons_zero, List.set_cons_succ]
  refine wpAnyH_at (i := 94) (some 142) (v := ?v94z28) rfl rfl (by as_aux_lemma => kernel_rfl) (by as_aux_lemma => kernel_rfl) (by as_aux_lemma => kernel_rfl) (fun _ _ _ h => h) (Or.inl ⟨by rfl, ?y94z28⟩) (by assumption) ?r94z28
  case y94z28 =>
    intro w9 hSw
    clear hSw
    go_simp
    all_goals with_reducible rfl
  simp only [Act.put, List.setIfInBounds_toArray, List.set_cons_zero, List.set_cons_succ]
  refine wpAnyH_at (i := 95) (some 0) (v := ?v95z29) rfl rfl (by as_aux_lemma => kernel_rfl) (by as_aux_lemma => kernel_rfl) (by as_aux_lemma => kernel_rfl) (fun _ _ _ h => h) (Or.inl ⟨by rfl, ?y95z29⟩) (by assumption) ?r95z29
  case y95z29 =>
    intro w9 hSw
    clear hSw
    go_simp
    all_goals with_reducible rfl
  simp only [Act.put, List.setIfInBounds_toArray, List.set_cons_zero]
  refine wpAnyH_done (by as_aux_lemma => kernel_rfl) ?_ _
  clear hHeld
  go_wp2
  go_ret
  exact ⟨rfl, k.kn.below⟩
end Go.Proofs.YthgdgjpckgfmbaaDoor
