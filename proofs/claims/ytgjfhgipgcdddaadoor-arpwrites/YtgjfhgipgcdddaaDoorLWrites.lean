/-
  The law ArpWrites: every Bytes, Ask and Tell answers what the document says; what is written is parsed as it was.
-/
import Derived.Test.YtgjfhgipgcdddaaDoorLCuts
import Derived.Test.YtgjfhgipgcdddaaDoorLTells
namespace Go.Proofs.YtgjfhgipgcdddaaDoor
open Go.RowKit

/-- What the walk knows: the arguments' boxes, the packet's bytes. -/
structure KW (w : World) (op : Int) (m : Mac6) (ip : Int) (t : Mac6) (ti : Int) (a : Mac6) (g : Nat) (W : World) : Prop where
  kn : Kn w W
  p : PkAt W w.heap.size 29 op m ip t ti
  a : McAt W (w.heap.size + 1) 26 a
  row : Row W g (pkB op m ip t ti)
theorem KW.step {w W V : World} {op : Int} {m : Mac6} {ip : Int} {t : Mac6} {ti : Int} {a : Mac6} {g : Nat} (h : KW w op m ip t ti a g W) (hb : Below W.heap.size W V) : KW w op m ip t ti a g V := ⟨h.kn.step hb, h.p.step hb, h.a.step hb, h.row.below hb h.row.lt⟩
theorem KW.start (op : Int) (m : Mac6) (ip : Int) (t : Mac6) (ti : Int) (a : Mac6) (w : World) (hg : Laid w) :
    Kn w ((w.alloc (.cells (pkC op m ip t ti) 29)).alloc (.cells (mcC a) 26)) ∧ PkAt ((w.alloc (.cells (pkC op m ip t ti) 29)).alloc (.cells (mcC a) 26)) w.heap.size 29 op m ip t ti ∧ McAt ((w.alloc (.cells (pkC op m ip t ti) 29)).alloc (.cells (mcC a) 26)) (w.heap.size + 1) 26 a := by
  have h1 := PkAt.new w 29 op m ip t ti
  have k1 := (Kn.start hg).alloc (.cells (pkC op m ip t ti) 29)
  have s1 : (w.alloc (.cells (pkC op m ip t ti) 29)).heap.size = w.heap.size + 1 := by simp
  generalize w.alloc (.cells (pkC op m ip t ti) 29) = W1 at *
  have h2 := McAt.new W1 26 a
  rw [s1] at h2
  exact ⟨k1.alloc _, h1.step (alloc_below W1 (.cells (mcC a) 26)), h2⟩
theorem b_six8 (op : Int) (m : Mac6) (ip : Int) (t : Mac6) (ti : Int) : six ((pkB op m ip t ti).drop 8) = m := rfl
theorem b_six18 (op : Int) (m : Mac6) (ip : Int) (t : Mac6) (ti : Int) : six ((pkB op m ip t ti).drop 18) = t := rfl
theorem b_op {op : Int} (m : Mac6) (ip : Int) (t : Mac6) (ti : Int) (h : 1 ≤ op ∧ op ≤ 2) : opOf (pkB op m ip t ti) = op := by
  show op / 256 % 256 * 256 + op % 256 = op
  omega
theorem b_ip (op : Int) (m : Mac6) (ip : Int) (t : Mac6) (ti : Int) : num4 ((pkB op m ip t ti).drop 14) = ip := by
  show ip / 16777216 * 16777216 + ip / 65536 % 256 * 65536 + ip / 256 % 256 * 256 + ip % 256 = ip
  omega
theorem b_ti (op : Int) (m : Mac6) (ip : Int) (t : Mac6) (ti : Int) : num4 ((pkB op m ip t ti).drop 24) = ti := by
  show ti / 16777216 * 16777216 + ti / 65536 % 256 * 65536 + ti / 256 % 256 * 256 + ti % 256 = ti
  omega
theorem b_kind {op : Int} (m : Mac6) (ip : Int) (t : Mac6) (ti : Int) (h : 1 ≤ op ∧ op ≤ 2) : kindB (pkB op m ip t ti) = true := by
  unfold kindB
  rw [b_op m ip t ti h]
  have : opB op = true := by unfold opB; simp; omega
  rw [this]
  rfl
theorem b_group {op : Int} {m : Mac6} (ip : Int) (t : Mac6) (ti : Int) (h : 1 ≤ op ∧ op ≤ 2) (hgr : grpV m = true) : pE (pkB op m ip t ti) = (1, 10) := by
  unfold pE
  rw [b_kind m ip t ti h, b_six8, if_neg (show ¬ (pkB op m ip t ti).length < 28 from by show ¬ 28 < 28; omega), if_neg (by decide), if_pos hgr]
theorem b_good {op : Int} {m : Mac6} (ip : Int) (t : Mac6) (ti : Int) (h : 1 ≤ op ∧ op ≤ 2) (hgr : grpV m = false) : pE (pkB op m ip t ti) = (0, 0) := by
  unfold pE
  rw [b_kind m ip t ti h, b_six8, if_neg (show ¬ (pkB op m ip t ti).length < 28 from by show ¬ 28 < 28; omega), if_neg (by decide), if_neg (by rw [hgr]; decide)]
theorem pkOf_b {op : Int} (m : Mac6) (ip : Int) (t : Mac6) (ti : Int) (h : 1 ≤ op ∧ op ≤ 2) : pkOf (pkB op m ip t ti) = pkV op m ip t ti := by
  unfold pkOf
  rw [b_op m ip t ti h, b_six8, b_ip, b_six18, b_ti]
/-- And behind the bytes. -/
structure KX (w : World) (op : Int) (m : Mac6) (ip : Int) (t : Mac6) (ti : Int) (W : World) : Prop where
  kn : Kn w W
  p : PkAt W w.heap.size 29 op m ip t ti
section
variable {w W V : World} {op : Int} {m : Mac6} {ip : Int} {t : Mac6} {ti : Int}
theorem KX.step (h : KX w op m ip t ti W) (hb : Below W.heap.size W V) : KX w op m ip t ti V := ⟨h.kn.step hb, h.p.step hb⟩
theorem KX.low (h : KX w op m ip t ti W) (hl : Laid w) (hb : Below (w.heap.size + 2) W V) : KX w op m ip t ti V :=
  have hb' := h.kn.below.trans (hb.mono (by omega))
  ⟨⟨hl.below hb', hb'⟩, h.p.below hb (by omega)⟩
end
theorem b_len (op : Int) (m : Mac6) (ip : Int) (t : Mac6) (ti : Int) : (pkB op m ip t ti).length = 28 := rfl
theorem wf123 : ∀ x ∈ [(1 : Int), 2, 3], (Lit.int .u8 x).wf = true := by decide

set_option maxRecDepth 100000 in
set_option maxHeartbeats 4000000 in
theorem writes_law (op : Int) (m : Mac6) (ip : Int) (t : Mac6) (ti : Int) (a : Mac6) (tg : Int) (w : World) (hg : Laid w) (hm : m.ok) (hi : 0 ≤ ip ∧ ip < 4294967296) (ht : t.ok) (hti : 0 ≤ ti ∧ ti < 4294967296) :
    Calls Tryd.prog 4 #[pkV op m ip t ti, a.v, .int .u32 tg] w fun e w' => e = .returned (.bool true) ∧ Below w.heap.size w w' := by
  obtain ⟨k0, p0, m0⟩ := KW.start op m ip t ti a w hg
  have hwf := Lib.hid (pkB_wf (op := op) hm hi ht hti)
  go_enter Tryd.func4, Tryd.ntmps4
  go_wp2_with fail
  refine (alive_any _ k0.laid).mono ?_
  rintro ev w1 ⟨rfl, hb⟩
  replace k0 := k0.step hb
  replace p0 := p0.step hb
  replace m0 := m0.step hb
  clear hb
  obtain ⟨x0, x1, x2, x3, x4, x5, x6, x7, x8, x9, x10, x11, x12, x13, x14⟩ := p0.cells
  go_wp2_with fail
  refine (bytes_any op m ip t ti _ hm hi ht hti).mono ?_
  rintro ev w2 ⟨g, rfl, row, hgw, hb⟩
  have k : KW w op m ip t ti a g w2 := ⟨k0.step hb, p0.step hb, m0.step hb, row⟩
  have hwg : w.heap.size + 2 ≤ g := by have := blk_lt m0; omega
  clear x0 x1 x2 x3 x4 x5 x6 x7 x8 x9 x10 x11 x12 x13 x14
  clear hb k0 p0 m0 row hgw
  go_wp2_with fail
  replace k := k.step (below_drew _)
  refine wp_region_held_drew (S := fun w' => KW w op m ip t ti a g w') (by kernel_rfl) k (fun hHeld => ?_)
  generalize w2.drew = W2 at *
  have q1 := eq25'
  refine wpAnyH_at (i := 0) (some 14) (v := ?v0z1) rfl rfl (by kernel_rfl) (by kernel_rfl) (by kernel_rfl) (fun _ _ _ h => h) (Or.inl ⟨by rfl, ?y0z1⟩) (by assumption) ?r0z1
  case y0z1 =>
    intro w9 hSw
    clear hSw
    go_simp
    all_goals with_reducible rfl
  simp only [Act.put, List.setIfInBounds_toArray, List.set_cons_zero, List.set_cons_succ]
  refine wpAnyH_at (i := 1) (some 15) (v := ?v1z2) rfl rfl (by kernel_rfl) (by kernel_rfl) (by kernel_rfl) (fun _ _ _ h => h) (Or.inl ⟨by rfl, ?y1z2⟩) (by assumption) ?r1z2
  case y1z2 =>
    intro w9 hSw
    (obtain ⟨a0, a1, a2, a3, a4, a5, a6, a7, a8, a9, a10, a11, a12, a13, a14⟩ := (show KW w op m ip t ti a g w9 from hSw).p.cells); clear hSw
    go_simp
    all_goals with_reducible rfl
  simp only [Act.put, List.setIfInBounds_toArray, List.set_cons_zero, List.set_cons_succ]
  refine wpAnyH_one (i := 2) (by kernel_rfl) rfl ?_
  go_wp2_with (go_at_call 12; refine (of_any_ op m ip t ti _).mono ?_; rintro ev V1 ⟨rfl, hb⟩)
  replace k := k.step hb
  clear hb hHeld
  have hHeld := k
  refine ⟨hHeld, ?_⟩
  try simp only [Act.put, List.setIfInBounds_toArray, List.set_cons_zero, List.set_cons_succ]
  refine wpAnyH_one (i := 3) (by kernel_rfl) rfl ?_
  go_wp2_with (go_at_call 15; refine (refBytes_any op m ip t ti _ hm hi ht hti).mono ?_; rintro ev V2 ⟨A2, n2, c2, rfl, o2, hb⟩)
  replace k := k.step hb
  clear hb hHeld
  have hHeld := k
  refine ⟨hHeld, ?_⟩
  try simp only [Act.put, List.setIfInBounds_toArray, List.set_cons_zero, List.set_cons_succ]
  refine wpAnyH_one (i := 4) (by kernel_rfl) rfl ?_
  go_wp2_with (go_at_call 13; refine (same_any _ _ _ _ _ _ (pkB op m ip t ti) _ _ _ (k.row.rdAll (n := 28) rfl (by omega) hwf.out) o2.rd).mono ?_; rintro ev V3 ⟨rfl, hb⟩)
  replace k := k.step hb
  clear hb hHeld o2
  have hHeld := k
  refine ⟨hHeld, ?_⟩
  try simp only [Act.put, List.setIfInBounds_toArray, List.set_cons_zero, List.set_cons_succ]
  refine wpAnyH_at (i := 5) (some 19) (v := ?v5z3) rfl rfl (by kernel_rfl) (by kernel_rfl) (by kernel_rfl) (fun _ _ _ h => h) (Or.inl ⟨by rfl, ?y5z3⟩) (by assumption) ?r5z3
  case y5z3 =>
    intro w9 hSw
    clear hSw
    go_simp
    all_goals with_reducible rfl
  simp only [Act.put, List.setIfInBounds_toArray, List.set_cons_zero, List.set_cons_succ]
  refine wpAnyH_at (i := 6) (some 20) (v := ?v6z4) rfl rfl (by kernel_rfl) (by kernel_rfl) (by kernel_rfl) (fun _ _ _ h => h) (Or.inl ⟨by rfl, ?y6z4⟩) (by assumption) ?r6z4
  case y6z4 =>
    intro w9 hSw
    clear hSw
    go_simp
    all_goals with_reducible rfl
  simp only [Act.put, List.setIfInBounds_toArray, List.set_cons_zero, List.set_cons_succ]
  refine wpAnyH_at (i := 7) (some 21) (v := ?v7z5) rfl rfl (by kernel_rfl) (by kernel_rfl) (by kernel_rfl) (fun _ _ _ h => h) (Or.inl ⟨by rfl, ?y7z5⟩) (by assumption) ?r7z5
  case y7z5 =>
    intro w9 hSw
    (obtain ⟨a0, a1, a2, a3, a4, a5⟩ := (show KW w op m ip t ti a g w9 from hSw).a.cells); clear hSw
    go_simp
    all_goals with_reducible rfl
  simp only [Act.put, List.setIfInBounds_toArray, List.set_cons_zero, List.set_cons_succ]
  refine wpAnyH_at (i := 8) (some 22) (v := ?v8z6) rfl rfl (by kernel_rfl) (by kernel_rfl) (by kernel_rfl) (fun _ _ _ h => h) (Or.inl ⟨by rfl, ?y8z6⟩) (by assumption) ?r8z6
  case y8z6 =>
    intro w9 hSw
    clear hSw
    go_simp
    all_goals with_reducible rfl
  simp only [Act.put, List.setIfInBounds_toArray, List.set_cons_zero, List.set_cons_succ]
  refine wpAnyH_at (i := 9) (some 23) (v := ?v9z7) rfl rfl (by kernel_rfl) (by kernel_rfl) (by kernel_rfl) (fun _ _ _ h => h) (Or.inl ⟨by rfl, ?y9z7⟩) (by assumption) ?r9z7
  case y9z7 =>
    intro w9 hSw
    (obtain ⟨a0, a1, a2, a3, a4, a5, a6, a7, a8, a9, a10, a11, a12, a13, a14⟩ := (show KW w op m ip t ti a g w9 from hSw).p.cells); clear hSw
    go_simp
    all_goals with_reducible rfl
  simp only [Act.put, List.setIfInBounds_toArray, List.set_cons_zero, List.set_cons_succ]
  refine wpAnyH_at (i := 10) (some 24) (v := ?v10z8) rfl rfl (by kernel_rfl) (by kernel_rfl) (by kernel_rfl) (fun _ _ _ h => h) (Or.inl ⟨by rfl, ?y10z8⟩) (by assumption) ?r10z8
  case y10z8 =>
    intro w9 hSw
    clear hSw
    go_simp
    all_goals with_reducible rfl
  simp only [Act.put, List.setIfInBounds_toArray, List.set_cons_zero, List.set_cons_succ]
  refine wpAnyH_at (i := 13) (some 27) (v := ?v13z9) rfl rfl (by kernel_rfl) (by kernel_rfl) (by kernel_rfl) (fun _ _ _ h => h) (Or.inl ⟨by rfl, ?y13z9⟩) (by assumption) ?r13z9
  case y13z9 =>
    intro w9 hSw
    (obtain ⟨a0, a1, a2, a3, a4, a5⟩ := (show KW w op m ip t ti a g w9 from hSw).a.cells); clear hSw
    go_simp
    all_goals with_reducible rfl
  simp only [Act.put, List.setIfInBounds_toArray, List.set_cons_zero, List.set_cons_succ]
  refine wpAnyH_at (i := 14) (some 28) (v := ?v14z10) rfl rfl (by kernel_rfl) (by kernel_rfl) (by kernel_rfl) (fun _ _ _ h => h) (Or.inl ⟨by rfl, ?y14z10⟩) (by assumption) ?r14z10
  case y14z10 =>
    intro w9 hSw
    clear hSw
    go_simp
    all_goals with_reducible rfl
  simp only [Act.put, List.setIfInBounds_toArray, List.set_cons_zero, List.set_cons_succ]
  refine wpAnyH_at (i := 15) (some 29) (v := ?v15z11) rfl rfl (by kernel_rfl) (by kernel_rfl) (by kernel_rfl) (fun _ _ _ h => h) (Or.inl ⟨by rfl, ?y15z11⟩) (by assumption) ?r15z11
  case y15z11 =>
    intro w9 hSw
    (obtain ⟨a0, a1, a2, a3, a4, a5, a6, a7, a8, a9, a10, a11, a12, a13, a14⟩ := (show KW w op m ip t ti a g w9 from hSw).p.cells); clear hSw
    go_simp
    all_goals with_reducible rfl
  simp only [Act.put, List.setIfInBounds_toArray, List.set_cons_zero, List.set_cons_succ]
  refine wpAnyH_at (i := 16) (some 30) (v := ?v16z12) rfl rfl (by kernel_rfl) (by kernel_rfl) (by kernel_rfl) (fun _ _ _ h => h) (Or.inl ⟨by rfl, ?y16z12⟩) (by assumption) ?r16z12
  case y16z12 =>
    intro w9 hSw
    clear hSw
    go_simp
    all_goals with_reducible rfl
  simp only [Act.put, List.setIfInBounds_toArray, List.set_cons_zero, List.set_cons_succ]
  refine wpAnyH_one (i := 11) (by kernel_rfl) rfl ?_
  go_wp2_with (go_at_call 16; refine (ask_any a ip tg _).mono ?_; rintro ev V4 ⟨rfl, hb⟩)
  replace k := k.step hb
  clear hb hHeld
  have hHeld := k
  refine ⟨hHeld, ?_⟩
  try simp only [Act.put, List.setIfInBounds_toArray, List.set_cons_zero, List.set_cons_succ]
  refine wpAnyH_one (i := 12) (by kernel_rfl) rfl ?_
  go_wp2_with (go_at_call 12; refine (of_any_ 1 a ip zero6 tg _).mono ?_; rintro ev V5 ⟨rfl, hb⟩)
  replace k := k.step hb
  clear hb hHeld
  have hHeld := k
  refine ⟨hHeld, ?_⟩
  try simp only [Act.put, List.setIfInBounds_toArray, List.set_cons_zero, List.set_cons_succ]
  refine wpAnyH_one (i := 17) (by kernel_rfl) rfl ?_
  go_wp2_with (go_at_call 17; refine (refAsk_any a ip tg _).mono ?_; rintro ev V6 ⟨rfl, hb⟩)
  replace k := k.step hb
  clear hb hHeld
  have hHeld := k
  refine ⟨hHeld, ?_⟩
  try simp only [Act.put, List.setIfInBounds_toArray, List.set_cons_zero, List.set_cons_succ]
  refine wpAnyH_at (i := 18) (some 32) (v := ?v18z13) rfl rfl (by kernel_rfl) (by kernel_rfl) (by kernel_rfl) (fun _ _ _ h => h) (Or.inl ⟨by rfl, ?y18z13⟩) (by assumption) ?r18z13
  case y18z13 =>
    intro w9 hSw
    clear hSw
    go_simp
    all_goals with_reducible rfl
  simp only [Act.put, List.setIfInBounds_toArray, List.set_cons_zero, List.set_cons_succ]
  refine wpAnyH_at (i := 19) (some 33) (v := ?v19z14) rfl rfl (by kernel_rfl) (by kernel_rfl) (by kernel_rfl) (fun _ _ _ h => h) (Or.inl ⟨by rfl, ?y19z14⟩) (by assumption) ?r19z14
  case y19z14 =>
    intro w9 hSw
    clear hSw
    go_simp
    all_goals with_reducible rfl
  simp only [Act.put, List.setIfInBounds_toArray, List.set_cons_zero, List.set_cons_succ]
  refine wpAnyH_at (i := 20) (some 34) (v := ?v20z15) rfl rfl (by kernel_rfl) (by kernel_rfl) (by kernel_rfl) (fun _ _ _ h => h) (Or.inl ⟨by rfl, ?y20z15⟩) (by assumption) ?r20z15
  case y20z15 =>
    intro w9 hSw
    clear hSw
    go_simp
    all_goals with_reducible rfl
  simp only [Act.put, List.setIfInBounds_toArray, List.set_cons_zero, List.set_cons_succ]
  refine wpAnyH_at (i := 21) (some 35) (v := ?v21z16) rfl rfl (by kernel_rfl) (by kernel_rfl) (by kernel_rfl) (fun _ _ _ h => h) (Or.inl ⟨by rfl, ?y21z16⟩) (by assumption) ?r21z16
  case y21z16 =>
    intro w9 hSw
    (obtain ⟨a0, a1, a2, a3, a4, a5, a6, a7, a8, a9, a10, a11, a12, a13, a14⟩ := (show KW w op m ip t ti a g w9 from hSw).p.cells); clear hSw
    go_simp
    all_goals with_reducible rfl
  simp only [Act.put, List.setIfInBounds_toArray, List.set_cons_zero, List.set_cons_succ]
  refine wpAnyH_at (i := 22) (some 36) (v := ?v22z17) rfl rfl (by kernel_rfl) (by kernel_rfl) (by kernel_rfl) (fun _ _ _ h => h) (Or.inl ⟨by rfl, ?y22z17⟩) (by assumption) ?r22z17
  case y22z17 =>
    intro w9 hSw
    (obtain ⟨a0, a1, a2, a3, a4, a5⟩ := (show KW w op m ip t ti a g w9 from hSw).a.cells); clear hSw
    go_simp
    all_goals with_reducible rfl
  simp only [Act.put, List.setIfInBounds_toArray, List.set_cons_zero, List.set_cons_succ]
  refine wpAnyH_at (i := 25) (some 39) (v := ?v25z18) rfl rfl (by kernel_rfl) (by kernel_rfl) (by kernel_rfl) (fun _ _ _ h => h) (Or.inl ⟨by rfl, ?y25z18⟩) (by assumption) ?r25z18
  case y25z18 =>
    intro w9 hSw
    (obtain ⟨a0, a1, a2, a3, a4, a5, a6, a7, a8, a9, a10, a11, a12, a13, a14⟩ := (show KW w op m ip t ti a g w9 from hSw).p.cells); clear hSw
    go_simp
    all_goals with_reducible rfl
  simp only [Act.put, List.setIfInBounds_toArray, List.set_cons_zero, List.set_cons_succ]
  refine wpAnyH_at (i := 27) (some 41) (v := ?v27z19) rfl rfl (by kernel_rfl) (by kernel_rfl) (by kernel_rfl) (fun _ _ _ h => h) (Or.inl ⟨by rfl, ?y27z19⟩) (by assumption) ?r27z19
  case y27z19 =>
    intro w9 hSw
    (obtain ⟨a0, a1, a2, a3, a4, a5⟩ := (show KW w op m ip t ti a g w9 from hSw).a.cells); clear hSw
    go_simp
    all_goals with_reducible rfl
  simp only [Act.put, List.setIfInBounds_toArray, List.set_cons_zero, List.set_cons_succ]
  refine wpAnyH_one (i := 23) (by kernel_rfl) rfl ?_
  go_wp2_with (go_at_call 18; refine (tell_any op m ip t ti a _).mono ?_; rintro ev V7 ⟨rfl, hb⟩)
  replace k := k.step hb
  clear hb hHeld
  have hHeld := k
  refine ⟨hHeld, ?_⟩
  try simp only [Act.put, List.setIfInBounds_toArray, List.set_cons_zero, List.set_cons_succ]
  refine wpAnyH_one (i := 24) (by kernel_rfl) rfl ?_
  go_wp2_with (go_at_call 12; refine (of_any_ 2 a ti m ip _).mono ?_; rintro ev V8 ⟨rfl, hb⟩)
  replace k := k.step hb
  clear hb hHeld
  have hHeld := k
  refine ⟨hHeld, ?_⟩
  try simp only [Act.put, List.setIfInBounds_toArray, List.set_cons_zero, List.set_cons_succ]
  refine wpAnyH_one (i := 26) (by kernel_rfl) rfl ?_
  go_wp2_with (go_at_call 12; refine (of_any_ op m ip t ti _).mono ?_; rintro ev V9 ⟨rfl, hb⟩)
  replace k := k.step hb
  clear hb hHeld
  have hHeld := k
  refine ⟨hHeld, ?_⟩
  try simp only [Act.put, List.setIfInBounds_toArray, List.set_cons_zero, List.set_cons_succ]
  refine wpAnyH_one (i := 28) (by kernel_rfl) rfl ?_
  go_wp2_with (go_at_call 19; refine (refTell_any op m ip t ti a _).mono ?_; rintro ev V10 ⟨rfl, hb⟩)
  replace k := k.step hb
  clear hb hHeld
  have hHeld := k
  refine ⟨hHeld, ?_⟩
  try simp only [Act.put, List.setIfInBounds_toArray, List.set_cons_zero, List.set_cons_succ]
  refine wpAnyH_at (i := 29) (some 43) (v := ?v29z20) rfl rfl (by kernel_rfl) (by kernel_rfl) (by kernel_rfl) (fun _ _ _ h => h) (Or.inl ⟨by rfl, ?y29z20⟩) (by assumption) ?r29z20
  case y29z20 =>
    intro w9 hSw
    clear hSw
    go_simp
    all_goals with_reducible rfl
  simp only [Act.put, List.setIfInBounds_toArray, List.set_cons_zero, List.set_cons_succ]
  refine wpAnyH_at (i := 30) (some 44) (v := ?v30z21) rfl rfl (by kernel_rfl) (by kernel_rfl) (by kernel_rfl) (fun _ _ _ h => h) (Or.inl ⟨by rfl, ?y30z21⟩) (by assumption) ?r30z21
  case y30z21 =>
    intro w9 hSw
    clear hSw
    go_simp
    all_goals with_reducible rfl
  simp only [Act.put, List.setIfInBounds_toArray, List.set_cons_zero, List.set_cons_succ]
  refine wpAnyH_done (by kernel_rfl) ?_ _
  clear hHeld q1
  have o1 := (k.row.own (n := 28) hwg rfl (by omega) hwf.out).below (alloc_below V10 (.cells #[.int .u8 1, .int .u8 2, .int .u8 3] 5)) (Nat.le_refl _)
  have r1 := rd_lit .u8 5 V10 [1, 2, 3] 3 rfl (by omega) wf123
  have kx : KX w op m ip t ti (V10.alloc (.cells #[.int .u8 1, .int .u8 2, .int .u8 3] 5)) := ⟨k.kn.alloc _, k.p.step (alloc_below _ _)⟩
  have s1 : w.heap.size + 2 ≤ (V10.alloc (.cells #[.int .u8 1, .int .u8 2, .int .u8 3] 5)).heap.size := by have := k.row.lt; simp; omega
  clear k
  go_wp2_with (at_builtin; refine wpList_app rfl (.tmp 46) (.tmp 47) 22 rfl (w.heap.size + 2) Tryd.underlying22 info5 (by omega) (some ⟨g, 0, none⟩) 28 28 (pkB op m ip t ti) rfl o1 (some ⟨V10.heap.size, 0, none⟩) 3 3 (V10.heap.size + 1) [1, 2, 3] rfl r1 (by omega) s1 ?_; intro A4 n4 c4 w4 o4 hgr)
  replace kx := kx.low hg (grown_low o1 hgr s1)
  have ro := o4.rd
  clear o1 o4 r1 hgr s1 hwg hg
  by_cases hop : 1 ≤ op ∧ op ≤ 2
  · cases hgr : grpV m
    · as_aux_lemma =>
        have hma := hm.1
        have hg8 : (m.a % 2 == 1) = false := hgr
        have h1 : ¬ op < 1 := by omega
        have h2 : ¬ 2 < op := by omega
        refine (parse_good ro (Nat.le_of_eq (b_len op m ip t ti).symm) (b_good ip t ti hop hgr)).mono ?_
        rintro ev w5 ⟨rfl, hb⟩
        rw [pkOf_b m ip t ti hop]
        replace kx := (kx.step hb).step (alloc_below w5 (.cells (pkC op m ip t ti) 29))
        have pq := PkAt.new w5 29 op m ip t ti
        clear hb ro
        obtain ⟨x0, x1, x2, x3, x4, x5, x6, x7, x8, x9, x10, x11, x12, x13, x14⟩ := kx.p.cells
        obtain ⟨y0, y1, y2, y3, y4, y5, y6, y7, y8, y9, y10, y11, y12, y13, y14⟩ := pq.cells
        have q1 := eq26'
        go_wp2
        go_ret
        exact ⟨rfl, kx.kn.below⟩
    · as_aux_lemma =>
        have hma := hm.1
        have hg8 : (m.a % 2 == 1) = true := hgr
        have h1 : ¬ op < 1 := by omega
        have h2 : ¬ 2 < op := by omega
        refine (parse_bad ro (Nat.le_of_eq (b_len op m ip t ti).symm) (b_group ip t ti hop hgr) (by decide)).mono ?_
        rintro ev w5 ⟨rfl, hb⟩
        replace kx := (kx.step hb).step (alloc_below w5 (.cells (pkC 0 zero6 0 zero6 0) 29))
        clear hb ro
        obtain ⟨x0, x1, x2, x3, x4, x5, x6, x7, x8, x9, x10, x11, x12, x13, x14⟩ := kx.p.cells
        go_wp2_with fail
        refine (whyIs_err 1 10 10 _).mono ?_
        rintro ev w6 ⟨rfl, hb⟩
        replace kx := kx.step hb
        clear hb
        clear x0 x1 x2 x3 x4 x5 x6 x7 x8 x9 x10 x11 x12 x13 x14
        go_wp2
        go_ret
        exact ⟨rfl, kx.kn.below⟩
  · have ho : op < 1 ∨ (¬ op < 1 ∧ 2 < op) := by omega
    clear hop
    rcases pE_two (pkB op m ip t ti) with hE | ⟨r, e, hE, he⟩
    · as_aux_lemma =>
        refine (parse_good ro (Nat.le_of_eq (b_len op m ip t ti).symm) hE).mono ?_
        rintro ev w5 ⟨rfl, hb⟩
        replace kx := (kx.step hb).step (alloc_below w5 (.cells (pkC (opOf (pkB op m ip t ti)) (six ((pkB op m ip t ti).drop 8)) (num4 ((pkB op m ip t ti).drop 14)) (six ((pkB op m ip t ti).drop 18)) (num4 ((pkB op m ip t ti).drop 24))) 29))
        clear hb ro
        generalize (pkB op m ip t ti) = ys at *
        obtain ⟨x0, x1, x2, x3, x4, x5, x6, x7, x8, x9, x10, x11, x12, x13, x14⟩ := kx.p.cells
        rcases ho with h1 | ⟨h1, h2⟩
        · go_wp2
          go_ret
          exact ⟨rfl, kx.kn.below⟩
        · go_wp2
          go_ret
          exact ⟨rfl, kx.kn.below⟩
    · as_aux_lemma =>
        refine (parse_bad ro (Nat.le_of_eq (b_len op m ip t ti).symm) hE he).mono ?_
        rintro ev w5 ⟨rfl, hb⟩
        replace kx := (kx.step hb).step (alloc_below w5 (.cells (pkC 0 zero6 0 zero6 0) 29))
        clear hb ro
        obtain ⟨x0, x1, x2, x3, x4, x5, x6, x7, x8, x9, x10, x11, x12, x13, x14⟩ := kx.p.cells
        rcases ho with h1 | ⟨h1, h2⟩
        · go_wp2
          go_ret
          exact ⟨rfl, kx.kn.below⟩
        · go_wp2
          go_ret
          exact ⟨rfl, kx.kn.below⟩
end Go.Proofs.YtgjfhgipgcdddaaDoor
