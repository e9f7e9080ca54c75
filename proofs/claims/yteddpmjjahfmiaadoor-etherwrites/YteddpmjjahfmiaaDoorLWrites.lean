/-
  The law EtherWrites, walked.
-/
import Derived.Test.YteddpmjjahfmiaaDoorPKnow
namespace Go.Proofs.YteddpmjjahfmiaaDoor
open Go.RowKit
set_option linter.unusedVariables false

/-- The two frames that came in. -/
structure KV (w : World) (t f : Mac6) (k : Int) (A : Option Addr) (n c : Nat) (xs : List Int) (t2 f2 : Mac6) (k2 : Int) (A2 : Option Addr) (n2 c2 : Nat) (xs2 : List Int) (W : World) : Prop where
  fr : FrAt W w.heap.size 29 t f k A n c
  fo : FrAt W (w.heap.size + 1) 29 t2 f2 k2 A2 n2 c2
  r1 : Rd .u8 W W.heap.size A n c xs
  r2 : Rd .u8 W W.heap.size A2 n2 c2 xs2
  kn : Kn w W
section
variable {w : World} {t f : Mac6} {k : Int} {A : Option Addr} {n c : Nat} {xs : List Int} {t2 f2 : Mac6} {k2 : Int} {A2 : Option Addr} {n2 c2 : Nat} {xs2 : List Int} {W V : World}
theorem KV.step (h : KV w t f k A n c xs t2 f2 k2 A2 n2 c2 xs2 W) (hb : Below W.heap.size W V) : KV w t f k A n c xs t2 f2 k2 A2 n2 c2 xs2 V :=
  ⟨h.fr.step hb, h.fo.step hb, (h.r1.below hb (Nat.le_refl _)).more hb.size, (h.r2.below hb (Nat.le_refl _)).more hb.size, h.kn.step hb⟩
theorem KV.start (w : World) (t f : Mac6) (k : Int) (A : Option Addr) (n c : Nat) (xs : List Int) (t2 f2 : Mac6) (k2 : Int) (A2 : Option Addr) (n2 c2 : Nat) (xs2 : List Int) (hg : Laid w) (h1 : Rd .u8 w w.heap.size A n c xs) (h2 : Rd .u8 w w.heap.size A2 n2 c2 xs2) :
    KV w t f k A n c xs t2 f2 k2 A2 n2 c2 xs2 ((w.alloc (.cells (frC t f k A n c) 29)).alloc (.cells (frC t2 f2 k2 A2 n2 c2) 29)) :=
  have hb : Below w.heap.size w ((w.alloc (.cells (frC t f k A n c) 29)).alloc (.cells (frC t2 f2 k2 A2 n2 c2) 29)) := (alloc_below w _).alloc (by simp) _
  ⟨(FrAt.new w 29 t f k A n c).step (alloc_below _ _), by simpa using FrAt.new (w.alloc (.cells (frC t f k A n c) 29)) 29 t2 f2 k2 A2 n2 c2, (h1.below hb (Nat.le_refl _)).more hb.size, (h2.below hb (Nat.le_refl _)).more hb.size, ((Kn.start hg).alloc _).alloc _⟩
end
/-- The answers: the bytes (program's, document's), the document's fault at gh. -/
structure KW (B : Option Addr) (nb cb : Nat) (C : Option Addr) (nc cc : Nat) (Ah : Option Addr) (nh ch : Nat) (eh : Int) (gh : Nat) (zs rs : List Int) (W : World) : Prop where
  hx : W.heap[gh]? = some (.cells (flC Ah nh ch eh) 39 (0, 0))
  b : Rd .u8 W W.heap.size B nb cb zs
  c : Rd .u8 W W.heap.size C nc cc zs
  r3 : Rd .i64 W W.heap.size Ah nh ch rs
theorem KW.step {B : Option Addr} {nb cb : Nat} {C : Option Addr} {nc cc : Nat} {Ah : Option Addr} {nh ch : Nat} {eh : Int} {gh : Nat} {zs rs : List Int} {W V : World} (h : KW B nb cb C nc cc Ah nh ch eh gh zs rs W) (hb : Below W.heap.size W V) : KW B nb cb C nc cc Ah nh ch eh gh zs rs V :=
  ⟨(hb.block _ (blk_lt h.hx)).trans h.hx, (h.b.below hb (Nat.le_refl _)).more hb.size, (h.c.below hb (Nat.le_refl _)).more hb.size, (h.r3.below hb (Nat.le_refl _)).more hb.size⟩
theorem KW.fault {B : Option Addr} {nb cb : Nat} {C : Option Addr} {nc cc : Nat} {Ah : Option Addr} {nh ch : Nat} {eh : Int} {gh : Nat} {zs rs : List Int} {W : World} (h : KW B nb cb C nc cc Ah nh ch eh gh zs rs W) : W.cell? ⟨gh, 0, none⟩ = some (.slice Ah nh ch) ∧ W.cell? ⟨gh, 1, none⟩ = some (.int .i64 eh) := ⟨blk_cell h.hx rfl, blk_cell h.hx rfl⟩
set_option maxRecDepth 100000 in
set_option maxHeartbeats 4000000 in
theorem writes_far1 (t f : Mac6) (k : Int) (A : Option Addr) (n c : Nat) (xs : List Int) (t2 f2 : Mac6) (k2 : Int) (A2 : Option Addr) (n2 c2 : Nat) (xs2 : List Int) (w : World) (hg : Laid w) (ht : t.ok) (hf : f.ok) (hk : 0 ≤ k ∧ k ≤ 65535) (hr : Rd .u8 w w.heap.size A n c xs) (hr2 : Rd .u8 w w.heap.size A2 n2 c2 xs2) (hn : 3000 < n) :
    Calls Tryd.prog 4 #[frV t f k A n c, frV t2 f2 k2 A2 n2 c2] w fun e w' => e = .returned (.bool true) ∧ Below w.heap.size w w' := by
  have kv := KV.start w t f k A n c xs t2 f2 k2 A2 n2 c2 xs2 hg hr hr2
  have hcap := hr.cap
  have hmax := hr.max
  have hcap2 := hr2.cap
  have hmax2 := hr2.max
  have HL := Lib.hid hr.len
  clear hg hr hr2
  go_enter Tryd.func4, Tryd.ntmps4
  go_wp2_with fail
  refine (alive_any _ kv.kn.laid).mono ?_
  rintro ev w1 ⟨rfl, hb⟩
  replace kv := kv.step hb
  clear hb
  obtain ⟨a0, a1, a2, a3, a4, a5, a6, a7, a8, a9, a10, a11, a12, a13⟩ := kv.fr.cells
  obtain ⟨b0, b1, b2, b3, b4, b5, b6, b7, b8, b9, b10, b11, b12, b13⟩ := kv.fo.cells
  go_wp2
  go_ret
  exact ⟨rfl, kv.kn.below⟩
set_option maxRecDepth 100000 in
set_option maxHeartbeats 4000000 in
theorem writes_far2 (t f : Mac6) (k : Int) (A : Option Addr) (n c : Nat) (xs : List Int) (t2 f2 : Mac6) (k2 : Int) (A2 : Option Addr) (n2 c2 : Nat) (xs2 : List Int) (w : World) (hg : Laid w) (ht : t.ok) (hf : f.ok) (hk : 0 ≤ k ∧ k ≤ 65535) (hr : Rd .u8 w w.heap.size A n c xs) (hr2 : Rd .u8 w w.heap.size A2 n2 c2 xs2) (hn : n ≤ 3000) (hn2 : 3000 < n2) :
    Calls Tryd.prog 4 #[frV t f k A n c, frV t2 f2 k2 A2 n2 c2] w fun e w' => e = .returned (.bool true) ∧ Below w.heap.size w w' := by
  have kv := KV.start w t f k A n c xs t2 f2 k2 A2 n2 c2 xs2 hg hr hr2
  have hcap := hr.cap
  have hmax := hr.max
  have hcap2 := hr2.cap
  have hmax2 := hr2.max
  have HL := Lib.hid hr.len
  clear hg hr hr2
  go_enter Tryd.func4, Tryd.ntmps4
  go_wp2_with fail
  refine (alive_any _ kv.kn.laid).mono ?_
  rintro ev w1 ⟨rfl, hb⟩
  replace kv := kv.step hb
  clear hb
  obtain ⟨a0, a1, a2, a3, a4, a5, a6, a7, a8, a9, a10, a11, a12, a13⟩ := kv.fr.cells
  obtain ⟨b0, b1, b2, b3, b4, b5, b6, b7, b8, b9, b10, b11, b12, b13⟩ := kv.fo.cells
  go_wp2
  go_ret
  exact ⟨rfl, kv.kn.below⟩
set_option maxRecDepth 100000 in
set_option maxHeartbeats 4000000 in
theorem writes_err (t f : Mac6) (k : Int) (A : Option Addr) (n c : Nat) (xs : List Int) (t2 f2 : Mac6) (k2 : Int) (A2 : Option Addr) (n2 c2 : Nat) (xs2 : List Int) (w : World) (hg : Laid w) (ht : t.ok) (hf : f.ok) (hk : 0 ≤ k ∧ k ≤ 65535) (hr : Rd .u8 w w.heap.size A n c xs) (hr2 : Rd .u8 w w.heap.size A2 n2 c2 xs2) (hn : n ≤ 3000) (hn2 : n2 ≤ 3000) (hl : 1500 < n) :
    Calls Tryd.prog 4 #[frV t f k A n c, frV t2 f2 k2 A2 n2 c2] w fun e w' => e = .returned (.bool true) ∧ Below w.heap.size w w' := by
  have kv := KV.start w t f k A n c xs t2 f2 k2 A2 n2 c2 xs2 hg hr hr2
  have hcap := hr.cap
  have hmax := hr.max
  have hcap2 := hr2.cap
  have hmax2 := hr2.max
  have HL := Lib.hid hr.len
  clear hg hr hr2
  go_enter Tryd.func4, Tryd.ntmps4
  go_wp2_with fail
  refine (alive_any _ kv.kn.laid).mono ?_
  rintro ev w1 ⟨rfl, hb⟩
  replace kv := kv.step hb
  clear hb
  obtain ⟨a0, a1, a2, a3, a4, a5, a6, a7, a8, a9, a10, a11, a12, a13⟩ := kv.fr.cells
  obtain ⟨b0, b1, b2, b3, b4, b5, b6, b7, b8, b9, b10, b11, b12, b13⟩ := kv.fo.cells
  go_wp2_with fail
  refine (bytes_long t f k A n c _ hl).mono ?_
  rintro ev w2 ⟨rfl, hb⟩
  replace kv := kv.step hb
  have rb : Rd .u8 w2 w2.heap.size none 0 0 [] := Rd.nil
  clear hb
  clear a0 a1 a2 a3 a4 a5 a6 a7 a8 a9 a10 a11 a12 a13 b0 b1 b2 b3 b4 b5 b6 b7 b8 b9 b10 b11 b12 b13
  obtain ⟨a0, a1, a2, a3, a4, a5, a6, a7, a8, a9, a10, a11, a12, a13⟩ := kv.fr.cells
  go_wp2_with fail
  refine (of_frame t f k A n c xs _ kv.r1 (by omega)).mono ?_
  rintro ev w3 ⟨Ao, no, co, rfl, oo, hb⟩
  obtain rfl : n = no := by rw [← oo.len]; exact HL.out.symm
  replace kv := kv.step hb
  replace rb := (rb.below hb (Nat.le_refl _)).more hb.size
  clear hb a0 a1 a2 a3 a4 a5 a6 a7 a8 a9 a10 a11 a12 a13
  go_wp2_with fail
  refine (refBytes_long t f k Ao n co xs _ oo.rd hl).mono ?_
  rintro ev w4 ⟨Ah, nh, ch, rfl, r3, hb⟩
  have b5 := alloc_below w4 (.cells (flC (Ah) (nh) (ch) (11)) 39)
  have kw : KW (none) (0) (0) (none) (0) (0) (Ah) (nh) (ch) (11) w4.heap.size ([]) ([1]) (w4.alloc (.cells (flC (Ah) (nh) (ch) (11)) 39)) :=
    ⟨heap_alloc_new w4 _, ((((rb.below hb (Nat.le_refl _)).more hb.size).below b5 (Nat.le_refl _)).more b5.size), Rd.nil, ((r3.below b5 (Nat.le_refl _)).more b5.size)⟩
  replace kv := (kv.step hb).step b5
  clear hb b5 rb oo
  replace kv := kv.step (below_drew _)
  replace kw := kw.step (below_drew _)
  go_wp2_with fail
  refine wp_region_held_drew (S := fun w' => KV w t f k A n c xs t2 f2 k2 A2 n2 c2 xs2 w' ∧ KW (none) (0) (0) (none) (0) (0) (Ah) (nh) (ch) (11) w4.heap.size ([]) ([1]) w') (by kernel_rfl) ⟨kv, kw⟩ (fun hHeld => ?_)
  change wpAnyH _ _ _ _ _ _ _ _ (w4.alloc (.cells (flC (Ah) (nh) (ch) (11)) 39)).drew
  clear hHeld
  generalize (w4.alloc (.cells (flC (Ah) (nh) (ch) (11)) 39)).drew = W5 at *
  generalize w4.heap.size = gh at *
  have hHeld := And.intro kv kw
  refine wpAnyH_at (i := 0) (some 34) (v := ?v0z1) rfl rfl (by kernel_rfl) (by kernel_rfl) (by kernel_rfl) (fun _ _ _ h => h) (Or.inl ⟨by rfl, ?y0z1⟩) (by assumption) ?r0z1
  case y0z1 =>
    intro w9 hSw
    clear hSw
    go_simp
    all_goals with_reducible rfl
  simp only [Act.put, List.setIfInBounds_toArray, List.set_cons_zero, List.set_cons_succ]
  refine wpAnyH_at (i := 1) (some 35) (v := ?v1z2) rfl rfl (by kernel_rfl) (by kernel_rfl) (by kernel_rfl) (fun _ _ _ h => h) (Or.inl ⟨by rfl, ?y1z2⟩) (by assumption) ?r1z2
  case y1z2 =>
    intro w9 hSw
    (obtain ⟨h0, h1⟩ := hSw.2.fault); clear hSw
    go_simp
    all_goals with_reducible rfl
  simp only [Act.put, List.setIfInBounds_toArray, List.set_cons_zero, List.set_cons_succ]
  refine wpAnyH_one (i := 2) (by kernel_rfl) rfl ?_
  go_wp2_with (go_at_call 11; refine (is_err Ah nh ch 11 _ kv.kn.laid kw.r3 (by decide)).mono ?_; rintro ev y1 ⟨rfl, hb⟩)
  replace kv := kv.step hb
  replace kw := kw.step hb
  clear hb
  replace hHeld := And.intro kv kw
  refine ⟨hHeld, ?_⟩
  refine wpAnyH_at (i := 3) (some 37) (v := ?v3z3) rfl rfl (by kernel_rfl) (by kernel_rfl) (by kernel_rfl) (fun _ _ _ h => h) (Or.inl ⟨by rfl, ?y3z3⟩) (by assumption) ?r3z3
  case y3z3 =>
    intro w9 hSw
    clear hSw
    go_simp
    all_goals with_reducible rfl
  simp only [Act.put, List.setIfInBounds_toArray, List.set_cons_zero, List.set_cons_succ]
  refine wpAnyH_at (i := 4) (some 38) (v := ?v4z4) rfl rfl (by kernel_rfl) (by kernel_rfl) (by kernel_rfl) (fun _ _ _ h => h) (Or.inl ⟨by rfl, ?y4z4⟩) (by assumption) ?r4z4
  case y4z4 =>
    intro w9 hSw
    clear hSw
    go_simp
    all_goals with_reducible rfl
  simp only [Act.put, List.setIfInBounds_toArray, List.set_cons_zero, List.set_cons_succ]
  refine wpAnyH_at (i := 5) (some 39) (v := ?v5z5) rfl rfl (by kernel_rfl) (by kernel_rfl) (by kernel_rfl) (fun _ _ _ h => h) (Or.inl ⟨by rfl, ?y5z5⟩) (by assumption) ?r5z5
  case y5z5 =>
    intro w9 hSw
    clear hSw
    go_simp
    all_goals with_reducible rfl
  simp only [Act.put, List.setIfInBounds_toArray, List.set_cons_zero, List.set_cons_succ]
  refine wpAnyH_at (i := 6) (some 40) (v := ?v6z6) rfl rfl (by kernel_rfl) (by kernel_rfl) (by kernel_rfl) (fun _ _ _ h => h) (Or.inl ⟨by rfl, ?y6z6⟩) (by assumption) ?r6z6
  case y6z6 =>
    intro w9 hSw
    clear hSw
    go_simp
    all_goals with_reducible rfl
  simp only [Act.put, List.setIfInBounds_toArray, List.set_cons_zero, List.set_cons_succ]
  refine wpAnyH_one (i := 7) (by kernel_rfl) rfl ?_
  go_wp2_with (go_at_call 15; refine (same_any _ _ _ _ _ _ _ _ _ _ kw.b kw.c).mono ?_; rintro ev y2 ⟨rfl, hb⟩)
  replace kv := kv.step hb
  replace kw := kw.step hb
  clear hb
  replace hHeld := And.intro kv kw
  refine ⟨hHeld, ?_⟩
  refine wpAnyH_at (i := 8) (some 42) (v := ?v8z7) rfl rfl (by kernel_rfl) (by kernel_rfl) (by kernel_rfl) (fun _ _ _ h => h) (Or.inl ⟨by rfl, ?y8z7⟩) (by assumption) ?r8z7
  case y8z7 =>
    intro w9 hSw
    clear hSw
    go_simp
    all_goals with_reducible rfl
  simp only [Act.put, List.setIfInBounds_toArray, List.set_cons_zero, List.set_cons_succ]
  refine wpAnyH_at (i := 9) (some 43) (v := ?v9z8) rfl rfl (by kernel_rfl) (by kernel_rfl) (by kernel_rfl) (fun _ _ _ h => h) (Or.inl ⟨by rfl, ?y9z8⟩) (by assumption) ?r9z8
  case y9z8 =>
    intro w9 hSw
    clear hSw
    go_simp
    all_goals with_reducible rfl
  simp only [Act.put, List.setIfInBounds_toArray, List.set_cons_zero, List.set_cons_succ]
  refine wpAnyH_at (i := 10) (some 44) (v := ?v10z9) rfl rfl (by kernel_rfl) (by kernel_rfl) (by kernel_rfl) (fun _ _ _ h => h) (Or.inl ⟨by rfl, ?y10z9⟩) (by assumption) ?r10z9
  case y10z9 =>
    intro w9 hSw
    clear hSw
    go_simp
    all_goals with_reducible rfl
  simp only [Act.put, List.setIfInBounds_toArray, List.set_cons_zero, List.set_cons_succ]
  refine wpAnyH_at (i := 11) (some 45) (v := ?v11z10) rfl rfl (by kernel_rfl) (by kernel_rfl) (by kernel_rfl) (fun _ _ _ h => h) (Or.inl ⟨by rfl, ?y11z10⟩) (by assumption) ?r11z10
  case y11z10 =>
    intro w9 hSw
    (obtain ⟨a0, a1, a2, a3, a4, a5, a6, a7, a8, a9, a10, a11, a12, a13⟩ := hSw.1.fr.cells); clear hSw
    go_simp
    all_goals with_reducible rfl
  simp only [Act.put, List.setIfInBounds_toArray, List.set_cons_zero, List.set_cons_succ]
  refine wpAnyH_at (i := 12) (some 46) (v := ?v12z11) rfl rfl (by kernel_rfl) (by kernel_rfl) (by kernel_rfl) (fun _ _ _ h => h) (Or.inl ⟨by rfl, ?y12z11⟩) (by assumption) ?r12z11
  case y12z11 =>
    intro w9 hSw
    (obtain ⟨a0, a1, a2, a3, a4, a5, a6, a7, a8, a9, a10, a11, a12, a13⟩ := hSw.1.fo.cells); clear hSw
    go_simp
    all_goals with_reducible rfl
  simp only [Act.put, List.setIfInBounds_toArray, List.set_cons_zero, List.set_cons_succ]
  refine wpAnyH_at (i := 14) (some 48) (v := ?v14z12) rfl rfl (by kernel_rfl) (by kernel_rfl) (by kernel_rfl) (fun _ _ _ h => h) (Or.inl ⟨by rfl, ?y14z12⟩) (by assumption) ?r14z12
  case y14z12 =>
    intro w9 hSw
    (obtain ⟨a0, a1, a2, a3, a4, a5, a6, a7, a8, a9, a10, a11, a12, a13⟩ := hSw.1.fr.cells); clear hSw
    go_simp
    all_goals with_reducible rfl
  simp only [Act.put, List.setIfInBounds_toArray, List.set_cons_zero, List.set_cons_succ]
  refine wpAnyH_at (i := 16) (some 50) (v := ?v16z13) rfl rfl (by kernel_rfl) (by kernel_rfl) (by kernel_rfl) (fun _ _ _ h => h) (Or.inl ⟨by rfl, ?y16z13⟩) (by assumption) ?r16z13
  case y16z13 =>
    intro w9 hSw
    (obtain ⟨a0, a1, a2, a3, a4, a5, a6, a7, a8, a9, a10, a11, a12, a13⟩ := hSw.1.fo.cells); clear hSw
    go_simp
    all_goals with_reducible rfl
  simp only [Act.put, List.setIfInBounds_toArray, List.set_cons_zero, List.set_cons_succ]
  refine wpAnyH_one (i := 13) (by kernel_rfl) rfl ?_
  go_wp2_with (go_at_call 18; refine (sameF_any t f k A n c xs t2 f2 k2 A2 n2 c2 xs2 _ kv.r1 kv.r2).mono ?_; rintro ev y3 ⟨rfl, hb⟩)
  replace kv := kv.step hb
  replace kw := kw.step hb
  clear hb
  replace hHeld := And.intro kv kw
  refine ⟨hHeld, ?_⟩
  refine wpAnyH_one (i := 15) (by kernel_rfl) rfl ?_
  go_wp2_with (go_at_call 13; refine (of_frame t f k A n c xs _ kv.r1 (by omega)).mono ?_; rintro ev y4 ⟨Ap, np, cp, rfl, op, hb⟩)
  replace kv := kv.step hb
  replace kw := kw.step hb
  clear hb
  replace hHeld := And.intro kv kw
  refine ⟨hHeld, ?_⟩
  refine wpAnyH_one (i := 17) (by kernel_rfl) rfl ?_
  go_wp2_with (go_at_call 13; refine (of_frame t2 f2 k2 A2 n2 c2 xs2 _ kv.r2 (by omega)).mono ?_; rintro ev y5 ⟨Aq, nq, cq, rfl, oq, hb⟩)
  replace kv := kv.step hb
  replace kw := kw.step hb
  replace op := op.below hb (Nat.le_refl _)
  clear hb
  replace hHeld := And.intro kv kw
  refine ⟨hHeld, ?_⟩
  refine wpAnyH_one (i := 18) (by kernel_rfl) rfl ?_
  go_wp2_with (go_at_call 12; refine (refSame_any t f k Ap np cp xs t2 f2 k2 Aq nq cq xs2 _ op.rd oq.rd).mono ?_; rintro ev y6 ⟨rfl, hb⟩)
  replace kv := kv.step hb
  replace kw := kw.step hb
  clear hb
  replace hHeld := And.intro kv kw
  refine ⟨hHeld, ?_⟩
  clear op oq
  refine wpAnyH_at (i := 19) (some 53) (v := ?v19z14) rfl rfl (by kernel_rfl) (by kernel_rfl) (by kernel_rfl) (fun _ _ _ h => h) (Or.inl ⟨by rfl, ?y19z14⟩) (by assumption) ?r19z14
  case y19z14 =>
    intro w9 hSw
    clear hSw
    go_simp
    all_goals with_reducible rfl
  simp only [Act.put, List.setIfInBounds_toArray, List.set_cons_zero, List.set_cons_succ]
  refine wpAnyH_at (i := 20) (some 54) (v := ?v20z15) rfl rfl (by kernel_rfl) (by kernel_rfl) (by kernel_rfl) (fun _ _ _ h => h) (Or.inl ⟨by rfl, ?y20z15⟩) (by assumption) ?r20z15
  case y20z15 =>
    intro w9 hSw
    clear hSw
    go_simp
    all_goals with_reducible rfl
  simp only [Act.put, List.setIfInBounds_toArray, List.set_cons_zero, List.set_cons_succ]
  refine wpAnyH_done (by kernel_rfl) ?_ _
  go_wp2
  go_ret
  exact ⟨rfl, kv.kn.below⟩
set_option maxRecDepth 100000 in
set_option maxHeartbeats 4000000 in
theorem writes_group (t f : Mac6) (k : Int) (A : Option Addr) (n c : Nat) (xs : List Int) (t2 f2 : Mac6) (k2 : Int) (A2 : Option Addr) (n2 c2 : Nat) (xs2 : List Int) (w : World) (hg : Laid w) (ht : t.ok) (hf : f.ok) (hk : 0 ≤ k ∧ k ≤ 65535) (hr : Rd .u8 w w.heap.size A n c xs) (hr2 : Rd .u8 w w.heap.size A2 n2 c2 xs2) (hn : n ≤ 3000) (hn2 : n2 ≤ 3000) (hl : n ≤ 1500) (hgr : grpV f = true) :
    Calls Tryd.prog 4 #[frV t f k A n c, frV t2 f2 k2 A2 n2 c2] w fun e w' => e = .returned (.bool true) ∧ Below w.heap.size w w' := by
  have kv := KV.start w t f k A n c xs t2 f2 k2 A2 n2 c2 xs2 hg hr hr2
  have hcap := hr.cap
  have hmax := hr.max
  have hcap2 := hr2.cap
  have hmax2 := hr2.max
  have HL := Lib.hid hr.len
  clear hg hr hr2
  go_enter Tryd.func4, Tryd.ntmps4
  go_wp2_with fail
  refine (alive_any _ kv.kn.laid).mono ?_
  rintro ev w1 ⟨rfl, hb⟩
  replace kv := kv.step hb
  clear hb
  obtain ⟨a0, a1, a2, a3, a4, a5, a6, a7, a8, a9, a10, a11, a12, a13⟩ := kv.fr.cells
  obtain ⟨b0, b1, b2, b3, b4, b5, b6, b7, b8, b9, b10, b11, b12, b13⟩ := kv.fo.cells
  have hf0 := hf.1
  have hgr' : (f.a % 2 == 1) = true := hgr
  go_wp2_with fail
  refine (bytes_ok t f k A n c xs _ kv.r1 hl ht hf hk).mono ?_
  rintro ev w2 ⟨gb, rfl, rw, -, hb⟩
  replace kv := kv.step hb
  have rb := rw.rdAll (n := 14 + n) (by rw [hdr_len, HL.out]) (by omega) (hdr_wf ht hf hk kv.r1.2.2.2.1)
  clear rw
  clear hb
  clear a0 a1 a2 a3 a4 a5 a6 a7 a8 a9 a10 a11 a12 a13 b0 b1 b2 b3 b4 b5 b6 b7 b8 b9 b10 b11 b12 b13
  obtain ⟨a0, a1, a2, a3, a4, a5, a6, a7, a8, a9, a10, a11, a12, a13⟩ := kv.fr.cells
  go_wp2_with fail
  refine (of_frame t f k A n c xs _ kv.r1 (by omega)).mono ?_
  rintro ev w3 ⟨Ao, no, co, rfl, oo, hb⟩
  obtain rfl : n = no := by rw [← oo.len]; exact HL.out.symm
  replace kv := kv.step hb
  replace rb := (rb.below hb (Nat.le_refl _)).more hb.size
  clear hb a0 a1 a2 a3 a4 a5 a6 a7 a8 a9 a10 a11 a12 a13
  go_wp2_with fail
  refine (refBytes_ok t f k Ao n co xs _ oo.rd hl ht hf hk).mono ?_
  rintro ev w4 ⟨C, nc, cc, rfl, oc, hb⟩
  have b5 := alloc_below w4 (.cells (flC (none) (0) (0) (0)) 39)
  have kw : KW (some ⟨gb, 0, none⟩) (14 + n) (14 + n) (C) (nc) (cc) (none) (0) (0) (0) w4.heap.size (hdr t f k xs) ([]) (w4.alloc (.cells (flC (none) (0) (0) (0)) 39)) :=
    ⟨heap_alloc_new w4 _, ((((rb.below hb (Nat.le_refl _)).more hb.size).below b5 (Nat.le_refl _)).more b5.size), ((oc.rd.below b5 (Nat.le_refl _)).more b5.size), Rd.nil⟩
  replace kv := (kv.step hb).step b5
  clear hb b5 rb oo
  replace kv := kv.step (below_drew _)
  replace kw := kw.step (below_drew _)
  go_wp2_with fail
  refine wp_region_held_drew (S := fun w' => KV w t f k A n c xs t2 f2 k2 A2 n2 c2 xs2 w' ∧ KW (some ⟨gb, 0, none⟩) (14 + n) (14 + n) (C) (nc) (cc) (none) (0) (0) (0) w4.heap.size (hdr t f k xs) ([]) w') (by kernel_rfl) ⟨kv, kw⟩ (fun hHeld => ?_)
  change wpAnyH _ _ _ _ _ _ _ _ (w4.alloc (.cells (flC (none) (0) (0) (0)) 39)).drew
  clear hHeld
  generalize (w4.alloc (.cells (flC (none) (0) (0) (0)) 39)).drew = W5 at *
  generalize w4.heap.size = gh at *
  have hHeld := And.intro kv kw
  refine wpAnyH_at (i := 0) (some 34) (v := ?v0z16) rfl rfl (by kernel_rfl) (by kernel_rfl) (by kernel_rfl) (fun _ _ _ h => h) (Or.inl ⟨by rfl, ?y0z16⟩) (by assumption) ?r0z16
  case y0z16 =>
    intro w9 hSw
    clear hSw
    go_simp
    all_goals with_reducible rfl
  simp only [Act.put, List.setIfInBounds_toArray, List.set_cons_zero, List.set_cons_succ]
  refine wpAnyH_at (i := 1) (some 35) (v := ?v1z17) rfl rfl (by kernel_rfl) (by kernel_rfl) (by kernel_rfl) (fun _ _ _ h => h) (Or.inl ⟨by rfl, ?y1z17⟩) (by assumption) ?r1z17
  case y1z17 =>
    intro w9 hSw
    (obtain ⟨h0, h1⟩ := hSw.2.fault); clear hSw
    go_simp
    all_goals with_reducible rfl
  simp only [Act.put, List.setIfInBounds_toArray, List.set_cons_zero, List.set_cons_succ]
  refine wpAnyH_one (i := 2) (by kernel_rfl) rfl ?_
  go_wp2_with (go_at_call 11; refine (is_nil none 0 0 _).mono ?_; rintro ev y7 ⟨rfl, hb⟩)
  replace kv := kv.step hb
  replace kw := kw.step hb
  clear hb
  replace hHeld := And.intro kv kw
  refine ⟨hHeld, ?_⟩
  refine wpAnyH_at (i := 3) (some 37) (v := ?v3z18) rfl rfl (by kernel_rfl) (by kernel_rfl) (by kernel_rfl) (fun _ _ _ h => h) (Or.inl ⟨by rfl, ?y3z18⟩) (by assumption) ?r3z18
  case y3z18 =>
    intro w9 hSw
    clear hSw
    go_simp
    all_goals with_reducible rfl
  simp only [Act.put, List.setIfInBounds_toArray, List.set_cons_zero, List.set_cons_succ]
  refine wpAnyH_at (i := 4) (some 38) (v := ?v4z19) rfl rfl (by kernel_rfl) (by kernel_rfl) (by kernel_rfl) (fun _ _ _ h => h) (Or.inl ⟨by rfl, ?y4z19⟩) (by assumption) ?r4z19
  case y4z19 =>
    intro w9 hSw
    clear hSw
    go_simp
    all_goals with_reducible rfl
  simp only [Act.put, List.setIfInBounds_toArray, List.set_cons_zero, List.set_cons_succ]
  refine wpAnyH_at (i := 5) (some 39) (v := ?v5z20) rfl rfl (by kernel_rfl) (by kernel_rfl) (by kernel_rfl) (fun _ _ _ h => h) (Or.inl ⟨by rfl, ?y5z20⟩) (by assumption) ?r5z20
  case y5z20 =>
    intro w9 hSw
    clear hSw
    go_simp
    all_goals with_reducible rfl
  simp only [Act.put, List.setIfInBounds_toArray, List.set_cons_zero, List.set_cons_succ]
  refine wpAnyH_at (i := 6) (some 40) (v := ?v6z21) rfl rfl (by kernel_rfl) (by kernel_rfl) (by kernel_rfl) (fun _ _ _ h => h) (Or.inl ⟨by rfl, ?y6z21⟩) (by assumption) ?r6z21
  case y6z21 =>
    intro w9 hSw
    clear hSw
    go_simp
    all_goals with_reducible rfl
  simp only [Act.put, List.setIfInBounds_toArray, List.set_cons_zero, List.set_cons_succ]
  refine wpAnyH_one (i := 7) (by kernel_rfl) rfl ?_
  go_wp2_with (go_at_call 15; refine (same_any _ _ _ _ _ _ _ _ _ _ kw.b kw.c).mono ?_; rintro ev y8 ⟨rfl, hb⟩)
  replace kv := kv.step hb
  replace kw := kw.step hb
  clear hb
  replace hHeld := And.intro kv kw
  refine ⟨hHeld, ?_⟩
  refine wpAnyH_at (i := 8) (some 42) (v := ?v8z22) rfl rfl (by kernel_rfl) (by kernel_rfl) (by kernel_rfl) (fun _ _ _ h => h) (Or.inl ⟨by rfl, ?y8z22⟩) (by assumption) ?r8z22
  case y8z22 =>
    intro w9 hSw
    clear hSw
    go_simp
    all_goals with_reducible rfl
  simp only [Act.put, List.setIfInBounds_toArray, List.set_cons_zero, List.set_cons_succ]
  refine wpAnyH_at (i := 9) (some 43) (v := ?v9z23) rfl rfl (by kernel_rfl) (by kernel_rfl) (by kernel_rfl) (fun _ _ _ h => h) (Or.inl ⟨by rfl, ?y9z23⟩) (by assumption) ?r9z23
  case y9z23 =>
    intro w9 hSw
    clear hSw
    go_simp
    all_goals with_reducible rfl
  simp only [Act.put, List.setIfInBounds_toArray, List.set_cons_zero, List.set_cons_succ]
  refine wpAnyH_at (i := 10) (some 44) (v := ?v10z24) rfl rfl (by kernel_rfl) (by kernel_rfl) (by kernel_rfl) (fun _ _ _ h => h) (Or.inl ⟨by rfl, ?y10z24⟩) (by assumption) ?r10z24
  case y10z24 =>
    intro w9 hSw
    clear hSw
    go_simp
    all_goals with_reducible rfl
  simp only [Act.put, List.setIfInBounds_toArray, List.set_cons_zero, List.set_cons_succ]
  refine wpAnyH_at (i := 11) (some 45) (v := ?v11z25) rfl rfl (by kernel_rfl) (by kernel_rfl) (by kernel_rfl) (fun _ _ _ h => h) (Or.inl ⟨by rfl, ?y11z25⟩) (by assumption) ?r11z25
  case y11z25 =>
    intro w9 hSw
    (obtain ⟨a0, a1, a2, a3, a4, a5, a6, a7, a8, a9, a10, a11, a12, a13⟩ := hSw.1.fr.cells); clear hSw
    go_simp
    all_goals with_reducible rfl
  simp only [Act.put, List.setIfInBounds_toArray, List.set_cons_zero, List.set_cons_succ]
  refine wpAnyH_at (i := 12) (some 46) (v := ?v12z26) rfl rfl (by kernel_rfl) (by kernel_rfl) (by kernel_rfl) (fun _ _ _ h => h) (Or.inl ⟨by rfl, ?y12z26⟩) (by assumption) ?r12z26
  case y12z26 =>
    intro w9 hSw
    (obtain ⟨a0, a1, a2, a3, a4, a5, a6, a7, a8, a9, a10, a11, a12, a13⟩ := hSw.1.fo.cells); clear hSw
    go_simp
    all_goals with_reducible rfl
  simp only [Act.put, List.setIfInBounds_toArray, List.set_cons_zero, List.set_cons_succ]
  refine wpAnyH_at (i := 14) (some 48) (v := ?v14z27) rfl rfl (by kernel_rfl) (by kernel_rfl) (by kernel_rfl) (fun _ _ _ h => h) (Or.inl ⟨by rfl, ?y14z27⟩) (by assumption) ?r14z27
  case y14z27 =>
    intro w9 hSw
    (obtain ⟨a0, a1, a2, a3, a4, a5, a6, a7, a8, a9, a10, a11, a12, a13⟩ := hSw.1.fr.cells); clear hSw
    go_simp
    all_goals with_reducible rfl
  simp only [Act.put, List.setIfInBounds_toArray, List.set_cons_zero, List.set_cons_succ]
  refine wpAnyH_at (i := 16) (some 50) (v := ?v16z28) rfl rfl (by kernel_rfl) (by kernel_rfl) (by kernel_rfl) (fun _ _ _ h => h) (Or.inl ⟨by rfl, ?y16z28⟩) (by assumption) ?r16z28
  case y16z28 =>
    intro w9 hSw
    (obtain ⟨a0, a1, a2, a3, a4, a5, a6, a7, a8, a9, a10, a11, a12, a13⟩ := hSw.1.fo.cells); clear hSw
    go_simp
    all_goals with_reducible rfl
  simp only [Act.put, List.setIfInBounds_toArray, List.set_cons_zero, List.set_cons_succ]
  refine wpAnyH_one (i := 13) (by kernel_rfl) rfl ?_
  go_wp2_with (go_at_call 18; refine (sameF_any t f k A n c xs t2 f2 k2 A2 n2 c2 xs2 _ kv.r1 kv.r2).mono ?_; rintro ev y9 ⟨rfl, hb⟩)
  replace kv := kv.step hb
  replace kw := kw.step hb
  clear hb
  replace hHeld := And.intro kv kw
  refine ⟨hHeld, ?_⟩
  refine wpAnyH_one (i := 15) (by kernel_rfl) rfl ?_
  go_wp2_with (go_at_call 13; refine (of_frame t f k A n c xs _ kv.r1 (by omega)).mono ?_; rintro ev y10 ⟨Ap, np, cp, rfl, op, hb⟩)
  replace kv := kv.step hb
  replace kw := kw.step hb
  clear hb
  replace hHeld := And.intro kv kw
  refine ⟨hHeld, ?_⟩
  refine wpAnyH_one (i := 17) (by kernel_rfl) rfl ?_
  go_wp2_with (go_at_call 13; refine (of_frame t2 f2 k2 A2 n2 c2 xs2 _ kv.r2 (by omega)).mono ?_; rintro ev y11 ⟨Aq, nq, cq, rfl, oq, hb⟩)
  replace kv := kv.step hb
  replace kw := kw.step hb
  replace op := op.below hb (Nat.le_refl _)
  clear hb
  replace hHeld := And.intro kv kw
  refine ⟨hHeld, ?_⟩
  refine wpAnyH_one (i := 18) (by kernel_rfl) rfl ?_
  go_wp2_with (go_at_call 12; refine (refSame_any t f k Ap np cp xs t2 f2 k2 Aq nq cq xs2 _ op.rd oq.rd).mono ?_; rintro ev y12 ⟨rfl, hb⟩)
  replace kv := kv.step hb
  replace kw := kw.step hb
  clear hb
  replace hHeld := And.intro kv kw
  refine ⟨hHeld, ?_⟩
  clear op oq
  refine wpAnyH_at (i := 19) (some 53) (v := ?v19z29) rfl rfl (by kernel_rfl) (by kernel_rfl) (by kernel_rfl) (fun _ _ _ h => h) (Or.inl ⟨by rfl, ?y19z29⟩) (by assumption) ?r19z29
  case y19z29 =>
    intro w9 hSw
    clear hSw
    go_simp
    all_goals with_reducible rfl
  simp only [Act.put, List.setIfInBounds_toArray, List.set_cons_zero, List.set_cons_succ]
  refine wpAnyH_at (i := 20) (some 54) (v := ?v20z30) rfl rfl (by kernel_rfl) (by kernel_rfl) (by kernel_rfl) (fun _ _ _ h => h) (Or.inl ⟨by rfl, ?y20z30⟩) (by assumption) ?r20z30
  case y20z30 =>
    intro w9 hSw
    clear hSw
    go_simp
    all_goals with_reducible rfl
  simp only [Act.put, List.setIfInBounds_toArray, List.set_cons_zero, List.set_cons_succ]
  refine wpAnyH_done (by kernel_rfl) ?_ _
  obtain ⟨a0, a1, a2, a3, a4, a5, a6, a7, a8, a9, a10, a11, a12, a13⟩ := kv.fr.cells
  go_wp2_with fail
  refine (parse_group t f k _ (14 + n) _ xs _ kw.b (by omega) (by omega) hgr).mono ?_
  rintro ev w8 ⟨rfl, hb⟩
  replace kv := (kv.step hb).step (alloc_below w8 (.cells (frC az az 0 none 0 0) 29))
  clear hb a0 a1 a2 a3 a4 a5 a6 a7 a8 a9 a10 a11 a12 a13
  obtain ⟨a0, a1, a2, a3, a4, a5, a6, a7, a8, a9, a10, a11, a12, a13⟩ := kv.fr.cells
  go_wp2_with fail
  refine (errno_err 10 _ kv.kn.laid).mono ?_
  rintro ev w9 ⟨rfl, hb⟩
  replace kv := kv.step hb
  clear hb a0 a1 a2 a3 a4 a5 a6 a7 a8 a9 a10 a11 a12 a13
  go_wp2
  go_ret
  exact ⟨rfl, kv.kn.below⟩
set_option maxRecDepth 100000 in
set_option maxHeartbeats 4000000 in
theorem writes_okay (t f : Mac6) (k : Int) (A : Option Addr) (n c : Nat) (xs : List Int) (t2 f2 : Mac6) (k2 : Int) (A2 : Option Addr) (n2 c2 : Nat) (xs2 : List Int) (w : World) (hg : Laid w) (ht : t.ok) (hf : f.ok) (hk : 0 ≤ k ∧ k ≤ 65535) (hr : Rd .u8 w w.heap.size A n c xs) (hr2 : Rd .u8 w w.heap.size A2 n2 c2 xs2) (hn : n ≤ 3000) (hn2 : n2 ≤ 3000) (hl : n ≤ 1500) (hgr : grpV f = false) :
    Calls Tryd.prog 4 #[frV t f k A n c, frV t2 f2 k2 A2 n2 c2] w fun e w' => e = .returned (.bool true) ∧ Below w.heap.size w w' := by
  have kv := KV.start w t f k A n c xs t2 f2 k2 A2 n2 c2 xs2 hg hr hr2
  have hcap := hr.cap
  have hmax := hr.max
  have hcap2 := hr2.cap
  have hmax2 := hr2.max
  have HL := Lib.hid hr.len
  clear hg hr hr2
  go_enter Tryd.func4, Tryd.ntmps4
  go_wp2_with fail
  refine (alive_any _ kv.kn.laid).mono ?_
  rintro ev w1 ⟨rfl, hb⟩
  replace kv := kv.step hb
  clear hb
  obtain ⟨a0, a1, a2, a3, a4, a5, a6, a7, a8, a9, a10, a11, a12, a13⟩ := kv.fr.cells
  obtain ⟨b0, b1, b2, b3, b4, b5, b6, b7, b8, b9, b10, b11, b12, b13⟩ := kv.fo.cells
  have hf0 := hf.1
  have hgr' : (f.a % 2 == 1) = false := hgr
  go_wp2_with fail
  refine (bytes_ok t f k A n c xs _ kv.r1 hl ht hf hk).mono ?_
  rintro ev w2 ⟨gb, rfl, rw, -, hb⟩
  replace kv := kv.step hb
  have rb := rw.rdAll (n := 14 + n) (by rw [hdr_len, HL.out]) (by omega) (hdr_wf ht hf hk kv.r1.2.2.2.1)
  clear rw
  clear hb
  clear a0 a1 a2 a3 a4 a5 a6 a7 a8 a9 a10 a11 a12 a13 b0 b1 b2 b3 b4 b5 b6 b7 b8 b9 b10 b11 b12 b13
  obtain ⟨a0, a1, a2, a3, a4, a5, a6, a7, a8, a9, a10, a11, a12, a13⟩ := kv.fr.cells
  go_wp2_with fail
  refine (of_frame t f k A n c xs _ kv.r1 (by omega)).mono ?_
  rintro ev w3 ⟨Ao, no, co, rfl, oo, hb⟩
  obtain rfl : n = no := by rw [← oo.len]; exact HL.out.symm
  replace kv := kv.step hb
  replace rb := (rb.below hb (Nat.le_refl _)).more hb.size
  clear hb a0 a1 a2 a3 a4 a5 a6 a7 a8 a9 a10 a11 a12 a13
  go_wp2_with fail
  refine (refBytes_ok t f k Ao n co xs _ oo.rd hl ht hf hk).mono ?_
  rintro ev w4 ⟨C, nc, cc, rfl, oc, hb⟩
  have b5 := alloc_below w4 (.cells (flC (none) (0) (0) (0)) 39)
  have kw : KW (some ⟨gb, 0, none⟩) (14 + n) (14 + n) (C) (nc) (cc) (none) (0) (0) (0) w4.heap.size (hdr t f k xs) ([]) (w4.alloc (.cells (flC (none) (0) (0) (0)) 39)) :=
    ⟨heap_alloc_new w4 _, ((((rb.below hb (Nat.le_refl _)).more hb.size).below b5 (Nat.le_refl _)).more b5.size), ((oc.rd.below b5 (Nat.le_refl _)).more b5.size), Rd.nil⟩
  replace kv := (kv.step hb).step b5
  clear hb b5 rb oo
  replace kv := kv.step (below_drew _)
  replace kw := kw.step (below_drew _)
  go_wp2_with fail
  refine wp_region_held_drew (S := fun w' => KV w t f k A n c xs t2 f2 k2 A2 n2 c2 xs2 w' ∧ KW (some ⟨gb, 0, none⟩) (14 + n) (14 + n) (C) (nc) (cc) (none) (0) (0) (0) w4.heap.size (hdr t f k xs) ([]) w') (by kernel_rfl) ⟨kv, kw⟩ (fun hHeld => ?_)
  change wpAnyH _ _ _ _ _ _ _ _ (w4.alloc (.cells (flC (none) (0) (0) (0)) 39)).drew
  clear hHeld
  generalize (w4.alloc (.cells (flC (none) (0) (0) (0)) 39)).drew = W5 at *
  generalize w4.heap.size = gh at *
  have hHeld := And.intro kv kw
  refine wpAnyH_at (i := 0) (some 34) (v := ?v0z16) rfl rfl (by kernel_rfl) (by kernel_rfl) (by kernel_rfl) (fun _ _ _ h => h) (Or.inl ⟨by rfl, ?y0z16⟩) (by assumption) ?r0z16
  case y0z16 =>
    intro w9 hSw
    clear hSw
    go_simp
    all_goals with_reducible rfl
  simp only [Act.put, List.setIfInBounds_toArray, List.set_cons_zero, List.set_cons_succ]
  refine wpAnyH_at (i := 1) (some 35) (v := ?v1z17) rfl rfl (by kernel_rfl) (by kernel_rfl) (by kernel_rfl) (fun _ _ _ h => h) (Or.inl ⟨by rfl, ?y1z17⟩) (by assumption) ?r1z17
  case y1z17 =>
    intro w9 hSw
    (obtain ⟨h0, h1⟩ := hSw.2.fault); clear hSw
    go_simp
    all_goals with_reducible rfl
  simp only [Act.put, List.setIfInBounds_toArray, List.set_cons_zero, List.set_cons_succ]
  refine wpAnyH_one (i := 2) (by kernel_rfl) rfl ?_
  go_wp2_with (go_at_call 11; refine (is_nil none 0 0 _).mono ?_; rintro ev y7 ⟨rfl, hb⟩)
  replace kv := kv.step hb
  replace kw := kw.step hb
  clear hb
  replace hHeld := And.intro kv kw
  refine ⟨hHeld, ?_⟩
  refine wpAnyH_at (i := 3) (some 37) (v := ?v3z18) rfl rfl (by kernel_rfl) (by kernel_rfl) (by kernel_rfl) (fun _ _ _ h => h) (Or.inl ⟨by rfl, ?y3z18⟩) (by assumption) ?r3z18
  case y3z18 =>
    intro w9 hSw
    clear hSw
    go_simp
    all_goals with_reducible rfl
  simp only [Act.put, List.setIfInBounds_toArray, List.set_cons_zero, List.set_cons_succ]
  refine wpAnyH_at (i := 4) (some 38) (v := ?v4z19) rfl rfl (by kernel_rfl) (by kernel_rfl) (by kernel_rfl) (fun _ _ _ h => h) (Or.inl ⟨by rfl, ?y4z19⟩) (by assumption) ?r4z19
  case y4z19 =>
    intro w9 hSw
    clear hSw
    go_simp
    all_goals with_reducible rfl
  simp only [Act.put, List.setIfInBounds_toArray, List.set_cons_zero, List.set_cons_succ]
  refine wpAnyH_at (i := 5) (some 39) (v := ?v5z20) rfl rfl (by kernel_rfl) (by kernel_rfl) (by kernel_rfl) (fun _ _ _ h => h) (Or.inl ⟨by rfl, ?y5z20⟩) (by assumption) ?r5z20
  case y5z20 =>
    intro w9 hSw
    clear hSw
    go_simp
    all_goals with_reducible rfl
  simp only [Act.put, List.setIfInBounds_toArray, List.set_cons_zero, List.set_cons_succ]
  refine wpAnyH_at (i := 6) (some 40) (v := ?v6z21) rfl rfl (by kernel_rfl) (by kernel_rfl) (by kernel_rfl) (fun _ _ _ h => h) (Or.inl ⟨by rfl, ?y6z21⟩) (by assumption) ?r6z21
  case y6z21 =>
    intro w9 hSw
    clear hSw
    go_simp
    all_goals with_reducible rfl
  simp only [Act.put, List.setIfInBounds_toArray, List.set_cons_zero, List.set_cons_succ]
  refine wpAnyH_one (i := 7) (by kernel_rfl) rfl ?_
  go_wp2_with (go_at_call 15; refine (same_any _ _ _ _ _ _ _ _ _ _ kw.b kw.c).mono ?_; rintro ev y8 ⟨rfl, hb⟩)
  replace kv := kv.step hb
  replace kw := kw.step hb
  clear hb
  replace hHeld := And.intro kv kw
  refine ⟨hHeld, ?_⟩
  refine wpAnyH_at (i := 8) (some 42) (v := ?v8z22) rfl rfl (by kernel_rfl) (by kernel_rfl) (by kernel_rfl) (fun _ _ _ h => h) (Or.inl ⟨by rfl, ?y8z22⟩) (by assumption) ?r8z22
  case y8z22 =>
    intro w9 hSw
    clear hSw
    go_simp
    all_goals with_reducible rfl
  simp only [Act.put, List.setIfInBounds_toArray, List.set_cons_zero, List.set_cons_succ]
  refine wpAnyH_at (i := 9) (some 43) (v := ?v9z23) rfl rfl (by kernel_rfl) (by kernel_rfl) (by kernel_rfl) (fun _ _ _ h => h) (Or.inl ⟨by rfl, ?y9z23⟩) (by assumption) ?r9z23
  case y9z23 =>
    intro w9 hSw
    clear hSw
    go_simp
    all_goals with_reducible rfl
  simp only [Act.put, List.setIfInBounds_toArray, List.set_cons_zero, List.set_cons_succ]
  refine wpAnyH_at (i := 10) (some 44) (v := ?v10z24) rfl rfl (by kernel_rfl) (by kernel_rfl) (by kernel_rfl) (fun _ _ _ h => h) (Or.inl ⟨by rfl, ?y10z24⟩) (by assumption) ?r10z24
  case y10z24 =>
    intro w9 hSw
    clear hSw
    go_simp
    all_goals with_reducible rfl
  simp only [Act.put, List.setIfInBounds_toArray, List.set_cons_zero, List.set_cons_succ]
  refine wpAnyH_at (i := 11) (some 45) (v := ?v11z25) rfl rfl (by kernel_rfl) (by kernel_rfl) (by kernel_rfl) (fun _ _ _ h => h) (Or.inl ⟨by rfl, ?y11z25⟩) (by assumption) ?r11z25
  case y11z25 =>
    intro w9 hSw
    (obtain ⟨a0, a1, a2, a3, a4, a5, a6, a7, a8, a9, a10, a11, a12, a13⟩ := hSw.1.fr.cells); clear hSw
    go_simp
    all_goals with_reducible rfl
  simp only [Act.put, List.setIfInBounds_toArray, List.set_cons_zero, List.set_cons_succ]
  refine wpAnyH_at (i := 12) (some 46) (v := ?v12z26) rfl rfl (by kernel_rfl) (by kernel_rfl) (by kernel_rfl) (fun _ _ _ h => h) (Or.inl ⟨by rfl, ?y12z26⟩) (by assumption) ?r12z26
  case y12z26 =>
    intro w9 hSw
    (obtain ⟨a0, a1, a2, a3, a4, a5, a6, a7, a8, a9, a10, a11, a12, a13⟩ := hSw.1.fo.cells); clear hSw
    go_simp
    all_goals with_reducible rfl
  simp only [Act.put, List.setIfInBounds_toArray, List.set_cons_zero, List.set_cons_succ]
  refine wpAnyH_at (i := 14) (some 48) (v := ?v14z27) rfl rfl (by kernel_rfl) (by kernel_rfl) (by kernel_rfl) (fun _ _ _ h => h) (Or.inl ⟨by rfl, ?y14z27⟩) (by assumption) ?r14z27
  case y14z27 =>
    intro w9 hSw
    (obtain ⟨a0, a1, a2, a3, a4, a5, a6, a7, a8, a9, a10, a11, a12, a13⟩ := hSw.1.fr.cells); clear hSw
    go_simp
    all_goals with_reducible rfl
  simp only [Act.put, List.setIfInBounds_toArray, List.set_cons_zero, List.set_cons_succ]
  refine wpAnyH_at (i := 16) (some 50) (v := ?v16z28) rfl rfl (by kernel_rfl) (by kernel_rfl) (by kernel_rfl) (fun _ _ _ h => h) (Or.inl ⟨by rfl, ?y16z28⟩) (by assumption) ?r16z28
  case y16z28 =>
    intro w9 hSw
    (obtain ⟨a0, a1, a2, a3, a4, a5, a6, a7, a8, a9, a10, a11, a12, a13⟩ := hSw.1.fo.cells); clear hSw
    go_simp
    all_goals with_reducible rfl
  simp only [Act.put, List.setIfInBounds_toArray, List.set_cons_zero, List.set_cons_succ]
  refine wpAnyH_one (i := 13) (by kernel_rfl) rfl ?_
  go_wp2_with (go_at_call 18; refine (sameF_any t f k A n c xs t2 f2 k2 A2 n2 c2 xs2 _ kv.r1 kv.r2).mono ?_; rintro ev y9 ⟨rfl, hb⟩)
  replace kv := kv.step hb
  replace kw := kw.step hb
  clear hb
  replace hHeld := And.intro kv kw
  refine ⟨hHeld, ?_⟩
  refine wpAnyH_one (i := 15) (by kernel_rfl) rfl ?_
  go_wp2_with (go_at_call 13; refine (of_frame t f k A n c xs _ kv.r1 (by omega)).mono ?_; rintro ev y10 ⟨Ap, np, cp, rfl, op, hb⟩)
  replace kv := kv.step hb
  replace kw := kw.step hb
  clear hb
  replace hHeld := And.intro kv kw
  refine ⟨hHeld, ?_⟩
  refine wpAnyH_one (i := 17) (by kernel_rfl) rfl ?_
  go_wp2_with (go_at_call 13; refine (of_frame t2 f2 k2 A2 n2 c2 xs2 _ kv.r2 (by omega)).mono ?_; rintro ev y11 ⟨Aq, nq, cq, rfl, oq, hb⟩)
  replace kv := kv.step hb
  replace kw := kw.step hb
  replace op := op.below hb (Nat.le_refl _)
  clear hb
  replace hHeld := And.intro kv kw
  refine ⟨hHeld, ?_⟩
  refine wpAnyH_one (i := 18) (by kernel_rfl) rfl ?_
  go_wp2_with (go_at_call 12; refine (refSame_any t f k Ap np cp xs t2 f2 k2 Aq nq cq xs2 _ op.rd oq.rd).mono ?_; rintro ev y12 ⟨rfl, hb⟩)
  replace kv := kv.step hb
  replace kw := kw.step hb
  clear hb
  replace hHeld := And.intro kv kw
  refine ⟨hHeld, ?_⟩
  clear op oq
  refine wpAnyH_at (i := 19) (some 53) (v := ?v19z29) rfl rfl (by kernel_rfl) (by kernel_rfl) (by kernel_rfl) (fun _ _ _ h => h) (Or.inl ⟨by rfl, ?y19z29⟩) (by assumption) ?r19z29
  case y19z29 =>
    intro w9 hSw
    clear hSw
    go_simp
    all_goals with_reducible rfl
  simp only [Act.put, List.setIfInBounds_toArray, List.set_cons_zero, List.set_cons_succ]
  refine wpAnyH_at (i := 20) (some 54) (v := ?v20z30) rfl rfl (by kernel_rfl) (by kernel_rfl) (by kernel_rfl) (fun _ _ _ h => h) (Or.inl ⟨by rfl, ?y20z30⟩) (by assumption) ?r20z30
  case y20z30 =>
    intro w9 hSw
    clear hSw
    go_simp
    all_goals with_reducible rfl
  simp only [Act.put, List.setIfInBounds_toArray, List.set_cons_zero, List.set_cons_succ]
  refine wpAnyH_done (by kernel_rfl) ?_ _
  obtain ⟨a0, a1, a2, a3, a4, a5, a6, a7, a8, a9, a10, a11, a12, a13⟩ := kv.fr.cells
  go_wp2_with fail
  refine (parse_hdr t f k _ (14 + n) _ xs _ kw.b (by omega) (by omega) hgr).mono ?_
  rintro ev w8 ⟨gx, rfl, rx, -, hb⟩
  rw [Nat.add_sub_cancel_left]
  replace kv := (kv.step hb).step (alloc_below w8 (.cells (frC t f k (some ⟨gx, 0, none⟩) n n) 29))
  replace rx := rx.below (alloc_below w8 (.cells (frC t f k (some ⟨gx, 0, none⟩) n n) 29)) rx.lt
  have x0 := FrAt.new w8 29 t f k (some ⟨gx, 0, none⟩) n n
  clear hb a0 a1 a2 a3 a4 a5 a6 a7 a8 a9 a10 a11 a12 a13
  obtain ⟨a0, a1, a2, a3, a4, a5, a6, a7, a8, a9, a10, a11, a12, a13⟩ := kv.fr.cells
  obtain ⟨b0, b1, b2, b3, b4, b5, b6, b7, b8, b9, b10, b11, b12, b13⟩ := x0.cells
  go_wp2_with fail
  have cs := sameF_any t f k (some ⟨gx, 0, none⟩) n n xs t f k A n c xs _ (rx.rdAll HL.out (by omega) kv.r1.2.2.2.1) kv.r1
  rw [sameV_self] at cs
  refine cs.mono ?_
  rintro ev w9 ⟨rfl, hb⟩
  replace kv := kv.step hb
  clear hb cs a0 a1 a2 a3 a4 a5 a6 a7 a8 a9 a10 a11 a12 a13 b0 b1 b2 b3 b4 b5 b6 b7 b8 b9 b10 b11 b12 b13
  obtain ⟨a0, a1, a2, a3, a4, a5, a6, a7, a8, a9, a10, a11, a12, a13⟩ := kv.fr.cells
  go_wp2
  go_ret
  exact ⟨rfl, kv.kn.below⟩
theorem writes_law (t f : Mac6) (k : Int) (A : Option Addr) (n c : Nat) (xs : List Int) (t2 f2 : Mac6) (k2 : Int) (A2 : Option Addr) (n2 c2 : Nat) (xs2 : List Int) (w : World) (hg : Laid w) (ht : t.ok) (hf : f.ok) (hk : 0 ≤ k ∧ k ≤ 65535) (hr : Rd .u8 w w.heap.size A n c xs) (hr2 : Rd .u8 w w.heap.size A2 n2 c2 xs2) :
    Calls Tryd.prog 4 #[frV t f k A n c, frV t2 f2 k2 A2 n2 c2] w fun e w' => e = .returned (.bool true) ∧ Below w.heap.size w w' := by
  by_cases h1 : 3000 < n
  · exact writes_far1 t f k A n c xs t2 f2 k2 A2 n2 c2 xs2 w hg ht hf hk hr hr2 h1
  · by_cases h2 : 3000 < n2
    · exact writes_far2 t f k A n c xs t2 f2 k2 A2 n2 c2 xs2 w hg ht hf hk hr hr2 (by omega) h2
    · by_cases h3 : 1500 < n
      · exact writes_err t f k A n c xs t2 f2 k2 A2 n2 c2 xs2 w hg ht hf hk hr hr2 (by omega) (by omega) h3
      · by_cases h4 : grpV f = true
        · exact writes_group t f k A n c xs t2 f2 k2 A2 n2 c2 xs2 w hg ht hf hk hr hr2 (by omega) (by omega) (by omega) h4
        · exact writes_okay t f k A n c xs t2 f2 k2 A2 n2 c2 xs2 w hg ht hf hk hr hr2 (by omega) (by omega) (by omega) (by simpa using h4)
end Go.Proofs.YteddpmjjahfmiaaDoor
