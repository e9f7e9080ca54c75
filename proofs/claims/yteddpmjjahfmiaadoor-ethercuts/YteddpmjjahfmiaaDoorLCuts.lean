/-
  The law EtherCuts, walked.
-/
import Derived.Test.YteddpmjjahfmiaaDoorHdr
namespace Go.Proofs.YteddpmjjahfmiaaDoor
open Go.RowKit
set_option linter.unusedVariables false

/-- What the law's walk knows of the frame that came in. -/
structure KC (w : World) (t f : Mac6) (k : Int) (A : Option Addr) (n c : Nat) (xs : List Int) (W : World) : Prop where
  fr : FrAt W w.heap.size 29 t f k A n c
  rd : Rd .u8 W W.heap.size A n c xs
  kn : Kn w W
theorem KC.step {w W V : World} {t f : Mac6} {k : Int} {A : Option Addr} {n c : Nat} {xs : List Int} (h : KC w t f k A n c xs W) (hb : Below W.heap.size W V) : KC w t f k A n c xs V := ⟨h.fr.step hb, (h.rd.below hb (Nat.le_refl _)).more hb.size, h.kn.step hb⟩
theorem KC.start (w : World) (t f : Mac6) (k : Int) (A : Option Addr) (n c : Nat) (xs : List Int) (hg : Laid w) (hr : Rd .u8 w w.heap.size A n c xs) : KC w t f k A n c xs (w.alloc (.cells (frC t f k A n c) 29)) :=
  ⟨FrAt.new w 29 t f k A n c, (hr.below (alloc_below _ _) (Nat.le_refl _)).more (by simp), (Kn.start hg).alloc _⟩
/-- .. and of the frame that was parsed. -/
structure KX (w : World) (t f : Mac6) (k : Int) (A : Option Addr) (n c : Nat) (xs : List Int) (gx gf q : Nat) (W : World) : Prop where
  c : KC w t f k A n c xs W
  x : FrAt W gf 29 t f k (some ⟨gx, 0, none⟩) (q - 14) (q - 14)
  row : Row W gx (xs.take (q - 14))
theorem KX.step {w W V : World} {t f : Mac6} {k : Int} {A : Option Addr} {n c : Nat} {xs : List Int} {gx gf q : Nat} (h : KX w t f k A n c xs gx gf q W) (hb : Below W.heap.size W V) : KX w t f k A n c xs gx gf q V := ⟨h.c.step hb, h.x.step hb, h.row.below hb h.row.lt⟩
set_option maxRecDepth 100000 in
set_option maxHeartbeats 8000000 in
theorem cuts_long (t f : Mac6) (k : Int) (A : Option Addr) (n c : Nat) (xs : List Int) (cut : Int) (w : World) (hg : Laid w) (ht : t.ok) (hf : f.ok) (hk : 0 ≤ k ∧ k ≤ 65535) (hr : Rd .u8 w w.heap.size A n c xs) (hn : 1500 < n) :
    Calls Tryd.prog 5 #[frV t f k A n c, .int .i64 cut] w fun e w' => e = .returned (.bool true) ∧ Below w.heap.size w w' := by
  have k0 := KC.start w t f k A n c xs hg hr
  have hcap := hr.cap
  have hmax := hr.max
  clear hg hr
  go_enter Tryd.func5, Tryd.ntmps5
  go_wp2_with fail
  refine (alive_any _ k0.kn.laid).mono ?_
  rintro ev w1 ⟨rfl, hb⟩
  replace k0 := k0.step hb
  clear hb
  obtain ⟨a0, a1, a2, a3, a4, a5, a6, a7, a8, a9, a10, a11, a12, a13⟩ := k0.fr.cells
  go_wp2_with fail
  refine (bytes_long t f k A n c _ hn).mono ?_
  rintro ev w2 ⟨rfl, hb⟩
  replace k0 := k0.step hb
  clear hb a0 a1 a2 a3 a4 a5 a6 a7 a8 a9 a10 a11 a12 a13
  go_wp2
  go_ret
  exact ⟨rfl, k0.kn.below⟩
set_option maxRecDepth 100000 in
set_option maxHeartbeats 8000000 in
theorem cuts_neg (t f : Mac6) (k : Int) (A : Option Addr) (n c : Nat) (xs : List Int) (cut : Int) (w : World) (hg : Laid w) (ht : t.ok) (hf : f.ok) (hk : 0 ≤ k ∧ k ≤ 65535) (hr : Rd .u8 w w.heap.size A n c xs) (hn : n ≤ 1500) (hc : cut < 0) :
    Calls Tryd.prog 5 #[frV t f k A n c, .int .i64 cut] w fun e w' => e = .returned (.bool true) ∧ Below w.heap.size w w' := by
  have k0 := KC.start w t f k A n c xs hg hr
  have hcap := hr.cap
  have hmax := hr.max
  clear hg hr
  go_enter Tryd.func5, Tryd.ntmps5
  go_wp2_with fail
  refine (alive_any _ k0.kn.laid).mono ?_
  rintro ev w1 ⟨rfl, hb⟩
  replace k0 := k0.step hb
  clear hb
  obtain ⟨a0, a1, a2, a3, a4, a5, a6, a7, a8, a9, a10, a11, a12, a13⟩ := k0.fr.cells
  go_wp2_with fail
  refine (bytes_ok t f k A n c xs _ k0.rd hn ht hf hk).mono ?_
  rintro ev w2 ⟨gb, rfl, rb, -, hb⟩
  replace k0 := k0.step hb
  clear hb a0 a1 a2 a3 a4 a5 a6 a7 a8 a9 a10 a11 a12 a13
  go_wp2
  go_ret
  exact ⟨rfl, k0.kn.below⟩
set_option maxRecDepth 100000 in
set_option maxHeartbeats 8000000 in
theorem cuts_far (t f : Mac6) (k : Int) (A : Option Addr) (n c : Nat) (xs : List Int) (cut : Int) (w : World) (hg : Laid w) (ht : t.ok) (hf : f.ok) (hk : 0 ≤ k ∧ k ≤ 65535) (hr : Rd .u8 w w.heap.size A n c xs) (hn : n ≤ 1500) (hc : ¬ cut < 0) (hd : 14 + (n : Int) < cut) :
    Calls Tryd.prog 5 #[frV t f k A n c, .int .i64 cut] w fun e w' => e = .returned (.bool true) ∧ Below w.heap.size w w' := by
  have k0 := KC.start w t f k A n c xs hg hr
  have hcap := hr.cap
  have hmax := hr.max
  clear hg hr
  have hc' : 0 ≤ cut := by omega
  go_enter Tryd.func5, Tryd.ntmps5
  go_wp2_with fail
  refine (alive_any _ k0.kn.laid).mono ?_
  rintro ev w1 ⟨rfl, hb⟩
  replace k0 := k0.step hb
  clear hb
  obtain ⟨a0, a1, a2, a3, a4, a5, a6, a7, a8, a9, a10, a11, a12, a13⟩ := k0.fr.cells
  go_wp2_with fail
  refine (bytes_ok t f k A n c xs _ k0.rd hn ht hf hk).mono ?_
  rintro ev w2 ⟨gb, rfl, rb, -, hb⟩
  replace k0 := k0.step hb
  clear hb a0 a1 a2 a3 a4 a5 a6 a7 a8 a9 a10 a11 a12 a13
  go_wp2
  go_ret
  exact ⟨rfl, k0.kn.below⟩
set_option maxRecDepth 100000 in
set_option maxHeartbeats 8000000 in
theorem cuts_group (t f : Mac6) (k : Int) (A : Option Addr) (n c : Nat) (xs : List Int) (cut : Int) (w : World) (hg : Laid w) (ht : t.ok) (hf : f.ok) (hk : 0 ≤ k ∧ k ≤ 65535) (hr : Rd .u8 w w.heap.size A n c xs) (hn : n ≤ 1500) (hc : ¬ cut < 0) (hd : ¬ 14 + (n : Int) < cut) (hgr : grpV f = true) :
    Calls Tryd.prog 5 #[frV t f k A n c, .int .i64 cut] w fun e w' => e = .returned (.bool true) ∧ Below w.heap.size w w' := by
  have k0 := KC.start w t f k A n c xs hg hr
  have hcap := hr.cap
  have hmax := hr.max
  clear hg hr
  have hc' : 0 ≤ cut := by omega
  have hd' : cut ≤ 14 + (n : Int) := by omega
  have hf0 := hf.1
  have hgr' : (f.a % 2 == 1) = true := hgr
  go_enter Tryd.func5, Tryd.ntmps5
  go_wp2_with fail
  refine (alive_any _ k0.kn.laid).mono ?_
  rintro ev w1 ⟨rfl, hb⟩
  replace k0 := k0.step hb
  clear hb
  obtain ⟨a0, a1, a2, a3, a4, a5, a6, a7, a8, a9, a10, a11, a12, a13⟩ := k0.fr.cells
  go_wp2_with fail
  refine (bytes_ok t f k A n c xs _ k0.rd hn ht hf hk).mono ?_
  rintro ev w2 ⟨gb, rfl, rb, -, hb⟩
  replace k0 := k0.step hb
  clear hb a0 a1 a2 a3 a4 a5 a6 a7 a8 a9 a10 a11 a12 a13
  obtain ⟨a0, a1, a2, a3, a4, a5, a6, a7, a8, a9, a10, a11, a12, a13⟩ := k0.fr.cells
  go_wp2
  go_ret
  exact ⟨rfl, k0.kn.below⟩
set_option maxRecDepth 100000 in
set_option maxHeartbeats 8000000 in
theorem cuts_short (t f : Mac6) (k : Int) (A : Option Addr) (n c : Nat) (xs : List Int) (cut : Int) (w : World) (hg : Laid w) (ht : t.ok) (hf : f.ok) (hk : 0 ≤ k ∧ k ≤ 65535) (hr : Rd .u8 w w.heap.size A n c xs) (hn : n ≤ 1500) (hc : ¬ cut < 0) (hd : ¬ 14 + (n : Int) < cut) (hgr : grpV f = false) (hs : cut < 14) :
    Calls Tryd.prog 5 #[frV t f k A n c, .int .i64 cut] w fun e w' => e = .returned (.bool true) ∧ Below w.heap.size w w' := by
  have k0 := KC.start w t f k A n c xs hg hr
  have hcap := hr.cap
  have hmax := hr.max
  clear hg hr
  obtain ⟨q, rfl⟩ := Int.eq_ofNat_of_zero_le (show 0 ≤ cut by omega)
  have hd' : (q : Int) ≤ 14 + (n : Int) := by omega
  have hd2 : (q : Int) ≤ ((14 + n : Nat) : Int) := by omega
  have hd3 : q ≤ 14 + n := by omega
  have hs1 : q < 14 := by omega
  have hf0 := hf.1
  have hgr' : (f.a % 2 == 1) = false := hgr
  go_enter Tryd.func5, Tryd.ntmps5
  go_wp2_with fail
  refine (alive_any _ k0.kn.laid).mono ?_
  rintro ev w1 ⟨rfl, hb⟩
  replace k0 := k0.step hb
  clear hb
  obtain ⟨a0, a1, a2, a3, a4, a5, a6, a7, a8, a9, a10, a11, a12, a13⟩ := k0.fr.cells
  go_wp2_with fail
  refine (bytes_ok t f k A n c xs _ k0.rd hn ht hf hk).mono ?_
  rintro ev w2 ⟨gb, rfl, rb, -, hb⟩
  replace k0 := k0.step hb
  clear hb a0 a1 a2 a3 a4 a5 a6 a7 a8 a9 a10 a11 a12 a13
  obtain ⟨a0, a1, a2, a3, a4, a5, a6, a7, a8, a9, a10, a11, a12, a13⟩ := k0.fr.cells
  go_wp2_with fail
  refine (parse_short' _ q _ _ hs1).mono ?_
  rintro ev w3 ⟨rfl, hb⟩
  replace k0 := k0.step hb
  clear hb a0 a1 a2 a3 a4 a5 a6 a7 a8 a9 a10 a11 a12 a13 rb
  replace k0 := k0.step (alloc_below w3 (.cells (frC az az 0 none 0 0) 29))
  have x0 := FrAt.new w3 29 az az 0 none 0 0
  go_wp2_with fail
  refine (whyIs_err 12 12 _).mono ?_
  rintro ev w4 ⟨rfl, hb⟩
  replace k0 := k0.step hb
  replace x0 := x0.step hb
  clear hb
  obtain ⟨a0, a1, a2, a3, a4, a5, a6, a7, a8, a9, a10, a11, a12, a13⟩ := x0.cells
  go_wp2_with fail
  refine (same_zero _).mono ?_
  rintro ev w5 ⟨rfl, hb⟩
  replace k0 := k0.step hb
  clear hb
  go_wp2
  go_ret
  exact ⟨rfl, k0.kn.below⟩
set_option maxRecDepth 100000 in
set_option maxHeartbeats 8000000 in
theorem cuts_okay (t f : Mac6) (k : Int) (A : Option Addr) (n c : Nat) (xs : List Int) (cut : Int) (w : World) (hg : Laid w) (ht : t.ok) (hf : f.ok) (hk : 0 ≤ k ∧ k ≤ 65535) (hr : Rd .u8 w w.heap.size A n c xs) (hn : n ≤ 1500) (hc : ¬ cut < 0) (hd : ¬ 14 + (n : Int) < cut) (hgr : grpV f = false) (hs : ¬ cut < 14) :
    Calls Tryd.prog 5 #[frV t f k A n c, .int .i64 cut] w fun e w' => e = .returned (.bool true) ∧ Below w.heap.size w w' := by
  have k0 := KC.start w t f k A n c xs hg hr
  have hcap := hr.cap
  have hmax := hr.max
  clear hg hr
  obtain ⟨q, rfl⟩ := Int.eq_ofNat_of_zero_le (show 0 ≤ cut by omega)
  have hd' : (q : Int) ≤ 14 + (n : Int) := by omega
  have hd2 : (q : Int) ≤ ((14 + n : Nat) : Int) := by omega
  have hd3 : q ≤ 14 + n := by omega
  have hs1 : 14 ≤ q := by omega
  have hs2 : (14 : Int) ≤ (q : Int) := by omega
  have hf0 := hf.1
  have hgr' : (f.a % 2 == 1) = false := hgr
  go_enter Tryd.func5, Tryd.ntmps5
  go_wp2_with fail
  refine (alive_any _ k0.kn.laid).mono ?_
  rintro ev w1 ⟨rfl, hb⟩
  replace k0 := k0.step hb
  clear hb
  obtain ⟨a0, a1, a2, a3, a4, a5, a6, a7, a8, a9, a10, a11, a12, a13⟩ := k0.fr.cells
  go_wp2_with fail
  refine (bytes_ok t f k A n c xs _ k0.rd hn ht hf hk).mono ?_
  rintro ev w2 ⟨gb, rfl, rb, -, hb⟩
  replace k0 := k0.step hb
  clear hb a0 a1 a2 a3 a4 a5 a6 a7 a8 a9 a10 a11 a12 a13
  have hlen : (hdr t f k xs).length = 14 + n := by rw [hdr_len, k0.rd.len]
  have rq := rb.rd 0 q (14 + n) (by rw [hlen]; omega) hd3 (by unfold maxLen; omega) (hdr_wf ht hf hk k0.rd.2.2.2.1)
  rw [List.drop_zero, hdr_take _ _ _ _ _ hs1] at rq
  obtain ⟨a0, a1, a2, a3, a4, a5, a6, a7, a8, a9, a10, a11, a12, a13⟩ := k0.fr.cells
  go_wp2_with fail
  refine (parse_hdr t f k _ q _ _ _ rq hs1 (by omega) hgr).mono ?_
  rintro ev w3 ⟨gx, rfl, rx, -, hb⟩
  replace k0 := k0.step hb
  clear hb a0 a1 a2 a3 a4 a5 a6 a7 a8 a9 a10 a11 a12 a13 rb rq
  replace k0 := k0.step (alloc_below w3 (.cells (frC t f k (some ⟨gx, 0, none⟩) (q - 14) (q - 14)) 29))
  have x0 := FrAt.new w3 29 t f k (some ⟨gx, 0, none⟩) (q - 14) (q - 14)
  replace rx := rx.below (alloc_below w3 (.cells (frC t f k (some ⟨gx, 0, none⟩) (q - 14) (q - 14)) 29)) rx.lt
  have kx : KX w t f k A n c xs gx w3.heap.size q (w3.alloc (.cells (frC t f k (some ⟨gx, 0, none⟩) (q - 14) (q - 14)) 29)) := ⟨k0, x0, rx⟩
  replace kx := kx.step (below_drew _)
  have q1 := eql24
  have m1 : mB t.a t.b t.c t.d t.e t.f t.a t.b t.c t.d t.e t.f = true := mEq_self t
  have m2 : mB f.a f.b f.c f.d f.e f.f f.a f.b f.c f.d f.e f.f = true := mEq_self f
  have i3 : (q : Int) - 14 = ((q - 14 : Nat) : Int) := by omega
  have i4 : IntKind.i64.wrap ((q - 14 : Nat) : Int) = ((q - 14 : Nat) : Int) := by rw [IntKind.wrap_i64]; omega
  have i5 : ((q - 14 : Nat) : Int) ≤ (c : Int) := by omega
  have i6 : q - 14 ≤ c := by omega
  go_wp2_with fail
  clear k0 x0 rx
  refine wp_region_held_drew (S := fun w' => KX w t f k A n c xs gx w3.heap.size q w') (by kernel_rfl) kx (fun hHeld => ?_)
  change wpAnyH _ _ _ _ _ _ _ _ (w3.alloc (.cells (frC t f k (some ⟨gx, 0, none⟩) (q - 14) (q - 14)) 29)).drew
  clear hHeld
  generalize (w3.alloc (.cells (frC t f k (some ⟨gx, 0, none⟩) (q - 14) (q - 14)) 29)).drew = W4 at *
  generalize w3.heap.size = gf at *
  refine wpAnyH_at (i := 0) (some 55) (v := ?v0z1) rfl rfl (by kernel_rfl) (by kernel_rfl) (by kernel_rfl) (fun _ _ _ h => h) (Or.inl ⟨by rfl, ?y0z1⟩) (by assumption) ?r0z1
  case y0z1 =>
    intro w9 hSw
    clear hSw
    go_simp
    all_goals with_reducible rfl
  simp only [Act.put, List.setIfInBounds_toArray, List.set_cons_zero, List.set_cons_succ]
  refine wpAnyH_at (i := 1) (some 56) (v := ?v1z2) rfl rfl (by kernel_rfl) (by kernel_rfl) (by kernel_rfl) (fun _ _ _ h => h) (Or.inl ⟨by rfl, ?y1z2⟩) (by assumption) ?r1z2
  case y1z2 =>
    intro w9 hSw
    clear hSw
    go_simp
    all_goals with_reducible rfl
  simp only [Act.put, List.setIfInBounds_toArray, List.set_cons_zero, List.set_cons_succ]
  refine wpAnyH_at (i := 2) (some 57) (v := ?v2z3) rfl rfl (by kernel_rfl) (by kernel_rfl) (by kernel_rfl) (fun _ _ _ h => h) (Or.inl ⟨by rfl, ?y2z3⟩) (by assumption) ?r2z3
  case y2z3 =>
    intro w9 hSw
    clear hSw
    go_simp
    all_goals with_reducible rfl
  simp only [Act.put, List.setIfInBounds_toArray, List.set_cons_zero, List.set_cons_succ]
  refine wpAnyH_at (i := 3) (some 58) (v := ?v3z4) rfl rfl (by kernel_rfl) (by kernel_rfl) (by kernel_rfl) (fun _ _ _ h => h) (Or.inl ⟨by rfl, ?y3z4⟩) (by assumption) ?r3z4
  case y3z4 =>
    intro w9 hSw
    clear hSw
    go_simp
    all_goals with_reducible rfl
  simp only [Act.put, List.setIfInBounds_toArray, List.set_cons_zero, List.set_cons_succ]
  refine wpAnyH_at (i := 4) (some 59) (v := ?v4z5) rfl rfl (by kernel_rfl) (by kernel_rfl) (by kernel_rfl) (fun _ _ _ h => h) (Or.inl ⟨by rfl, ?y4z5⟩) (by assumption) ?r4z5
  case y4z5 =>
    intro w9 hSw
    (obtain ⟨a0, a1, a2, a3, a4, a5, a6, a7, a8, a9, a10, a11, a12, a13⟩ := hSw.x.cells); clear hSw
    go_simp
    all_goals with_reducible rfl
  simp only [Act.put, List.setIfInBounds_toArray, List.set_cons_zero, List.set_cons_succ]
  refine wpAnyH_at (i := 5) (some 60) (v := ?v5z6) rfl rfl (by kernel_rfl) (by kernel_rfl) (by kernel_rfl) (fun _ _ _ h => h) (Or.inl ⟨by rfl, ?y5z6⟩) (by assumption) ?r5z6
  case y5z6 =>
    intro w9 hSw
    clear hSw
    go_simp
    all_goals with_reducible rfl
  simp only [Act.put, List.setIfInBounds_toArray, List.set_cons_zero, List.set_cons_succ]
  refine wpAnyH_at (i := 6) (some 61) (v := ?v6z7) rfl rfl (by kernel_rfl) (by kernel_rfl) (by kernel_rfl) (fun _ _ _ h => h) (Or.inl ⟨by rfl, ?y6z7⟩) (by assumption) ?r6z7
  case y6z7 =>
    intro w9 hSw
    (obtain ⟨a0, a1, a2, a3, a4, a5, a6, a7, a8, a9, a10, a11, a12, a13⟩ := hSw.c.fr.cells); clear hSw
    go_simp
    all_goals with_reducible rfl
  simp only [Act.put, List.setIfInBounds_toArray, List.set_cons_zero, List.set_cons_succ]
  refine wpAnyH_at (i := 7) (some 62) (v := ?v7z8) rfl rfl (by kernel_rfl) (by kernel_rfl) (by kernel_rfl) (fun _ _ _ h => h) (Or.inl ⟨by rfl, ?y7z8⟩) (by assumption) ?r7z8
  case y7z8 =>
    intro w9 hSw
    clear hSw
    go_simp
    all_goals with_reducible rfl
  simp only [Act.put, List.setIfInBounds_toArray, List.set_cons_zero, List.set_cons_succ]
  refine wpAnyH_at (i := 8) (some 63) (v := ?v8z9) rfl rfl (by kernel_rfl) (by kernel_rfl) (by kernel_rfl) (fun _ _ _ h => h) (Or.inl ⟨by rfl, ?y8z9⟩) (by assumption) ?r8z9
  case y8z9 =>
    intro w9 hSw
    clear hSw
    go_simp
    all_goals with_reducible rfl
  simp only [Act.put, List.setIfInBounds_toArray, List.set_cons_zero, List.set_cons_succ]
  refine wpAnyH_at (i := 9) (some 64) (v := ?v9z10) rfl rfl (by kernel_rfl) (by kernel_rfl) (by kernel_rfl) (fun _ _ _ h => h) (Or.inl ⟨by rfl, ?y9z10⟩) (by assumption) ?r9z10
  case y9z10 =>
    intro w9 hSw
    clear hSw
    go_simp
    all_goals with_reducible rfl
  simp only [Act.put, List.setIfInBounds_toArray, List.set_cons_zero, List.set_cons_succ]
  refine wpAnyH_at (i := 10) (some 65) (v := ?v10z11) rfl rfl (by kernel_rfl) (by kernel_rfl) (by kernel_rfl) (fun _ _ _ h => h) (Or.inl ⟨by rfl, ?y10z11⟩) (by assumption) ?r10z11
  case y10z11 =>
    intro w9 hSw
    clear hSw
    go_simp
    all_goals with_reducible rfl
  simp only [Act.put, List.setIfInBounds_toArray, List.set_cons_zero, List.set_cons_succ]
  refine wpAnyH_at (i := 11) (some 66) (v := ?v11z12) rfl rfl (by kernel_rfl) (by kernel_rfl) (by kernel_rfl) (fun _ _ _ h => h) (Or.inl ⟨by rfl, ?y11z12⟩) (by assumption) ?r11z12
  case y11z12 =>
    intro w9 hSw
    (obtain ⟨a0, a1, a2, a3, a4, a5, a6, a7, a8, a9, a10, a11, a12, a13⟩ := hSw.x.cells); clear hSw
    go_simp
    all_goals with_reducible rfl
  simp only [Act.put, List.setIfInBounds_toArray, List.set_cons_zero, List.set_cons_succ]
  refine wpAnyH_at (i := 12) (some 67) (v := ?v12z13) rfl rfl (by kernel_rfl) (by kernel_rfl) (by kernel_rfl) (fun _ _ _ h => h) (Or.inl ⟨by rfl, ?y12z13⟩) (by assumption) ?r12z13
  case y12z13 =>
    intro w9 hSw
    clear hSw
    go_simp
    all_goals with_reducible rfl
  simp only [Act.put, List.setIfInBounds_toArray, List.set_cons_zero, List.set_cons_succ]
  refine wpAnyH_at (i := 13) (some 68) (v := ?v13z14) rfl rfl (by kernel_rfl) (by kernel_rfl) (by kernel_rfl) (fun _ _ _ h => h) (Or.inl ⟨by rfl, ?y13z14⟩) (by assumption) ?r13z14
  case y13z14 =>
    intro w9 hSw
    (obtain ⟨a0, a1, a2, a3, a4, a5, a6, a7, a8, a9, a10, a11, a12, a13⟩ := hSw.c.fr.cells); clear hSw
    go_simp
    all_goals with_reducible rfl
  simp only [Act.put, List.setIfInBounds_toArray, List.set_cons_zero, List.set_cons_succ]
  refine wpAnyH_at (i := 14) (some 69) (v := ?v14z15) rfl rfl (by kernel_rfl) (by kernel_rfl) (by kernel_rfl) (fun _ _ _ h => h) (Or.inl ⟨by rfl, ?y14z15⟩) (by assumption) ?r14z15
  case y14z15 =>
    intro w9 hSw
    clear hSw
    go_simp
    all_goals with_reducible rfl
  simp only [Act.put, List.setIfInBounds_toArray, List.set_cons_zero, List.set_cons_succ]
  refine wpAnyH_at (i := 15) (some 70) (v := ?v15z16) rfl rfl (by kernel_rfl) (by kernel_rfl) (by kernel_rfl) (fun _ _ _ h => h) (Or.inl ⟨by rfl, ?y15z16⟩) (by assumption) ?r15z16
  case y15z16 =>
    intro w9 hSw
    clear hSw
    go_simp
    all_goals with_reducible rfl
  simp only [Act.put, List.setIfInBounds_toArray, List.set_cons_zero, List.set_cons_succ]
  refine wpAnyH_at (i := 16) (some 71) (v := ?v16z17) rfl rfl (by kernel_rfl) (by kernel_rfl) (by kernel_rfl) (fun _ _ _ h => h) (Or.inl ⟨by rfl, ?y16z17⟩) (by assumption) ?r16z17
  case y16z17 =>
    intro w9 hSw
    clear hSw
    go_simp
    all_goals with_reducible rfl
  simp only [Act.put, List.setIfInBounds_toArray, List.set_cons_zero, List.set_cons_succ]
  refine wpAnyH_at (i := 17) (some 72) (v := ?v17z18) rfl rfl (by kernel_rfl) (by kernel_rfl) (by kernel_rfl) (fun _ _ _ h => h) (Or.inl ⟨by rfl, ?y17z18⟩) (by assumption) ?r17z18
  case y17z18 =>
    intro w9 hSw
    clear hSw
    go_simp
    all_goals with_reducible rfl
  simp only [Act.put, List.setIfInBounds_toArray, List.set_cons_zero, List.set_cons_succ]
  refine wpAnyH_at (i := 18) (some 73) (v := ?v18z19) rfl rfl (by kernel_rfl) (by kernel_rfl) (by kernel_rfl) (fun _ _ _ h => h) (Or.inl ⟨by rfl, ?y18z19⟩) (by assumption) ?r18z19
  case y18z19 =>
    intro w9 hSw
    (obtain ⟨a0, a1, a2, a3, a4, a5, a6, a7, a8, a9, a10, a11, a12, a13⟩ := hSw.x.cells); clear hSw
    go_simp
    all_goals with_reducible rfl
  simp only [Act.put, List.setIfInBounds_toArray, List.set_cons_zero, List.set_cons_succ]
  refine wpAnyH_at (i := 19) (some 74) (v := ?v19z20) rfl rfl (by kernel_rfl) (by kernel_rfl) (by kernel_rfl) (fun _ _ _ h => h) (Or.inl ⟨by rfl, ?y19z20⟩) (by assumption) ?r19z20
  case y19z20 =>
    intro w9 hSw
    clear hSw
    go_simp
    all_goals with_reducible rfl
  simp only [Act.put, List.setIfInBounds_toArray, List.set_cons_zero, List.set_cons_succ]
  refine wpAnyH_at (i := 20) (some 75) (v := ?v20z21) rfl rfl (by kernel_rfl) (by kernel_rfl) (by kernel_rfl) (fun _ _ _ h => h) (Or.inl ⟨by rfl, ?y20z21⟩) (by assumption) ?r20z21
  case y20z21 =>
    intro w9 hSw
    (obtain ⟨a0, a1, a2, a3, a4, a5, a6, a7, a8, a9, a10, a11, a12, a13⟩ := hSw.c.fr.cells); clear hSw
    go_simp
    all_goals with_reducible rfl
  simp only [Act.put, List.setIfInBounds_toArray, List.set_cons_zero, List.set_cons_succ]
  refine wpAnyH_at (i := 21) (some 76) (v := ?v21z22) rfl rfl (by kernel_rfl) (by kernel_rfl) (by kernel_rfl) (fun _ _ _ h => h) (Or.inl ⟨by rfl, ?y21z22⟩) (by assumption) ?r21z22
  case y21z22 =>
    intro w9 hSw
    clear hSw
    go_simp
    all_goals with_reducible rfl
  simp only [Act.put, List.setIfInBounds_toArray, List.set_cons_zero, List.set_cons_succ]
  refine wpAnyH_at (i := 22) (some 77) (v := ?v22z23) rfl rfl (by kernel_rfl) (by kernel_rfl) (by kernel_rfl) (fun _ _ _ h => h) (Or.inl ⟨by rfl, ?y22z23⟩) (by assumption) ?r22z23
  case y22z23 =>
    intro w9 hSw
    clear hSw
    go_simp
    all_goals with_reducible rfl
  simp only [Act.put, List.setIfInBounds_toArray, List.set_cons_zero, List.set_cons_succ]
  refine wpAnyH_at (i := 23) (some 78) (v := ?v23z24) rfl rfl (by kernel_rfl) (by kernel_rfl) (by kernel_rfl) (fun _ _ _ h => h) (Or.inl ⟨by rfl, ?y23z24⟩) (by assumption) ?r23z24
  case y23z24 =>
    intro w9 hSw
    clear hSw
    go_simp
    all_goals with_reducible rfl
  simp only [Act.put, List.setIfInBounds_toArray, List.set_cons_zero, List.set_cons_succ]
  refine wpAnyH_at (i := 24) (some 79) (v := ?v24z25) rfl rfl (by kernel_rfl) (by kernel_rfl) (by kernel_rfl) (fun _ _ _ h => h) (Or.inl ⟨by rfl, ?y24z25⟩) (by assumption) ?r24z25
  case y24z25 =>
    intro w9 hSw
    clear hSw
    go_simp
    all_goals with_reducible rfl
  simp only [Act.put, List.setIfInBounds_toArray, List.set_cons_zero, List.set_cons_succ]
  refine wpAnyH_at (i := 25) (some 80) (v := ?v25z26) rfl rfl (by kernel_rfl) (by kernel_rfl) (by kernel_rfl) (fun _ _ _ h => h) (Or.inl ⟨by rfl, ?y25z26⟩) (by assumption) ?r25z26
  case y25z26 =>
    intro w9 hSw
    (obtain ⟨a0, a1, a2, a3, a4, a5, a6, a7, a8, a9, a10, a11, a12, a13⟩ := hSw.x.cells); clear hSw
    go_simp
    all_goals with_reducible rfl
  simp only [Act.put, List.setIfInBounds_toArray, List.set_cons_zero, List.set_cons_succ]
  refine wpAnyH_at (i := 26) (some 81) (v := ?v26z27) rfl rfl (by kernel_rfl) (by kernel_rfl) (by kernel_rfl) (fun _ _ _ h => h) (Or.inl ⟨by rfl, ?y26z27⟩) (by assumption) ?r26z27
  case y26z27 =>
    intro w9 hSw
    clear hSw
    go_simp
    all_goals with_reducible rfl
  simp only [Act.put, List.setIfInBounds_toArray, List.set_cons_zero, List.set_cons_succ]
  refine wpAnyH_at (i := 27) (some 82) (v := ?v27z28) rfl rfl (by kernel_rfl) (by kernel_rfl) (by kernel_rfl) (fun _ _ _ h => h) (Or.inl ⟨by rfl, ?y27z28⟩) (by assumption) ?r27z28
  case y27z28 =>
    intro w9 hSw
    (obtain ⟨a0, a1, a2, a3, a4, a5, a6, a7, a8, a9, a10, a11, a12, a13⟩ := hSw.c.fr.cells); clear hSw
    go_simp
    all_goals with_reducible rfl
  simp only [Act.put, List.setIfInBounds_toArray, List.set_cons_zero, List.set_cons_succ]
  refine wpAnyH_at (i := 28) (some 83) (v := ?v28z29) rfl rfl (by kernel_rfl) (by kernel_rfl) (by kernel_rfl) (fun _ _ _ h => h) (Or.inl ⟨by rfl, ?y28z29⟩) (by assumption) ?r28z29
  case y28z29 =>
    intro w9 hSw
    clear hSw
    go_simp
    all_goals with_reducible rfl
  simp only [Act.put, List.setIfInBounds_toArray, List.set_cons_zero, List.set_cons_succ]
  refine wpAnyH_at (i := 29) (some 84) (v := ?v29z30) rfl rfl (by kernel_rfl) (by kernel_rfl) (by kernel_rfl) (fun _ _ _ h => h) (Or.inl ⟨by rfl, ?y29z30⟩) (by assumption) ?r29z30
  case y29z30 =>
    intro w9 hSw
    clear hSw
    go_simp
    all_goals with_reducible rfl
  simp only [Act.put, List.setIfInBounds_toArray, List.set_cons_zero, List.set_cons_succ]
  refine wpAnyH_at (i := 30) (some 85) (v := ?v30z31) rfl rfl (by kernel_rfl) (by kernel_rfl) (by kernel_rfl) (fun _ _ _ h => h) (Or.inl ⟨by rfl, ?y30z31⟩) (by assumption) ?r30z31
  case y30z31 =>
    intro w9 hSw
    clear hSw
    go_simp
    all_goals with_reducible rfl
  simp only [Act.put, List.setIfInBounds_toArray, List.set_cons_zero, List.set_cons_succ]
  refine wpAnyH_one (i := 31) (by kernel_rfl) rfl ?_
  have hlt : (xs.take (q - 14)).length = q - 14 := by have := kx.c.rd.len; simp; omega
  go_wp2_with (go_at_call 15; refine (same_any _ _ (q - 14) (q - 14) (q - 14) c (xs.take (q - 14)) _ _ _ (kx.row.rdAll hlt (by omega) (fun z hz => kx.c.rd.2.2.2.1 z (List.mem_of_mem_take hz))) (kx.c.rd.cutTo (q - 14) (by omega))).mono ?_; rintro ev w5 ⟨rfl, hb⟩)
  replace kx := kx.step hb
  clear hb
  refine ⟨kx, ?_⟩
  refine wpAnyH_at (i := 32) (some 87) (v := ?v32z32) rfl rfl (by kernel_rfl) (by kernel_rfl) (by kernel_rfl) (fun _ _ _ h => h) (Or.inl ⟨by rfl, ?y32z32⟩) (by assumption) ?r32z32
  case y32z32 =>
    intro w9 hSw
    clear hSw
    go_simp
    all_goals with_reducible rfl
  simp only [Act.put, List.setIfInBounds_toArray, List.set_cons_zero, List.set_cons_succ]
  refine wpAnyH_one (i := 33) (by kernel_rfl) rfl ?_
  go_wp2
  refine ⟨kx, ?_⟩
  refine wpAnyH_done (by kernel_rfl) ?_ _
  go_wp2
  go_ret
  exact ⟨rfl, kx.c.kn.below⟩
theorem cuts_law (t f : Mac6) (k : Int) (A : Option Addr) (n c : Nat) (xs : List Int) (cut : Int) (w : World) (hg : Laid w) (ht : t.ok) (hf : f.ok) (hk : 0 ≤ k ∧ k ≤ 65535) (hr : Rd .u8 w w.heap.size A n c xs) :
    Calls Tryd.prog 5 #[frV t f k A n c, .int .i64 cut] w fun e w' => e = .returned (.bool true) ∧ Below w.heap.size w w' := by
  by_cases hn : 1500 < n
  · exact cuts_long t f k A n c xs cut w hg ht hf hk hr hn
  · have hn : n ≤ 1500 := by omega
    by_cases h1 : cut < 0
    · exact cuts_neg t f k A n c xs cut w hg ht hf hk hr hn h1
    · by_cases h2 : 14 + (n : Int) < cut
      · exact cuts_far t f k A n c xs cut w hg ht hf hk hr hn h1 h2
      · by_cases h3 : grpV f = true
        · exact cuts_group t f k A n c xs cut w hg ht hf hk hr hn h1 h2 h3
        · have h3 : grpV f = false := by simpa using h3
          by_cases h4 : cut < 14
          · exact cuts_short t f k A n c xs cut w hg ht hf hk hr hn h1 h2 h3 h4
          · exact cuts_okay t f k A n c xs cut w hg ht hf hk hr hn h1 h2 h3 h4
end Go.Proofs.YteddpmjjahfmiaaDoor
