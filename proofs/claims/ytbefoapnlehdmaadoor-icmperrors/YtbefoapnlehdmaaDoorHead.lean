/-
  Contract of Head.
-/
import Derived.Test.YtbefoapnlehdmaaDoorReadE
import Derived.Test.YtbefoapnlehdmaaDoorSTotal
import Derived.Test.YtbefoapnlehdmaaDoorSRes
namespace Go.Proofs.YtbefoapnlehdmaaDoor
open Go.RowKit

/-- A head's bytes, with p and q in the sum's place. -/
def hdP (h : Hd) (n : Nat) (p q : Int) : List Int := [69, h.tos, (20 + (n : Int)) / 256, (20 + (n : Int)) % 256, h.id / 256, h.id % 256, (if h.keep then 64 else 0), 0, h.ttl, h.proto, p, q, h.src / 16777216, h.src / 65536 % 256, h.src / 256 % 256, h.src % 256, h.dst / 16777216, h.dst / 65536 % 256, h.dst / 256 % 256, h.dst % 256]
/-- A head's sum. -/
def hdS (h : Hd) (n : Nat) : Int := 65535 - totV (hdP h n 0 0)
/-- A head's bytes. -/
def hdR (h : Hd) (n : Nat) : List Int := hdP h n (hdS h n / 256) (hdS h n % 256)
theorem hdP_parts (h : Hd) (n : Nat) (p q : Int) : hdP h n p q = [69, h.tos] ++ (two2 (20 + (n : Int)) ++ (two2 h.id ++ ([(if h.keep then 64 else 0), 0, h.ttl, h.proto] ++ ([p, q] ++ (four h.src ++ four h.dst))))) := rfl
theorem hdP_wf {h : Hd} {n : Nat} {p q : Int} (hk : h.ok) (hn : n ≤ 65515) (hp : 0 ≤ p ∧ p ≤ 255) (hq : 0 ≤ q ∧ q ≤ 255) : ∀ x ∈ hdP h n p q, (Lit.int .u8 x).wf = true := by
  intro x hx
  rw [hdP_parts] at hx
  rcases List.mem_append.1 hx with hx | hx
  · simp at hx
    rcases hx with rfl | rfl
    · decide
    · exact u8_mk hk.tos
  rcases List.mem_append.1 hx with hx | hx
  · exact two2_wf (by omega) x hx
  rcases List.mem_append.1 hx with hx | hx
  · exact two2_wf hk.id x hx
  rcases List.mem_append.1 hx with hx | hx
  · simp at hx
    rcases hx with rfl | rfl | rfl | rfl
    · cases h.keep <;> decide
    · decide
    · exact u8_mk hk.ttl
    · exact u8_mk hk.proto
  rcases List.mem_append.1 hx with hx | hx
  · simp at hx
    rcases hx with rfl | rfl
    · exact u8_mk hp
    · exact u8_mk hq
  rcases List.mem_append.1 hx with hx | hx
  · exact four_wf hk.src x hx
  · exact four_wf hk.dst x hx
theorem hdS_bd {h : Hd} {n : Nat} (hk : h.ok) (hn : n ≤ 65515) : 0 ≤ hdS h n ∧ hdS h n ≤ 65535 := by
  have := totV_bd (byts_of (hdP_wf (p := 0) (q := 0) hk hn (by omega) (by omega)))
  unfold W16 at this
  unfold hdS
  omega
theorem hdR_wf {h : Hd} {n : Nat} (hk : h.ok) (hn : n ≤ 65515) : ∀ x ∈ hdR h n, (Lit.int .u8 x).wf = true := by
  have := hdS_bd (n := n) hk hn
  exact hdP_wf hk hn (by omega) (by omega)
theorem hdR_len (h : Hd) (n : Nat) : (hdR h n).length = 20 := rfl
/-- One part, as a row of parts. -/
theorem rows_one {W : World} {A : Option Addr} {n c : Nat} {xs : List Int} (hr : Rd .u8 W W.heap.size A n c xs) :
    Rows2 (W.alloc (.cells #[.slice A n c] 22)) (fun _ => False) (W.alloc (.cells #[.slice A n c] 22)).heap.size (W.alloc (.cells #[.slice A n c] 22)).heap.size (some ⟨W.heap.size, 0, none⟩) 1 1 [xs] := by
  refine ⟨rfl, by omega, Nat.le_refl _, fun i hi => ⟨W.heap.size, 0, A, n, c, rfl, ⟨by simp, fun q => q⟩, ?_, ?_⟩⟩
  · obtain rfl : i = 0 := by omega
    simp [go_sem]
  · obtain rfl : i = 0 := by omega
    exact (hr.below (alloc_below W _) (Nat.le_refl _)).more (alloc_below W _).size
/-- What Head's walk knows: the packet's box, the bytes' block. -/
structure HK (w : World) (h : Hd) (A : Option Addr) (n c : Nat) (ys : List Int) (W : World) : Prop where
  pk : PkAt W w.heap.size 60 h A n c
  row : Row W (w.heap.size + 1) ys
  below : Below w.heap.size w W
section
variable {w W V : World} {h : Hd} {A : Option Addr} {n c : Nat} {ys ys' : List Int}
theorem HK.step (q : HK w h A n c ys W) (hb : Below W.heap.size W V) : HK w h A n c ys V := ⟨q.pk.step hb, q.row.below hb q.row.lt, q.below.trans (hb.mono q.below.size)⟩
theorem HK.only (q : HK w h A n c ys W) (ho : Only (w.heap.size + 1) W V) (hr : Row V (w.heap.size + 1) ys') : HK w h A n c ys' V :=
  ⟨q.pk.below ho.below (by omega), hr, q.below.trans (ho.below.mono (by omega))⟩
theorem HK.set (q : HK w h A n c ys W) (i : Nat) (x : Int) : HK w h A n c (ys.set i x) (W.setCell ⟨w.heap.size + 1, i, none⟩ (.int .u8 x)) :=
  q.only (Only.setCell _ _ _ _) (q.row.set i x)
theorem HK.start (h : Hd) (A : Option Addr) (n c : Nat) (w : World) (w2 : World) (ys : List Int) (row2 : Row w2 (w.alloc (.cells (pkC h A n c) 60)).heap.size ys)
    (hb2 : Below (w.alloc (.cells (pkC h A n c) 60)).heap.size (w.alloc (.cells (pkC h A n c) 60)) w2) : HK w h A n c ys w2 := by
  have hbl := alloc_below w (.cells (pkC h A n c) 60)
  have hsz : (w.alloc (.cells (pkC h A n c) 60)).heap.size = w.heap.size + 1 := by simp
  have hfr := PkAt.new w 60 h A n c
  generalize w.alloc (.cells (pkC h A n c) 60) = W at *
  rw [hsz] at row2
  exact ⟨hfr.step hb2, row2, hbl.trans (hb2.mono (by omega))⟩
end

set_option maxRecDepth 100000 in
set_option maxHeartbeats 4000000 in
theorem head_plain (h : Hd) (A : Option Addr) (n c : Nat) (k : Int) (w : World) (hi : 0 ≤ h.id ∧ h.id ≤ 65535) (hsr : 0 ≤ h.src ∧ h.src < 4294967296) (hds : 0 ≤ h.dst ∧ h.dst < 4294967296) (hkp : h.keep = false) (hn : n ≤ 65515) (hk : (20 : Int) + (n : Int) = k) (s : Int)
    (hs : 65535 - totV [69, h.tos, k / 256, k % 256, h.id / 256, h.id % 256, 0, 0, h.ttl, h.proto, 0, 0, h.src / 16777216, h.src / 65536 % 256, h.src / 256 % 256, h.src % 256, h.dst / 16777216, h.dst / 65536 % 256, h.dst / 256 % 256, h.dst % 256] = s) (hsb : 0 ≤ s ∧ s ≤ 65535) (hwf : ∀ x ∈ [69, h.tos, k / 256, k % 256, h.id / 256, h.id % 256, 0, 0, h.ttl, h.proto, 0, 0, h.src / 16777216, h.src / 65536 % 256, h.src / 256 % 256, h.src % 256, h.dst / 16777216, h.dst / 65536 % 256, h.dst / 256 % 256, h.dst % 256], (Lit.int .u8 x).wf = true) :
    Calls Tryd.prog 52 #[pkV h A n c] w (GivesRow w [69, h.tos, k / 256, k % 256, h.id / 256, h.id % 256, 0, 0, h.ttl, h.proto, s / 256, s % 256, h.src / 16777216, h.src / 65536 % 256, h.src / 256 % 256, h.src % 256, h.dst / 16777216, h.dst / 65536 % 256, h.dst / 256 % 256, h.dst % 256] 20) := by
  have start := HK.start h A n c w
  have n1 : ¬ (65515 : Int) < (n : Int) := by omega
  have k0 : 0 ≤ k ∧ k ≤ 65535 := by omega
  have e1 : IntKind.i64.wrap k = k := by rw [IntKind.wrap_i64]; omega
  have e2 : IntKind.u16.wrap k = k := by rw [IntKind.wrap_u16]; omega
  have Hs := Lib.hid hs
  have Hw := Lib.hid hwf
  have Hk := Lib.hid hkp
  clear hs hwf hkp
  obtain ⟨a0, a1, a2, a3, a4, a5, a6, a7⟩ := (PkAt.new w 60 h A n c).cells
  go_enter Tryd.func52, Tryd.ntmps52
  go_wp2_with (at_make; refine wpList_mk (some 8) rfl rfl _ _ 22 rfl Tryd.underlying22 info5 20 _ _ rfl rfl rfl rfl (by omega) ?_; intro w2 row2 hs2 hb2; have q := start w2 _ row2 hb2; clear start row2 hs2 hb2)
  clear a0 a1 a2 a3 a4 a5 a6 a7
  refine wp_region_held_drew (S := fun w' => PkAt w' w.heap.size 60 h A n c) (by kernel_rfl) q.pk.drew (fun hHeld => ?_)
  replace q := q.step (below_drew _)
  generalize w2.drew = W0 at *
  refine wpAnyH_at (i := 0) (some 9) (v := ?v0z1) rfl rfl (by kernel_rfl) (by kernel_rfl) (by kernel_rfl) (fun _ _ _ h => h) (Or.inl ⟨by rfl, ?y0z1⟩) (by assumption) ?r0z1
  case y0z1 =>
    intro w9 hSw
    clear hSw
    go_simp
    all_goals with_reducible rfl
  simp only [Act.put, List.setIfInBounds_toArray, List.set_cons_zero, List.set_cons_succ]
  refine wpAnyH_at (i := 1) (some 10) (v := ?v1z2) rfl rfl (by kernel_rfl) (by kernel_rfl) (by kernel_rfl) (fun _ _ _ h => h) (Or.inl ⟨by rfl, ?y1z2⟩) (by assumption) ?r1z2
  case y1z2 =>
    intro w9 hSw
    clear hSw
    go_simp
    all_goals with_reducible rfl
  simp only [Act.put, List.setIfInBounds_toArray, List.set_cons_zero, List.set_cons_succ]
  refine wpAnyH_at (i := 2) (some 11) (v := ?v2z3) rfl rfl (by kernel_rfl) (by kernel_rfl) (by kernel_rfl) (fun _ _ _ h => h) (Or.inl ⟨by rfl, ?y2z3⟩) (by assumption) ?r2z3
  case y2z3 =>
    intro w9 hSw
    clear hSw
    go_simp
    all_goals with_reducible rfl
  simp only [Act.put, List.setIfInBounds_toArray, List.set_cons_zero, List.set_cons_succ]
  refine wpAnyH_at (i := 3) (some 12) (v := ?v3z4) rfl rfl (by kernel_rfl) (by kernel_rfl) (by kernel_rfl) (fun _ _ _ h => h) (Or.inl ⟨by rfl, ?y3z4⟩) (by assumption) ?r3z4
  case y3z4 =>
    intro w9 hSw
    clear hSw
    go_simp
    all_goals with_reducible rfl
  simp only [Act.put, List.setIfInBounds_toArray, List.set_cons_zero, List.set_cons_succ]
  refine wpAnyH_at (i := 4) (some 13) (v := ?v4z5) rfl rfl (by kernel_rfl) (by kernel_rfl) (by kernel_rfl) (fun _ _ _ h => h) (Or.inl ⟨by rfl, ?y4z5⟩) (by assumption) ?r4z5
  case y4z5 =>
    intro w9 hSw
    clear hSw
    go_simp
    all_goals with_reducible rfl
  simp only [Act.put, List.setIfInBounds_toArray, List.set_cons_zero, List.set_cons_succ]
  refine wpAnyH_at (i := 5) (some 14) (v := ?v5z6) rfl rfl (by kernel_rfl) (by kernel_rfl) (by kernel_rfl) (fun _ _ _ h => h) (Or.inl ⟨by rfl, ?y5z6⟩) (by assumption) ?r5z6
  case y5z6 =>
    intro w9 hSw
    (obtain ⟨a0, a1, a2, a3, a4, a5, a6, a7⟩ := PkAt.cells hSw); clear hSw
    go_simp
    all_goals with_reducible rfl
  simp only [Act.put, List.setIfInBounds_toArray, List.set_cons_zero, List.set_cons_succ]
  refine wpAnyH_at (i := 6) (some 15) (v := ?v6z7) rfl rfl (by kernel_rfl) (by kernel_rfl) (by kernel_rfl) (fun _ _ _ h => h) (Or.inl ⟨by rfl, ?y6z7⟩) (by assumption) ?r6z7
  case y6z7 =>
    intro w9 hSw
    clear hSw
    go_simp
    all_goals with_reducible rfl
  simp only [Act.put, List.setIfInBounds_toArray, List.set_cons_zero, List.set_cons_succ]
  refine wpAnyH_at (i := 7) (some 16) (v := ?v7z8) rfl rfl (by kernel_rfl) (by kernel_rfl) (by kernel_rfl) (fun _ _ _ h => h) (Or.inl ⟨by rfl, ?y7z8⟩) (by assumption) ?r7z8
  case y7z8 =>
    intro w9 hSw
    (obtain ⟨a0, a1, a2, a3, a4, a5, a6, a7⟩ := PkAt.cells hSw); clear hSw
    go_simp
    all_goals with_reducible rfl
  simp only [Act.put, List.setIfInBounds_toArray, List.set_cons_zero, List.set_cons_succ]
  refine wpAnyH_at (i := 8) (some 17) (v := ?v8z9) rfl rfl (by kernel_rfl) (by kernel_rfl) (by kernel_rfl) (fun _ _ _ h => h) (Or.inl ⟨by rfl, ?y8z9⟩) (by assumption) ?r8z9
  case y8z9 =>
    intro w9 hSw
    clear hSw
    go_simp
    all_goals with_reducible rfl
  simp only [Act.put, List.setIfInBounds_toArray, List.set_cons_zero, List.set_cons_succ]
  refine wpAnyH_at (i := 9) (some 18) (v := ?v9z10) rfl rfl (by kernel_rfl) (by kernel_rfl) (by kernel_rfl) (fun _ _ _ h => h) (Or.inl ⟨by rfl, ?y9z10⟩) (by assumption) ?r9z10
  case y9z10 =>
    intro w9 hSw
    (obtain ⟨a0, a1, a2, a3, a4, a5, a6, a7⟩ := PkAt.cells hSw); clear hSw
    go_simp
    all_goals with_reducible rfl
  simp only [Act.put, List.setIfInBounds_toArray, List.set_cons_zero, List.set_cons_succ]
  refine wpAnyH_at (i := 10) (some 19) (v := ?v10z11) rfl rfl (by kernel_rfl) (by kernel_rfl) (by kernel_rfl) (fun _ _ _ h => h) (Or.inl ⟨by rfl, ?y10z11⟩) (by assumption) ?r10z11
  case y10z11 =>
    intro w9 hSw
    clear hSw
    go_simp
    all_goals with_reducible rfl
  simp only [Act.put, List.setIfInBounds_toArray, List.set_cons_zero, List.set_cons_succ]
  refine wpAnyH_one (i := 11) (by kernel_rfl) rfl ?_
  have c0 := q.row.cell (i := 0) (show 0 < 20 by decide)
  have z0 := q.row.frozen 0
  go_wp2
  replace q : HK w h A n c [69, 0, 0, 0, 0, 0, 0, 0, 0, 0, 0, 0, 0, 0, 0, 0, 0, 0, 0, 0] (W0.setCell ⟨w.heap.size + 1, 0, none⟩ (.int .u8 69)) := q.set 0 69
  clear c0 z0 hHeld
  refine ⟨q.pk, ?_⟩
  generalize W0.setCell ⟨w.heap.size + 1, 0, none⟩ (.int .u8 69) = W1 at *
  have hHeld := q.pk
  refine wpAnyH_at (i := 12) (some 20) (v := ?v12z12) rfl rfl (by kernel_rfl) (by kernel_rfl) (by kernel_rfl) (fun _ _ _ h => h) (Or.inl ⟨by rfl, ?y12z12⟩) (by assumption) ?r12z12
  case y12z12 =>
    intro w9 hSw
    clear hSw
    go_simp
    all_goals with_reducible rfl
  simp only [Act.put, List.setIfInBounds_toArray, List.set_cons_zero, List.set_cons_succ]
  refine wpAnyH_one (i := 13) (by kernel_rfl) rfl ?_
  have c0 := q.row.cell (i := 1) (show 1 < 20 by decide)
  have z0 := q.row.frozen 1
  go_wp2
  replace q : HK w h A n c [69, h.tos, 0, 0, 0, 0, 0, 0, 0, 0, 0, 0, 0, 0, 0, 0, 0, 0, 0, 0] (W1.setCell ⟨w.heap.size + 1, 1, none⟩ (.int .u8 h.tos)) := q.set 1 h.tos
  clear c0 z0 hHeld
  refine ⟨q.pk, ?_⟩
  generalize W1.setCell ⟨w.heap.size + 1, 1, none⟩ (.int .u8 h.tos) = W2 at *
  have hHeld := q.pk
  refine wpAnyH_at (i := 14) (some 21) (v := ?v14z13) rfl rfl (by kernel_rfl) (by kernel_rfl) (by kernel_rfl) (fun _ _ _ h => h) (Or.inl ⟨by rfl, ?y14z13⟩) (by assumption) ?r14z13
  case y14z13 =>
    intro w9 hSw
    clear hSw
    go_simp
    all_goals with_reducible rfl
  simp only [Act.put, List.setIfInBounds_toArray, List.set_cons_zero, List.set_cons_succ]
  refine wpAnyH_one (i := 15) (by kernel_rfl) rfl ?_
  have c0 := q.row.cell (i := 8) (show 8 < 20 by decide)
  have z0 := q.row.frozen 8
  go_wp2
  replace q : HK w h A n c [69, h.tos, 0, 0, 0, 0, 0, 0, h.ttl, 0, 0, 0, 0, 0, 0, 0, 0, 0, 0, 0] (W2.setCell ⟨w.heap.size + 1, 8, none⟩ (.int .u8 h.ttl)) := q.set 8 h.ttl
  clear c0 z0 hHeld
  refine ⟨q.pk, ?_⟩
  generalize W2.setCell ⟨w.heap.size + 1, 8, none⟩ (.int .u8 h.ttl) = W3 at *
  have hHeld := q.pk
  refine wpAnyH_at (i := 16) (some 22) (v := ?v16z14) rfl rfl (by kernel_rfl) (by kernel_rfl) (by kernel_rfl) (fun _ _ _ h => h) (Or.inl ⟨by rfl, ?y16z14⟩) (by assumption) ?r16z14
  case y16z14 =>
    intro w9 hSw
    clear hSw
    go_simp
    all_goals with_reducible rfl
  simp only [Act.put, List.setIfInBounds_toArray, List.set_cons_zero, List.set_cons_succ]
  refine wpAnyH_one (i := 17) (by kernel_rfl) rfl ?_
  have c0 := q.row.cell (i := 9) (show 9 < 20 by decide)
  have z0 := q.row.frozen 9
  go_wp2
  replace q : HK w h A n c [69, h.tos, 0, 0, 0, 0, 0, 0, h.ttl, h.proto, 0, 0, 0, 0, 0, 0, 0, 0, 0, 0] (W3.setCell ⟨w.heap.size + 1, 9, none⟩ (.int .u8 h.proto)) := q.set 9 h.proto
  clear c0 z0 hHeld
  refine ⟨q.pk, ?_⟩
  generalize W3.setCell ⟨w.heap.size + 1, 9, none⟩ (.int .u8 h.proto) = W4 at *
  have hHeld := q.pk
  refine wpAnyH_done (by kernel_rfl) ?_ _
  clear hHeld
  go_wp2_with fail
  refine wp_region_held_drew (S := fun w' => PkAt w' w.heap.size 60 h A n c) (by kernel_rfl) q.pk.drew (fun hHeld => ?_)
  replace q := q.step (below_drew _)
  generalize W4.drew = W5 at *
  refine wpAnyH_at (i := 0) (some 23) (v := ?v0z15) rfl rfl (by kernel_rfl) (by kernel_rfl) (by kernel_rfl) (fun _ _ _ h => h) (Or.inl ⟨by rfl, ?y0z15⟩) (by assumption) ?r0z15
  case y0z15 =>
    intro w9 hSw
    clear hSw
    go_simp
    all_goals with_reducible rfl
  simp only [Act.put, List.setIfInBounds_toArray, List.set_cons_zero, List.set_cons_succ]
  refine wpAnyH_at (i := 1) (some 24) (v := ?v1z16) rfl rfl (by kernel_rfl) (by kernel_rfl) (by kernel_rfl) (fun _ _ _ h => h) (Or.inl ⟨by rfl, ?y1z16⟩) (by assumption) ?r1z16
  case y1z16 =>
    intro w9 hSw
    clear hSw
    go_simp
    all_goals with_reducible rfl
  simp only [Act.put, List.setIfInBounds_toArray, List.set_cons_zero, List.set_cons_succ]
  refine wpAnyH_at (i := 2) (some 25) (v := ?v2z17) rfl rfl (by kernel_rfl) (by kernel_rfl) (by kernel_rfl) (fun _ _ _ h => h) (Or.inl ⟨by rfl, ?y2z17⟩) (by assumption) ?r2z17
  case y2z17 =>
    intro w9 hSw
    clear hSw
    go_simp
    all_goals with_reducible rfl
  simp only [Act.put, List.setIfInBounds_toArray, List.set_cons_zero, List.set_cons_succ]
  refine wpAnyH_at (i := 3) (some 26) (v := ?v3z18) rfl rfl (by kernel_rfl) (by kernel_rfl) (by kernel_rfl) (fun _ _ _ h => h) (Or.inl ⟨by rfl, ?y3z18⟩) (by assumption) ?r3z18
  case y3z18 =>
    intro w9 hSw
    (obtain ⟨a0, a1, a2, a3, a4, a5, a6, a7⟩ := PkAt.cells hSw); clear hSw
    go_simp
    all_goals with_reducible rfl
  simp only [Act.put, List.setIfInBounds_toArray, List.set_cons_zero, List.set_cons_succ]
  refine wpAnyH_at (i := 4) (some 27) (v := ?v4z19) rfl rfl (by kernel_rfl) (by kernel_rfl) (by kernel_rfl) (fun _ _ _ h => h) (Or.inl ⟨by rfl, ?y4z19⟩) (by assumption) ?r4z19
  case y4z19 =>
    intro w9 hSw
    clear hSw
    go_simp
    all_goals with_reducible rfl
  simp only [Act.put, List.setIfInBounds_toArray, List.set_cons_zero, List.set_cons_succ]
  refine wpAnyH_at (i := 5) (some 28) (v := ?v5z20) rfl rfl (by kernel_rfl) (by kernel_rfl) (by kernel_rfl) (fun _ _ _ h => h) (Or.inl ⟨by rfl, ?y5z20⟩) (by assumption) ?r5z20
  case y5z20 =>
    intro w9 hSw
    clear hSw
    go_simp
    all_goals with_reducible rfl
  simp only [Act.put, List.setIfInBounds_toArray, List.set_cons_zero, List.set_cons_succ]
  refine wpAnyH_at (i := 6) (some 29) (v := ?v6z21) rfl rfl (by kernel_rfl) (by kernel_rfl) (by kernel_rfl) (fun _ _ _ h => h) (Or.inl ⟨by rfl, ?y6z21⟩) (by assumption) ?r6z21
  case y6z21 =>
    intro w9 hSw
    clear hSw
    go_simp
    all_goals with_reducible rfl
  simp only [Act.put, List.setIfInBounds_toArray, List.set_cons_zero, List.set_cons_succ]
  refine wpAnyH_one (i := 7) (by kernel_rfl) rfl ?_
  go_wp2_with (go_at_call 66; refine (layTwo_any (w.heap.size + 1) 2 18 18 [69, h.tos, 0, 0, 0, 0, 0, 0, h.ttl, h.proto, 0, 0, 0, 0, 0, 0, 0, 0, 0, 0] k _ q.row (show 2 + 2 ≤ 20 by decide) (by decide) k0).mono ?_; rintro e w6 ⟨rfl, r9, ho9⟩)
  replace q : HK w h A n c [69, h.tos, k / 256, k % 256, 0, 0, 0, 0, h.ttl, h.proto, 0, 0, 0, 0, 0, 0, 0, 0, 0, 0] w6 := q.only ho9 r9
  clear r9 ho9 hHeld
  refine ⟨q.pk, ?_⟩
  have hHeld := q.pk
  refine wpAnyH_done (by kernel_rfl) ?_ _
  clear hHeld
  go_wp2_with fail
  refine wp_region_held_drew (S := fun w' => PkAt w' w.heap.size 60 h A n c) (by kernel_rfl) q.pk.drew (fun hHeld => ?_)
  replace q := q.step (below_drew _)
  generalize w6.drew = W7 at *
  refine wpAnyH_at (i := 0) (some 31) (v := ?v0z22) rfl rfl (by kernel_rfl) (by kernel_rfl) (by kernel_rfl) (fun _ _ _ h => h) (Or.inl ⟨by rfl, ?y0z22⟩) (by assumption) ?r0z22
  case y0z22 =>
    intro w9 hSw
    clear hSw
    go_simp
    all_goals with_reducible rfl
  simp only [Act.put, List.setIfInBounds_toArray, List.set_cons_zero, List.set_cons_succ]
  refine wpAnyH_at (i := 1) (some 32) (v := ?v1z23) rfl rfl (by kernel_rfl) (by kernel_rfl) (by kernel_rfl) (fun _ _ _ h => h) (Or.inl ⟨by rfl, ?y1z23⟩) (by assumption) ?r1z23
  case y1z23 =>
    intro w9 hSw
    clear hSw
    go_simp
    all_goals with_reducible rfl
  simp only [Act.put, List.setIfInBounds_toArray, List.set_cons_zero, List.set_cons_succ]
  refine wpAnyH_at (i := 2) (some 33) (v := ?v2z24) rfl rfl (by kernel_rfl) (by kernel_rfl) (by kernel_rfl) (fun _ _ _ h => h) (Or.inl ⟨by rfl, ?y2z24⟩) (by assumption) ?r2z24
  case y2z24 =>
    intro w9 hSw
    clear hSw
    go_simp
    all_goals with_reducible rfl
  simp only [Act.put, List.setIfInBounds_toArray, List.set_cons_zero, List.set_cons_succ]
  refine wpAnyH_at (i := 3) (some 34) (v := ?v3z25) rfl rfl (by kernel_rfl) (by kernel_rfl) (by kernel_rfl) (fun _ _ _ h => h) (Or.inl ⟨by rfl, ?y3z25⟩) (by assumption) ?r3z25
  case y3z25 =>
    intro w9 hSw
    (obtain ⟨a0, a1, a2, a3, a4, a5, a6, a7⟩ := PkAt.cells hSw); clear hSw
    go_simp
    all_goals with_reducible rfl
  simp only [Act.put, List.setIfInBounds_toArray, List.set_cons_zero, List.set_cons_succ]
  refine wpAnyH_one (i := 4) (by kernel_rfl) rfl ?_
  go_wp2_with (go_at_call 66; refine (layTwo_any (w.heap.size + 1) 4 16 16 [69, h.tos, k / 256, k % 256, 0, 0, 0, 0, h.ttl, h.proto, 0, 0, 0, 0, 0, 0, 0, 0, 0, 0] h.id _ q.row (show 4 + 2 ≤ 20 by decide) (by decide) hi).mono ?_; rintro e w8 ⟨rfl, r9, ho9⟩)
  replace q : HK w h A n c [69, h.tos, k / 256, k % 256, h.id / 256, h.id % 256, 0, 0, h.ttl, h.proto, 0, 0, 0, 0, 0, 0, 0, 0, 0, 0] w8 := q.only ho9 r9
  clear r9 ho9 hHeld
  refine ⟨q.pk, ?_⟩
  have hHeld := q.pk
  refine wpAnyH_done (by kernel_rfl) ?_ _
  clear hHeld
  obtain ⟨a0, a1, a2, a3, a4, a5, a6, a7⟩ := q.pk.cells
  rw [Hk.out] at a2
  go_wp2_with fail
  clear a0 a1 a2 a3 a4 a5 a6 a7
  refine wp_region_held_drew (S := fun w' => PkAt w' w.heap.size 60 h A n c) (by kernel_rfl) q.pk.drew (fun hHeld => ?_)
  replace q := q.step (below_drew _)
  generalize w8.drew = W10 at *
  refine wpAnyH_at (i := 0) (some 41) (v := ?v0z26) rfl rfl (by kernel_rfl) (by kernel_rfl) (by kernel_rfl) (fun _ _ _ h => h) (Or.inl ⟨by rfl, ?y0z26⟩) (by assumption) ?r0z26
  case y0z26 =>
    intro w9 hSw
    clear hSw
    go_simp
    all_goals with_reducible rfl
  simp only [Act.put, List.setIfInBounds_toArray, List.set_cons_zero, List.set_cons_succ]
  refine wpAnyH_at (i := 1) (some 42) (v := ?v1z27) rfl rfl (by kernel_rfl) (by kernel_rfl) (by kernel_rfl) (fun _ _ _ h => h) (Or.inl ⟨by rfl, ?y1z27⟩) (by assumption) ?r1z27
  case y1z27 =>
    intro w9 hSw
    clear hSw
    go_simp
    all_goals with_reducible rfl
  simp only [Act.put, List.setIfInBounds_toArray, List.set_cons_zero, List.set_cons_succ]
  refine wpAnyH_at (i := 2) (some 43) (v := ?v2z28) rfl rfl (by kernel_rfl) (by kernel_rfl) (by kernel_rfl) (fun _ _ _ h => h) (Or.inl ⟨by rfl, ?y2z28⟩) (by assumption) ?r2z28
  case y2z28 =>
    intro w9 hSw
    clear hSw
    go_simp
    all_goals with_reducible rfl
  simp only [Act.put, List.setIfInBounds_toArray, List.set_cons_zero, List.set_cons_succ]
  refine wpAnyH_at (i := 3) (some 44) (v := ?v3z29) rfl rfl (by kernel_rfl) (by kernel_rfl) (by kernel_rfl) (fun _ _ _ h => h) (Or.inl ⟨by rfl, ?y3z29⟩) (by assumption) ?r3z29
  case y3z29 =>
    intro w9 hSw
    (obtain ⟨a0, a1, a2, a3, a4, a5, a6, a7⟩ := PkAt.cells hSw); clear hSw
    go_simp
    all_goals with_reducible rfl
  simp only [Act.put, List.setIfInBounds_toArray, List.set_cons_zero, List.set_cons_succ]
  refine wpAnyH_one (i := 4) (by kernel_rfl) rfl ?_
  go_wp2_with (go_at_call 67; refine (layFour_any (w.heap.size + 1) 12 8 8 [69, h.tos, k / 256, k % 256, h.id / 256, h.id % 256, 0, 0, h.ttl, h.proto, 0, 0, 0, 0, 0, 0, 0, 0, 0, 0] h.src _ q.row (show 12 + 4 ≤ 20 by decide) (by decide) (by decide) hsr).mono ?_; rintro e w11 ⟨rfl, r9, ho9⟩)
  replace q : HK w h A n c [69, h.tos, k / 256, k % 256, h.id / 256, h.id % 256, 0, 0, h.ttl, h.proto, 0, 0, h.src / 16777216, h.src / 65536 % 256, h.src / 256 % 256, h.src % 256, 0, 0, 0, 0] w11 := q.only ho9 r9
  clear r9 ho9 hHeld
  refine ⟨q.pk, ?_⟩
  have hHeld := q.pk
  refine wpAnyH_done (by kernel_rfl) ?_ _
  clear hHeld
  go_wp2_with fail
  refine wp_region_held_drew (S := fun w' => PkAt w' w.heap.size 60 h A n c) (by kernel_rfl) q.pk.drew (fun hHeld => ?_)
  replace q := q.step (below_drew _)
  generalize w11.drew = W12 at *
  refine wpAnyH_at (i := 0) (some 46) (v := ?v0z30) rfl rfl (by kernel_rfl) (by kernel_rfl) (by kernel_rfl) (fun _ _ _ h => h) (Or.inl ⟨by rfl, ?y0z30⟩) (by assumption) ?r0z30
  case y0z30 =>
    intro w9 hSw
    clear hSw
    go_simp
    all_goals with_reducible rfl
  simp only [Act.put, List.setIfInBounds_toArray, List.set_cons_zero, List.set_cons_succ]
  refine wpAnyH_at (i := 1) (some 47) (v := ?v1z31) rfl rfl (by kernel_rfl) (by kernel_rfl) (by kernel_rfl) (fun _ _ _ h => h) (Or.inl ⟨by rfl, ?y1z31⟩) (by assumption) ?r1z31
  case y1z31 =>
    intro w9 hSw
    clear hSw
    go_simp
    all_goals with_reducible rfl
  simp only [Act.put, List.setIfInBounds_toArray, List.set_cons_zero, List.set_cons_succ]
  refine wpAnyH_at (i := 2) (some 48) (v := ?v2z32) rfl rfl (by kernel_rfl) (by kernel_rfl) (by kernel_rfl) (fun _ _ _ h => h) (Or.inl ⟨by rfl, ?y2z32⟩) (by assumption) ?r2z32
  case y2z32 =>
    intro w9 hSw
    clear hSw
    go_simp
    all_goals with_reducible rfl
  simp only [Act.put, List.setIfInBounds_toArray, List.set_cons_zero, List.set_cons_succ]
  refine wpAnyH_at (i := 3) (some 49) (v := ?v3z33) rfl rfl (by kernel_rfl) (by kernel_rfl) (by kernel_rfl) (fun _ _ _ h => h) (Or.inl ⟨by rfl, ?y3z33⟩) (by assumption) ?r3z33
  case y3z33 =>
    intro w9 hSw
    (obtain ⟨a0, a1, a2, a3, a4, a5, a6, a7⟩ := PkAt.cells hSw); clear hSw
    go_simp
    all_goals with_reducible rfl
  simp only [Act.put, List.setIfInBounds_toArray, List.set_cons_zero, List.set_cons_succ]
  refine wpAnyH_one (i := 4) (by kernel_rfl) rfl ?_
  go_wp2_with (go_at_call 67; refine (layFour_any (w.heap.size + 1) 16 4 4 [69, h.tos, k / 256, k % 256, h.id / 256, h.id % 256, 0, 0, h.ttl, h.proto, 0, 0, h.src / 16777216, h.src / 65536 % 256, h.src / 256 % 256, h.src % 256, 0, 0, 0, 0] h.dst _ q.row (show 16 + 4 ≤ 20 by decide) (by decide) (by decide) hds).mono ?_; rintro e w13 ⟨rfl, r9, ho9⟩)
  replace q : HK w h A n c [69, h.tos, k / 256, k % 256, h.id / 256, h.id % 256, 0, 0, h.ttl, h.proto, 0, 0, h.src / 16777216, h.src / 65536 % 256, h.src / 256 % 256, h.src % 256, h.dst / 16777216, h.dst / 65536 % 256, h.dst / 256 % 256, h.dst % 256] w13 := q.only ho9 r9
  clear r9 ho9 hHeld
  refine ⟨q.pk, ?_⟩
  have hHeld := q.pk
  refine wpAnyH_done (by kernel_rfl) ?_ _
  clear hHeld
  go_wp2_with fail
  refine wp_region_held_drew (S := fun w' => PkAt w' w.heap.size 60 h A n c) (by kernel_rfl) q.pk.drew (fun hHeld => ?_)
  replace q := q.step (below_drew _)
  generalize w13.drew = W14 at *
  refine wpAnyH_at (i := 0) (some 51) (v := ?v0z34) rfl rfl (by kernel_rfl) (by kernel_rfl) (by kernel_rfl) (fun _ _ _ h => h) (Or.inl ⟨by rfl, ?y0z34⟩) (by assumption) ?r0z34
  case y0z34 =>
    intro w9 hSw
    clear hSw
    go_simp
    all_goals with_reducible rfl
  simp only [Act.put, List.setIfInBounds_toArray, List.set_cons_zero, List.set_cons_succ]
  refine wpAnyH_at (i := 1) (some 52) (v := ?v1z35) rfl rfl (by kernel_rfl) (by kernel_rfl) (by kernel_rfl) (fun _ _ _ h => h) (Or.inl ⟨by rfl, ?y1z35⟩) (by assumption) ?r1z35
  case y1z35 =>
    intro w9 hSw
    clear hSw
    go_simp
    all_goals with_reducible rfl
  simp only [Act.put, List.setIfInBounds_toArray, List.set_cons_zero, List.set_cons_succ]
  refine wpAnyH_at (i := 2) (some 53) (v := ?v2z36) rfl rfl (by kernel_rfl) (by kernel_rfl) (by kernel_rfl) (fun _ _ _ h => h) (Or.inl ⟨by rfl, ?y2z36⟩) (by assumption) ?r2z36
  case y2z36 =>
    intro w9 hSw
    clear hSw
    go_simp
    all_goals with_reducible rfl
  simp only [Act.put, List.setIfInBounds_toArray, List.set_cons_zero, List.set_cons_succ]
  have r0 := q.row.rd 0 20 20 (show 0 + 20 ≤ 20 by decide) (by decide) (by unfold maxLen; omega) Hw.out
  rw [show ([69, h.tos, k / 256, k % 256, h.id / 256, h.id % 256, 0, 0, h.ttl, h.proto, 0, 0, h.src / 16777216, h.src / 65536 % 256, h.src / 256 % 256, h.src % 256, h.dst / 16777216, h.dst / 65536 % 256, h.dst / 256 % 256, h.dst % 256].drop 0).take 20 = [69, h.tos, k / 256, k % 256, h.id / 256, h.id % 256, 0, 0, h.ttl, h.proto, 0, 0, h.src / 16777216, h.src / 65536 % 256, h.src / 256 % 256, h.src % 256, h.dst / 16777216, h.dst / 65536 % 256, h.dst / 256 % 256, h.dst % 256] from rfl] at r0
  have R0 := sumOf_any _ 1 1 _ _ (rows_one r0)
  rw [show [[69, h.tos, k / 256, k % 256, h.id / 256, h.id % 256, 0, 0, h.ttl, h.proto, 0, 0, h.src / 16777216, h.src / 65536 % 256, h.src / 256 % 256, h.src % 256, h.dst / 16777216, h.dst / 65536 % 256, h.dst / 256 % 256, h.dst % 256]].flatten = [69, h.tos, k / 256, k % 256, h.id / 256, h.id % 256, 0, 0, h.ttl, h.proto, 0, 0, h.src / 16777216, h.src / 65536 % 256, h.src / 256 % 256, h.src % 256, h.dst / 16777216, h.dst / 65536 % 256, h.dst / 256 % 256, h.dst % 256] from by rw [List.flatten_cons, List.flatten_nil, List.append_nil], Hs.out] at R0
  have hb := alloc_below W14 (.cells #[.slice (some ⟨w.heap.size + 1, 0, none⟩) 20 20] 22)
  replace q := q.step hb
  clear r0 hb hHeld
  have hHeld := q.pk
  refine wpAnyH_one (i := 3) (by kernel_rfl) rfl ?_
  go_wp2
  refine ⟨hHeld, ?_⟩
  change wpAnyH _ _ _ _ _ _ _ _ (W14.alloc (.cells #[.slice (some ⟨w.heap.size + 1, 0, none⟩) 20 20] 22))
  generalize (W14.alloc (.cells #[.slice (some ⟨w.heap.size + 1, 0, none⟩) 20 20] 22)) = W15 at *
  generalize W14.heap.size = gs at *
  refine wpAnyH_one (i := 4) (by kernel_rfl) rfl ?_
  go_wp2_with (go_at_call 44; refine R0.mono ?_; rintro e w16 ⟨rfl, hb⟩)
  replace q := q.step hb
  clear hb hHeld R0
  refine ⟨q.pk, ?_⟩
  have hHeld := q.pk
  try simp only [Act.put, List.setIfInBounds_toArray, List.set_cons_zero, List.set_cons_succ]
  refine wpAnyH_one (i := 5) (by kernel_rfl) rfl ?_
  go_wp2_with (go_at_call 66; refine (layTwo_any (w.heap.size + 1) 10 10 10 [69, h.tos, k / 256, k % 256, h.id / 256, h.id % 256, 0, 0, h.ttl, h.proto, 0, 0, h.src / 16777216, h.src / 65536 % 256, h.src / 256 % 256, h.src % 256, h.dst / 16777216, h.dst / 65536 % 256, h.dst / 256 % 256, h.dst % 256] s _ q.row (show 10 + 2 ≤ 20 by decide) (by decide) hsb).mono ?_; rintro e w17 ⟨rfl, r9, ho9⟩)
  replace q : HK w h A n c [69, h.tos, k / 256, k % 256, h.id / 256, h.id % 256, 0, 0, h.ttl, h.proto, s / 256, s % 256, h.src / 16777216, h.src / 65536 % 256, h.src / 256 % 256, h.src % 256, h.dst / 16777216, h.dst / 65536 % 256, h.dst / 256 % 256, h.dst % 256] w17 := q.only ho9 r9
  clear r9 ho9 hHeld
  refine ⟨q.pk, ?_⟩
  refine wpAnyH_done (by kernel_rfl) ?_ _
  go_wp2
  go_ret
  exact ⟨_, rfl, q.row, Nat.le_succ _, q.below⟩

set_option maxRecDepth 100000 in
set_option maxHeartbeats 4000000 in
theorem head_keep (h : Hd) (A : Option Addr) (n c : Nat) (k : Int) (w : World) (hi : 0 ≤ h.id ∧ h.id ≤ 65535) (hsr : 0 ≤ h.src ∧ h.src < 4294967296) (hds : 0 ≤ h.dst ∧ h.dst < 4294967296) (hkp : h.keep = true) (hn : n ≤ 65515) (hk : (20 : Int) + (n : Int) = k) (s : Int)
    (hs : 65535 - totV [69, h.tos, k / 256, k % 256, h.id / 256, h.id % 256, 16384 / 256, 16384 % 256, h.ttl, h.proto, 0, 0, h.src / 16777216, h.src / 65536 % 256, h.src / 256 % 256, h.src % 256, h.dst / 16777216, h.dst / 65536 % 256, h.dst / 256 % 256, h.dst % 256] = s) (hsb : 0 ≤ s ∧ s ≤ 65535) (hwf : ∀ x ∈ [69, h.tos, k / 256, k % 256, h.id / 256, h.id % 256, 16384 / 256, 16384 % 256, h.ttl, h.proto, 0, 0, h.src / 16777216, h.src / 65536 % 256, h.src / 256 % 256, h.src % 256, h.dst / 16777216, h.dst / 65536 % 256, h.dst / 256 % 256, h.dst % 256], (Lit.int .u8 x).wf = true) :
    Calls Tryd.prog 52 #[pkV h A n c] w (GivesRow w [69, h.tos, k / 256, k % 256, h.id / 256, h.id % 256, 16384 / 256, 16384 % 256, h.ttl, h.proto, s / 256, s % 256, h.src / 16777216, h.src / 65536 % 256, h.src / 256 % 256, h.src % 256, h.dst / 16777216, h.dst / 65536 % 256, h.dst / 256 % 256, h.dst % 256] 20) := by
  have start := HK.start h A n c w
  have n1 : ¬ (65515 : Int) < (n : Int) := by omega
  have k0 : 0 ≤ k ∧ k ≤ 65535 := by omega
  have e1 : IntKind.i64.wrap k = k := by rw [IntKind.wrap_i64]; omega
  have e2 : IntKind.u16.wrap k = k := by rw [IntKind.wrap_u16]; omega
  have Hs := Lib.hid hs
  have Hw := Lib.hid hwf
  have Hk := Lib.hid hkp
  clear hs hwf hkp
  obtain ⟨a0, a1, a2, a3, a4, a5, a6, a7⟩ := (PkAt.new w 60 h A n c).cells
  go_enter Tryd.func52, Tryd.ntmps52
  go_wp2_with (at_make; refine wpList_mk (some 8) rfl rfl _ _ 22 rfl Tryd.underlying22 info5 20 _ _ rfl rfl rfl rfl (by omega) ?_; intro w2 row2 hs2 hb2; have q := start w2 _ row2 hb2; clear start row2 hs2 hb2)
  clear a0 a1 a2 a3 a4 a5 a6 a7
  refine wp_region_held_drew (S := fun w' => PkAt w' w.heap.size 60 h A n c) (by kernel_rfl) q.pk.drew (fun hHeld => ?_)
  replace q := q.step (below_drew _)
  generalize w2.drew = W0 at *
  refine wpAnyH_at (i := 0) (some 9) (v := ?v0z37) rfl rfl (by kernel_rfl) (by kernel_rfl) (by kernel_rfl) (fun _ _ _ h => h) (Or.inl ⟨by rfl, ?y0z37⟩) (by assumption) ?r0z37
  case y0z37 =>
    intro w9 hSw
    clear hSw
    go_simp
    all_goals with_reducible rfl
  simp only [Act.put, List.setIfInBounds_toArray, List.set_cons_zero, List.set_cons_succ]
  refine wpAnyH_at (i := 1) (some 10) (v := ?v1z38) rfl rfl (by kernel_rfl) (by kernel_rfl) (by kernel_rfl) (fun _ _ _ h => h) (Or.inl ⟨by rfl, ?y1z38⟩) (by assumption) ?r1z38
  case y1z38 =>
    intro w9 hSw
    clear hSw
    go_simp
    all_goals with_reducible rfl
  simp only [Act.put, List.setIfInBounds_toArray, List.set_cons_zero, List.set_cons_succ]
  refine wpAnyH_at (i := 2) (some 11) (v := ?v2z39) rfl rfl (by kernel_rfl) (by kernel_rfl) (by kernel_rfl) (fun _ _ _ h => h) (Or.inl ⟨by rfl, ?y2z39⟩) (by assumption) ?r2z39
  case y2z39 =>
    intro w9 hSw
    clear hSw
    go_simp
    all_goals with_reducible rfl
  simp only [Act.put, List.setIfInBounds_toArray, List.set_cons_zero, List.set_cons_succ]
  refine wpAnyH_at (i := 3) (some 12) (v := ?v3z40) rfl rfl (by kernel_rfl) (by kernel_rfl) (by kernel_rfl) (fun _ _ _ h => h) (Or.inl ⟨by rfl, ?y3z40⟩) (by assumption) ?r3z40
  case y3z40 =>
    intro w9 hSw
    clear hSw
    go_simp
    all_goals with_reducible rfl
  simp only [Act.put, List.setIfInBounds_toArray, List.set_cons_zero, List.set_cons_succ]
  refine wpAnyH_at (i := 4) (some 13) (v := ?v4z41) rfl rfl (by kernel_rfl) (by kernel_rfl) (by kernel_rfl) (fun _ _ _ h => h) (Or.inl ⟨by rfl, ?y4z41⟩) (by assumption) ?r4z41
  case y4z41 =>
    intro w9 hSw
    clear hSw
    go_simp
    all_goals with_reducible rfl
  simp only [Act.put, List.setIfInBounds_toArray, List.set_cons_zero, List.set_cons_succ]
  refine wpAnyH_at (i := 5) (some 14) (v := ?v5z42) rfl rfl (by kernel_rfl) (by kernel_rfl) (by kernel_rfl) (fun _ _ _ h => h) (Or.inl ⟨by rfl, ?y5z42⟩) (by assumption) ?r5z42
  case y5z42 =>
    intro w9 hSw
    (obtain ⟨a0, a1, a2, a3, a4, a5, a6, a7⟩ := PkAt.cells hSw); clear hSw
    go_simp
    all_goals with_reducible rfl
  simp only [Act.put, List.setIfInBounds_toArray, List.set_cons_zero, List.set_cons_succ]
  refine wpAnyH_at (i := 6) (some 15) (v := ?v6z43) rfl rfl (by kernel_rfl) (by kernel_rfl) (by kernel_rfl) (fun _ _ _ h => h) (Or.inl ⟨by rfl, ?y6z43⟩) (by assumption) ?r6z43
  case y6z43 =>
    intro w9 hSw
    clear hSw
    go_simp
    all_goals with_reducible rfl
  simp only [Act.put, List.setIfInBounds_toArray, List.set_cons_zero, List.set_cons_succ]
  refine wpAnyH_at (i := 7) (some 16) (v := ?v7z44) rfl rfl (by kernel_rfl) (by kernel_rfl) (by kernel_rfl) (fun _ _ _ h => h) (Or.inl ⟨by rfl, ?y7z44⟩) (by assumption) ?r7z44
  case y7z44 =>
    intro w9 hSw
    (obtain ⟨a0, a1, a2, a3, a4, a5, a6, a7⟩ := PkAt.cells hSw); clear hSw
    go_simp
    all_goals with_reducible rfl
  simp only [Act.put, List.setIfInBounds_toArray, List.set_cons_zero, List.set_cons_succ]
  refine wpAnyH_at (i := 8) (some 17) (v := ?v8z45) rfl rfl (by kernel_rfl) (by kernel_rfl) (by kernel_rfl) (fun _ _ _ h => h) (Or.inl ⟨by rfl, ?y8z45⟩) (by assumption) ?r8z45
  case y8z45 =>
    intro w9 hSw
    clear hSw
    go_simp
    all_goals with_reducible rfl
  simp only [Act.put, List.setIfInBounds_toArray, List.set_cons_zero, List.set_cons_succ]
  refine wpAnyH_at (i := 9) (some 18) (v := ?v9z46) rfl rfl (by kernel_rfl) (by kernel_rfl) (by kernel_rfl) (fun _ _ _ h => h) (Or.inl ⟨by rfl, ?y9z46⟩) (by assumption) ?r9z46
  case y9z46 =>
    intro w9 hSw
    (obtain ⟨a0, a1, a2, a3, a4, a5, a6, a7⟩ := PkAt.cells hSw); clear hSw
    go_simp
    all_goals with_reducible rfl
  simp only [Act.put, List.setIfInBounds_toArray, List.set_cons_zero, List.set_cons_succ]
  refine wpAnyH_at (i := 10) (some 19) (v := ?v10z47) rfl rfl (by kernel_rfl) (by kernel_rfl) (by kernel_rfl) (fun _ _ _ h => h) (Or.inl ⟨by rfl, ?y10z47⟩) (by assumption) ?r10z47
  case y10z47 =>
    intro w9 hSw
    clear hSw
    go_simp
    all_goals with_reducible rfl
  simp only [Act.put, List.setIfInBounds_toArray, List.set_cons_zero, List.set_cons_succ]
  refine wpAnyH_one (i := 11) (by kernel_rfl) rfl ?_
  have c0 := q.row.cell (i := 0) (show 0 < 20 by decide)
  have z0 := q.row.frozen 0
  go_wp2
  replace q : HK w h A n c [69, 0, 0, 0, 0, 0, 0, 0, 0, 0, 0, 0, 0, 0, 0, 0, 0, 0, 0, 0] (W0.setCell ⟨w.heap.size + 1, 0, none⟩ (.int .u8 69)) := q.set 0 69
  clear c0 z0 hHeld
  refine ⟨q.pk, ?_⟩
  generalize W0.setCell ⟨w.heap.size + 1, 0, none⟩ (.int .u8 69) = W1 at *
  have hHeld := q.pk
  refine wpAnyH_at (i := 12) (some 20) (v := ?v12z48) rfl rfl (by kernel_rfl) (by kernel_rfl) (by kernel_rfl) (fun _ _ _ h => h) (Or.inl ⟨by rfl, ?y12z48⟩) (by assumption) ?r12z48
  case y12z48 =>
    intro w9 hSw
    clear hSw
    go_simp
    all_goals with_reducible rfl
  simp only [Act.put, List.setIfInBounds_toArray, List.set_cons_zero, List.set_cons_succ]
  refine wpAnyH_one (i := 13) (by kernel_rfl) rfl ?_
  have c0 := q.row.cell (i := 1) (show 1 < 20 by decide)
  have z0 := q.row.frozen 1
  go_wp2
  replace q : HK w h A n c [69, h.tos, 0, 0, 0, 0, 0, 0, 0, 0, 0, 0, 0, 0, 0, 0, 0, 0, 0, 0] (W1.setCell ⟨w.heap.size + 1, 1, none⟩ (.int .u8 h.tos)) := q.set 1 h.tos
  clear c0 z0 hHeld
  refine ⟨q.pk, ?_⟩
  generalize W1.setCell ⟨w.heap.size + 1, 1, none⟩ (.int .u8 h.tos) = W2 at *
  have hHeld := q.pk
  refine wpAnyH_at (i := 14) (some 21) (v := ?v14z49) rfl rfl (by kernel_rfl) (by kernel_rfl) (by kernel_rfl) (fun _ _ _ h => h) (Or.inl ⟨by rfl, ?y14z49⟩) (by assumption) ?r14z49
  case y14z49 =>
    intro w9 hSw
    clear hSw
    go_simp
    all_goals with_reducible rfl
  simp only [Act.put, List.setIfInBounds_toArray, List.set_cons_zero, List.set_cons_succ]
  refine wpAnyH_one (i := 15) (by kernel_rfl) rfl ?_
  have c0 := q.row.cell (i := 8) (show 8 < 20 by decide)
  have z0 := q.row.frozen 8
  go_wp2
  replace q : HK w h A n c [69, h.tos, 0, 0, 0, 0, 0, 0, h.ttl, 0, 0, 0, 0, 0, 0, 0, 0, 0, 0, 0] (W2.setCell ⟨w.heap.size + 1, 8, none⟩ (.int .u8 h.ttl)) := q.set 8 h.ttl
  clear c0 z0 hHeld
  refine ⟨q.pk, ?_⟩
  generalize W2.setCell ⟨w.heap.size + 1, 8, none⟩ (.int .u8 h.ttl) = W3 at *
  have hHeld := q.pk
  refine wpAnyH_at (i := 16) (some 22) (v := ?v16z50) rfl rfl (by kernel_rfl) (by kernel_rfl) (by kernel_rfl) (fun _ _ _ h => h) (Or.inl ⟨by rfl, ?y16z50⟩) (by assumption) ?r16z50
  case y16z50 =>
    intro w9 hSw
    clear hSw
    go_simp
    all_goals with_reducible rfl
  simp only [Act.put, List.setIfInBounds_toArray, List.set_cons_zero, List.set_cons_succ]
  refine wpAnyH_one (i := 17) (by kernel_rfl) rfl ?_
  have c0 := q.row.cell (i := 9) (show 9 < 20 by decide)
  have z0 := q.row.frozen 9
  go_wp2
  replace q : HK w h A n c [69, h.tos, 0, 0, 0, 0, 0, 0, h.ttl, h.proto, 0, 0, 0, 0, 0, 0, 0, 0, 0, 0] (W3.setCell ⟨w.heap.size + 1, 9, none⟩ (.int .u8 h.proto)) := q.set 9 h.proto
  clear c0 z0 hHeld
  refine ⟨q.pk, ?_⟩
  generalize W3.setCell ⟨w.heap.size + 1, 9, none⟩ (.int .u8 h.proto) = W4 at *
  have hHeld := q.pk
  refine wpAnyH_done (by kernel_rfl) ?_ _
  clear hHeld
  go_wp2_with fail
  refine wp_region_held_drew (S := fun w' => PkAt w' w.heap.size 60 h A n c) (by kernel_rfl) q.pk.drew (fun hHeld => ?_)
  replace q := q.step (below_drew _)
  generalize W4.drew = W5 at *
  refine wpAnyH_at (i := 0) (some 23) (v := ?v0z51) rfl rfl (by kernel_rfl) (by kernel_rfl) (by kernel_rfl) (fun _ _ _ h => h) (Or.inl ⟨by rfl, ?y0z51⟩) (by assumption) ?r0z51
  case y0z51 =>
    intro w9 hSw
    clear hSw
    go_simp
    all_goals with_reducible rfl
  simp only [Act.put, List.setIfInBounds_toArray, List.set_cons_zero, List.set_cons_succ]
  refine wpAnyH_at (i := 1) (some 24) (v := ?v1z52) rfl rfl (by kernel_rfl) (by kernel_rfl) (by kernel_rfl) (fun _ _ _ h => h) (Or.inl ⟨by rfl, ?y1z52⟩) (by assumption) ?r1z52
  case y1z52 =>
    intro w9 hSw
    clear hSw
    go_simp
    all_goals with_reducible rfl
  simp only [Act.put, List.setIfInBounds_toArray, List.set_cons_zero, List.set_cons_succ]
  refine wpAnyH_at (i := 2) (some 25) (v := ?v2z53) rfl rfl (by kernel_rfl) (by kernel_rfl) (by kernel_rfl) (fun _ _ _ h => h) (Or.inl ⟨by rfl, ?y2z53⟩) (by assumption) ?r2z53
  case y2z53 =>
    intro w9 hSw
    clear hSw
    go_simp
    all_goals with_reducible rfl
  simp only [Act.put, List.setIfInBounds_toArray, List.set_cons_zero, List.set_cons_succ]
  refine wpAnyH_at (i := 3) (some 26) (v := ?v3z54) rfl rfl (by kernel_rfl) (by kernel_rfl) (by kernel_rfl) (fun _ _ _ h => h) (Or.inl ⟨by rfl, ?y3z54⟩) (by assumption) ?r3z54
  case y3z54 =>
    intro w9 hSw
    (obtain ⟨a0, a1, a2, a3, a4, a5, a6, a7⟩ := PkAt.cells hSw); clear hSw
    go_simp
    all_goals with_reducible rfl
  simp only [Act.put, List.setIfInBounds_toArray, List.set_cons_zero, List.set_cons_succ]
  refine wpAnyH_at (i := 4) (some 27) (v := ?v4z55) rfl rfl (by kernel_rfl) (by kernel_rfl) (by kernel_rfl) (fun _ _ _ h => h) (Or.inl ⟨by rfl, ?y4z55⟩) (by assumption) ?r4z55
  case y4z55 =>
    intro w9 hSw
    clear hSw
    go_simp
    all_goals with_reducible rfl
  simp only [Act.put, List.setIfInBounds_toArray, List.set_cons_zero, List.set_cons_succ]
  refine wpAnyH_at (i := 5) (some 28) (v := ?v5z56) rfl rfl (by kernel_rfl) (by kernel_rfl) (by kernel_rfl) (fun _ _ _ h => h) (Or.inl ⟨by rfl, ?y5z56⟩) (by assumption) ?r5z56
  case y5z56 =>
    intro w9 hSw
    clear hSw
    go_simp
    all_goals with_reducible rfl
  simp only [Act.put, List.setIfInBounds_toArray, List.set_cons_zero, List.set_cons_succ]
  refine wpAnyH_at (i := 6) (some 29) (v := ?v6z57) rfl rfl (by kernel_rfl) (by kernel_rfl) (by kernel_rfl) (fun _ _ _ h => h) (Or.inl ⟨by rfl, ?y6z57⟩) (by assumption) ?r6z57
  case y6z57 =>
    intro w9 hSw
    clear hSw
    go_simp
    all_goals with_reducible rfl
  simp only [Act.put, List.setIfInBounds_toArray, List.set_cons_zero, List.set_cons_succ]
  refine wpAnyH_one (i := 7) (by kernel_rfl) rfl ?_
  go_wp2_with (go_at_call 66; refine (layTwo_any (w.heap.size + 1) 2 18 18 [69, h.tos, 0, 0, 0, 0, 0, 0, h.ttl, h.proto, 0, 0, 0, 0, 0, 0, 0, 0, 0, 0] k _ q.row (show 2 + 2 ≤ 20 by decide) (by decide) k0).mono ?_; rintro e w6 ⟨rfl, r9, ho9⟩)
  replace q : HK w h A n c [69, h.tos, k / 256, k % 256, 0, 0, 0, 0, h.ttl, h.proto, 0, 0, 0, 0, 0, 0, 0, 0, 0, 0] w6 := q.only ho9 r9
  clear r9 ho9 hHeld
  refine ⟨q.pk, ?_⟩
  have hHeld := q.pk
  refine wpAnyH_done (by kernel_rfl) ?_ _
  clear hHeld
  go_wp2_with fail
  refine wp_region_held_drew (S := fun w' => PkAt w' w.heap.size 60 h A n c) (by kernel_rfl) q.pk.drew (fun hHeld => ?_)
  replace q := q.step (below_drew _)
  generalize w6.drew = W7 at *
  refine wpAnyH_at (i := 0) (some 31) (v := ?v0z58) rfl rfl (by kernel_rfl) (by kernel_rfl) (by kernel_rfl) (fun _ _ _ h => h) (Or.inl ⟨by rfl, ?y0z58⟩) (by assumption) ?r0z58
  case y0z58 =>
    intro w9 hSw
    clear hSw
    go_simp
    all_goals with_reducible rfl
  simp only [Act.put, List.setIfInBounds_toArray, List.set_cons_zero, List.set_cons_succ]
  refine wpAnyH_at (i := 1) (some 32) (v := ?v1z59) rfl rfl (by kernel_rfl) (by kernel_rfl) (by kernel_rfl) (fun _ _ _ h => h) (Or.inl ⟨by rfl, ?y1z59⟩) (by assumption) ?r1z59
  case y1z59 =>
    intro w9 hSw
    clear hSw
    go_simp
    all_goals with_reducible rfl
  simp only [Act.put, List.setIfInBounds_toArray, List.set_cons_zero, List.set_cons_succ]
  refine wpAnyH_at (i := 2) (some 33) (v := ?v2z60) rfl rfl (by kernel_rfl) (by kernel_rfl) (by kernel_rfl) (fun _ _ _ h => h) (Or.inl ⟨by rfl, ?y2z60⟩) (by assumption) ?r2z60
  case y2z60 =>
    intro w9 hSw
    clear hSw
    go_simp
    all_goals with_reducible rfl
  simp only [Act.put, List.setIfInBounds_toArray, List.set_cons_zero, List.set_cons_succ]
  refine wpAnyH_at (i := 3) (some 34) (v := ?v3z61) rfl rfl (by kernel_rfl) (by kernel_rfl) (by kernel_rfl) (fun _ _ _ h => h) (Or.inl ⟨by rfl, ?y3z61⟩) (by assumption) ?r3z61
  case y3z61 =>
    intro w9 hSw
    (obtain ⟨a0, a1, a2, a3, a4, a5, a6, a7⟩ := PkAt.cells hSw); clear hSw
    go_simp
    all_goals with_reducible rfl
  simp only [Act.put, List.setIfInBounds_toArray, List.set_cons_zero, List.set_cons_succ]
  refine wpAnyH_one (i := 4) (by kernel_rfl) rfl ?_
  go_wp2_with (go_at_call 66; refine (layTwo_any (w.heap.size + 1) 4 16 16 [69, h.tos, k / 256, k % 256, 0, 0, 0, 0, h.ttl, h.proto, 0, 0, 0, 0, 0, 0, 0, 0, 0, 0] h.id _ q.row (show 4 + 2 ≤ 20 by decide) (by decide) hi).mono ?_; rintro e w8 ⟨rfl, r9, ho9⟩)
  replace q : HK w h A n c [69, h.tos, k / 256, k % 256, h.id / 256, h.id % 256, 0, 0, h.ttl, h.proto, 0, 0, 0, 0, 0, 0, 0, 0, 0, 0] w8 := q.only ho9 r9
  clear r9 ho9 hHeld
  refine ⟨q.pk, ?_⟩
  have hHeld := q.pk
  refine wpAnyH_done (by kernel_rfl) ?_ _
  clear hHeld
  obtain ⟨a0, a1, a2, a3, a4, a5, a6, a7⟩ := q.pk.cells
  rw [Hk.out] at a2
  go_wp2_with fail
  refine (layTwo_any (w.heap.size + 1) 6 14 14 [69, h.tos, k / 256, k % 256, h.id / 256, h.id % 256, 0, 0, h.ttl, h.proto, 0, 0, 0, 0, 0, 0, 0, 0, 0, 0] 16384 _ q.row (show 6 + 2 ≤ 20 by decide) (by decide) (by decide)).mono ?_
  rintro e w9 ⟨rfl, r9, ho9⟩
  replace q : HK w h A n c [69, h.tos, k / 256, k % 256, h.id / 256, h.id % 256, 16384 / 256, 16384 % 256, h.ttl, h.proto, 0, 0, 0, 0, 0, 0, 0, 0, 0, 0] w9 := q.only ho9 r9
  clear r9 ho9 a0 a1 a2 a3 a4 a5 a6 a7
  go_wp2_with fail
  refine wp_region_held_drew (S := fun w' => PkAt w' w.heap.size 60 h A n c) (by kernel_rfl) q.pk.drew (fun hHeld => ?_)
  replace q := q.step (below_drew _)
  generalize w9.drew = W10 at *
  refine wpAnyH_at (i := 0) (some 41) (v := ?v0z62) rfl rfl (by kernel_rfl) (by kernel_rfl) (by kernel_rfl) (fun _ _ _ h => h) (Or.inl ⟨by rfl, ?y0z62⟩) (by assumption) ?r0z62
  case y0z62 =>
    intro w9 hSw
    clear hSw
    go_simp
    all_goals with_reducible rfl
  simp only [Act.put, List.setIfInBounds_toArray, List.set_cons_zero, List.set_cons_succ]
  refine wpAnyH_at (i := 1) (some 42) (v := ?v1z63) rfl rfl (by kernel_rfl) (by kernel_rfl) (by kernel_rfl) (fun _ _ _ h => h) (Or.inl ⟨by rfl, ?y1z63⟩) (by assumption) ?r1z63
  case y1z63 =>
    intro w9 hSw
    clear hSw
    go_simp
    all_goals with_reducible rfl
  simp only [Act.put, List.setIfInBounds_toArray, List.set_cons_zero, List.set_cons_succ]
  refine wpAnyH_at (i := 2) (some 43) (v := ?v2z64) rfl rfl (by kernel_rfl) (by kernel_rfl) (by kernel_rfl) (fun _ _ _ h => h) (Or.inl ⟨by rfl, ?y2z64⟩) (by assumption) ?r2z64
  case y2z64 =>
    intro w9 hSw
    clear hSw
    go_simp
    all_goals with_reducible rfl
  simp only [Act.put, List.setIfInBounds_toArray, List.set_cons_zero, List.set_cons_succ]
  refine wpAnyH_at (i := 3) (some 44) (v := ?v3z65) rfl rfl (by kernel_rfl) (by kernel_rfl) (by kernel_rfl) (fun _ _ _ h => h) (Or.inl ⟨by rfl, ?y3z65⟩) (by assumption) ?r3z65
  case y3z65 =>
    intro w9 hSw
    (obtain ⟨a0, a1, a2, a3, a4, a5, a6, a7⟩ := PkAt.cells hSw); clear hSw
    go_simp
    all_goals with_reducible rfl
  simp only [Act.put, List.setIfInBounds_toArray, List.set_cons_zero, List.set_cons_succ]
  refine wpAnyH_one (i := 4) (by kernel_rfl) rfl ?_
  go_wp2_with (go_at_call 67; refine (layFour_any (w.heap.size + 1) 12 8 8 [69, h.tos, k / 256, k % 256, h.id / 256, h.id % 256, 16384 / 256, 16384 % 256, h.ttl, h.proto, 0, 0, 0, 0, 0, 0, 0, 0, 0, 0] h.src _ q.row (show 12 + 4 ≤ 20 by decide) (by decide) (by decide) hsr).mono ?_; rintro e w11 ⟨rfl, r9, ho9⟩)
  replace q : HK w h A n c [69, h.tos, k / 256, k % 256, h.id / 256, h.id % 256, 16384 / 256, 16384 % 256, h.ttl, h.proto, 0, 0, h.src / 16777216, h.src / 65536 % 256, h.src / 256 % 256, h.src % 256, 0, 0, 0, 0] w11 := q.only ho9 r9
  clear r9 ho9 hHeld
  refine ⟨q.pk, ?_⟩
  have hHeld := q.pk
  refine wpAnyH_done (by kernel_rfl) ?_ _
  clear hHeld
  go_wp2_with fail
  refine wp_region_held_drew (S := fun w' => PkAt w' w.heap.size 60 h A n c) (by kernel_rfl) q.pk.drew (fun hHeld => ?_)
  replace q := q.step (below_drew _)
  generalize w11.drew = W12 at *
  refine wpAnyH_at (i := 0) (some 46) (v := ?v0z66) rfl rfl (by kernel_rfl) (by kernel_rfl) (by kernel_rfl) (fun _ _ _ h => h) (Or.inl ⟨by rfl, ?y0z66⟩) (by assumption) ?r0z66
  case y0z66 =>
    intro w9 hSw
    clear hSw
    go_simp
    all_goals with_reducible rfl
  simp only [Act.put, List.setIfInBounds_toArray, List.set_cons_zero, List.set_cons_succ]
  refine wpAnyH_at (i := 1) (some 47) (v := ?v1z67) rfl rfl (by kernel_rfl) (by kernel_rfl) (by kernel_rfl) (fun _ _ _ h => h) (Or.inl ⟨by rfl, ?y1z67⟩) (by assumption) ?r1z67
  case y1z67 =>
    intro w9 hSw
    clear hSw
    go_simp
    all_goals with_reducible rfl
  simp only [Act.put, List.setIfInBounds_toArray, List.set_cons_zero, List.set_cons_succ]
  refine wpAnyH_at (i := 2) (some 48) (v := ?v2z68) rfl rfl (by kernel_rfl) (by kernel_rfl) (by kernel_rfl) (fun _ _ _ h => h) (Or.inl ⟨by rfl, ?y2z68⟩) (by assumption) ?r2z68
  case y2z68 =>
    intro w9 hSw
    clear hSw
    go_simp
    all_goals with_reducible rfl
  simp only [Act.put, List.setIfInBounds_toArray, List.set_cons_zero, List.set_cons_succ]
  refine wpAnyH_at (i := 3) (some 49) (v := ?v3z69) rfl rfl (by kernel_rfl) (by kernel_rfl) (by kernel_rfl) (fun _ _ _ h => h) (Or.inl ⟨by rfl, ?y3z69⟩) (by assumption) ?r3z69
  case y3z69 =>
    intro w9 hSw
    (obtain ⟨a0, a1, a2, a3, a4, a5, a6, a7⟩ := PkAt.cells hSw); clear hSw
    go_simp
    all_goals with_reducible rfl
  simp only [Act.put, List.setIfInBounds_toArray, List.set_cons_zero, List.set_cons_succ]
  refine wpAnyH_one (i := 4) (by kernel_rfl) rfl ?_
  go_wp2_with (go_at_call 67; refine (layFour_any (w.heap.size + 1) 16 4 4 [69, h.tos, k / 256, k % 256, h.id / 256, h.id % 256, 16384 / 256, 16384 % 256, h.ttl, h.proto, 0, 0, h.src / 16777216, h.src / 65536 % 256, h.src / 256 % 256, h.src % 256, 0, 0, 0, 0] h.dst _ q.row (show 16 + 4 ≤ 20 by decide) (by decide) (by decide) hds).mono ?_; rintro e w13 ⟨rfl, r9, ho9⟩)
  replace q : HK w h A n c [69, h.tos, k / 256, k % 256, h.id / 256, h.id % 256, 16384 / 256, 16384 % 256, h.ttl, h.proto, 0, 0, h.src / 16777216, h.src / 65536 % 256, h.src / 256 % 256, h.src % 256, h.dst / 16777216, h.dst / 65536 % 256, h.dst / 256 % 256, h.dst % 256] w13 := q.only ho9 r9
  clear r9 ho9 hHeld
  refine ⟨q.pk, ?_⟩
  have hHeld := q.pk
  refine wpAnyH_done (by kernel_rfl) ?_ _
  clear hHeld
  go_wp2_with fail
  refine wp_region_held_drew (S := fun w' => PkAt w' w.heap.size 60 h A n c) (by kernel_rfl) q.pk.drew (fun hHeld => ?_)
  replace q := q.step (below_drew _)
  generalize w13.drew = W14 at *
  refine wpAnyH_at (i := 0) (some 51) (v := ?v0z70) rfl rfl (by kernel_rfl) (by kernel_rfl) (by kernel_rfl) (fun _ _ _ h => h) (Or.inl ⟨by rfl, ?y0z70⟩) (by assumption) ?r0z70
  case y0z70 =>
    intro w9 hSw
    clear hSw
    go_simp
    all_goals with_reducible rfl
  simp only [Act.put, List.setIfInBounds_toArray, List.set_cons_zero, List.set_cons_succ]
  refine wpAnyH_at (i := 1) (some 52) (v := ?v1z71) rfl rfl (by kernel_rfl) (by kernel_rfl) (by kernel_rfl) (fun _ _ _ h => h) (Or.inl ⟨by rfl, ?y1z71⟩) (by assumption) ?r1z71
  case y1z71 =>
    intro w9 hSw
    clear hSw
    go_simp
    all_goals with_reducible rfl
  simp only [Act.put, List.setIfInBounds_toArray, List.set_cons_zero, List.set_cons_succ]
  refine wpAnyH_at (i := 2) (some 53) (v := ?v2z72) rfl rfl (by kernel_rfl) (by kernel_rfl) (by kernel_rfl) (fun _ _ _ h => h) (Or.inl ⟨by rfl, ?y2z72⟩) (by assumption) ?r2z72
  case y2z72 =>
    intro w9 hSw
    clear hSw
    go_simp
    all_goals with_reducible rfl
  simp only [Act.put, List.setIfInBounds_toArray, List.set_cons_zero, List.set_cons_succ]
  have r0 := q.row.rd 0 20 20 (show 0 + 20 ≤ 20 by decide) (by decide) (by unfold maxLen; omega) Hw.out
  rw [show ([69, h.tos, k / 256, k % 256, h.id / 256, h.id % 256, 16384 / 256, 16384 % 256, h.ttl, h.proto, 0, 0, h.src / 16777216, h.src / 65536 % 256, h.src / 256 % 256, h.src % 256, h.dst / 16777216, h.dst / 65536 % 256, h.dst / 256 % 256, h.dst % 256].drop 0).take 20 = [69, h.tos, k / 256, k % 256, h.id / 256, h.id % 256, 16384 / 256, 16384 % 256, h.ttl, h.proto, 0, 0, h.src / 16777216, h.src / 65536 % 256, h.src / 256 % 256, h.src % 256, h.dst / 16777216, h.dst / 65536 % 256, h.dst / 256 % 256, h.dst % 256] from rfl] at r0
  have R0 := sumOf_any _ 1 1 _ _ (rows_one r0)
  rw [show [[69, h.tos, k / 256, k % 256, h.id / 256, h.id % 256, 16384 / 256, 16384 % 256, h.ttl, h.proto, 0, 0, h.src / 16777216, h.src / 65536 % 256, h.src / 256 % 256, h.src % 256, h.dst / 16777216, h.dst / 65536 % 256, h.dst / 256 % 256, h.dst % 256]].flatten = [69, h.tos, k / 256, k % 256, h.id / 256, h.id % 256, 16384 / 256, 16384 % 256, h.ttl, h.proto, 0, 0, h.src / 16777216, h.src / 65536 % 256, h.src / 256 % 256, h.src % 256, h.dst / 16777216, h.dst / 65536 % 256, h.dst / 256 % 256, h.dst % 256] from by rw [List.flatten_cons, List.flatten_nil, List.append_nil], Hs.out] at R0
  have hb := alloc_below W14 (.cells #[.slice (some ⟨w.heap.size + 1, 0, none⟩) 20 20] 22)
  replace q := q.step hb
  clear r0 hb hHeld
  have hHeld := q.pk
  refine wpAnyH_one (i := 3) (by kernel_rfl) rfl ?_
  go_wp2
  refine ⟨hHeld, ?_⟩
  change wpAnyH _ _ _ _ _ _ _ _ (W14.alloc (.cells #[.slice (some ⟨w.heap.size + 1, 0, none⟩) 20 20] 22))
  generalize (W14.alloc (.cells #[.slice (some ⟨w.heap.size + 1, 0, none⟩) 20 20] 22)) = W15 at *
  generalize W14.heap.size = gs at *
  refine wpAnyH_one (i := 4) (by kernel_rfl) rfl ?_
  go_wp2_with (go_at_call 44; refine R0.mono ?_; rintro e w16 ⟨rfl, hb⟩)
  replace q := q.step hb
  clear hb hHeld R0
  refine ⟨q.pk, ?_⟩
  have hHeld := q.pk
  try simp only [Act.put, List.setIfInBounds_toArray, List.set_cons_zero, List.set_cons_succ]
  refine wpAnyH_one (i := 5) (by kernel_rfl) rfl ?_
  go_wp2_with (go_at_call 66; refine (layTwo_any (w.heap.size + 1) 10 10 10 [69, h.tos, k / 256, k % 256, h.id / 256, h.id % 256, 16384 / 256, 16384 % 256, h.ttl, h.proto, 0, 0, h.src / 16777216, h.src / 65536 % 256, h.src / 256 % 256, h.src % 256, h.dst / 16777216, h.dst / 65536 % 256, h.dst / 256 % 256, h.dst % 256] s _ q.row (show 10 + 2 ≤ 20 by decide) (by decide) hsb).mono ?_; rintro e w17 ⟨rfl, r9, ho9⟩)
  replace q : HK w h A n c [69, h.tos, k / 256, k % 256, h.id / 256, h.id % 256, 16384 / 256, 16384 % 256, h.ttl, h.proto, s / 256, s % 256, h.src / 16777216, h.src / 65536 % 256, h.src / 256 % 256, h.src % 256, h.dst / 16777216, h.dst / 65536 % 256, h.dst / 256 % 256, h.dst % 256] w17 := q.only ho9 r9
  clear r9 ho9 hHeld
  refine ⟨q.pk, ?_⟩
  refine wpAnyH_done (by kernel_rfl) ?_ _
  go_wp2
  go_ret
  exact ⟨_, rfl, q.row, Nat.le_succ _, q.below⟩
theorem head_any (h : Hd) (A : Option Addr) (n c : Nat) (w : World) (hk : h.ok) (hn : n ≤ 65515) : Calls Tryd.prog 52 #[pkV h A n c] w (GivesRow w (hdR h n) 20) := by
  unfold hdR
  cases hkp : h.keep
  · skip
    have e : hdP h n 0 0 = [69, h.tos, (20 + (n : Int)) / 256, (20 + (n : Int)) % 256, h.id / 256, h.id % 256, 0, 0, h.ttl, h.proto, 0, 0, h.src / 16777216, h.src / 65536 % 256, h.src / 256 % 256, h.src % 256, h.dst / 16777216, h.dst / 65536 % 256, h.dst / 256 % 256, h.dst % 256] := by simp [hdP, hkp]
    have e' : ∀ s, hdP h n (s / 256) (s % 256) = [69, h.tos, (20 + (n : Int)) / 256, (20 + (n : Int)) % 256, h.id / 256, h.id % 256, 0, 0, h.ttl, h.proto, s / 256, s % 256, h.src / 16777216, h.src / 65536 % 256, h.src / 256 % 256, h.src % 256, h.dst / 16777216, h.dst / 65536 % 256, h.dst / 256 % 256, h.dst % 256] := by intro s; simp [hdP, hkp]
    have := head_plain h A n c _ w hk.id hk.src hk.dst hkp hn rfl (hdS h n) (by rw [← e]; rfl) (hdS_bd hk hn) (by rw [← e]; exact hdP_wf hk hn (by omega) (by omega))
    rw [← e' (hdS h n)] at this
    exact this
  · skip
    have e : hdP h n 0 0 = [69, h.tos, (20 + (n : Int)) / 256, (20 + (n : Int)) % 256, h.id / 256, h.id % 256, 16384 / 256, 16384 % 256, h.ttl, h.proto, 0, 0, h.src / 16777216, h.src / 65536 % 256, h.src / 256 % 256, h.src % 256, h.dst / 16777216, h.dst / 65536 % 256, h.dst / 256 % 256, h.dst % 256] := by simp [hdP, hkp]
    have e' : ∀ s, hdP h n (s / 256) (s % 256) = [69, h.tos, (20 + (n : Int)) / 256, (20 + (n : Int)) % 256, h.id / 256, h.id % 256, 16384 / 256, 16384 % 256, h.ttl, h.proto, s / 256, s % 256, h.src / 16777216, h.src / 65536 % 256, h.src / 256 % 256, h.src % 256, h.dst / 16777216, h.dst / 65536 % 256, h.dst / 256 % 256, h.dst % 256] := by intro s; simp [hdP, hkp]
    have := head_keep h A n c _ w hk.id hk.src hk.dst hkp hn rfl (hdS h n) (by rw [← e]; rfl) (hdS_bd hk hn) (by rw [← e]; exact hdP_wf hk hn (by omega) (by omega))
    rw [← e' (hdS h n)] at this
    exact this
end Go.Proofs.YtbefoapnlehdmaaDoor
