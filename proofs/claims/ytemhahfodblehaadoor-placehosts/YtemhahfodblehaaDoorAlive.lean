/-
  alive answers true.
-/
import Derived.Test.YtemhahfodblehaaDoorRNets
import Derived.Test.YtemhahfodblehaaDoorRParseM
namespace Go.Proofs.YtemhahfodblehaaDoor
open Go.RowKit

theorem aT : textL 167772161 = [49, 48, 46, 48, 46, 48, 46, 49] := by decide +kernel
theorem aP1 : parseV [49, 48, 46, 48, 46, 48, 46, 49] = (167772161, 0) := parse_some (n := 167772161) ⟨by omega, aT⟩
theorem no01 : ∀ n, n < 256 → dec3 n ≠ [48, 49] := by decide +kernel
theorem aP2 : parseV [49, 48, 46, 48, 46, 48, 46, 48, 49] = (0, 10) := by
  apply parse_none
  rintro ⟨n, hn, h⟩
  have h1 := text_parts hn
  rw [h] at h1
  have h2 : partsV 46 [49, 48, 46, 48, 46, 48, 46, 48, 49] = [[49, 48], [48], [48], [48, 49]] := by decide +kernel
  rw [h2] at h1
  simp only [List.cons.injEq, and_true] at h1
  exact no01 (n % 256) (by omega) h1.2.2.2.symm
theorem aMt : macL 0 26 255 0 0 9 = [48, 48, 58, 49, 97, 58, 102, 102, 58, 48, 48, 58, 48, 48, 58, 48, 57] := by decide +kernel
theorem aM1 : macP [48, 48, 58, 49, 97, 58, 102, 102, 58, 48, 48, 58, 48, 48, 58, 48, 57] = ([0, 26, 255, 0, 0, 9], 0) := macP_some ⟨rfl, by simp, by decide +kernel⟩
theorem no1A : ∀ n, n < 256 → hexL n ≠ [49, 65] := by decide +kernel
theorem aM2 : macP [48, 48, 58, 49, 65, 58, 102, 102, 58, 48, 48, 58, 48, 48, 58, 48, 57] = ([0, 0, 0, 0, 0, 0], 10) := by
  apply macP_none
  rintro ⟨ms, h⟩
  have h1 := mac_map h
  have h2 : partsV 58 [48, 48, 58, 49, 65, 58, 102, 102, 58, 48, 48, 58, 48, 48, 58, 48, 57] = [[48, 48], [49, 65], [102, 102], [48, 48], [48, 48], [48, 57]] := by decide +kernel
  obtain ⟨hl, hb, _⟩ := h
  obtain ⟨a, b, c, d, e, f, rfl⟩ := six hl
  rw [h2] at h1
  simp only [List.map_cons, List.map_nil, List.cons.injEq, and_true] at h1
  exact no1A b (hb b (by simp)) h1.2.1.symm
theorem aN : rightV 167772161 24 = true ∧ baseV 167772161 24 = 167772160 ∧ lastV 167772161 24 = 167772415 ∧ hasV 167772161 24 167772415 = true ∧ hostV 167772161 24 167772415 = false ∧ hostV 167772161 24 167772414 = true ∧ maskV 24 = 4294967040 ∧
    apartV 167772161 24 167772417 24 = true ∧ apartV 167772161 24 167772417 16 = false ∧ singleV 167772161 = true ∧ singleV 2130706433 = false := by decide +kernel
theorem cP1 (W : World) (k : Kn W) : Calls Tryd.prog 25 #[.string ⟨#[49, 48, 46, 48, 46, 48, 46, 49]⟩] W fun e w' => e = .returned (.tuple #[.int .u32 167772161, .int .i64 0]) ∧ Below W.heap.size W w' := by
  have := parse_any [49, 48, 46, 48, 46, 48, 46, 49] (by decide) W k
  rw [aP1] at this
  exact this
theorem cP2 (W : World) (k : Kn W) : Calls Tryd.prog 25 #[.string ⟨#[49, 48, 46, 48, 46, 48, 46, 48, 49]⟩] W fun e w' => e = .returned (.tuple #[.int .u32 0, .int .i64 10]) ∧ Below W.heap.size W w' := by
  have := parse_any [49, 48, 46, 48, 46, 48, 46, 48, 49] (by decide) W k
  rw [aP2] at this
  exact this
theorem cM1 (W : World) (k : Kn W) : Calls Tryd.prog 27 #[.string ⟨#[48, 48, 58, 49, 97, 58, 102, 102, 58, 48, 48, 58, 48, 48, 58, 48, 57]⟩] W fun e w' => e = .returned (.tuple #[.agg #[.int .u8 0, .int .u8 26, .int .u8 255, .int .u8 0, .int .u8 0, .int .u8 9], .int .i64 0]) ∧ Below W.heap.size W w' := by
  have := parseMac_any [48, 48, 58, 49, 97, 58, 102, 102, 58, 48, 48, 58, 48, 48, 58, 48, 57] (by decide) W k
  rw [aM1] at this
  exact this
theorem cMt (W : World) (k : Kn W) : Calls Tryd.prog 31 #[.agg #[.int .u8 0, .int .u8 26, .int .u8 255, .int .u8 0, .int .u8 0, .int .u8 9]] W fun e w' => e = .returned (.string ⟨#[48, 48, 58, 49, 97, 58, 102, 102, 58, 48, 48, 58, 48, 48, 58, 48, 57]⟩) ∧ Below W.heap.size W w' := by
  have := macText_any 0 26 255 0 0 9 (by omega) (by omega) (by omega) (by omega) (by omega) (by omega) W k
  rw [aMt] at this
  exact this
theorem cT (W : World) (k : Kn W) : Calls Tryd.prog 29 #[.int .u32 167772161] W fun e w' => e = .returned (.string ⟨#[49, 48, 46, 48, 46, 48, 46, 49]⟩) ∧ Below W.heap.size W w' := by
  have := text_any 167772161 (by omega) W k
  rw [aT] at this
  exact this
theorem cM2 (W : World) (k : Kn W) : Calls Tryd.prog 27 #[.string ⟨#[48, 48, 58, 49, 65, 58, 102, 102, 58, 48, 48, 58, 48, 48, 58, 48, 57]⟩] W fun e w' => e = .returned (.tuple #[.agg #[.int .u8 0, .int .u8 0, .int .u8 0, .int .u8 0, .int .u8 0, .int .u8 0], .int .i64 10]) ∧ Below W.heap.size W w' := by
  have := parseMac_any [48, 48, 58, 49, 65, 58, 102, 102, 58, 48, 48, 58, 48, 48, 58, 48, 57] (by decide) W k
  rw [aM2] at this
  exact this
/-- What alive's walk knows. -/
structure KA (w : World) (W : World) : Prop where
  net : KB w w.heap.size 167772161 24 W
  kn : Kn W
theorem KA.step {w W V : World} (k : KA w W) (h : Below W.heap.size W V) : KA w V := ⟨k.net.step h, k.kn.step h⟩
theorem KA.alloc {w W : World} (k : KA w W) (o : Obj) : KA w (W.alloc o) := k.step (alloc_below _ _)
structure KA2 (w : World) (h : Nat) (W : World) : Prop where
  ka : KA w W
  mac : W.heap[h]? = some (.cells (macC [0, 26, 255, 0, 0, 9]) 37 (0, 0))
theorem KA2.step {w W V : World} {h : Nat} (k : KA2 w h W) (hb : Below W.heap.size W V) : KA2 w h V := ⟨k.ka.step hb, (hb.block _ (lt_of_heap k.mac)).trans k.mac⟩
theorem KA2.alloc {w W : World} {h : Nat} (k : KA2 w h W) (o : Obj) : KA2 w h (W.alloc o) := k.step (alloc_below _ _)
theorem w32 {x : Int} (h : decide (0 ≤ x ∧ x ≤ 4294967295) = true) : W32 x := by unfold W32; exact of_decide_eq_true h
set_option maxRecDepth 100000 in
set_option maxHeartbeats 4000000 in
theorem alive_any (w : World) (kn : Kn w) : Calls Tryd.prog 7 #[] w fun e w' => e = .returned (.bool true) ∧ Below w.heap.size w w' := by
  have k : KA w (w.alloc (.cells #[.int .u32 167772161, .int .i64 24] 24)) := ⟨KB.new w 167772161 24 24, kn.alloc _⟩
  obtain ⟨n1, n2, n3, n4, n5, n6, n7, n8, n9, n10, n11⟩ := aN
  have t1 := aP1
  have t2 := aP2
  have t3 := aM1
  have t4 := aM2
  have t5 := aMt
  have t6 := aT
  go_enter Tryd.func7, Tryd.ntmps7
  go_wp2_with fail
  with_reducible refine (cP1 _ k.kn).mono ?_
  rintro e w1 ⟨rfl, hb⟩
  replace k := k.step hb
  clear hb
  go_wp2_with fail
  with_reducible refine (cP2 _ k.kn).mono ?_
  rintro e w2 ⟨rfl, hb⟩
  replace k := k.step hb
  clear hb
  go_wp2_with fail
  with_reducible refine (cM1 _ k.kn).mono ?_
  rintro e w3 ⟨rfl, hb⟩
  replace k := k.step hb
  clear hb
  have k' : KA2 w w3.heap.size (w3.alloc (.cells #[.int .u8 0, .int .u8 26, .int .u8 255, .int .u8 0, .int .u8 0, .int .u8 9] 37)) := ⟨k.alloc _, World.alloc_heap_new _ _⟩
  clear k
  have k := k'
  clear k'
  go_wp2_with fail
  with_reducible refine (cM2 _ k.ka.kn).mono ?_
  rintro e w4 ⟨rfl, hb⟩
  replace k := k.step hb
  clear hb
  generalize w3.heap.size = h at k ⊢
  replace k := k.alloc (.cells #[.int .u8 0, .int .u8 0, .int .u8 0, .int .u8 0, .int .u8 0, .int .u8 0] 37)
  have c0 := k.ka.net.c0
  have c1 := k.ka.net.c1
  go_wp2_with fail
  with_reducible refine (right_any _ _ _ (w32 rfl)).mono ?_
  rintro e w5 ⟨rfl, hb⟩
  replace k := k.step hb
  clear hb
  clear c0 c1
  have c0 := k.ka.net.c0
  have c1 := k.ka.net.c1
  go_wp2_with fail
  with_reducible refine (base_any _ _ _ (w32 rfl)).mono ?_
  rintro e w6 ⟨rfl, hb⟩
  replace k := k.step hb
  clear hb
  clear c0 c1
  have c0 := k.ka.net.c0
  have c1 := k.ka.net.c1
  go_wp2_with fail
  with_reducible refine (last_any _ _ _ (w32 rfl)).mono ?_
  rintro e w7 ⟨rfl, hb⟩
  replace k := k.step hb
  clear hb
  clear c0 c1
  have c0 := k.ka.net.c0
  have c1 := k.ka.net.c1
  go_wp2_with fail
  with_reducible refine (has_any _ _ _ _ (w32 rfl) (w32 rfl)).mono ?_
  rintro e w8 ⟨rfl, hb⟩
  replace k := k.step hb
  clear hb
  clear c0 c1
  have c0 := k.ka.net.c0
  have c1 := k.ka.net.c1
  go_wp2_with fail
  with_reducible refine (host_any _ _ _ _ (w32 rfl) (w32 rfl)).mono ?_
  rintro e w9 ⟨rfl, hb⟩
  replace k := k.step hb
  clear hb
  clear c0 c1
  have c0 := k.ka.net.c0
  have c1 := k.ka.net.c1
  go_wp2_with fail
  with_reducible refine (host_any _ _ _ _ (w32 rfl) (w32 rfl)).mono ?_
  rintro e w10 ⟨rfl, hb⟩
  replace k := k.step hb
  clear hb
  clear c0 c1
  have c0 := k.ka.net.c0
  have c1 := k.ka.net.c1
  go_wp2_with fail
  with_reducible refine (mask_any _ _ _).mono ?_
  rintro e w11 ⟨rfl, hb⟩
  replace k := k.step hb
  clear hb
  clear c0 c1
  have c0 := k.ka.net.c0
  have c1 := k.ka.net.c1
  go_wp2_with fail
  with_reducible refine (apart_any _ _ _ _ _ (w32 rfl) (w32 rfl)).mono ?_
  rintro e w12 ⟨rfl, hb⟩
  replace k := k.step hb
  clear hb
  clear c0 c1
  have c0 := k.ka.net.c0
  have c1 := k.ka.net.c1
  go_wp2_with fail
  with_reducible refine (apart_any _ _ _ _ _ (w32 rfl) (w32 rfl)).mono ?_
  rintro e w13 ⟨rfl, hb⟩
  replace k := k.step hb
  clear hb
  clear c0 c1
  have c0 := k.ka.net.c0
  have c1 := k.ka.net.c1
  obtain ⟨⟨e0, e1, e2, e3, e4, e5⟩, -⟩ := mac6 k.mac
  go_wp2_with fail
  with_reducible refine (cMt _ k.ka.kn).mono ?_
  rintro e w14 ⟨rfl, hb⟩
  replace k := k.step hb
  clear hb
  clear c0 c1
  have c0 := k.ka.net.c0
  have c1 := k.ka.net.c1
  clear e0 e1 e2 e3 e4 e5
  obtain ⟨⟨e0, e1, e2, e3, e4, e5⟩, -⟩ := mac6 k.mac
  go_wp2_with fail
  with_reducible refine (cT _ k.ka.kn).mono ?_
  rintro e w15 ⟨rfl, hb⟩
  replace k := k.step hb
  clear hb
  clear c0 c1
  have c0 := k.ka.net.c0
  have c1 := k.ka.net.c1
  clear e0 e1 e2 e3 e4 e5
  obtain ⟨⟨e0, e1, e2, e3, e4, e5⟩, -⟩ := mac6 k.mac
  go_wp2_with fail
  with_reducible refine (all_any _).mono ?_
  rintro e w16 ⟨rfl, hb⟩
  replace k := k.step hb
  clear hb
  clear c0 c1
  have c0 := k.ka.net.c0
  have c1 := k.ka.net.c1
  clear e0 e1 e2 e3 e4 e5
  obtain ⟨⟨e0, e1, e2, e3, e4, e5⟩, -⟩ := mac6 k.mac
  go_wp2_with fail
  with_reducible refine (group_any 255 255 255 255 255 255 _ (by omega)).mono ?_
  rintro e w17 ⟨rfl, hb⟩
  replace k := k.step hb
  clear hb
  clear c0 c1
  have c0 := k.ka.net.c0
  have c1 := k.ka.net.c1
  clear e0 e1 e2 e3 e4 e5
  obtain ⟨⟨e0, e1, e2, e3, e4, e5⟩, -⟩ := mac6 k.mac
  go_wp2_with fail
  with_reducible refine (group_any 0 26 255 0 0 9 _ (by omega)).mono ?_
  rintro e w18 ⟨rfl, hb⟩
  replace k := k.step hb
  clear hb
  clear c0 c1
  have c0 := k.ka.net.c0
  have c1 := k.ka.net.c1
  clear e0 e1 e2 e3 e4 e5
  obtain ⟨⟨e0, e1, e2, e3, e4, e5⟩, -⟩ := mac6 k.mac
  go_wp2_with (go_at_call 23; refine (single_any _ _).mono ?_; rintro e w9 ⟨rfl, rfl⟩)
  go_ret
  exact ⟨rfl, k.ka.net.below⟩
end Go.Proofs.YtemhahfodblehaaDoor
