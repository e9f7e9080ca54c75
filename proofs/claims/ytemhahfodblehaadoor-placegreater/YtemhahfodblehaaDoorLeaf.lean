/-
  Contracts of the subnets' leaves: bounded, Mask, Single (the program's, the document's), size, Of.
-/
import Derived.Test.YtemhahfodblehaaDoorProg
import Derived.Test.YtemhahfodblehaaDoorNet
import Derived.Outline
namespace Go.Proofs.YtemhahfodblehaaDoor
open Go.RowKit

theorem ret_int {k : IntKind} {a b : Int} (h : a = b) : Ending.returned (.int k a) = .returned (.int k b) := by rw [h]
theorem ret_bool {a b : Bool} (h : a = b) : Ending.returned (.bool a) = .returned (.bool b) := by rw [h]
/-- A subnet as a value. -/
@[reducible] def netV (ip b : Int) : Value := .agg #[.int .u32 ip, .int .i64 b]
theorem alloc_below (w : World) (o : Obj) : Below w.heap.size w (w.alloc o) := (Below.refl _ w).alloc (Nat.le_refl _) o

theorem bounded_any (ip b : Int) (w : World) : Calls Tryd.prog 37 #[.agg #[.int .u32 ip, .int .i64 b]] w fun e w' => e = .returned (.bool (bndV b)) ∧ Below w.heap.size w w' := by
  go_enter Tryd.func37, Tryd.ntmps37
  go_wp2
  all_goals
    go_ret
    refine ⟨ret_bool ?_, alloc_below _ _⟩
    simp [bndV]
    try omega
theorem bounds_any (ip b : Int) (w : World) : Calls Tryd.prog 35 #[.agg #[.int .u32 ip, .int .i64 b]] w fun e w' => e = .returned (.bool (bndV b)) ∧ Below w.heap.size w w' := by
  go_enter Tryd.func35, Tryd.ntmps35
  go_wp2
  all_goals
    go_ret
    refine ⟨ret_bool ?_, alloc_below _ _⟩
    simp [bndV]
    try omega
theorem single_any (x : Int) (w : World) : Calls Tryd.prog 23 #[.int .u32 x] w fun e w' => e = .returned (.bool (singleV x)) ∧ w = w' := by
  go_enter Tryd.func23, Tryd.ntmps23
  go_wp2
  all_goals
    go_ret
    refine ⟨ret_bool ?_, rfl⟩
    simp only [singleV]
    (try simp only [*])
    (try simp)
    (try omega)
    (try rfl)
theorem refSingle_any (x : Int) (w : World) (hx : W32 x) : Calls Tryd.prog 24 #[.int .u32 x] w fun e w' => e = .returned (.bool (singleV x)) ∧ w = w' := by
  unfold W32 at hx
  go_enter Tryd.func24, Tryd.ntmps24
  go_wp2
  all_goals
    go_ret
    refine ⟨ret_bool ?_, rfl⟩
    simp only [singleV]
    (try simp only [*])
    (try simp)
    (try omega)
    (try rfl)

/-- A subnet's box at block g, of a call that began in w. -/
structure KB (w : World) (g : Nat) (ip b : Int) (W : World) : Prop where
  c0 : W.cell? ⟨g, 0, none⟩ = some (.int .u32 ip)
  c1 : W.cell? ⟨g, 1, none⟩ = some (.int .i64 b)
  lt : g < W.heap.size
  below : Below w.heap.size w W
section
variable {w W V : World} {g : Nat} {ip b : Int}
theorem KB.new (w : World) (ip b : Int) (t : TypeId) : KB w w.heap.size ip b (w.alloc (.cells #[.int .u32 ip, .int .i64 b] t)) :=
  ⟨by simp [go_sem], by simp [go_sem], by simp, alloc_below _ _⟩
theorem KB.step (k : KB w g ip b W) (h : Below W.heap.size W V) : KB w g ip b V :=
  ⟨(h.cell k.lt).trans k.c0, (h.cell k.lt).trans k.c1, Nat.lt_of_lt_of_le k.lt h.size, k.below.trans (h.mono k.below.size)⟩
theorem KB.drew (k : KB w g ip b W) : KB w g ip b W.drew := ⟨k.c0, k.c1, k.lt, k.below.os, k.below.tape, k.below.output, k.below.size, k.below.block⟩
theorem KB.alloc (k : KB w g ip b W) (o : Obj) : KB w g ip b (W.alloc o) := k.step (alloc_below _ _)
theorem KB.parts (k : KB w g ip b W) : W.cell? ⟨g, 0, none⟩ = some (.int .u32 ip) ∧ W.cell? ⟨g, 1, none⟩ = some (.int .i64 b) ∧ KB w g ip b W := ⟨k.c0, k.c1, k⟩
end

theorem of_any (ip b : Int) (w : World) : Calls Tryd.prog 8 #[.agg #[.int .u32 ip, .int .i64 b]] w fun e w' => e = .returned (netV ip b) ∧ Below w.heap.size w w' := by
  go_enter Tryd.func8, Tryd.ntmps8
  go_wp2
  exact bodyPost_ret (v := netV ip b) (by simp [results, Tryd.results8, go_sem]) rfl ⟨rfl, ((Below.refl _ w).alloc (Nat.le_refl _) _).alloc (by simp) _⟩
theorem mask_any (ip b : Int) (w : World) : Calls Tryd.prog 19 #[.agg #[.int .u32 ip, .int .i64 b]] w fun e w' => e = .returned (.int .u32 (maskV b)) ∧ Below w.heap.size w w' := by
  have k := KB.new w ip b 24
  by_cases hb : bndV b = true
  · have hb' := bnd_iff.1 hb
    have hm := shl_mask hb
    go_enter Tryd.func19, Tryd.ntmps19
    go_wp2_with (go_at_call 37; refine (bounded_any _ _ _).mono ?_; rintro e w1 ⟨rfl, hb1⟩; replace k := k.step hb1; have c0 := k.c0; have c1 := k.c1; clear hb1)
    go_ret
    refine ⟨ret_int ?_, k.below⟩
    simp only [maskV, hb, if_true]
    exact hm
  · go_enter Tryd.func19, Tryd.ntmps19
    go_wp2_with (go_at_call 37; refine (bounded_any _ _ _).mono ?_; rintro e w1 ⟨rfl, hb1⟩; replace k := k.step hb1; have c0 := k.c0; have c1 := k.c1; clear hb1)
    go_ret
    exact ⟨ret_int (by simp [maskV, hb]), k.below⟩
theorem two_pow (k : Nat) (hk : k ≤ 24) : (1 : Int) ≤ 2 ^ k ∧ (2 : Int) ^ k ≤ 16777216 := by
  have h1 : 2 ^ k ≤ 2 ^ 24 := Nat.pow_le_pow_right (by omega) hk
  have h2 := Nat.two_pow_pos k
  have e : ((2 ^ k : Nat) : Int) = 2 ^ k := by simp
  rw [← e]
  generalize 2 ^ k = p at *
  omega
theorem size_any (ip b : Int) (w : World) (hb : bndV b = true) : Calls Tryd.prog 36 #[.agg #[.int .u32 ip, .int .i64 b]] w fun e w' => e = .returned (.int .u64 (szV b)) ∧ Below w.heap.size w w' := by
  have hb' := bnd_iff.1 hb
  have hbel := alloc_below w (.cells #[.int .u32 ip, .int .i64 b] 26)
  go_enter Tryd.func36, Tryd.ntmps36
  go_wp2
  go_loop [3, 4] (fun o i => ∃ (k : Nat) (p j : Int), Hid (p = 2 ^ k ∧ j = b + k) ∧ j ≤ 32 ∧ o = .int .u64 p ∧ i = .int .i64 j) (fun _ i => (32 - intOf i).toNat)
  case atStart => exact ⟨0, 1, b, Lib.hid (by simp), by omega, rfl, rfl⟩
  case round =>
    obtain ⟨k, p, j, hh, hj, rfl, rfl⟩ := hrel
    have hk := hh.out
    have hp := two_pow k (by omega)
    rw [← hk.1] at hp
    have hj0 : 8 ≤ j := by omega
    clear hk
    by_cases hlt : j < 32
    · go_wp2
      go_round
      case rel => exact ⟨k + 1, p * 2, j + 1, Lib.hid ⟨by rw [hh.out.1, Int.pow_succ], by have := hh.out.2; omega⟩, by omega, rfl, rfl⟩
      case measure => simp [intOf]; omega
    · go_wp2
      go_ret
      refine ⟨ret_int ?_, hbel⟩
      have := hh.out
      rw [this.1]
      unfold szV
      congr 1
      omega
end Go.Proofs.YtemhahfodblehaaDoor
