/-
  The law SumOrder, walked.
-/
import Derived.Test.YtibjhehaflgomaaAlive2
import Derived.Test.YtibjhehaflgomaaRes
namespace Go.Proofs.Ytibjhehaflgomaa
open Go.RowKit

/-- Two slices of bytes that the walk knows. -/
structure K2 (w : World) (A : Option Addr) (n c : Nat) (xs : List Int) (A2 : Option Addr) (n2 c2 : Nat) (ys : List Int) (W : World) : Prop where
  rd : Rd .u8 W W.heap.size A n c xs
  rd2 : Rd .u8 W W.heap.size A2 n2 c2 ys
  below : Below w.heap.size w W
  size : w.heap.size ≤ W.heap.size
theorem K2.step {w : World} {A : Option Addr} {n c : Nat} {xs : List Int} {A2 : Option Addr} {n2 c2 : Nat} {ys : List Int} {W W' : World} (h : K2 w A n c xs A2 n2 c2 ys W) (hb : Below W.heap.size W W') : K2 w A n c xs A2 n2 c2 ys W' :=
  ⟨(h.rd.below hb (Nat.le_refl _)).more hb.size, (h.rd2.below hb (Nat.le_refl _)).more hb.size, h.below.trans (hb.mono h.size), Nat.le_trans h.size hb.size⟩

section
variable {w : World} {A : Option Addr} {n c : Nat} {xs : List Int} {A2 : Option Addr} {n2 c2 : Nat} {ys : List Int} {X : World} (k : K2 w A n c xs A2 n2 c2 ys X)
include k
theorem K2.bx : Byts xs := byts_of k.rd.2.2.2.1
theorem K2.by_ : Byts ys := byts_of k.rd2.2.2.2.1
theorem cO1 (h : n % 2 = 0) : Calls Try.prog 17 #[.slice (some ⟨X.heap.size, 0, none⟩) 2 2] (X.alloc (.cells #[.slice A n c, .slice A2 n2 c2] 24)) fun e w' => e = .returned (.int .u16 (addV (totV xs) (totV ys))) ∧ Below X.heap.size X w' := by
  have := total2 k.rd k.rd2
  rwa [totV_append k.bx k.by_ (by rw [k.rd.len]; exact h)] at this
theorem cO2 (h : n2 % 2 = 0) : Calls Try.prog 17 #[.slice (some ⟨X.heap.size, 0, none⟩) 2 2] (X.alloc (.cells #[.slice A2 n2 c2, .slice A n c] 24)) fun e w' => e = .returned (.int .u16 (addV (totV xs) (totV ys))) ∧ Below X.heap.size X w' := by
  have := total2 k.rd2 k.rd
  rwa [totV_append k.by_ k.bx (by rw [k.rd2.len]; exact h), addV_comm] at this
theorem cO3 : Calls Try.prog 17 #[.slice (some ⟨X.heap.size, 0, none⟩) 2 2] (X.alloc (.cells #[.slice A2 n2 c2, .slice none 0 0] 24)) fun e w' => e = .returned (.int .u16 (totV ys)) ∧ Below X.heap.size X w' := by
  have := total2 k.rd2 Rd.nil
  rwa [List.append_nil] at this
theorem cO4 (h : n2 % 2 = 1) : Calls Try.prog 17 #[.slice (some ⟨X.heap.size + 1, 0, none⟩) 2 2] ((X.alloc (.cells #[.int .u8 0] 5)).alloc (.cells #[.slice A2 n2 c2, .slice (some ⟨X.heap.size, 0, none⟩) 1 1] 24)) fun e w' => e = .returned (.int .u16 (totV ys)) ∧ Below X.heap.size X w' := by
  have := total2 (X := X.alloc (.cells #[.int .u8 0] 5)) (k.step (alloc_below _ _)).rd2 ((rd_lit X 5 [0] 1 rfl (by omega) (by decide)).more (by simp))
  rw [totV_odd (by rw [k.rd2.len]; exact h), alloc_size] at this
  refine this.mono ?_
  rintro e w' ⟨rfl, hb⟩
  exact ⟨rfl, (alloc_below X _).trans (hb.mono (by simp))⟩
end

set_option maxRecDepth 100000 in
set_option maxHeartbeats 2000000 in
theorem order_law (A A2 : Option Addr) (n c n2 c2 : Nat) (xs ys : List Int) (w : World) (hr : Rd .u8 w w.heap.size A n c xs) (hr2 : Rd .u8 w w.heap.size A2 n2 c2 ys) :
    Calls Try.prog 6 #[.slice A n c, .slice A2 n2 c2] w fun e w' => e = .returned (.bool true) ∧ Below w.heap.size w w' := by
  have hmax := hr.max
  have hcap := hr.cap
  have hmax2 := hr2.max
  have hcap2 := hr2.cap
  have k : K2 w A n c xs A2 n2 c2 ys w := ⟨hr, hr2, Below.refl _ _, Nat.le_refl _⟩
  have hp : ∀ m : Nat, (m : Int).tmod 2 = ((m % 2 : Nat) : Int) := fun _ => rfl
  have hpn := hp n
  have hpm := hp n2
  clear hr hr2 hp
  go_enter Try.func6, Try.ntmps6
  go_wp2_with fail
  with_reducible refine (alive_any _).mono ?_
  rintro e w1 ⟨rfl, hb⟩
  replace k := k.step hb
  clear hb
  by_cases h1 : 3000 < n
  · go_wp2
    go_ret
    exact ⟨rfl, k.below⟩
  by_cases h2 : 3000 < n2
  · go_wp2
    go_ret
    exact ⟨rfl, k.below⟩
  by_cases h3' : n % 2 = 1
  · have h4 : (n : Int).tmod 2 = 1 := by omega
    go_wp2
    go_ret
    exact ⟨rfl, k.below⟩
  have h3 : n % 2 = 0 := by omega
  have h4 : (n : Int).tmod 2 = 0 := by omega
  have ht1 := totV_bd k.bx
  have ht2 := totV_bd k.by_
  have ht2' : 0 ≤ totV ys ∧ totV ys ≤ 65535 := ht2
  go_wp2_with fail
  with_reducible refine (cO1 k h3).mono ?_
  rintro e w2 ⟨rfl, hb⟩
  replace k := k.step hb
  clear hb
  go_wp2_with fail
  with_reducible refine (total1 k.rd).mono ?_
  rintro e w3 ⟨rfl, hb⟩
  replace k := k.step hb
  clear hb
  go_wp2_with fail
  with_reducible refine (total1 k.rd2).mono ?_
  rintro e w4 ⟨rfl, hb⟩
  replace k := k.step hb
  clear hb
  go_wp2_with fail
  with_reducible refine (add_any _ _ _ ht1 ht2).mono ?_
  rintro e w5 ⟨rfl, rfl⟩
  by_cases h5 : n2 % 2 = 0
  · have h6 : (n2 : Int).tmod 2 = 0 := by omega
    go_wp2_with fail
    with_reducible refine (cO2 k h5).mono ?_
    rintro e w6 ⟨rfl, hb⟩
    replace k := k.step hb
    clear hb
    go_wp2_with fail
    with_reducible refine (cO3 k).mono ?_
    rintro e w7 ⟨rfl, hb⟩
    replace k := k.step hb
    clear hb
    go_wp2_with fail
    with_reducible refine (total1 k.rd2).mono ?_
    rintro e w8 ⟨rfl, hb⟩
    replace k := k.step hb
    clear hb
    go_wp2_with fail
    with_reducible refine (of1 k.rd2).mono ?_
    rintro e w9 ⟨rfl, hb⟩
    replace k := k.step hb
    clear hb
    go_wp2_with fail
    with_reducible refine (total1 k.rd2).mono ?_
    rintro e w10 ⟨rfl, hb⟩
    replace k := k.step hb
    clear hb
    go_wp2
    go_ret
    exact ⟨rfl, k.below⟩
  · have h6 : (n2 : Int).tmod 2 = 1 := by omega
    go_wp2_with fail
    with_reducible refine (cO3 k).mono ?_
    rintro e w7 ⟨rfl, hb⟩
    replace k := k.step hb
    clear hb
    go_wp2_with fail
    with_reducible refine (total1 k.rd2).mono ?_
    rintro e w8 ⟨rfl, hb⟩
    replace k := k.step hb
    clear hb
    go_wp2_with fail
    with_reducible refine (of1 k.rd2).mono ?_
    rintro e w9 ⟨rfl, hb⟩
    replace k := k.step hb
    clear hb
    go_wp2_with fail
    with_reducible refine (total1 k.rd2).mono ?_
    rintro e w10 ⟨rfl, hb⟩
    replace k := k.step hb
    clear hb
    go_wp2_with fail
    with_reducible refine (total1 k.rd2).mono ?_
    rintro e w11 ⟨rfl, hb⟩
    replace k := k.step hb
    clear hb
    go_wp2_with fail
    with_reducible refine (cO4 k (by omega)).mono ?_
    rintro e w12 ⟨rfl, hb⟩
    replace k := k.step hb
    clear hb
    go_wp2
    go_ret
    exact ⟨rfl, k.below⟩
end Go.Proofs.Ytibjhehaflgomaa
