/-
  What a walk knows of the library's variables, and that it stays so; the library's functions at this program with what they want of the world.
-/
import Derived.Test.YtemhahfodblehaaDoorShelf
import Derived.Test.YtemhahfodblehaaDoorChars
import Derived.Test.YtemhahfodblehaaDoorLeaf
import Derived.WalkSmall
import Derived.Lib.AppendIntMem
namespace Go.Proofs.YtemhahfodblehaaDoor
open Go.RowKit

structure Kn (W : World) : Prop where
  maxlen : ∃ m, W.cell? ⟨2, 0, none⟩ = some (.int .i64 m)
  tab : Lib.TabIs Tryd.prog W "internal/strconv.uint64pow10" .u64 Lib.pow10Tab
  syn : ∃ tp p, W.var? Tryd.prog "strconv.ErrSyntax" = some #[.iface tp p]
  rng : ∃ tp p, W.var? Tryd.prog "strconv.ErrRange" = some #[.iface tp p]
  big : 6 ≤ W.heap.size
theorem g0_ : Tryd.prog.globalNamed "strconv.ErrSyntax" = some 0 := by kernel_rfl
theorem g1_ : Tryd.prog.globalNamed "strconv.ErrRange" = some 1 := by kernel_rfl
theorem g3_ : Tryd.prog.globalNamed "internal/strconv.uint64pow10" = some 3 := by kernel_rfl
theorem Kn.step {W V : World} (k : Kn W) (h : Below W.heap.size W V) : Kn V := by
  have hb := k.big
  obtain ⟨m, hm⟩ := k.maxlen
  obtain ⟨t1, p1, h1⟩ := k.syn
  obtain ⟨t2, p2, h2⟩ := k.rng
  exact ⟨⟨m, (h.cell (by show 2 < _; omega)).trans hm⟩, var?_below h g3_ (by omega) k.tab, ⟨t1, p1, var?_below h g0_ (by omega) h1⟩, ⟨t2, p2, var?_below h g1_ (by omega) h2⟩, Nat.le_trans hb h.size⟩
theorem Kn.drew {W : World} (k : Kn W) : Kn W.drew := k.step ⟨rfl, rfl, rfl, Nat.le_refl _, fun _ _ => rfl⟩
theorem Kn.alloc {W : World} (k : Kn W) (o : Obj) : Kn (W.alloc o) := k.step (alloc_below _ _)
theorem below_of_drewN (w : World) (n : Nat) : Below w.heap.size w (w.drewN n) := ⟨rfl, rfl, rfl, Nat.le_refl _, fun _ _ => rfl⟩
theorem below_grow (w : World) (k : Nat) (os : Array Obj) : Below w.heap.size w (Sort.grow (w.drewN k) os) := Lib.below_grow _ w (Nat.le_refl _) k os
/-- A string of bytes. -/
@[reducible] def strV (l : List UInt8) : Value := .string ⟨l.toArray⟩

theorem itoa_any (n : Nat) (hn : n < 1000) (w : World) (k : Kn w) : Calls Tryd.prog 50 #[.int .i64 n] w fun e w' => e = .returned (strV (dec3 n)) ∧ Below w.heap.size w w' := by
  refine (Tryd.strconv_Itoa n (by omega) (by omega) w k.tab).mono ?_
  rintro e w' ⟨rfl, c, os, rfl⟩
  refine ⟨?_, below_grow _ _ _⟩
  have : Lib.itoa (n : Int) = dec3 n := by
    unfold Lib.itoa
    rw [if_neg (by omega), Int.toNat_natCast, dec3_eq hn]
  rw [this]
theorem cut_any (l : List UInt8) (m : UInt8) (w : World) (k : Kn w) (hl : l.length ≤ 1000) : Calls Tryd.prog 46 #[strV l, .string ⟨#[m]⟩] w fun e w' => e = .returned (.tuple #[strV (Lib.cut l [m]).1, strV (Lib.cut l [m]).2.1, .bool (Lib.cut l [m]).2.2]) ∧ Below w.heap.size w w' := by
  obtain ⟨x, hx⟩ := k.maxlen
  refine (Tryd.strings_Cut ⟨l.toArray⟩ ⟨#[m]⟩ x w (by show l.toArray.size < _; simp; omega) hx).mono ?_
  rintro e w' ⟨rfl, n, rfl⟩
  exact ⟨by simp, below_of_drewN _ _⟩
/-- What ParseUint at base 10 and 8 bits answers. -/
def Num10 (l : List UInt8) (u : Int) (ev : Value) : Prop :=
  (0 ≤ u ∧ u ≤ 255) ∧ ((∃ a : Nat, Lib.parseUintB 8 l = .ok a ∧ u = a ∧ ev = .nilIface) ∨ ((∀ a, Lib.parseUintB 8 l ≠ .ok a) ∧ ∃ p, ev = .iface 75 p))
theorem uint10_any (l : List UInt8) (w : World) (k : Kn w) (hl : l.length ≤ 1000) : Calls Tryd.prog 39 #[strV l, .int .i64 10, .int .i64 8] w fun e w' => (∃ u ev, e = .returned (.tuple #[.int .u64 u, ev]) ∧ Num10 l u ev) ∧ Below w.heap.size w w' := by
  have hs : (⟨l.toArray⟩ : ByteArray).size ≤ 1000 := by show l.toArray.size ≤ _; simpa using hl
  cases h : Lib.parseUintB 8 l
  · rename_i u
    have hu := Lib.parseUintB_le h
    refine (Tryd.strconv_ParseUint_10_at8_ok ⟨l.toArray⟩ (by omega) u (by simpa using h) w).mono ?_
    rintro e w' ⟨rfl, hw⟩
    refine ⟨⟨_, _, rfl, by omega, .inl ⟨u, h, rfl, rfl⟩⟩, ?_⟩
    rcases hw with rfl | rfl
    · exact Below.refl _ _
    · exact Lib.bytesWorld_below _ _ _
  · obtain ⟨tp, p, hv⟩ := k.syn
    refine (Any.strconv_ParseUint_10_at8_syntax_var Tryd.laysPu14 ⟨l.toArray⟩ (by omega) (by simpa using h) tp p w hv).mono ?_
    rintro e w' ⟨N, rfl, _, _, hb⟩
    exact ⟨⟨_, _, rfl, by omega, .inr ⟨by simp [h], _, rfl⟩⟩, hb⟩
  · obtain ⟨tp, p, hv⟩ := k.rng
    refine (Tryd.strconv_ParseUint_10_at8_range_var ⟨l.toArray⟩ (by omega) (by simpa using h) tp p w hv).mono ?_
    rintro e w' ⟨N, rfl, _, _, hb⟩
    exact ⟨⟨_, _, rfl, by omega, .inr ⟨by simp [h], _, rfl⟩⟩, hb⟩
end Go.Proofs.YtemhahfodblehaaDoor
