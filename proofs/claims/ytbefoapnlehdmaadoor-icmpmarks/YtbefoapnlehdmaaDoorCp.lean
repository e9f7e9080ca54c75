/-
  copy into a block that is known whole, all other blocks as they were; cuts. Nothing of the program.
-/
import Derived.Test.YtbefoapnlehdmaaDoorSmall
import Derived.Test.YtbefoapnlehdmaaDoorLaw
namespace Go.Proofs.YtbefoapnlehdmaaDoor
open Go.RowKit

/-- What a step that turns block g alone leaves. -/
structure Only (g : Nat) (w w' : World) : Prop where
  below : Below g w w'
  other : ∀ j, j ≠ g → w'.heap[j]? = w.heap[j]?
  size : w'.heap.size = w.heap.size
theorem Only.refl (g : Nat) (w : World) : Only g w w := ⟨Below.refl _ _, fun _ _ => rfl, rfl⟩
theorem Only.set (g : Nat) (w : World) (cs : Array Value) : Only g w (w.setRow g cs) := ⟨below_setRow (Below.refl _ _) (Nat.le_refl _) _, fun j hj => setRow_other w g j cs hj, by simp⟩
theorem Only.cell {g : Nat} {w w' : World} (h : Only g w w') {a : Addr} (ha : a.block ≠ g) : w'.cell? a = w.cell? a := World.cell?_of_block (h.other _ ha)
theorem Only.rd {g : Nat} {w w' : World} (h : Only g w w') {k : IntKind} {B : Nat} {A : Option Addr} {n c : Nat} {xs : List Int} (hr : Rd k w B A n c xs) (hB : B ≤ g) : Rd k w' B A n c xs := hr.below h.below hB

section
variable {P : Program} {w : World} {ops : Array Oper} {rest : List Oper} {o : Oper} {a : Act} {Q : Exit → Act → World → Prop}
/-- copy into a whole row of bytes, all of the source. -/
theorem wpList_cpRow (dd : Option Tmp) (hgd : o.guard = none) (hdd : o.dst = dd) (d s : Operand) (dT sT : TypeId)
    (ho : o.op = .call { callee := .builtin .copy, args := #[d, s], argTypes := #[dT, sT] }) (hu : P.underlying dT = some (.slice 5)) (hsz : (P.info? 5).map (·.size) = some 1)
    (g off : Nat) (xs : List Int) (hrow : Row w g xs) (dp : Option Addr) (dLen dCap : Nat) (hd : a.eval d = .slice dp dLen dCap)
    (A : Option Addr) (m c B : Nat) (ys : List Int) (hs : a.eval s = .slice A m c) (hr : Rd .u8 w B A m c ys) (hfit : off + m ≤ xs.length) (hdl : m ≤ dLen) (hdp : 0 < m → dp = some ⟨g, off, none⟩)
    (h : ∀ w', Row w' g (splice xs off ys) → Only g w w' → wpList P ops Q rest (a.put dd (.int .i64 (m : Int))) w') :
    wpList P ops Q (o :: rest) a w := by
  subst hdd
  have hl := hr.len
  rcases Nat.eq_zero_or_pos m with hm | hm
  · subst hm
    obtain rfl : ys = [] := List.eq_nil_of_length_eq_zero hl
    exact wpList_copy_nothing hgd d s dT sT ho 5 hu hsz dp A dLen dCap 0 c hd hs (Nat.zero_min _) (h w (by simpa [splice] using hrow) (Only.refl _ _))
  · obtain ⟨b, o', rfl, _, _⟩ := hr.at_ hm
    obtain rfl := hdp hm
    refine wpList_copy_own hgd d s dT sT ho 5 hu hsz g off dLen dCap _ m c hd hs _ 5 hrow (ys.map (Value.int .u8)) (by simp [hl, Nat.min_eq_left hdl]) (cells_of_rd hr) (by simp; omega) (ints_one .u8 ys) ?_
    have := h _ (show Row (w.setRow g ((splice xs off ys).map (Value.int .u8)).toArray) g (splice xs off ys) from setRow_heap w g _ _ 5 _ hrow) (Only.set _ _ _)
    simpa [goInt, hl, splice, List.map_take, List.map_drop] using this
end

/-- Where a slice that is cut at f begins. -/
def cutA (A : Option Addr) (c f : Nat) : Option Addr := if c = f then A else A.map (·.add f)
theorem cutA_eq {A : Option Addr} {c q : Nat} (h : c = q) : cutA A c q = A := if_pos h
theorem cutA_ne {A : Option Addr} {c q : Nat} (h : ¬ c = q) : cutA A c q = A.map (·.add q) := if_neg h
theorem Rd.cutFrom {k : IntKind} {w : World} {B : Nat} {A : Option Addr} {n c : Nat} {xs : List Int} (h : Rd k w B A n c xs) (f : Nat) (hf : f ≤ n) : Rd k w B (cutA A c f) (n - f) (c - f) (xs.drop f) := by
  have := h.cut hf (Nat.le_refl n)
  rw [List.take_of_length_le (by have := h.len; simp; omega)] at this
  exact this
theorem Rd.cutTo {k : IntKind} {w : World} {B : Nat} {A : Option Addr} {n c : Nat} {xs : List Int} (h : Rd k w B A n c xs) (t : Nat) (ht : t ≤ n) : Rd k w B A t c (xs.take t) := by
  have hl := h.len
  have hc := h.cap
  refine ⟨by simp; omega, by omega, h.2.2.1, fun x hx => h.2.2.2.1 x (List.mem_of_mem_take hx), fun i hi => ?_⟩
  obtain ⟨b, o, e, hb, hcell⟩ := h.at_ (i := i) (by omega)
  refine ⟨b, o, e, hb, ?_⟩
  rw [hcell]
  simp [List.getD, hi]
end Go.Proofs.YtbefoapnlehdmaaDoor
