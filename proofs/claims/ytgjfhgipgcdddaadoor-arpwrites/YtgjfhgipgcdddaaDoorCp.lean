/-
  copy into a block that is known whole, all other blocks as they were; a frame's Macs copied into; cuts. Nothing of the program.
-/
import Derived.Test.YtgjfhgipgcdddaaDoorSmall
import Derived.Lib.BufferWrite
import Derived.Test.YtgjfhgipgcdddaaDoorLaw
namespace Go.Proofs.YtgjfhgipgcdddaaDoor
open Go.RowKit

/-- What a step that turns block g alone leaves. -/
structure Only (g : Nat) (w w' : World) : Prop where
  below : Below g w w'
  other : ∀ j, j ≠ g → w'.heap[j]? = w.heap[j]?
  size : w'.heap.size = w.heap.size
theorem Only.refl (g : Nat) (w : World) : Only g w w := ⟨Below.refl _ _, fun _ _ => rfl, rfl⟩
theorem Only.set (g : Nat) (w : World) (cs : Array Value) : Only g w (w.setRow g cs) := ⟨below_setRow (Below.refl _ _) (Nat.le_refl _) _, fun j hj => setRow_other w g j cs hj, by simp⟩
theorem Only.cell {g : Nat} {w w' : World} (h : Only g w w') {a : Addr} (ha : a.block ≠ g) : w'.cell? a = w.cell? a := World.cell?_of_block (h.other _ ha)
theorem Only.rd {g : Nat} {w w' : World} (h : Only g w w') {k : IntKind} {B : Nat} {A : Option Addr} {n c : Nat} {xs : List Int} (hr : Rd k w B A n c xs) (hB : B ≤ g) : Rd k w' B A n c xs := hr.below h.below hB

/-- The first six of bytes. -/
def six (xs : List Int) : Mac6 := ⟨xs.getD 0 0, xs.getD 1 0, xs.getD 2 0, xs.getD 3 0, xs.getD 4 0, xs.getD 5 0⟩
theorem six_cells {k : IntKind} {w : World} {B : Nat} {A : Option Addr} {m c : Nat} {ys : List Int} (hr : Rd k w B A m c ys) (hm : 6 ≤ m) :
    ∃ ad, A = some ad ∧ ∀ j v, [Value.int k (six ys).a, .int k (six ys).b, .int k (six ys).c, .int k (six ys).d, .int k (six ys).e, .int k (six ys).f][j]? = some v → w.cell? (ad.add j) = some v := by
  obtain ⟨b, o, rfl, _, _⟩ := hr.at_ (i := 0) (by omega)
  refine ⟨_, rfl, fun j v hv => ?_⟩
  have hj : j < 6 := by simpa using (List.getElem?_eq_some_iff.1 hv).1
  refine cells_of_rd hr j v ?_
  have hl := hr.len
  rw [List.getElem?_map, List.getElem?_eq_getElem (show j < ys.length by omega)]
  have hg : ys[j]'(by omega) = ys.getD j 0 := by simp [List.getD, List.getElem?_eq_getElem (show j < ys.length by omega)]
  rw [hg, ← hv]
  have : j = 0 ∨ j = 1 ∨ j = 2 ∨ j = 3 ∨ j = 4 ∨ j = 5 := by omega
  rcases this with rfl | rfl | rfl | rfl | rfl | rfl <;> rfl
theorem six_one (k : IntKind) (a b c d e f : Int) : ∀ v ∈ [Value.int k a, .int k b, .int k c, .int k d, .int k e, .int k f], v.oneCell' = true := by
  intro v hv
  simp at hv
  rcases hv with rfl | rfl | rfl | rfl | rfl | rfl <;> rfl
section
variable {P : Program} {w : World} {ops : Array Oper} {rest : List Oper} {o : Oper} {a : Act} {Q : Exit → Act → World → Prop}
theorem wpList_cpMac (dd : Option Tmp) (hgd : o.guard = none) (hdd : o.dst = dd) (d s : Operand) (dT sT : TypeId)
    (ho : o.op = .call { callee := .builtin .copy, args := #[d, s], argTypes := #[dT, sT] }) (hu : P.underlying dT = some (.slice 5)) (hsz : (P.info? 5).map (·.size) = some 1)
    (g : Nat) (T : TypeId) (op : Int) (m : Mac6) (ip : Int) (t : Mac6) (ti : Int) (hpk : PkAt w g T op m ip t ti) (hd : a.eval d = .slice (some ⟨g, 1, none⟩) 6 6)
    (As : Option Addr) (n cc B : Nat) (ys : List Int) (hs : a.eval s = .slice As n cc) (hr : Rd .u8 w B As n cc ys) (hm : 6 ≤ n)
    (h : ∀ w', PkAt w' g T op (six ys) ip t ti → Only g w w' → wpList P ops Q rest (a.put dd (goInt 6)) w') : wpList P ops Q (o :: rest) a w := by
  subst hdd
  obtain ⟨ad, rfl, hsrc⟩ := six_cells hr hm
  refine wpList_copy_own hgd d s dT sT ho 5 hu hsz g 1 6 6 ad n cc hd hs _ T hpk [.int .u8 (six ys).a, .int .u8 (six ys).b, .int .u8 (six ys).c, .int .u8 (six ys).d, .int .u8 (six ys).e, .int .u8 (six ys).f] (by simp [Nat.min_eq_right hm]) hsrc (by simp) (six_one _ _ _ _ _ _ _) ?_
  exact h _ (by have e := setRow_heap w g _ (pkC op (six ys) ip t ti) T _ hpk; exact e) (Only.set _ _ _)
theorem wpList_cpTo (dd : Option Tmp) (hgd : o.guard = none) (hdd : o.dst = dd) (d s : Operand) (dT sT : TypeId)
    (ho : o.op = .call { callee := .builtin .copy, args := #[d, s], argTypes := #[dT, sT] }) (hu : P.underlying dT = some (.slice 5)) (hsz : (P.info? 5).map (·.size) = some 1)
    (g : Nat) (T : TypeId) (op : Int) (m : Mac6) (ip : Int) (t : Mac6) (ti : Int) (hpk : PkAt w g T op m ip t ti) (hd : a.eval d = .slice (some ⟨g, 8, none⟩) 6 6)
    (As : Option Addr) (n cc B : Nat) (ys : List Int) (hs : a.eval s = .slice As n cc) (hr : Rd .u8 w B As n cc ys) (hm : 6 ≤ n)
    (h : ∀ w', PkAt w' g T op m ip (six ys) ti → Only g w w' → wpList P ops Q rest (a.put dd (goInt 6)) w') : wpList P ops Q (o :: rest) a w := by
  subst hdd
  obtain ⟨ad, rfl, hsrc⟩ := six_cells hr hm
  refine wpList_copy_own hgd d s dT sT ho 5 hu hsz g 8 6 6 ad n cc hd hs _ T hpk [.int .u8 (six ys).a, .int .u8 (six ys).b, .int .u8 (six ys).c, .int .u8 (six ys).d, .int .u8 (six ys).e, .int .u8 (six ys).f] (by simp [Nat.min_eq_right hm]) hsrc (by simp) (six_one _ _ _ _ _ _ _) ?_
  exact h _ (by have e := setRow_heap w g _ (pkC op m ip (six ys) ti) T _ hpk; exact e) (Only.set _ _ _)
/-- copy into a whole row of bytes, all of the source. -/
theorem wpList_cpRow (dd : Option Tmp) (hgd : o.guard = none) (hdd : o.dst = dd) (d s : Operand) (dT sT : TypeId)
    (ho : o.op = .call { callee := .builtin .copy, args := #[d, s], argTypes := #[dT, sT] }) (hu : P.underlying dT = some (.slice 5)) (hsz : (P.info? 5).map (·.size) = some 1)
    (g off : Nat) (xs : List Int) (hrow : Row w g xs) (dp : Option Addr) (dLen dCap : Nat) (hd : a.eval d = .slice dp dLen dCap)
    (A : Option Addr) (m c B : Nat) (ys : List Int) (hs : a.eval s = .slice A m c) (hr : Rd .u8 w B A m c ys) (hfit : off + m ≤ xs.length) (hdl : m ≤ dLen) (hdp : 0 < m → dp = some ⟨g, off, none⟩)
    (h : ∀ w', Row w' g (splice xs off ys) → Only g w w' → wpList P ops Q rest (a.put dd (.int .i64 (m : Int))) w') :
    wpList P ops Q (o :: rest) a w := by
  subst hdd
  have hl := hr.len
  rcases Nat.eq_zero_or_pos m with hm | hm
  · subst hm
    obtain rfl : ys = [] := List.eq_nil_of_length_eq_zero hl
    exact wpList_copy_nothing hgd d s dT sT ho 5 hu hsz dp A dLen dCap 0 c hd hs (Nat.zero_min _) (h w (by simpa [splice] using hrow) (Only.refl _ _))
  · obtain ⟨b, o', rfl, _, _⟩ := hr.at_ hm
    obtain rfl := hdp hm
    refine wpList_copy_own hgd d s dT sT ho 5 hu hsz g off dLen dCap _ m c hd hs _ 5 hrow (ys.map (Value.int .u8)) (by simp [hl, Nat.min_eq_left hdl]) (cells_of_rd hr) (by simp; omega) (ints_one .u8 ys) ?_
    have := h _ (show Row (w.setRow g ((splice xs off ys).map (Value.int .u8)).toArray) g (splice xs off ys) from setRow_heap w g _ _ 5 _ hrow) (Only.set _ _ _)
    simpa [goInt, hl, splice, List.map_take, List.map_drop] using this
/-- copy of a string into a whole row of bytes, from its beginning on. -/
theorem wpList_cpStr (dd : Option Tmp) (hgd : o.guard = none) (hdd : o.dst = dd) (d s : Operand) (dT sT : TypeId)
    (ho : o.op = .call { callee := .builtin .copy, args := #[d, s], argTypes := #[dT, sT] }) (hu : P.underlying dT = some (.slice 5)) (hsz : (P.info? 5).map (·.size) = some 1)
    (g : Nat) (xs : List Int) (hrow : Row w g xs) (dLen dCap : Nat) (hd : a.eval d = .slice (some ⟨g, 0, none⟩) dLen dCap) (t : ByteArray) (ys : List Int) (hs : a.eval s = .string t)
    (ht : Lib.byteCells t.data.toList = ys.map (Value.int .u8)) (hm : t.size = ys.length) (hfit : ys.length ≤ xs.length) (hdl : ys.length ≤ dLen)
    (h : ∀ w', Row w' g (splice xs 0 ys) → Only g w w' → wpList P ops Q rest (a.put dd (.int .i64 (ys.length : Int))) w') :
    wpList P ops Q (o :: rest) a w := by
  subst hdd
  have hrun := Lib.run_copy_row_string (P := P) w dT sT o.type 5 g 0 dLen dCap t _ 5 hu hsz hrow (by omega) (by simp; omega)
  refine wpList_plain hgd fun K hK => ?_
  unfold Oper.wp
  simp [execOp, ho, resolve, invoke, builtin, hd, hs, hrun, Result.andThen]
  have := h _ (show Row (w.setRow g ((splice xs 0 ys).map (Value.int .u8)).toArray) g (splice xs 0 ys) from setRow_heap w g _ _ 5 _ hrow) (Only.set _ _ _)
  refine hK _ _ ?_
  simpa [goInt, hm, ht, splice, List.map_take, List.map_drop] using this
end

/-- Where a slice that is cut at f begins. -/
def cutA (A : Option Addr) (c f : Nat) : Option Addr := if c = f then A else A.map (·.add f)
theorem cutA_eq {A : Option Addr} {c q : Nat} (h : c = q) : cutA A c q = A := if_pos h
theorem cutA_ne {A : Option Addr} {c q : Nat} (h : ¬ c = q) : cutA A c q = A.map (·.add q) := if_neg h
theorem Rd.cutFrom {k : IntKind} {w : World} {B : Nat} {A : Option Addr} {n c : Nat} {xs : List Int} (h : Rd k w B A n c xs) (f : Nat) (hf : f ≤ n) : Rd k w B (cutA A c f) (n - f) (c - f) (xs.drop f) := by
  have := h.cut hf (Nat.le_refl n)
  rw [List.take_of_length_le (by have := h.len; simp; omega)] at this
  exact this
theorem Rd.cutTo {k : IntKind} {w : World} {B : Nat} {A : Option Addr} {n c : Nat} {xs : List Int} (h : Rd k w B A n c xs) (t : Nat) (ht : t ≤ n) : Rd k w B A t c (xs.take t) := by
  have hl := h.len
  have hc := h.cap
  refine ⟨by simp; omega, by omega, h.2.2.1, fun x hx => h.2.2.2.1 x (List.mem_of_mem_take hx), fun i hi => ?_⟩
  obtain ⟨b, o, e, hb, hcell⟩ := h.at_ (i := i) (by omega)
  refine ⟨b, o, e, hb, ?_⟩
  rw [hcell]
  simp [List.getD, hi]
end Go.Proofs.YtgjfhgipgcdddaaDoor
