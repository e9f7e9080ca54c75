/-
  Worlds that turn in named blocks alone: nothing of the program is said here.
-/
import Derived.Test.YtalojeblemhihaaBase
import Derived.Test.YtalojeblemhihaaMem
import Derived.Test.YtalojeblemhihaaLaw
import Derived.Deep.MidRow
import Derived.OneCell
namespace Go.Proofs.Ytalojeblemhihaa
open Go.RowKit
set_option linter.unusedVariables false

/-- From w to w' nothing has turned but the blocks of S, and what is new. -/
structure Kept (S : Nat → Prop) (w w' : World) : Prop where
  os : w'.os = w.os
  tape : w'.tape = w.tape
  output : w'.output = w.output
  size : w.heap.size ≤ w'.heap.size
  block : ∀ k, k < w.heap.size → ¬ S k → w'.heap[k]? = w.heap[k]?

section
variable {S T : Nat → Prop} {w w' w'' : World} {B : Nat}
theorem Kept.refl (S : Nat → Prop) (w : World) : Kept S w w := ⟨rfl, rfl, rfl, Nat.le_refl _, fun _ _ _ => rfl⟩
theorem Kept.trans (h : Kept S w w') (h' : Kept S w' w'') : Kept S w w'' :=
  ⟨h'.os.trans h.os, h'.tape.trans h.tape, h'.output.trans h.output, Nat.le_trans h.size h'.size, fun k hk hs => (h'.block k (Nat.lt_of_lt_of_le hk h.size) hs).trans (h.block k hk hs)⟩
theorem Kept.mono (h : Kept S w w') (hs : ∀ k, k < w.heap.size → S k → T k) : Kept T w w' := ⟨h.os, h.tape, h.output, h.size, fun k hk ht => h.block k hk (fun q => ht (hs k hk q))⟩
theorem Kept.of_below (h : Below w.heap.size w w') : Kept S w w' := ⟨h.os, h.tape, h.output, h.size, fun k hk _ => h.block k hk⟩
theorem Kept.below (h : Kept S w w') (hB : B ≤ w.heap.size) (hs : ∀ k, S k → B ≤ k) : Below B w w' := ⟨h.os, h.tape, h.output, h.size, fun k hk => h.block k (Nat.lt_of_lt_of_le hk hB) (fun q => by have := hs k q; omega)⟩
theorem Kept.then (h : Kept S w w') (h' : Below w'.heap.size w' w'') : Kept S w w'' := h.trans (Kept.of_below h')
theorem Kept.ahead (h : Below w.heap.size w w') (h' : Kept S w' w'') : Kept S w w'' := (Kept.of_below h).trans h'
theorem Kept.new (h : Kept S w w') (hs : ∀ k, S k → w.heap.size ≤ k) : Below w.heap.size w w' := h.below (Nat.le_refl _) hs
theorem Kept.setCell (w : World) (a : Addr) (v : Value) (ha : S a.block) : Kept S w (w.setCell a v) :=
  ⟨rfl, rfl, rfl, by simp, fun k _ hs => Below.heap_setCell w a v k (fun e => hs (by rw [e]; exact ha))⟩
theorem Kept.setCells (g : Nat) (hg : S g) : ∀ (vs : List Value) (o : Nat) (w : World), Kept S w (w.setCells g o vs)
  | [], _, w => Kept.refl _ _
  | v :: r, o, w => (Kept.setCell w ⟨g, o, none⟩ v hg).trans (Kept.setCells g hg r (o + 1) _)
theorem Kept.setRow (w : World) (g : Nat) (cs : Array Value) (hg : S g) : Kept S w (w.setRow g cs) :=
  ⟨rfl, rfl, rfl, by simp, fun k _ hs => setRow_other w g k cs (fun e => hs (by rw [e]; exact hg))⟩
theorem Kept.grown {r : Option Nat} (h : w.grownBy w' r) (hr : ∀ k, r = some k → S k) : Kept S w w' := ⟨h.os, h.tape, h.output, h.size, fun k hk hs => h.block k hk (fun e => hs (hr k e.symm))⟩
end

theorem below_drew (w : World) : Below w.heap.size w w.drew := (Below.refl _ w).drew
theorem alloc_below (w : World) (o : Obj) : Below w.heap.size w (w.alloc o) := (Below.refl _ w).alloc (Nat.le_refl _) o

/-- What is read stays so. -/
theorem Rd.kept {S : Nat → Prop} {k : IntKind} {w w' : World} {B : Nat} {A : Option Addr} {n c : Nat} {xs : List Int} (h : Rd k w B A n c xs) (hk : Kept S w w') (hB : B ≤ w.heap.size) (hs : ∀ j, S j → B ≤ j) : Rd k w' B A n c xs :=
  h.below (hk.below hB hs) (Nat.le_refl _)
theorem Out.kept {S : Nat → Prop} {k : IntKind} {e : TypeId} {w w' : World} {base : Nat} {A : Option Addr} {n c : Nat} {xs : List Int} (h : Out k e w base A n c xs) (hk : Kept S w w') (hs : ∀ ad, A = some ad → ¬ S ad.block) : Out k e w' base A n c xs := by
  refine ⟨⟨h.1.1, ?_⟩, h.2⟩
  rcases h.1.2 with hv | ⟨g, cap, cur, hv, hbg, hh, r⟩
  · exact .inl hv
  · refine .inr ⟨g, cap, cur, hv, hbg, ?_, r⟩
    have hlt := (Array.getElem?_eq_some_iff.1 hh).1
    injection hv with e1
    rw [hk.block g hlt (hs _ e1)]
    exact hh
/-- The block of an own row. -/
theorem Out.block {k : IntKind} {e : TypeId} {w : World} {base : Nat} {A : Option Addr} {n c : Nat} {xs : List Int} (h : Out k e w base A n c xs) : ∀ ad, A = some ad → base ≤ ad.block ∧ ∃ cur, w.heap[ad.block]? = some (.cells cur e (0, 0)) := by
  intro ad hA
  rcases h.form with ⟨e1, _⟩ | ⟨g, cur, e1, hb, hh, _⟩
  · rw [e1] at hA; cases hA
  · rw [e1] at hA
    injection hA with hA
    subst hA
    exact ⟨hb, cur, hh⟩
theorem Out.lower {k : IntKind} {e : TypeId} {w : World} {base base' : Nat} {A : Option Addr} {n c : Nat} {xs : List Int} (h : Out k e w base A n c xs) (hb : base' ≤ base) : Out k e w base' A n c xs := by
  refine ⟨⟨h.1.1, ?_⟩, h.2⟩
  rcases h.1.2 with hv | ⟨g, cap, cur, hv, hbg, r⟩
  · exact .inl hv
  · exact .inr ⟨g, cap, cur, hv, by omega, r⟩
end Go.Proofs.Ytalojeblemhihaa
