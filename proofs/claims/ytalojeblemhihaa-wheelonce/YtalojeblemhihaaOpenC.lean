/-
  From arguments that came in to their plain numbers: rows of numbers, a call, a row of calls.
-/
import Derived.Test.YtalojeblemhihaaAgreeW
import Derived.Test.YtalojeblemhihaaOpen
import Derived.Lib.SmallJoins
import Derived.OpenShut
import Derived.ChangeArms
import Derived.Deep.Slices
import Derived.Deep.Fields
import Derived.ChangeSame
namespace Go.Proofs.Ytalojeblemhihaa
open Go.Joins Go.ChangeShapes Go.WideShapes Go.RowKit Go.Deep
set_option linter.unusedVariables false

theorem _root_.Go.RowKit.Below.step {B : Nat} {w w' w'' : World} (h : Below B w w') (h' : Below w'.heap.size w' w'') (hB : B ≤ w.heap.size) : Below B w w'' := h.trans (h'.mono (Nat.le_trans hB h.size))
/-- A call: what, a timer, a time. -/
structure Cal where
  wh : Int
  t : Int
  d : Nat
structure CalOk (q : Cal) : Prop where
  t : wfI q.t
  d : q.d < 18446744073709551616
structure CalAt (w : World) (b o : Nat) (q : Cal) : Prop where
  c0 : w.cell? ⟨b, o, none⟩ = some (.int .i64 q.wh)
  c1 : w.cell? ⟨b, o + 1, none⟩ = some (.int .i64 q.t)
  c2 : w.cell? ⟨b, o + 2, none⟩ = some (.int .u64 (q.d : Nat))
/-- A slice that reads as a row of calls. -/
def CallsAt (w : World) (B : Nat) (A : Option Addr) (n c : Nat) (qs : Nat → Cal) : Prop :=
  (n ≤ c ∧ c ≤ 9223372036854775807) ∧ ∀ i, i < n → ∃ b o, A = some ⟨b, o, none⟩ ∧ b < B ∧ CalAt w b (o + i * 3) (qs i) ∧ CalOk (qs i)
theorem CallsAt.below {w w' : World} {B : Nat} {A : Option Addr} {n c : Nat} {qs : Nat → Cal} (h : CallsAt w B A n c qs) (hb : Below B w w') : CallsAt w' B A n c qs := by
  refine ⟨h.1, fun i hi => ?_⟩
  obtain ⟨b, o, e, hB, ⟨c0, c1, c2⟩, hr⟩ := h.2 i hi
  exact ⟨b, o, e, hB, ⟨(hb.cell hB).trans c0, (hb.cell hB).trans c1, (hb.cell hB).trans c2⟩, hr⟩
section
variable {H : Type} {enc : TypeId × Value → H} {w : World} {base : Nat} {held : Bool} {r : Reach} {b0 : Nat} {v : Value} {d : DataW H} {p : List MemPlace} {fuel : Nat} {cs : List Value} {x : DataW H × List MemPlace}
theorem cells25_ : Try.prog.cellsOf 25 = 3 := by kernel_rfl
theorem cells22_ : Try.prog.cellsOf 22 = 1 := by kernel_rfl
theorem cells3_ : Try.prog.cellsOf 3 = 1 := by kernel_rfl
theorem ints_of {t e : TypeId} {k : IntKind} (ht : Try.prog.underlying t = some (.slice e)) (he : Try.prog.underlying e = some (.int k)) (hc : Try.prog.cellsOf e = 1) (h : DataW.trod enc Try.prog w base (fun _ => true) held fuel t cs = some x) : ∃ A n c xs, cs = [.slice A n c] ∧ Rd k w w.heap.size A n c xs := by
  rcases open_ints ht he hc h with ⟨hcs, _⟩ | ⟨a, l, c, zs, hcs, _, hl, hm, hz, _, hcell, hwz⟩
  · exact ⟨none, 0, 0, [], hcs, Rd.nil⟩
  · exact ⟨some a, l, c, zs.take l, hcs, rd_of (.inr ⟨a, rfl, hl, hm, by simpa using hz, hcell, hwz⟩)⟩
set_option maxRecDepth 100000 in
theorem call_of (h : DataW.trod enc Try.prog w base (fun _ => true) held fuel 25 cs = some x) :
    ∃ q : Cal, cs = [.int .i64 q.wh, .int .i64 q.t, .int .u64 (q.d : Nat)] ∧ CalOk q := by
  obtain ⟨parts, k, _, _, hlen, hp, hq⟩ := DataW.trod_struct Try.underlying25 h
  rw [cells25_] at hlen
  have hq' : ∀ i, i < 3 → ∃ y, parts[i]? = some y := fun i hi => ⟨_, List.getElem?_eq_getElem (by simp at hp; omega)⟩
  match cs, hlen with
  | [v0, v1, v2], _ =>
    obtain ⟨y0, g0⟩ := hq' 0 (by omega)
    obtain ⟨y1, g1⟩ := hq' 1 (by omega)
    obtain ⟨y2, g2⟩ := hq' 2 (by omega)
    have h0 := (hq 0 _ rfl).trans g0
    have h1 := (hq 1 _ rfl).trans g1
    have h2 := (hq 2 _ rfl).trans g2
    obtain ⟨n0, e0, _, _⟩ := DataW.trod_int Try.underlying3 h0
    obtain ⟨n1, e1, _, f1⟩ := DataW.trod_int Try.underlying3 h1
    obtain ⟨n2, e2, _, f2⟩ := DataW.trod_int Try.underlying22 h2
    simp [cells3_, cells22_] at e0 e1 e2
    subst e0 e1 e2
    have b2 := u64_bd f2
    obtain ⟨m, rfl⟩ := Int.eq_ofNat_of_zero_le b2.1
    exact ⟨⟨n0, n1, m⟩, rfl, f1, (by show m < 18446744073709551616; omega)⟩
set_option maxRecDepth 100000 in
theorem open_call (hv : Value.okWide Try.prog w r b0 25 v) (h : DataW.Trod enc Try.prog w base (fun _ => true) held 25 v d p) :
    ∃ q : Cal, v = .agg #[.int .i64 q.wh, .int .i64 q.t, .int .u64 (q.d : Nat)] ∧ CalOk q := by
  obtain ⟨cs, rfl, hsz⟩ := okWide_struct Try.underlying25 hv
  obtain ⟨fuel, hf⟩ := h
  obtain ⟨q, e, hr⟩ := call_of hf
  refine ⟨q, ?_, hr⟩
  obtain ⟨l⟩ := cs
  simp only [Value.cells] at e
  rw [e]
set_option maxRecDepth 100000 in
theorem open_calls (h : DataW.trod enc Try.prog w base (fun _ => true) held fuel 23 cs = some x) : ∃ A n c qs, cs = [.slice A n c] ∧ CallsAt w w.heap.size A n c qs := by
  rcases open_slice Try.underlying23 h with ⟨hcs, _⟩ | ⟨a, len, cap, m, k, D, Pl, hcs, _, hl, hm, hmm, _, hi⟩
  · exact ⟨none, 0, 0, fun _ => ⟨0, 0, 0⟩, hcs, ⟨Nat.le_refl _, by omega⟩, fun i hi => absurd hi (by omega)⟩
  · rw [cells25_] at hi
    have key : ∀ i, i < len → ∃ q : Cal, ∃ b o, a = ⟨b, o, none⟩ ∧ b < w.heap.size ∧ CalAt w b (o + i * 3) q ∧ CalOk q := by
      intro i hil
      obtain ⟨cs', hc, ht⟩ := hi i (by simp at hmm; omega)
      obtain ⟨q, e, hr⟩ := call_of ht
      obtain ⟨_, _, hat⟩ := World.cells?_some hc
      subst e
      have c0 := hat 0 (by omega)
      have c1 := hat 1 (by omega)
      have c2 := hat 2 (by omega)
      simp only [List.getElem?_cons_zero, List.getElem?_cons_succ] at c0 c1 c2
      obtain ⟨b, o, sp⟩ := a
      have hsp : sp = none := by
        obtain ⟨cs0, hc0, ht0⟩ := hi 0 (by simp at hmm; omega)
        obtain ⟨q0, e0, _⟩ := call_of ht0
        obtain ⟨_, _, hat0⟩ := World.cells?_some hc0
        subst e0
        have z0 := hat0 0 (by omega)
        simp only [List.getElem?_cons_zero] at z0
        simpa [Addr.add] using World.cell?_spot z0
      subst hsp
      simp only [Addr.add_mid, Nat.add_zero] at c0 c1 c2
      exact ⟨q, b, o, rfl, World.block_lt_of_cell? w _ c0, ⟨c0, c1, c2⟩, hr⟩
    refine ⟨some a, len, cap, fun i => if hi : i < len then (key i hi).choose else ⟨0, 0, 0⟩, hcs, ⟨hl, by unfold maxLen at hm; omega⟩, fun i hil => ?_⟩
    obtain ⟨b, o, e, h1, h2, h3⟩ := (key i hil).choose_spec
    simp only [dif_pos hil]
    exact ⟨b, o, by rw [e], h1, h2, h3⟩
end
end Go.Proofs.Ytalojeblemhihaa
