/-
  From arguments that came in to their plain numbers: bytes, a call, a row of calls.
-/
import Derived.Test.YtjaiagocbldbgaaArgu
import Derived.Test.YtjaiagocbldbgaaOpen
import Derived.Lib.SmallJoins
import Derived.OpenShut
import Derived.ChangeArms
import Derived.Deep.Slices
import Derived.Deep.Fields
import Derived.ChangeSame
namespace Go.Proofs.Ytjaiagocbldbgaa
open Go.Joins Go.ChangeShapes Go.WideShapes Go.RowKit Go.Deep
set_option linter.unusedVariables false

section
variable {H : Type} {enc : TypeId × Value → H} {w : World} {base : Nat} {held : Bool} {r : Reach} {b0 : Nat} {v : Value} {d : DataW H} {p : List MemPlace} {fuel : Nat} {cs : List Value} {x : DataW H × List MemPlace}
theorem cells25_ : Try.prog.cellsOf 25 = 4 := by kernel_rfl
theorem cells23_ : Try.prog.cellsOf 23 = 1 := by kernel_rfl
theorem cells3_ : Try.prog.cellsOf 3 = 1 := by kernel_rfl
theorem bytes_of (h : DataW.trod enc Try.prog w base (fun _ => true) held fuel 23 cs = some x) : ∃ A n c xs, cs = [.slice A n c] ∧ Rd .u8 w w.heap.size A n c xs := by
  rcases open_ints Try.underlying23 Try.underlying5 (by kernel_rfl) h with ⟨hcs, _⟩ | ⟨a, l, c, zs, hcs, _, hl, hm, hz, _, hcell, hwz⟩
  · exact ⟨none, 0, 0, [], hcs, Rd.nil⟩
  · exact ⟨some a, l, c, zs.take l, hcs, rd_of (.inr ⟨a, rfl, hl, hm, by simpa using hz, hcell, hwz⟩)⟩
set_option maxRecDepth 100000 in
theorem call_of (h : DataW.trod enc Try.prog w base (fun _ => true) held fuel 25 cs = some x) :
    ∃ q : Cal, cs = [.int .i64 q.wh, .int .i64 q.bu, .int .i64 q.fr, .slice q.A q.n q.c] ∧ Rd .u8 w w.heap.size q.A q.n q.c q.xs := by
  obtain ⟨parts, k, _, _, hlen, hp, hq⟩ := DataW.trod_struct Try.underlying25 h
  rw [cells25_] at hlen
  have hq' : ∀ i, i < 4 → ∃ y, parts[i]? = some y := fun i hi => ⟨_, List.getElem?_eq_getElem (by simp at hp; omega)⟩
  match cs, hlen with
  | [v0, v1, v2, v3], _ =>
    obtain ⟨y0, g0⟩ := hq' 0 (by omega)
    obtain ⟨y1, g1⟩ := hq' 1 (by omega)
    obtain ⟨y2, g2⟩ := hq' 2 (by omega)
    obtain ⟨y3, g3⟩ := hq' 3 (by omega)
    have h0 := (hq 0 _ rfl).trans g0
    have h1 := (hq 1 _ rfl).trans g1
    have h2 := (hq 2 _ rfl).trans g2
    have h3 := (hq 3 _ rfl).trans g3
    obtain ⟨n0, e0, _, _⟩ := DataW.trod_int Try.underlying3 h0
    obtain ⟨n1, e1, _, _⟩ := DataW.trod_int Try.underlying3 h1
    obtain ⟨n2, e2, _, _⟩ := DataW.trod_int Try.underlying3 h2
    obtain ⟨A, n, c, xs, e3, hr⟩ := bytes_of h3
    simp [cells3_, cells23_] at e0 e1 e2 e3
    subst e0 e1 e2 e3
    exact ⟨⟨n0, n1, n2, A, n, c, xs⟩, rfl, hr⟩
theorem open_call (hv : Value.okWide Try.prog w r b0 25 v) (h : DataW.Trod enc Try.prog w base (fun _ => true) held 25 v d p) :
    ∃ q : Cal, v = .agg #[.int .i64 q.wh, .int .i64 q.bu, .int .i64 q.fr, .slice q.A q.n q.c] ∧ Rd .u8 w w.heap.size q.A q.n q.c q.xs := by
  obtain ⟨cs, rfl, hsz⟩ := okWide_struct Try.underlying25 hv
  obtain ⟨fuel, hf⟩ := h
  obtain ⟨q, e, hr⟩ := call_of hf
  refine ⟨q, ?_, hr⟩
  obtain ⟨l⟩ := cs
  simp only [Value.cells] at e
  rw [e]
theorem open_calls (h : DataW.trod enc Try.prog w base (fun _ => true) held fuel 22 cs = some x) : ∃ A n c qs, cs = [.slice A n c] ∧ CallsAt w w.heap.size A n c qs := by
  rcases open_slice Try.underlying22 h with ⟨hcs, _⟩ | ⟨a, len, cap, m, k, D, Pl, hcs, _, hl, hm, hmm, _, hi⟩
  · exact ⟨none, 0, 0, fun _ => ⟨0, 0, 0, none, 0, 0, []⟩, hcs, ⟨Nat.le_refl _, by omega⟩, fun i hi => absurd hi (by omega)⟩
  · rw [cells25_] at hi
    have key : ∀ i, i < len → ∃ q : Cal, ∃ b o, a = ⟨b, o, none⟩ ∧ b < w.heap.size ∧ CalAt w b (o + i * 4) q ∧ Rd .u8 w w.heap.size q.A q.n q.c q.xs := by
      intro i hil
      obtain ⟨cs', hc, ht⟩ := hi i (by simp at hmm; omega)
      obtain ⟨q, e, hr⟩ := call_of ht
      obtain ⟨_, _, hat⟩ := World.cells?_some hc
      subst e
      have c0 := hat 0 (by omega)
      have c1 := hat 1 (by omega)
      have c2 := hat 2 (by omega)
      have c3 := hat 3 (by omega)
      simp only [List.getElem?_cons_zero, List.getElem?_cons_succ] at c0 c1 c2 c3
      obtain ⟨b, o, sp⟩ := a
      have hsp : sp = none := by
        obtain ⟨cs0, hc0, ht0⟩ := hi 0 (by simp at hmm; omega)
        obtain ⟨q0, e0, _⟩ := call_of ht0
        obtain ⟨_, _, hat0⟩ := World.cells?_some hc0
        subst e0
        have z0 := hat0 0 (by omega)
        simp only [List.getElem?_cons_zero] at z0
        simpa [Addr.add] using World.cell?_spot z0
      subst hsp
      simp only [Addr.add_mid, Nat.add_zero] at c0 c1 c2 c3
      exact ⟨q, b, o, rfl, World.block_lt_of_cell? w _ c0, ⟨c0, c1, c2, c3⟩, hr⟩
    refine ⟨some a, len, cap, fun i => if hi : i < len then (key i hi).choose else ⟨0, 0, 0, none, 0, 0, []⟩, hcs, ⟨hl, by unfold maxLen at hm; omega⟩, fun i hil => ?_⟩
    obtain ⟨b, o, e, h1, h2, h3⟩ := (key i hil).choose_spec
    simp only [dif_pos hil]
    exact ⟨b, o, by rw [e], h1, h2, h3⟩
end
end Go.Proofs.Ytjaiagocbldbgaa
