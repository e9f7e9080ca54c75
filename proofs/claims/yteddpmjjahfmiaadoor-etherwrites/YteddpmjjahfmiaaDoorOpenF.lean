/-
  From an argument that came in to its plain numbers: frames, Macs, numbers, bytes.
-/
import Derived.Test.YteddpmjjahfmiaaDoorBytes
import Derived.Test.YteddpmjjahfmiaaDoorOpen
import Derived.Lib.SmallJoins
import Derived.OpenShut
import Derived.ChangeArms
import Derived.ChangeMaps5
namespace Go.Proofs.YteddpmjjahfmiaaDoor
open Go.Joins Go.ChangeShapes Go.WideShapes Go.RowKit Go.Deep

section
variable {H : Type} {enc : TypeId × Value → H} {w : World} {base : Nat} {spare : Nat → Bool} {held : Bool} {r : Reach} {b0 : Nat} {v : Value} {d : DataW H} {p : List MemPlace} {fuel : Nat} {cs : List Value} {x : DataW H × List MemPlace}
theorem cells5_ : Tryd.prog.cellsOf 5 = 1 := by kernel_rfl
theorem cells24_ : Tryd.prog.cellsOf 24 = 6 := by kernel_rfl
theorem cells29_ : Tryd.prog.cellsOf 29 = 14 := by kernel_rfl
theorem cells27_ : Tryd.prog.cellsOf 27 = 1 := by kernel_rfl
theorem cells22_ : Tryd.prog.cellsOf 22 = 1 := by kernel_rfl
set_option maxRecDepth 100000 in
theorem six_of (h : DataW.trod enc Tryd.prog w base spare held fuel 24 cs = some x) : ∃ m : Mac6, m.ok ∧ cs = [.int .u8 m.a, .int .u8 m.b, .int .u8 m.c, .int .u8 m.d, .int .u8 m.e, .int .u8 m.f] := by
  obtain ⟨xs, k, _, _, hlen, hl, hg⟩ := DataW.trod_array Tryd.underlying24 h
  rw [cells24_] at hlen
  match cs, hlen with
  | [c0, c1, c2, c3, c4, c5], _ =>
    have key : ∀ i (hi : i < 6), ∃ n : Int, (0 ≤ n ∧ n ≤ 255) ∧ [c0, c1, c2, c3, c4, c5][i]? = some (.int .u8 n) := by
      intro i hi
      have h1 := hg i hi
      rw [cells5_, Nat.mul_one] at h1
      have hx : xs[i]? = some (xs[i]'(by omega)) := List.getElem?_eq_getElem (by omega)
      rw [hx] at h1
      obtain ⟨n, e1, _, hw⟩ := DataW.trod_int Tryd.underlying5 h1
      refine ⟨n, u8_bd hw, ?_⟩
      have : (([c0, c1, c2, c3, c4, c5].drop i).take 1)[0]? = some (.int .u8 n) := by rw [e1]; rfl
      rw [List.getElem?_take_of_lt (by omega), List.getElem?_drop, Nat.add_zero] at this
      exact this
    obtain ⟨n0, l0, e0⟩ := key 0 (by omega)
    obtain ⟨n1, l1, e1⟩ := key 1 (by omega)
    obtain ⟨n2, l2, e2⟩ := key 2 (by omega)
    obtain ⟨n3, l3, e3⟩ := key 3 (by omega)
    obtain ⟨n4, l4, e4⟩ := key 4 (by omega)
    obtain ⟨n5, l5, e5⟩ := key 5 (by omega)
    simp at e0 e1 e2 e3 e4 e5
    subst e0 e1 e2 e3 e4 e5
    exact ⟨⟨n0, n1, n2, n3, n4, n5⟩, ⟨l0, l1, l2, l3, l4, l5⟩, rfl⟩
theorem bytes_of (h : DataW.trod enc Tryd.prog w base (fun _ => true) held fuel 22 cs = some x) : ∃ A n c xs, cs = [.slice A n c] ∧ Rd .u8 w w.heap.size A n c xs := by
  rcases open_ints Tryd.underlying22 Tryd.underlying5 (by kernel_rfl) h with ⟨hcs, _⟩ | ⟨a, l, c, zs, hcs, _, hl, hm, hz, _, hcell, hwz⟩
  · exact ⟨none, 0, 0, [], hcs, Rd.nil⟩
  · exact ⟨some a, l, c, zs.take l, hcs, rd_of (.inr ⟨a, rfl, hl, hm, by simpa using hz, hcell, hwz⟩)⟩
set_option maxRecDepth 100000 in
theorem open_mac (hv : Value.okWide Tryd.prog w r b0 24 v) (h : DataW.Trod enc Tryd.prog w base spare held 24 v d p) : ∃ m : Mac6, m.ok ∧ v = m.v := by
  have hag : ∃ cs, v = .agg cs := by
    simp only [Value.okWide, Tryd.underlying24] at hv
    obtain ⟨cs, h1, _, _⟩ := hv
    exact ⟨cs, h1⟩
  obtain ⟨cs, rfl⟩ := hag
  obtain ⟨fuel, hf⟩ := h
  obtain ⟨m, hm, e⟩ := six_of hf
  refine ⟨m, hm, ?_⟩
  obtain ⟨l⟩ := cs
  simp only [Value.cells] at e
  rw [e]
set_option maxRecDepth 100000 in
theorem open_frame (hv : Value.okWide Tryd.prog w r b0 29 v) (h : DataW.Trod enc Tryd.prog w base (fun _ => true) held 29 v d p) :
    ∃ (t f : Mac6) (k : Int) (A : Option Addr) (n c : Nat) (xs : List Int), v = frV t f k A n c ∧ t.ok ∧ f.ok ∧ (0 ≤ k ∧ k ≤ 65535) ∧ Rd .u8 w w.heap.size A n c xs := by
  obtain ⟨cs, rfl, hsz⟩ := okWide_struct Tryd.underlying29 hv
  obtain ⟨fuel, hf⟩ := h
  obtain ⟨y0, y1, y2, y3, n, _, hlen, h0, h1, h2, h3⟩ := trod_struct4 Tryd.underlying29 hf
  obtain ⟨l⟩ := cs
  have hl : l.length = 14 := by simpa [cells29_] using hsz
  match l, hl with
  | [c0, c1, c2, c3, c4, c5, c6, c7, c8, c9, c10, c11, c12, c13], _ =>
    obtain ⟨t, ht, e0⟩ := six_of h0
    obtain ⟨f, hf', e1⟩ := six_of h1
    obtain ⟨k, e2, _, hk⟩ := DataW.trod_int Tryd.underlying27 h2
    obtain ⟨A, n, c, xs, e3, hr⟩ := bytes_of h3
    simp [Value.cells, cells24_, cells27_, cells22_] at e0 e1 e2 e3
    obtain ⟨rfl, rfl, rfl, rfl, rfl, rfl⟩ := e0
    obtain ⟨rfl, rfl, rfl, rfl, rfl, rfl⟩ := e1
    subst e2 e3
    have hk' : 0 ≤ k ∧ k ≤ 65535 := by simpa [Lit.wf, IntKind.min, IntKind.max, IntKind.signed, IntKind.bits] using hk
    exact ⟨t, f, k, A, n, c, xs, rfl, ht, hf', hk', hr⟩
set_option maxRecDepth 100000 in
theorem open_num {t : TypeId} {k : IntKind} (ht : Tryd.prog.underlying t = some (.int k)) (hv : Value.okWide Tryd.prog w r b0 t v) (h : DataW.Trod enc Tryd.prog w base spare held t v d p) : ∃ a, v = .int k a ∧ (Lit.int k a).wf = true := by
  obtain ⟨a, rfl, _, _, hw⟩ := open_int ht hv h
  exact ⟨a, rfl, hw⟩
set_option maxRecDepth 100000 in
theorem open_bytes (hv : Value.okWide Tryd.prog w r b0 22 v) (h : DataW.Trod enc Tryd.prog w base (fun _ => true) held 22 v d p) : ∃ A n c xs, v = .slice A n c ∧ Rd .u8 w w.heap.size A n c xs := by
  obtain ⟨A, n, c, rfl⟩ := okWide_slice Tryd.underlying22 hv
  obtain ⟨fuel, hf⟩ := h
  obtain ⟨A', n', c', xs, e, hr⟩ := bytes_of hf
  simp [Value.cells] at e
  obtain ⟨rfl, rfl, rfl⟩ := e
  exact ⟨_, _, _, xs, rfl, hr⟩
end
end Go.Proofs.YteddpmjjahfmiaaDoor
