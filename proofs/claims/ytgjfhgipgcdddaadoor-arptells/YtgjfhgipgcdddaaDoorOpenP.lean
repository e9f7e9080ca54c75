/-
  From an argument that came in to its plain numbers: packets, Macs, numbers, bytes.
-/
import Derived.Test.YtgjfhgipgcdddaaDoorBytes
import Derived.Test.YtgjfhgipgcdddaaDoorOpen
import Derived.Lib.SmallJoins
import Derived.OpenShut
import Derived.ChangeArms
import Derived.ChangeMaps5
namespace Go.Proofs.YtgjfhgipgcdddaaDoor
open Go.Joins Go.ChangeShapes Go.WideShapes Go.RowKit Go.Deep

theorem u32_bd {x : Int} (h : (Lit.int .u32 x).wf = true) : 0 ≤ x ∧ x < 4294967296 := by
  have : 0 ≤ x ∧ x ≤ 4294967295 := by simpa [Lit.wf, IntKind.min, IntKind.max, IntKind.signed, IntKind.bits] using h
  omega
section
variable {H : Type} {enc : TypeId × Value → H} {w : World} {base : Nat} {spare : Nat → Bool} {held : Bool} {r : Reach} {b0 : Nat} {v : Value} {d : DataW H} {p : List MemPlace} {fuel : Nat} {cs : List Value} {x : DataW H × List MemPlace}
theorem cells5_ : Tryd.prog.cellsOf 5 = 1 := by kernel_rfl
theorem cells26_ : Tryd.prog.cellsOf 26 = 6 := by kernel_rfl
theorem cells29_ : Tryd.prog.cellsOf 29 = 15 := by kernel_rfl
theorem cells27_ : Tryd.prog.cellsOf 27 = 1 := by kernel_rfl
theorem cells3_ : Tryd.prog.cellsOf 3 = 1 := by kernel_rfl
set_option maxRecDepth 100000 in
theorem six_of (h : DataW.trod enc Tryd.prog w base spare held fuel 26 cs = some x) : ∃ m : Mac6, m.ok ∧ cs = [.int .u8 m.a, .int .u8 m.b, .int .u8 m.c, .int .u8 m.d, .int .u8 m.e, .int .u8 m.f] := by
  obtain ⟨xs, k, _, _, hlen, hl, hg⟩ := DataW.trod_array Tryd.underlying26 h
  rw [cells26_] at hlen
  match cs, hlen with
  | [c0, c1, c2, c3, c4, c5], _ =>
    have key : ∀ i (hi : i < 6), ∃ n : Int, (0 ≤ n ∧ n ≤ 255) ∧ [c0, c1, c2, c3, c4, c5][i]? = some (.int .u8 n) := by
      intro i hi
      have h1 := hg i hi
      rw [cells5_, Nat.mul_one] at h1
      have hx : xs[i]? = some (xs[i]'(by omega)) := List.getElem?_eq_getElem (by omega)
      rw [hx] at h1
      obtain ⟨n, e1, _, hw⟩ := DataW.trod_int Tryd.underlying5 h1
      refine ⟨n, u8_bd hw, ?_⟩
      have : (([c0, c1, c2, c3, c4, c5].drop i).take 1)[0]? = some (.int .u8 n) := by rw [e1]; rfl
      rw [List.getElem?_take_of_lt (by omega), List.getElem?_drop, Nat.add_zero] at this
      exact this
    obtain ⟨n0, l0, e0⟩ := key 0 (by omega)
    obtain ⟨n1, l1, e1⟩ := key 1 (by omega)
    obtain ⟨n2, l2, e2⟩ := key 2 (by omega)
    obtain ⟨n3, l3, e3⟩ := key 3 (by omega)
    obtain ⟨n4, l4, e4⟩ := key 4 (by omega)
    obtain ⟨n5, l5, e5⟩ := key 5 (by omega)
    simp at e0 e1 e2 e3 e4 e5
    subst e0 e1 e2 e3 e4 e5
    exact ⟨⟨n0, n1, n2, n3, n4, n5⟩, ⟨l0, l1, l2, l3, l4, l5⟩, rfl⟩
theorem bytes_of (h : DataW.trod enc Tryd.prog w base (fun _ => true) held fuel 22 cs = some x) : ∃ A n c xs, cs = [.slice A n c] ∧ Rd .u8 w w.heap.size A n c xs := by
  rcases open_ints Tryd.underlying22 Tryd.underlying5 (by kernel_rfl) h with ⟨hcs, _⟩ | ⟨a, l, c, zs, hcs, _, hl, hm, hz, _, hcell, hwz⟩
  · exact ⟨none, 0, 0, [], hcs, Rd.nil⟩
  · exact ⟨some a, l, c, zs.take l, hcs, rd_of (.inr ⟨a, rfl, hl, hm, by simpa using hz, hcell, hwz⟩)⟩
set_option maxRecDepth 100000 in
theorem open_mac (hv : Value.okWide Tryd.prog w r b0 26 v) (h : DataW.Trod enc Tryd.prog w base spare held 26 v d p) : ∃ m : Mac6, m.ok ∧ v = m.v := by
  have hag : ∃ cs, v = .agg cs := by
    simp only [Value.okWide, Tryd.underlying26] at hv
    obtain ⟨cs, h1, _, _⟩ := hv
    exact ⟨cs, h1⟩
  obtain ⟨cs, rfl⟩ := hag
  obtain ⟨fuel, hf⟩ := h
  obtain ⟨m, hm, e⟩ := six_of hf
  refine ⟨m, hm, ?_⟩
  obtain ⟨l⟩ := cs
  simp only [Value.cells] at e
  rw [e]
set_option maxRecDepth 100000 in
theorem open_packet (hv : Value.okWide Tryd.prog w r b0 29 v) (h : DataW.Trod enc Tryd.prog w base spare held 29 v d p) :
    ∃ (op : Int) (m : Mac6) (ip : Int) (t : Mac6) (ti : Int), v = pkV op m ip t ti ∧ (-9223372036854775808 ≤ op ∧ op ≤ 9223372036854775807) ∧ m.ok ∧ (0 ≤ ip ∧ ip < 4294967296) ∧ t.ok ∧ (0 ≤ ti ∧ ti < 4294967296) := by
  obtain ⟨cs, rfl, hsz⟩ := okWide_struct Tryd.underlying29 hv
  obtain ⟨fuel, hf⟩ := h
  obtain ⟨parts, k, _, _, _, hp, hq⟩ := DataW.trod_struct Tryd.underlying29 hf
  have hq' : ∀ i, i < 5 → ∃ y, parts[i]? = some y := fun i hi => ⟨_, List.getElem?_eq_getElem (by simp at hp; omega)⟩
  obtain ⟨y0, g0⟩ := hq' 0 (by omega)
  obtain ⟨y1, g1⟩ := hq' 1 (by omega)
  obtain ⟨y2, g2⟩ := hq' 2 (by omega)
  obtain ⟨y3, g3⟩ := hq' 3 (by omega)
  obtain ⟨y4, g4⟩ := hq' 4 (by omega)
  have h0 := (hq 0 _ rfl).trans g0
  have h1 := (hq 1 _ rfl).trans g1
  have h2 := (hq 2 _ rfl).trans g2
  have h3 := (hq 3 _ rfl).trans g3
  have h4 := (hq 4 _ rfl).trans g4
  obtain ⟨l⟩ := cs
  have hl : l.length = 15 := by simpa [cells29_] using hsz
  match l, hl with
  | [c0, c1, c2, c3, c4, c5, c6, c7, c8, c9, c10, c11, c12, c13, c14], _ =>
    obtain ⟨op, e0, _, hop⟩ := DataW.trod_int Tryd.underlying3 h0
    obtain ⟨m, hm, e1⟩ := six_of h1
    obtain ⟨ip, e2, _, hip⟩ := DataW.trod_int Tryd.underlying27 h2
    obtain ⟨t, ht, e3⟩ := six_of h3
    obtain ⟨ti, e4, _, hti⟩ := DataW.trod_int Tryd.underlying27 h4
    simp [Value.cells, cells26_, cells27_, cells3_] at e0 e1 e2 e3 e4
    obtain ⟨rfl, rfl, rfl, rfl, rfl, rfl⟩ := e1
    obtain ⟨rfl, rfl, rfl, rfl, rfl, rfl⟩ := e3
    subst e0 e2 e4
    exact ⟨op, m, ip, t, ti, rfl, i64_bd hop, hm, u32_bd hip, ht, u32_bd hti⟩
set_option maxRecDepth 100000 in
theorem open_num {t : TypeId} {k : IntKind} (ht : Tryd.prog.underlying t = some (.int k)) (hv : Value.okWide Tryd.prog w r b0 t v) (h : DataW.Trod enc Tryd.prog w base spare held t v d p) : ∃ a, v = .int k a ∧ (Lit.int k a).wf = true := by
  obtain ⟨a, rfl, _, _, hw⟩ := open_int ht hv h
  exact ⟨a, rfl, hw⟩
set_option maxRecDepth 100000 in
theorem open_bytes (hv : Value.okWide Tryd.prog w r b0 22 v) (h : DataW.Trod enc Tryd.prog w base (fun _ => true) held 22 v d p) : ∃ A n c xs, v = .slice A n c ∧ Rd .u8 w w.heap.size A n c xs := by
  obtain ⟨A, n, c, rfl⟩ := okWide_slice Tryd.underlying22 hv
  obtain ⟨fuel, hf⟩ := h
  obtain ⟨A', n', c', xs, e, hr⟩ := bytes_of hf
  simp [Value.cells] at e
  obtain ⟨rfl, rfl, rfl⟩ := e
  exact ⟨_, _, _, xs, rfl, hr⟩
end
end Go.Proofs.YtgjfhgipgcdddaaDoor
