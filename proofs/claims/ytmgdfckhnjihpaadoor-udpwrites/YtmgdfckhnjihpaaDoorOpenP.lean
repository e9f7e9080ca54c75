/-
  From an argument that came in to its plain numbers: packets, numbers, bytes.
-/
import Derived.Test.YtmgdfckhnjihpaaDoorUCut
import Derived.Test.YtmgdfckhnjihpaaDoorOpen
import Derived.Lib.SmallJoins
import Derived.OpenShut
import Derived.ChangeArms
import Derived.ChangeMaps5
namespace Go.Proofs.YtmgdfckhnjihpaaDoor
open Go.Joins Go.ChangeShapes Go.WideShapes Go.RowKit Go.Deep

theorem u32_bd {x : Int} (h : (Lit.int .u32 x).wf = true) : 0 ≤ x ∧ x < 4294967296 := by
  have : 0 ≤ x ∧ x ≤ 4294967295 := by simpa [Lit.wf, IntKind.min, IntKind.max, IntKind.signed, IntKind.bits] using h
  omega
section
variable {H : Type} {enc : TypeId × Value → H} {w : World} {base : Nat} {spare : Nat → Bool} {held : Bool} {r : Reach} {b0 : Nat} {v : Value} {d : DataW H} {p : List MemPlace} {fuel : Nat} {cs : List Value} {x : DataW H × List MemPlace}
theorem cells4_ : Tryd.prog.cellsOf 4 = 1 := by kernel_rfl
theorem cells22_ : Tryd.prog.cellsOf 22 = 1 := by kernel_rfl
theorem cells26_ : Tryd.prog.cellsOf 26 = 1 := by kernel_rfl
theorem cells28_ : Tryd.prog.cellsOf 28 = 4 := by kernel_rfl
theorem bytes_of (h : DataW.trod enc Tryd.prog w base (fun _ => true) held fuel 22 cs = some x) : ∃ A n c xs, cs = [.slice A n c] ∧ Rd .u8 w w.heap.size A n c xs := by
  rcases open_ints Tryd.underlying22 Tryd.underlying5 (by kernel_rfl) h with ⟨hcs, _⟩ | ⟨a, l, c, zs, hcs, _, hl, hm, hz, _, hcell, hwz⟩
  · exact ⟨none, 0, 0, [], hcs, Rd.nil⟩
  · exact ⟨some a, l, c, zs.take l, hcs, rd_of (.inr ⟨a, rfl, hl, hm, by simpa using hz, hcell, hwz⟩)⟩
set_option maxRecDepth 100000 in
theorem open_packet (hv : Value.okWide Tryd.prog w r b0 28 v) (h : DataW.Trod enc Tryd.prog w base (fun _ => true) held 28 v d p) :
    ∃ (h : Hd) (A : Option Addr) (n c : Nat) (xs : List Int), v = pkV h A n c ∧ h.ok ∧ Rd .u8 w w.heap.size A n c xs := by
  obtain ⟨cs, rfl, hsz⟩ := okWide_struct Tryd.underlying28 hv
  obtain ⟨fuel, hf⟩ := h
  obtain ⟨parts, k, _, _, _, hp, hq⟩ := DataW.trod_struct Tryd.underlying28 hf
  have hq' : ∀ i, i < 4 → ∃ y, parts[i]? = some y := fun i hi => ⟨_, List.getElem?_eq_getElem (by simp at hp; omega)⟩
  obtain ⟨y0, g0⟩ := hq' 0 (by omega)
  obtain ⟨y1, g1⟩ := hq' 1 (by omega)
  obtain ⟨y2, g2⟩ := hq' 2 (by omega)
  obtain ⟨y3, g3⟩ := hq' 3 (by omega)
  have h0 := (hq 0 _ rfl).trans g0
  have h1 := (hq 1 _ rfl).trans g1
  have h2 := (hq 2 _ rfl).trans g2
  have h3 := (hq 3 _ rfl).trans g3
  obtain ⟨l⟩ := cs
  have hl : l.length = 4 := by simpa [cells28_] using hsz
  match l, hl with
  | [c0, c1, c2, c3], _ =>
    obtain ⟨a0, e0, _, k0⟩ := DataW.trod_int Tryd.underlying26 h0
    obtain ⟨a1, e1, _, k1⟩ := DataW.trod_int Tryd.underlying26 h1
    obtain ⟨a2, e2, _⟩ := DataW.trod_bool Tryd.underlying4 h2
    obtain ⟨A, n, c, xs, e3, hr⟩ := bytes_of h3
    simp [Value.cells, cells4_, cells22_, cells26_] at e0 e1 e2 e3
    subst e0 e1 e2 e3
    exact ⟨⟨a0, a1, a2⟩, A, n, c, xs, rfl, ⟨u16_bd k0, u16_bd k1⟩, hr⟩
set_option maxRecDepth 100000 in
theorem open_num {t : TypeId} {k : IntKind} (ht : Tryd.prog.underlying t = some (.int k)) (hv : Value.okWide Tryd.prog w r b0 t v) (h : DataW.Trod enc Tryd.prog w base spare held t v d p) : ∃ a, v = .int k a ∧ (Lit.int k a).wf = true := by
  obtain ⟨a, rfl, _, _, hw⟩ := open_int ht hv h
  exact ⟨a, rfl, hw⟩
set_option maxRecDepth 100000 in
theorem open_bytes (hv : Value.okWide Tryd.prog w r b0 22 v) (h : DataW.Trod enc Tryd.prog w base (fun _ => true) held 22 v d p) : ∃ A n c xs, v = .slice A n c ∧ Rd .u8 w w.heap.size A n c xs := by
  obtain ⟨A, n, c, rfl⟩ := okWide_slice Tryd.underlying22 hv
  obtain ⟨fuel, hf⟩ := h
  obtain ⟨A', n', c', xs, e, hr⟩ := bytes_of hf
  simp [Value.cells] at e
  obtain ⟨rfl, rfl, rfl⟩ := e
  exact ⟨_, _, _, xs, rfl, hr⟩
end
end Go.Proofs.YtmgdfckhnjihpaaDoor
