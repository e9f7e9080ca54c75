/-
  From an argument that came in to its plain numbers: packets, numbers, bytes.
-/
import Derived.Test.YthgdgjpckgfmbaaDoorReadE
import Derived.Test.YthgdgjpckgfmbaaDoorOpen
import Derived.Lib.SmallJoins
import Derived.OpenShut
import Derived.ChangeArms
import Derived.ChangeMaps5
namespace Go.Proofs.YthgdgjpckgfmbaaDoor
open Go.Joins Go.ChangeShapes Go.WideShapes Go.RowKit Go.Deep

theorem u32_bd {x : Int} (h : (Lit.int .u32 x).wf = true) : 0 ≤ x ∧ x < 4294967296 := by
  have : 0 ≤ x ∧ x ≤ 4294967295 := by simpa [Lit.wf, IntKind.min, IntKind.max, IntKind.signed, IntKind.bits] using h
  omega
section
variable {H : Type} {enc : TypeId × Value → H} {w : World} {base : Nat} {spare : Nat → Bool} {held : Bool} {r : Reach} {b0 : Nat} {v : Value} {d : DataW H} {p : List MemPlace} {fuel : Nat} {cs : List Value} {x : DataW H × List MemPlace}
theorem cells4_ : Tryd.prog.cellsOf 4 = 1 := by kernel_rfl
theorem cells5_ : Tryd.prog.cellsOf 5 = 1 := by kernel_rfl
theorem cells22_ : Tryd.prog.cellsOf 22 = 1 := by kernel_rfl
theorem cells25_ : Tryd.prog.cellsOf 25 = 1 := by kernel_rfl
theorem cells26_ : Tryd.prog.cellsOf 26 = 1 := by kernel_rfl
theorem cells28_ : Tryd.prog.cellsOf 28 = 8 := by kernel_rfl
theorem bytes_of (h : DataW.trod enc Tryd.prog w base (fun _ => true) held fuel 22 cs = some x) : ∃ A n c xs, cs = [.slice A n c] ∧ Rd .u8 w w.heap.size A n c xs := by
  rcases open_ints Tryd.underlying22 Tryd.underlying5 (by kernel_rfl) h with ⟨hcs, _⟩ | ⟨a, l, c, zs, hcs, _, hl, hm, hz, _, hcell, hwz⟩
  · exact ⟨none, 0, 0, [], hcs, Rd.nil⟩
  · exact ⟨some a, l, c, zs.take l, hcs, rd_of (.inr ⟨a, rfl, hl, hm, by simpa using hz, hcell, hwz⟩)⟩
set_option maxRecDepth 100000 in
theorem open_packet (hv : Value.okWide Tryd.prog w r b0 28 v) (h : DataW.Trod enc Tryd.prog w base (fun _ => true) held 28 v d p) :
    ∃ (h : Hd) (A : Option Addr) (n c : Nat) (xs : List Int), v = pkV h A n c ∧ h.ok ∧ Rd .u8 w w.heap.size A n c xs := by
  obtain ⟨cs, rfl, hsz⟩ := okWide_struct Tryd.underlying28 hv
  obtain ⟨fuel, hf⟩ := h
  obtain ⟨parts, k, _, _, _, hp, hq⟩ := DataW.trod_struct Tryd.underlying28 hf
  have hq' : ∀ i, i < 8 → ∃ y, parts[i]? = some y := fun i hi => ⟨_, List.getElem?_eq_getElem (by simp at hp; omega)⟩
  obtain ⟨y0, g0⟩ := hq' 0 (by omega)
  obtain ⟨y1, g1⟩ := hq' 1 (by omega)
  obtain ⟨y2, g2⟩ := hq' 2 (by omega)
  obtain ⟨y3, g3⟩ := hq' 3 (by omega)
  obtain ⟨y4, g4⟩ := hq' 4 (by omega)
  obtain ⟨y5, g5⟩ := hq' 5 (by omega)
  obtain ⟨y6, g6⟩ := hq' 6 (by omega)
  obtain ⟨y7, g7⟩ := hq' 7 (by omega)
  have h0 := (hq 0 _ rfl).trans g0
  have h1 := (hq 1 _ rfl).trans g1
  have h2 := (hq 2 _ rfl).trans g2
  have h3 := (hq 3 _ rfl).trans g3
  have h4 := (hq 4 _ rfl).trans g4
  have h5 := (hq 5 _ rfl).trans g5
  have h6 := (hq 6 _ rfl).trans g6
  have h7 := (hq 7 _ rfl).trans g7
  obtain ⟨l⟩ := cs
  have hl : l.length = 8 := by simpa [cells28_] using hsz
  match l, hl with
  | [c0, c1, c2, c3, c4, c5, c6, c7], _ =>
    obtain ⟨a0, e0, _, k0⟩ := DataW.trod_int Tryd.underlying5 h0
    obtain ⟨a1, e1, _, k1⟩ := DataW.trod_int Tryd.underlying25 h1
    obtain ⟨a2, e2, _⟩ := DataW.trod_bool Tryd.underlying4 h2
    obtain ⟨a3, e3, _, k3⟩ := DataW.trod_int Tryd.underlying5 h3
    obtain ⟨a4, e4, _, k4⟩ := DataW.trod_int Tryd.underlying5 h4
    obtain ⟨a5, e5, _, k5⟩ := DataW.trod_int Tryd.underlying26 h5
    obtain ⟨a6, e6, _, k6⟩ := DataW.trod_int Tryd.underlying26 h6
    obtain ⟨A, n, c, xs, e7, hr⟩ := bytes_of h7
    simp [Value.cells, cells4_, cells5_, cells22_, cells25_, cells26_] at e0 e1 e2 e3 e4 e5 e6 e7
    subst e0 e1 e2 e3 e4 e5 e6 e7
    exact ⟨⟨a0, a1, a2, a3, a4, a5, a6⟩, A, n, c, xs, rfl, ⟨u8_bd k0, u16_bd k1, u8_bd k3, u8_bd k4, u32_bd k5, u32_bd k6⟩, hr⟩
set_option maxRecDepth 100000 in
theorem open_num {t : TypeId} {k : IntKind} (ht : Tryd.prog.underlying t = some (.int k)) (hv : Value.okWide Tryd.prog w r b0 t v) (h : DataW.Trod enc Tryd.prog w base spare held t v d p) : ∃ a, v = .int k a ∧ (Lit.int k a).wf = true := by
  obtain ⟨a, rfl, _, _, hw⟩ := open_int ht hv h
  exact ⟨a, rfl, hw⟩
set_option maxRecDepth 100000 in
theorem open_bytes (hv : Value.okWide Tryd.prog w r b0 22 v) (h : DataW.Trod enc Tryd.prog w base (fun _ => true) held 22 v d p) : ∃ A n c xs, v = .slice A n c ∧ Rd .u8 w w.heap.size A n c xs := by
  obtain ⟨A, n, c, rfl⟩ := okWide_slice Tryd.underlying22 hv
  obtain ⟨fuel, hf⟩ := h
  obtain ⟨A', n', c', xs, e, hr⟩ := bytes_of hf
  simp [Value.cells] at e
  obtain ⟨rfl, rfl, rfl⟩ := e
  exact ⟨_, _, _, xs, rfl, hr⟩
end
end Go.Proofs.YthgdgjpckgfmbaaDoor
