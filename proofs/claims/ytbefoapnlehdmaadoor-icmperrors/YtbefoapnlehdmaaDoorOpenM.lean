/-
  From a slice that came in to what the walks are told of it.
-/
import Derived.Test.YtbefoapnlehdmaaDoorBase
import Derived.Test.YtbefoapnlehdmaaDoorMk
import Derived.Lib.SmallJoins
import Derived.OpenShut
import Derived.ChangeArms
import Derived.ChangeMaps5
namespace Go.Proofs.YtbefoapnlehdmaaDoor
open Go.RowKit

theorem rd_of {k : IntKind} {w : World} {A : Option Addr} {n c : Nat} {zs : List Int}
    (h : (A = none ∧ n = 0 ∧ c = 0 ∧ zs = []) ∨ ∃ x, A = some x ∧ n ≤ c ∧ c ≤ maxLen ∧ zs.length = c ∧ (∀ i, i < zs.length → w.cell? (x.add i) = some (.int k (zs.getD i 0))) ∧ ∀ m ∈ zs, (Lit.int k m).wf = true) :
    Rd k w w.heap.size A n c (zs.take n) := by
  rcases h with ⟨rfl, rfl, rfl, rfl⟩ | ⟨x, rfl, h1, h2, h3, h4, h5⟩
  · exact Rd.nil
  · refine ⟨by simp; omega, h1, ⟨h2, fun e => by cases e⟩, fun m hm => h5 m (List.mem_of_mem_take hm), fun i hi => ?_⟩
    obtain ⟨b, o, sp⟩ := x
    have h0 := h4 0 (by omega)
    have hsp : sp = none := by simpa [Addr.add] using World.cell?_spot h0
    subst hsp
    have hc := h4 i (by omega)
    have ha : (⟨b, o, none⟩ : Addr).add i = ⟨b, o + i, none⟩ := by unfold Addr.add; split <;> simp_all
    rw [ha] at hc
    refine ⟨b, o, rfl, World.block_lt_of_cell? w _ hc, ?_⟩
    rw [hc]
    simp [List.getD, hi]
end Go.Proofs.YtbefoapnlehdmaaDoor

namespace Go.Proofs.YtbefoapnlehdmaaDoor
open Go.Joins Go.ChangeShapes Go.WideShapes Go.RowKit Go.Deep

theorem u32_bd {x : Int} (h : (Lit.int .u32 x).wf = true) : 0 ≤ x ∧ x < 4294967296 := by
  have : 0 ≤ x ∧ x ≤ 4294967295 := by simpa [Lit.wf, IntKind.min, IntKind.max, IntKind.signed, IntKind.bits] using h
  omega
section
variable {H : Type} {enc : TypeId × Value → H} {w : World} {base : Nat} {spare : Nat → Bool} {held : Bool} {r : Reach} {b0 : Nat} {v : Value} {d : DataW H} {p : List MemPlace} {fuel : Nat} {cs : List Value} {x : DataW H × List MemPlace}
theorem cells25a_ : Tryd.prog.cellsOf 25 = 4 := by kernel_rfl
theorem cells27_ : Tryd.prog.cellsOf 27 = 7 := by kernel_rfl
theorem cells4_ : Tryd.prog.cellsOf 4 = 1 := by kernel_rfl
theorem cells5_ : Tryd.prog.cellsOf 5 = 1 := by kernel_rfl
theorem cells22_ : Tryd.prog.cellsOf 22 = 1 := by kernel_rfl
theorem cells45_ : Tryd.prog.cellsOf 45 = 1 := by kernel_rfl
theorem cells58_ : Tryd.prog.cellsOf 58 = 1 := by kernel_rfl
theorem cells60_ : Tryd.prog.cellsOf 60 = 8 := by kernel_rfl
theorem bytes_of (h : DataW.trod enc Tryd.prog w base (fun _ => true) held fuel 22 cs = some x) : ∃ A n c xs, cs = [.slice A n c] ∧ Rd .u8 w w.heap.size A n c xs := by
  rcases open_ints Tryd.underlying22 Tryd.underlying5 (by kernel_rfl) h with ⟨hcs, _⟩ | ⟨a, l, c, zs, hcs, _, hl, hm, hz, _, hcell, hwz⟩
  · exact ⟨none, 0, 0, [], hcs, Rd.nil⟩
  · exact ⟨some a, l, c, zs.take l, hcs, rd_of (.inr ⟨a, rfl, hl, hm, by simpa using hz, hcell, hwz⟩)⟩
set_option maxRecDepth 100000 in
theorem open_packet (hv : Value.okWide Tryd.prog w r b0 60 v) (h : DataW.Trod enc Tryd.prog w base (fun _ => true) held 60 v d p) :
    ∃ (h : Hd) (A : Option Addr) (n c : Nat) (xs : List Int), v = pkV h A n c ∧ h.ok ∧ Rd .u8 w w.heap.size A n c xs := by
  obtain ⟨cs, rfl, hsz⟩ := okWide_struct Tryd.underlying60 hv
  obtain ⟨fuel, hf⟩ := h
  obtain ⟨parts, k, _, _, _, hp, hq⟩ := DataW.trod_struct Tryd.underlying60 hf
  have hq' : ∀ i, i < 8 → ∃ y, parts[i]? = some y := fun i hi => ⟨_, List.getElem?_eq_getElem (by simp at hp; omega)⟩
  obtain ⟨y0, g0⟩ := hq' 0 (by omega)
  obtain ⟨y1, g1⟩ := hq' 1 (by omega)
  obtain ⟨y2, g2⟩ := hq' 2 (by omega)
  obtain ⟨y3, g3⟩ := hq' 3 (by omega)
  obtain ⟨y4, g4⟩ := hq' 4 (by omega)
  obtain ⟨y5, g5⟩ := hq' 5 (by omega)
  obtain ⟨y6, g6⟩ := hq' 6 (by omega)
  obtain ⟨y7, g7⟩ := hq' 7 (by omega)
  have h0 := (hq 0 _ rfl).trans g0
  have h1 := (hq 1 _ rfl).trans g1
  have h2 := (hq 2 _ rfl).trans g2
  have h3 := (hq 3 _ rfl).trans g3
  have h4 := (hq 4 _ rfl).trans g4
  have h5 := (hq 5 _ rfl).trans g5
  have h6 := (hq 6 _ rfl).trans g6
  have h7 := (hq 7 _ rfl).trans g7
  obtain ⟨l⟩ := cs
  have hl : l.length = 8 := by simpa [cells60_] using hsz
  match l, hl with
  | [c0, c1, c2, c3, c4, c5, c6, c7], _ =>
    obtain ⟨a0, e0, _, k0⟩ := DataW.trod_int Tryd.underlying5 h0
    obtain ⟨a1, e1, _, k1⟩ := DataW.trod_int Tryd.underlying45 h1
    obtain ⟨a2, e2, _⟩ := DataW.trod_bool Tryd.underlying4 h2
    obtain ⟨a3, e3, _, k3⟩ := DataW.trod_int Tryd.underlying5 h3
    obtain ⟨a4, e4, _, k4⟩ := DataW.trod_int Tryd.underlying5 h4
    obtain ⟨a5, e5, _, k5⟩ := DataW.trod_int Tryd.underlying58 h5
    obtain ⟨a6, e6, _, k6⟩ := DataW.trod_int Tryd.underlying58 h6
    obtain ⟨A, n, c, xs, e7, hr⟩ := bytes_of h7
    simp [Value.cells, cells4_, cells5_, cells22_, cells45_, cells58_] at e0 e1 e2 e3 e4 e5 e6 e7
    subst e0 e1 e2 e3 e4 e5 e6 e7
    exact ⟨⟨a0, a1, a2, a3, a4, a5, a6⟩, A, n, c, xs, rfl, ⟨u8_bd k0, u16_bd k1, u8_bd k3, u8_bd k4, u32_bd k5, u32_bd k6⟩, hr⟩
set_option maxRecDepth 100000 in
theorem four_of (h : DataW.trod enc Tryd.prog w base spare held fuel 25 cs = some x) : ∃ a b c d : Int, (0 ≤ a ∧ a ≤ 255) ∧ (0 ≤ b ∧ b ≤ 255) ∧ (0 ≤ c ∧ c ≤ 255) ∧ (0 ≤ d ∧ d ≤ 255) ∧ cs = [.int .u8 a, .int .u8 b, .int .u8 c, .int .u8 d] := by
  obtain ⟨xs, k, _, _, hlen, hl, hg⟩ := DataW.trod_array Tryd.underlying25 h
  rw [cells25a_] at hlen
  match cs, hlen with
  | [c0, c1, c2, c3], _ =>
    have key : ∀ i (hi : i < 4), ∃ n : Int, (0 ≤ n ∧ n ≤ 255) ∧ [c0, c1, c2, c3][i]? = some (.int .u8 n) := by
      intro i hi
      have h1 := hg i hi
      rw [cells5_, Nat.mul_one] at h1
      have hx : xs[i]? = some (xs[i]'(by omega)) := List.getElem?_eq_getElem (by omega)
      rw [hx] at h1
      obtain ⟨n, e1, _, hw⟩ := DataW.trod_int Tryd.underlying5 h1
      refine ⟨n, u8_bd hw, ?_⟩
      have : (([c0, c1, c2, c3].drop i).take 1)[0]? = some (.int .u8 n) := by rw [e1]; rfl
      rw [List.getElem?_take_of_lt (by omega), List.getElem?_drop, Nat.add_zero] at this
      exact this
    obtain ⟨n0, l0, e0⟩ := key 0 (by omega)
    obtain ⟨n1, l1, e1⟩ := key 1 (by omega)
    obtain ⟨n2, l2, e2⟩ := key 2 (by omega)
    obtain ⟨n3, l3, e3⟩ := key 3 (by omega)
    simp at e0 e1 e2 e3
    subst e0 e1 e2 e3
    exact ⟨n0, n1, n2, n3, l0, l1, l2, l3, rfl⟩
set_option maxRecDepth 100000 in
theorem open_message (hv : Value.okWide Tryd.prog w r b0 27 v) (h : DataW.Trod enc Tryd.prog w base (fun _ => true) held 27 v d p) :
    ∃ (h : Ms) (A : Option Addr) (n c : Nat) (xs : List Int), v = msV h A n c ∧ h.ok ∧ Rd .u8 w w.heap.size A n c xs := by
  obtain ⟨cs, rfl, hsz⟩ := okWide_struct Tryd.underlying27 hv
  obtain ⟨fuel, hf⟩ := h
  obtain ⟨y0, y1, y2, y3, n, _, hlen, h0, h1, h2, h3⟩ := trod_struct4 Tryd.underlying27 hf
  obtain ⟨l⟩ := cs
  have hl : l.length = 7 := by simpa [cells27_] using hsz
  match l, hl with
  | [c0, c1, c2, c3, c4, c5, c6], _ =>
    obtain ⟨a0, e0, _, k0⟩ := DataW.trod_int Tryd.underlying5 h0
    obtain ⟨a1, e1, _, k1⟩ := DataW.trod_int Tryd.underlying5 h1
    obtain ⟨r0, r1, r2, r3, l0, l1, l2, l3, e2⟩ := four_of h2
    obtain ⟨A, n, c, xs, e3, hr⟩ := bytes_of h3
    simp [Value.cells, cells5_, cells25a_, cells22_] at e0 e1 e2 e3
    obtain ⟨rfl, rfl, rfl, rfl⟩ := e2
    subst e0 e1 e3
    exact ⟨⟨a0, a1, r0, r1, r2, r3⟩, A, n, c, xs, rfl, ⟨u8_bd k0, u8_bd k1, l0, l1, l2, l3⟩, hr⟩
set_option maxRecDepth 100000 in
theorem open_flag (hv : Value.okWide Tryd.prog w r b0 4 v) : ∃ b : Bool, v = .bool b := by
  exact okWide_bool Tryd.underlying4 hv
set_option maxRecDepth 100000 in
theorem open_num {t : TypeId} {k : IntKind} (ht : Tryd.prog.underlying t = some (.int k)) (hv : Value.okWide Tryd.prog w r b0 t v) (h : DataW.Trod enc Tryd.prog w base spare held t v d p) : ∃ a, v = .int k a ∧ (Lit.int k a).wf = true := by
  obtain ⟨a, rfl, _, _, hw⟩ := open_int ht hv h
  exact ⟨a, rfl, hw⟩
set_option maxRecDepth 100000 in
theorem open_bytes (hv : Value.okWide Tryd.prog w r b0 22 v) (h : DataW.Trod enc Tryd.prog w base (fun _ => true) held 22 v d p) : ∃ A n c xs, v = .slice A n c ∧ Rd .u8 w w.heap.size A n c xs := by
  obtain ⟨A, n, c, rfl⟩ := okWide_slice Tryd.underlying22 hv
  obtain ⟨fuel, hf⟩ := h
  obtain ⟨A', n', c', xs, e, hr⟩ := bytes_of hf
  simp [Value.cells] at e
  obtain ⟨rfl, rfl, rfl⟩ := e
  exact ⟨_, _, _, xs, rfl, hr⟩
end
end Go.Proofs.YtbefoapnlehdmaaDoor
