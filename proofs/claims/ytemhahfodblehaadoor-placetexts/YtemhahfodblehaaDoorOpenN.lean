/-
  From an argument that came in to its plain numbers: subnets, Macs, numbers, strings.
-/
import Derived.Test.YtemhahfodblehaaDoorKnow
import Derived.Lib.SmallJoins
import Derived.OpenShut
import Derived.ChangeArms
import Derived.ChangeMaps5
namespace Go.Proofs.YtemhahfodblehaaDoor
open Go.Joins Go.ChangeShapes Go.WideShapes Go.RowKit Go.Deep

section
variable {H : Type} {enc : TypeId × Value → H} {w : World} {base : Nat} {spare : Nat → Bool} {held : Bool} {r : Reach} {b0 : Nat} {v : Value} {d : DataW H} {p : List MemPlace}
set_option maxRecDepth 100000 in
theorem open_net (hv : Value.okWide Tryd.prog w r b0 24 v) (h : DataW.Trod enc Tryd.prog w base spare held 24 v d p) : ∃ ip b, v = .agg #[.int .u32 ip, .int .i64 b] ∧ W32 ip := by
  obtain ⟨v0, v1, y0, y1, n, rfl, _, _, h0, h1⟩ := open_agg2 Tryd.underlying24 (by kernel_rfl) (by kernel_rfl) hv h
  obtain ⟨ip, e0, _, hw⟩ := DataW.trod_int Tryd.underlying22 h0
  obtain ⟨b, e1, _, _⟩ := DataW.trod_int Tryd.underlying3 h1
  simp only [List.cons.injEq, and_true] at e0 e1
  subst e0
  subst e1
  exact ⟨ip, b, rfl, u32_bd hw⟩
set_option maxRecDepth 100000 in
theorem open_num {t : TypeId} {k : IntKind} (ht : Tryd.prog.underlying t = some (.int k)) (hv : Value.okWide Tryd.prog w r b0 t v) (h : DataW.Trod enc Tryd.prog w base spare held t v d p) : ∃ a, v = .int k a ∧ (Lit.int k a).wf = true := by
  obtain ⟨a, rfl, _, _, hw⟩ := open_int ht hv h
  exact ⟨a, rfl, hw⟩
set_option maxRecDepth 100000 in
theorem open_str (hv : Value.okWide Tryd.prog w r b0 9 v) (h : DataW.Trod enc Tryd.prog w base spare held 9 v d p) : ∃ l, v = strV l := by
  obtain ⟨s, rfl, _, _, _⟩ := ChangeMaps.open_string Tryd.underlying9 hv h
  exact ⟨s.data.toList, by simp [strV]⟩
set_option maxRecDepth 100000 in
theorem open_mac (hv : Value.okWide Tryd.prog w r b0 37 v) (h : DataW.Trod enc Tryd.prog w base spare held 37 v d p) :
    ∃ a b c d e f : Nat, v = .agg #[.int .u8 a, .int .u8 b, .int .u8 c, .int .u8 d, .int .u8 e, .int .u8 f] ∧ (a < 256 ∧ b < 256 ∧ c < 256 ∧ d < 256 ∧ e < 256 ∧ f < 256) := by
  have hag : ∃ cs, v = .agg cs ∧ cs.size = 6 := by
    simp only [Value.okWide, Tryd.underlying37] at hv
    obtain ⟨cs, h1, h2, _⟩ := hv
    exact ⟨cs, h1, h2.trans (by kernel_rfl)⟩
  obtain ⟨cs, rfl, hsz⟩ := hag
  obtain ⟨l⟩ := cs
  match l, hsz with
  | [c0, c1, c2, c3, c4, c5], _ =>
    obtain ⟨fuel, hf⟩ := h
    obtain ⟨xs, m, _, _, _, hl, hg⟩ := DataW.trod_array Tryd.underlying37 hf
    have c5_ : Tryd.prog.cellsOf 5 = 1 := by kernel_rfl
    have key : ∀ i (hi : i < 6), ∃ n : Nat, n < 256 ∧ [c0, c1, c2, c3, c4, c5][i]? = some (.int .u8 n) := by
      intro i hi
      have h1 := hg i hi
      rw [c5_, Nat.mul_one] at h1
      have hx : xs[i]? = some (xs[i]'(by omega)) := List.getElem?_eq_getElem (by omega)
      rw [hx] at h1
      obtain ⟨n, e1, _, hw⟩ := DataW.trod_int Tryd.underlying5 h1
      obtain ⟨h0, h255⟩ := u8_bd hw
      obtain ⟨n', rfl⟩ := Int.eq_ofNat_of_zero_le h0
      refine ⟨n', by omega, ?_⟩
      have : (([c0, c1, c2, c3, c4, c5].drop i).take 1)[0]? = some (.int .u8 (n' : Int)) := by
        simp only [Value.cells] at e1
        rw [e1]; rfl
      rw [List.getElem?_take_of_lt (by omega), List.getElem?_drop, Nat.add_zero] at this
      exact this
    obtain ⟨n0, l0, e0⟩ := key 0 (by omega)
    obtain ⟨n1, l1, e1⟩ := key 1 (by omega)
    obtain ⟨n2, l2, e2⟩ := key 2 (by omega)
    obtain ⟨n3, l3, e3⟩ := key 3 (by omega)
    obtain ⟨n4, l4, e4⟩ := key 4 (by omega)
    obtain ⟨n5, l5, e5⟩ := key 5 (by omega)
    simp at e0 e1 e2 e3 e4 e5
    subst e0 e1 e2 e3 e4 e5
    exact ⟨n0, n1, n2, n3, n4, n5, rfl, l0, l1, l2, l3, l4, l5⟩
end
end Go.Proofs.YtemhahfodblehaaDoor
