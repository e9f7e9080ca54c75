/-
  strconv.ParseUint at base 16 and 8 bits, at every string.
-/
import Derived.Test.YtemhahfodblehaaDoorHex16
namespace Go.Proofs.YtemhahfodblehaaDoor
open Go.RowKit Go.Shelf

theorem Kn.c0 {W : World} (k : Kn W) : ∃ tp p, W.cell? ⟨0, 0, none⟩ = some (.iface tp p) := by
  obtain ⟨tp, p, h⟩ := k.syn
  exact ⟨tp, p, by simpa using World.var?_cell g0_ h 0⟩
theorem Kn.c1 {W : World} (k : Kn W) : ∃ tp p, W.cell? ⟨1, 0, none⟩ = some (.iface tp p) := by
  obtain ⟨tp, p, h⟩ := k.rng
  exact ⟨tp, p, by simpa using World.var?_cell g1_ h 0⟩
theorem toErr_any (fn s : ByteArray) (c b : Int) (ev : Value) (hev : ev = .iface 74 (.int .i64 1) ∨ ev = .iface 74 (.int .i64 2)) (w : World) (k : Kn w) (hs : s.size ≤ 1000) :
    Calls Tryd.prog 48 #[.string fn, .string s, .int .i64 c, .int .i64 b, ev] w fun e w' => (∃ p, e = .returned (.iface 75 p)) ∧ Below w.heap.size w w' := by
  rcases hev with rfl | rfl
  · obtain ⟨tp, p, h⟩ := k.c1
    refine (AnyPu.strconv_toError_range (P := Tryd.prog) (ρ := Tryd.laysPu14_ren) { Tryd.laysPu14 with } fn s c b _ w (by omega) h (.inr ⟨_, _, rfl⟩)).mono ?_
    rintro e w' ⟨N, rfl, _, _, hb⟩
    exact ⟨⟨_, rfl⟩, hb⟩
  · obtain ⟨tp, p, h⟩ := k.c0
    refine (AnyPu.strconv_toError_syntax (P := Tryd.prog) (ρ := Tryd.laysPu14_ren) { Tryd.laysPu14 with } fn s c b _ w (by omega) h (.inr ⟨_, _, rfl⟩)).mono ?_
    rintro e w' ⟨N, rfl, _, _, hb⟩
    exact ⟨⟨_, rfl⟩, hb⟩
/-- What ParseUint at base 16 and 8 bits answers. -/
def Num16 (l : List UInt8) (u : Int) (ev : Value) : Prop :=
  (0 ≤ u ∧ u ≤ 255) ∧ ((parse16 l = some u ∧ ev = .nilIface) ∨ (parse16 l = none ∧ ∃ p, ev = .iface 75 p))
theorem uint16_any (l : List UInt8) (w : World) (k : Kn w) (hl : l.length ≤ 1000) : Calls Tryd.prog 39 #[strV l, .int .i64 16, .int .i64 8] w fun e w' => (∃ u ev, e = .returned (.tuple #[.int .u64 u, ev]) ∧ Num16 l u ev) ∧ Below w.heap.size w w' := by
  have hs : (⟨l.toArray⟩ : ByteArray).size ≤ 1000 := by show l.toArray.size ≤ _; simpa using hl
  have hin := inner16 l hl w
  go_enter Tryd.func39, Tryd.ntmps39
  go_wp2_with fail
  with_reducible refine hin.mono ?_
  rintro e w1 ⟨⟨u, ev, rfl, hu, h⟩, hb⟩
  replace k := k.step hb
  rcases h with ⟨h1, rfl⟩ | ⟨h1, h2⟩
  · go_wp2
    go_ret2
    exact ⟨⟨_, _, rfl, hu, .inl ⟨h1, rfl⟩⟩, hb⟩
  · have ht := toErr_any ⟨#[80, 97, 114, 115, 101, 85, 105, 110, 116]⟩ ⟨l.toArray⟩ 16 8 ev h2 w1 k hs
    have hne : ∃ z, ev = .iface 74 z := by rcases h2 with rfl | rfl <;> exact ⟨_, rfl⟩
    obtain ⟨z, rfl⟩ := hne
    clear h2
    go_wp2_with fail
    with_reducible refine ht.mono ?_
    rintro e w2 ⟨⟨p, rfl⟩, hb2⟩
    go_wp2
    go_ret2
    exact ⟨⟨_, _, rfl, hu, .inr ⟨h1, _, rfl⟩⟩, hb.trans (hb2.mono hb.size)⟩
end Go.Proofs.YtemhahfodblehaaDoor
