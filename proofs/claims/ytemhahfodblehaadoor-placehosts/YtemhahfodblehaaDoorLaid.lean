/-
  From the listed variables to what the walks know; a world that meets the condition.
-/
import Derived.Test.YtemhahfodblehaaDoorRows
import Derived.Test.YtemhahfodblehaaDoorCards
import Derived.Test.YtemhahfodblehaaDoorTie
import Derived.Test.YtemhahfodblehaaDoorKnow
import Derived.ChangeSame
import Derived.ChangeVars
import Derived.JoinedOf
import Derived.RowKit
import Derived.RowKitTokens
import Derived.LaidLaws
import Derived.LaidHandle
import Derived.MakeChecks
import Derived.Lib.LaidTab
import Derived.HandedShaped
import Derived.Stop.Joined
import Derived.Stop.LaidErr
namespace Go.Proofs.YtemhahfodblehaaDoor
open Go.ChangeShapes Go.WideShapes Go.RowKit

theorem ownKnob_ : ownKnob Tryd.prog.godebug = none := by kernel_rfl
theorem laidOut_ : laidOutB Tryd.prog = true := by kernel_rfl
theorem ty0_ : (Tryd.prog.globals[0]?).map (·.type) = some 59 := by kernel_rfl
theorem ty1_ : (Tryd.prog.globals[1]?).map (·.type) = some 59 := by kernel_rfl
theorem ty3_ : (Tryd.prog.globals[3]?).map (·.type) = some 108 := by kernel_rfl
theorem g5_ : Tryd.prog.globalNamed "math/bits.deBruijn64tab" = some 5 := by kernel_rfl
theorem cells96_ : Tryd.prog.cellsOf 96 = 1 := by kernel_rfl
theorem cells9_ : Tryd.prog.cellsOf 9 = 1 := by kernel_rfl
theorem cells52_ : Tryd.prog.cellsOf 52 = 1 := by kernel_rfl
theorem cells108_ : Tryd.prog.cellsOf 108 = 20 := by kernel_rfl
theorem star_ : "*" ++ "errors.errorString" = "*errors.errorString" := by decide
theorem row94_ (u : TypeId) (h : Tryd.prog.typeName? 3 u = some "*errors.errorString") : u = 94 :=
  typeName_ptr_named (nm := "errors.errorString") (by rw [star_]; kernel_rfl) (by kernel_rfl) (by decide) u (by rw [star_]; exact h)
def laidL : List (String × DataW Unit) := [("math/bits.deBruijn32tab", Rows.laid_math_bits_deBruijn32tab), ("math/bits.deBruijn64tab", Rows.laid_math_bits_deBruijn64tab), ("internal/strconv.uint64pow10", Rows.laid_internal_strconv_uint64pow10), ("strconv.ErrRange", Rows.laid_strconv_ErrRange), ("strconv.ErrSyntax", Rows.laid_strconv_ErrSyntax)]

/-- What the condition and the world's shape give a walk. -/
theorem kn_of {W : World} (h : laidMetH Tryd.prog laidL W) (hsh : W.ShapedOpen Tryd.prog) : Kn W := by
  rw [MakeChecks.laidMetH_plain _ _ _ (by kernel_rfl)] at h
  have htab : Lib.TabIs Tryd.prog W "internal/strconv.uint64pow10" .u64 Lib.pow10Tab := Lib.tabIs_of_head g3_ ty3_ Tryd.underlying108 Tryd.underlying52 cells52_ cells108_ h.tail.tail
  obtain ⟨a1, s1, hv1, -, -, -⟩ := laid_sentinel h.tail.tail.tail g1_ ty1_ Tryd.underlying59 row94_ Tryd.underlying94 Tryd.underlying96 rfl rfl Tryd.underlying9 cells96_ cells9_
  obtain ⟨a0, s0, hv0, -, -, -⟩ := laid_sentinel h.tail.tail.tail.tail g0_ ty0_ Tryd.underlying59 row94_ Tryd.underlying94 Tryd.underlying96 rfl rfl Tryd.underlying9 cells96_ cells9_
  have h5 : 5 < W.heap.size := by
    obtain ⟨ps, hv, _⟩ := h.tail
    obtain ⟨g, t, cs, fuel, p, q, e1, _, e3, _⟩ := hv
    obtain rfl := Option.some.inj (g5_.symm.trans e1)
    unfold World.var? at e3
    rw [g5_] at e3
    simp only [Option.bind_some] at e3
    rcases Nat.lt_or_ge 5 W.heap.size with hlt | hge
    · exact hlt
    · rw [Array.getElem?_eq_none hge] at e3
      cases e3
  exact ⟨Go.Proofs.cell_of_shapedOpen_int (zero := #[.int .i64 0]) (t := 3) hsh (of_decide_eq_true (by kernel_rfl)) (by kernel_rfl) rfl (by kernel_rfl) (by kernel_rfl) Tryd.underlying3, htab, ⟨_, _, hv0⟩, ⟨_, _, hv1⟩, h5⟩

/-- So many blocks has the settled world. -/
noncomputable def low_ : Nat := (World.holding Tryd.prog default ⟨#[], #[], []⟩).heap.size
def layAt (g : Nat) (cs : Array Value) (heap : Array Obj) : Array Obj := heap.modify g fun
  | .cells _ t frozen => .cells cs t frozen
  | o => o
/-- A world that meets the condition: the settled one, two errors more, the variables' cells laid. -/
noncomputable def laidWorld (os : Os) : World :=
  let w0 := World.holding Tryd.prog os ⟨#[.cells #[.string ⟨#[105, 110, 118, 97, 108, 105, 100, 32, 115, 121, 110, 116, 97, 120]⟩] 96, .cells #[.string ⟨#[118, 97, 108, 117, 101, 32, 111, 117, 116, 32, 111, 102, 32, 114, 97, 110, 103, 101]⟩] 96], #[], []⟩
  { w0 with heap := layAt 5 #[.int .u8 0, .int .u8 1, .int .u8 56, .int .u8 2, .int .u8 57, .int .u8 49, .int .u8 28, .int .u8 3, .int .u8 61, .int .u8 58, .int .u8 42, .int .u8 50, .int .u8 38, .int .u8 29, .int .u8 17, .int .u8 4, .int .u8 62, .int .u8 47, .int .u8 59, .int .u8 36, .int .u8 45, .int .u8 43, .int .u8 51, .int .u8 22, .int .u8 53, .int .u8 39, .int .u8 33, .int .u8 30, .int .u8 24, .int .u8 18, .int .u8 12, .int .u8 5, .int .u8 63, .int .u8 55, .int .u8 48, .int .u8 27, .int .u8 60, .int .u8 41, .int .u8 37, .int .u8 16, .int .u8 46, .int .u8 35, .int .u8 44, .int .u8 21, .int .u8 52, .int .u8 32, .int .u8 23, .int .u8 11, .int .u8 54, .int .u8 26, .int .u8 40, .int .u8 15, .int .u8 34, .int .u8 20, .int .u8 31, .int .u8 10, .int .u8 25, .int .u8 14, .int .u8 19, .int .u8 9, .int .u8 13, .int .u8 8, .int .u8 7, .int .u8 6] (layAt 4 #[.int .u8 0, .int .u8 1, .int .u8 28, .int .u8 2, .int .u8 29, .int .u8 14, .int .u8 24, .int .u8 3, .int .u8 30, .int .u8 22, .int .u8 20, .int .u8 15, .int .u8 25, .int .u8 17, .int .u8 4, .int .u8 8, .int .u8 31, .int .u8 27, .int .u8 13, .int .u8 23, .int .u8 21, .int .u8 19, .int .u8 16, .int .u8 7, .int .u8 26, .int .u8 12, .int .u8 18, .int .u8 6, .int .u8 11, .int .u8 5, .int .u8 10, .int .u8 9] (layAt 3 #[.int .u64 1, .int .u64 10, .int .u64 100, .int .u64 1000, .int .u64 10000, .int .u64 100000, .int .u64 1000000, .int .u64 10000000, .int .u64 100000000, .int .u64 1000000000, .int .u64 10000000000, .int .u64 100000000000, .int .u64 1000000000000, .int .u64 10000000000000, .int .u64 100000000000000, .int .u64 1000000000000000, .int .u64 10000000000000000, .int .u64 100000000000000000, .int .u64 1000000000000000000, .int .u64 10000000000000000000] (layAt 1 #[.iface 94 (.pointer (some ⟨low_ + 1, 0, none⟩))] (layAt 0 #[.iface 94 (.pointer (some ⟨low_, 0, none⟩))] w0.heap)))) }
theorem laidWorld_met (os : Os) (args : Array Value) : laidMetH Tryd.prog laidL ((laidWorld os).forCall (fun _ _ => 0) ⟨#[], args, []⟩).memory := by
  rw [MakeChecks.laidMetH_plain _ _ _ (by kernel_rfl)]
  exact laidMet_of_run' 8 (by kernel_rfl) (by kernel_rfl)
end Go.Proofs.YtemhahfodblehaaDoor
