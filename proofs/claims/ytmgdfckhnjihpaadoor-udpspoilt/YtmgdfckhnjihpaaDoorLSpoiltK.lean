/-
  The law UdpSpoilt: with one byte changed a datagram with a sum isn't parsed as it was; a bare one's ports and body are those that stand there.
-/
import Derived.Test.YtmgdfckhnjihpaaDoorUSpo
import Derived.Test.YtmgdfckhnjihpaaDoorUWp
namespace Go.Proofs.YtmgdfckhnjihpaaDoor
open Go.RowKit
set_option linter.unusedVariables false

/-- What the walk knows behind Parse, of a bare one. -/
structure KB (w : World) (h : Hd) (A : Option Addr) (n c : Nat) (p0 p1 : Int) (gx g1 g : Nat) (Z : List Int) (W : World) : Prop where
  kn : Kn w W
  d : PkAt W w.heap.size 28 h A n c
  x : PkAt W gx 28 ⟨p0, p1, true⟩ (some ⟨g1, 0, none⟩) n n
  r1 : Row W g1 (Z.drop 8)
  b : Row W g Z
theorem KB.step {w W V : World} {h : Hd} {A : Option Addr} {n c : Nat} {p0 p1 : Int} {gx g1 g : Nat} {Z : List Int} (q : KB w h A n c p0 p1 gx g1 g Z W) (hb : Below W.heap.size W V) : KB w h A n c p0 p1 gx g1 g Z V :=
  ⟨q.kn.step hb, q.d.step hb, q.x.step hb, q.r1.below hb q.r1.lt, q.b.below hb q.b.lt⟩
end Go.Proofs.YtmgdfckhnjihpaaDoor
