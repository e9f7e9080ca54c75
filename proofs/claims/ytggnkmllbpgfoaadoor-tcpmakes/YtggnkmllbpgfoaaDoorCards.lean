/-
  DERIVED. GIVEN WITH THE SEED: THE CARDS: each row of YtggnkmllbpgfoaaDoorRows.lean that lists a variable, with what it lists TIED to the program's text (the seventh form; the later family's looks); each row that meets fmt, with fmt's text TOLD by the authors' own Lean function (tested against real Go, not proved from fmt's source: count such statements apart). THE CARD IS WHAT COUNTS. Prove the row's statement (the work); the ties are given (YtggnkmllbpgfoaaDoorTie.lean); close each card by the builder's one call (the guide's Derived/Test/ToyasCard.lean, 'card_holds'). Laid BY PROGRAM, IN A SANDBOX (cutbox-door.mjs). By AI agents, Wed Nov 11 2026. No macro, syntax, notation, axiom, sorry.
-/
import Derived.Test.YtggnkmllbpgfoaaDoorRows
import GoSem.ClaimSeven
namespace Go.Proofs.YtggnkmllbpgfoaaDoor
namespace Rows

/-- THE TIED CARD OF 'vizardlaw09.TcpParses'. -/
def tcpParsesCard : Claim7 := { stood := { row := tcpParsesRow, standIns := [], harness := (true, "254388f746d51099651721af77047722fb8bd42319f9d39d45772cfdcf169a07"), looks := true }, kinds := [], alts := [], laidByText := true, laidKinds := [.handle], laidTests := true, laidLooks := .later }
def TcpParsesCardSaid : Prop := Claim7.holds Tryd.pinned (.plain (OpenSpec.ofChange tcpParsesSpec)) tcpParsesCard

/-- THE TIED CARD OF 'vizardlaw09.TcpMakes'. -/
def tcpMakesCard : Claim7 := { stood := { row := tcpMakesRow, standIns := [], harness := (true, "254388f746d51099651721af77047722fb8bd42319f9d39d45772cfdcf169a07"), looks := true }, kinds := [], alts := [], laidByText := true, laidKinds := [.handle], laidTests := true, laidLooks := .later }
def TcpMakesCardSaid : Prop := Claim7.holds Tryd.pinned (.plain (OpenSpec.ofChange tcpMakesSpec)) tcpMakesCard

/-- THE SECOND FORM's CARD OF 'vizardlaw09.TcpParses'. -/
def tcpParsesUptoCard : Claim7 := { stood := { row := tcpParsesUptoRow, standIns := [], harness := (true, "254388f746d51099651721af77047722fb8bd42319f9d39d45772cfdcf169a07"), looks := true }, kinds := [], alts := [], laidByText := true, laidKinds := [.handle], laidTests := true, laidLooks := .later }
def TcpParsesUptoCardSaid : Prop := Claim7.holds Tryd.pinned (.plain (OpenSpec.upto tcpParsesSpec)) tcpParsesUptoCard

/-- THE SECOND FORM's CARD OF 'vizardlaw09.TcpMakes'. -/
def tcpMakesUptoCard : Claim7 := { stood := { row := tcpMakesUptoRow, standIns := [], harness := (true, "254388f746d51099651721af77047722fb8bd42319f9d39d45772cfdcf169a07"), looks := true }, kinds := [], alts := [], laidByText := true, laidKinds := [.handle], laidTests := true, laidLooks := .later }
def TcpMakesUptoCardSaid : Prop := Claim7.holds Tryd.pinned (.plain (OpenSpec.upto tcpMakesSpec)) tcpMakesUptoCard
end Rows
end Go.Proofs.YtggnkmllbpgfoaaDoor
