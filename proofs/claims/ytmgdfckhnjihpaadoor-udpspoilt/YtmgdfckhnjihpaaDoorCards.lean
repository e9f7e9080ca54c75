/-
  DERIVED. GIVEN WITH THE SEED: THE CARDS: each row of YtmgdfckhnjihpaaDoorRows.lean that lists a variable, with what it lists TIED to the program's text (the seventh form; the later family's looks); each row that meets fmt, with fmt's text TOLD by the authors' own Lean function (tested against real Go, not proved from fmt's source: count such statements apart). THE CARD IS WHAT COUNTS. Prove the row's statement (the work); the ties are given (YtmgdfckhnjihpaaDoorTie.lean); close each card by the builder's one call (the guide's Derived/Test/ToyasCard.lean, 'card_holds'). Laid BY PROGRAM, IN A SANDBOX (cutbox-door.mjs). By AI agents, Wed Nov 11 2026. No macro, syntax, notation, axiom, sorry.
-/
import Derived.Test.YtmgdfckhnjihpaaDoorRows
import GoSem.ClaimSeven
namespace Go.Proofs.YtmgdfckhnjihpaaDoor
namespace Rows

/-- THE TIED CARD OF 'vizardlaw08.UdpParses'. -/
def udpParsesCard : Claim7 := { stood := { row := udpParsesRow, standIns := [], harness := (true, "ccaf86485597bf11eedb41a662218caca389f227f445011356adee9102345cf2"), looks := true }, kinds := [], alts := [], laidByText := true, laidKinds := [.handle], laidTests := true, laidLooks := .later }
def UdpParsesCardSaid : Prop := Claim7.holds Tryd.pinned (.plain (OpenSpec.ofChange udpParsesSpec)) udpParsesCard

/-- THE TIED CARD OF 'vizardlaw08.UdpWrites'. -/
def udpWritesCard : Claim7 := { stood := { row := udpWritesRow, standIns := [], harness := (true, "ccaf86485597bf11eedb41a662218caca389f227f445011356adee9102345cf2"), looks := true }, kinds := [], alts := [], laidByText := true, laidKinds := [.handle], laidTests := true, laidLooks := .later }
def UdpWritesCardSaid : Prop := Claim7.holds Tryd.pinned (.plain (OpenSpec.ofChange udpWritesSpec)) udpWritesCard

/-- THE TIED CARD OF 'vizardlaw08.UdpSpoilt'. -/
def udpSpoiltCard : Claim7 := { stood := { row := udpSpoiltRow, standIns := [], harness := (true, "ccaf86485597bf11eedb41a662218caca389f227f445011356adee9102345cf2"), looks := true }, kinds := [], alts := [], laidByText := true, laidKinds := [.handle], laidTests := true, laidLooks := .later }
def UdpSpoiltCardSaid : Prop := Claim7.holds Tryd.pinned (.plain (OpenSpec.ofChange udpSpoiltSpec)) udpSpoiltCard

/-- THE TIED CARD OF 'vizardlaw08.UdpSwaps'. -/
def udpSwapsCard : Claim7 := { stood := { row := udpSwapsRow, standIns := [], harness := (true, "ccaf86485597bf11eedb41a662218caca389f227f445011356adee9102345cf2"), looks := true }, kinds := [], alts := [], laidByText := true, laidKinds := [.handle], laidTests := true, laidLooks := .later }
def UdpSwapsCardSaid : Prop := Claim7.holds Tryd.pinned (.plain (OpenSpec.ofChange udpSwapsSpec)) udpSwapsCard

/-- THE SECOND FORM's CARD OF 'vizardlaw08.UdpParses'. -/
def udpParsesUptoCard : Claim7 := { stood := { row := udpParsesUptoRow, standIns := [], harness := (true, "ccaf86485597bf11eedb41a662218caca389f227f445011356adee9102345cf2"), looks := true }, kinds := [], alts := [], laidByText := true, laidKinds := [.handle], laidTests := true, laidLooks := .later }
def UdpParsesUptoCardSaid : Prop := Claim7.holds Tryd.pinned (.plain (OpenSpec.upto udpParsesSpec)) udpParsesUptoCard

/-- THE SECOND FORM's CARD OF 'vizardlaw08.UdpWrites'. -/
def udpWritesUptoCard : Claim7 := { stood := { row := udpWritesUptoRow, standIns := [], harness := (true, "ccaf86485597bf11eedb41a662218caca389f227f445011356adee9102345cf2"), looks := true }, kinds := [], alts := [], laidByText := true, laidKinds := [.handle], laidTests := true, laidLooks := .later }
def UdpWritesUptoCardSaid : Prop := Claim7.holds Tryd.pinned (.plain (OpenSpec.upto udpWritesSpec)) udpWritesUptoCard

/-- THE SECOND FORM's CARD OF 'vizardlaw08.UdpSpoilt'. -/
def udpSpoiltUptoCard : Claim7 := { stood := { row := udpSpoiltUptoRow, standIns := [], harness := (true, "ccaf86485597bf11eedb41a662218caca389f227f445011356adee9102345cf2"), looks := true }, kinds := [], alts := [], laidByText := true, laidKinds := [.handle], laidTests := true, laidLooks := .later }
def UdpSpoiltUptoCardSaid : Prop := Claim7.holds Tryd.pinned (.plain (OpenSpec.upto udpSpoiltSpec)) udpSpoiltUptoCard

/-- THE SECOND FORM's CARD OF 'vizardlaw08.UdpSwaps'. -/
def udpSwapsUptoCard : Claim7 := { stood := { row := udpSwapsUptoRow, standIns := [], harness := (true, "ccaf86485597bf11eedb41a662218caca389f227f445011356adee9102345cf2"), looks := true }, kinds := [], alts := [], laidByText := true, laidKinds := [.handle], laidTests := true, laidLooks := .later }
def UdpSwapsUptoCardSaid : Prop := Claim7.holds Tryd.pinned (.plain (OpenSpec.upto udpSwapsSpec)) udpSwapsUptoCard
end Rows
end Go.Proofs.YtmgdfckhnjihpaaDoor
