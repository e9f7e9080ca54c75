/-
  DERIVED. GIVEN WITH THE SEED: THE CARDS: each row of YteddpmjjahfmiaaDoorRows.lean that lists a variable, with what it lists TIED to the program's text (the seventh form; the later family's looks); each row that meets fmt, with fmt's text TOLD by the authors' own Lean function (tested against real Go, not proved from fmt's source: count such statements apart). THE CARD IS WHAT COUNTS. Prove the row's statement (the work); the ties are given (YteddpmjjahfmiaaDoorTie.lean); close each card by the builder's one call (the guide's Derived/Test/ToyasCard.lean, 'card_holds'). Laid BY PROGRAM, IN A SANDBOX (cutbox-door.mjs). By AI agents, Wed Nov 11 2026. No macro, syntax, notation, axiom, sorry.
-/
import Derived.Test.YteddpmjjahfmiaaDoorRows
import GoSem.ClaimSeven
namespace Go.Proofs.YteddpmjjahfmiaaDoor
namespace Rows

/-- THE TIED CARD OF 'vizardlaw05.EtherParses'. -/
def etherParsesCard : Claim7 := { stood := { row := etherParsesRow, standIns := [], harness := (true, "37ad5cb29a5662f007ff8315c023538a310cf150e2cefc9afdebefdc5bb502d6"), looks := true }, kinds := [], alts := [], laidByText := true, laidKinds := [.handle], laidTests := true, laidLooks := .later }
def EtherParsesCardSaid : Prop := Claim7.holds Tryd.pinned (.plain (OpenSpec.ofChange etherParsesSpec)) etherParsesCard

/-- THE TIED CARD OF 'vizardlaw05.EtherWrites'. -/
def etherWritesCard : Claim7 := { stood := { row := etherWritesRow, standIns := [], harness := (true, "37ad5cb29a5662f007ff8315c023538a310cf150e2cefc9afdebefdc5bb502d6"), looks := true }, kinds := [], alts := [], laidByText := true, laidKinds := [.handle], laidTests := true, laidLooks := .later }
def EtherWritesCardSaid : Prop := Claim7.holds Tryd.pinned (.plain (OpenSpec.ofChange etherWritesSpec)) etherWritesCard

/-- THE TIED CARD OF 'vizardlaw05.EtherCuts'. -/
def etherCutsCard : Claim7 := { stood := { row := etherCutsRow, standIns := [], harness := (true, "37ad5cb29a5662f007ff8315c023538a310cf150e2cefc9afdebefdc5bb502d6"), looks := true }, kinds := [], alts := [], laidByText := true, laidKinds := [.handle], laidTests := true, laidLooks := .later }
def EtherCutsCardSaid : Prop := Claim7.holds Tryd.pinned (.plain (OpenSpec.ofChange etherCutsSpec)) etherCutsCard

/-- THE TIED CARD OF 'vizardlaw05.EtherFor'. -/
def etherForCard : Claim7 := { stood := { row := etherForRow, standIns := [], harness := (true, "37ad5cb29a5662f007ff8315c023538a310cf150e2cefc9afdebefdc5bb502d6"), looks := true }, kinds := [], alts := [], laidByText := true, laidKinds := [.handle], laidTests := true, laidLooks := .later }
def EtherForCardSaid : Prop := Claim7.holds Tryd.pinned (.plain (OpenSpec.ofChange etherForSpec)) etherForCard

/-- THE SECOND FORM's CARD OF 'vizardlaw05.EtherParses'. -/
def etherParsesUptoCard : Claim7 := { stood := { row := etherParsesUptoRow, standIns := [], harness := (true, "37ad5cb29a5662f007ff8315c023538a310cf150e2cefc9afdebefdc5bb502d6"), looks := true }, kinds := [], alts := [], laidByText := true, laidKinds := [.handle], laidTests := true, laidLooks := .later }
def EtherParsesUptoCardSaid : Prop := Claim7.holds Tryd.pinned (.plain (OpenSpec.upto etherParsesSpec)) etherParsesUptoCard

/-- THE SECOND FORM's CARD OF 'vizardlaw05.EtherWrites'. -/
def etherWritesUptoCard : Claim7 := { stood := { row := etherWritesUptoRow, standIns := [], harness := (true, "37ad5cb29a5662f007ff8315c023538a310cf150e2cefc9afdebefdc5bb502d6"), looks := true }, kinds := [], alts := [], laidByText := true, laidKinds := [.handle], laidTests := true, laidLooks := .later }
def EtherWritesUptoCardSaid : Prop := Claim7.holds Tryd.pinned (.plain (OpenSpec.upto etherWritesSpec)) etherWritesUptoCard

/-- THE SECOND FORM's CARD OF 'vizardlaw05.EtherCuts'. -/
def etherCutsUptoCard : Claim7 := { stood := { row := etherCutsUptoRow, standIns := [], harness := (true, "37ad5cb29a5662f007ff8315c023538a310cf150e2cefc9afdebefdc5bb502d6"), looks := true }, kinds := [], alts := [], laidByText := true, laidKinds := [.handle], laidTests := true, laidLooks := .later }
def EtherCutsUptoCardSaid : Prop := Claim7.holds Tryd.pinned (.plain (OpenSpec.upto etherCutsSpec)) etherCutsUptoCard

/-- THE SECOND FORM's CARD OF 'vizardlaw05.EtherFor'. -/
def etherForUptoCard : Claim7 := { stood := { row := etherForUptoRow, standIns := [], harness := (true, "37ad5cb29a5662f007ff8315c023538a310cf150e2cefc9afdebefdc5bb502d6"), looks := true }, kinds := [], alts := [], laidByText := true, laidKinds := [.handle], laidTests := true, laidLooks := .later }
def EtherForUptoCardSaid : Prop := Claim7.holds Tryd.pinned (.plain (OpenSpec.upto etherForSpec)) etherForUptoCard
end Rows
end Go.Proofs.YteddpmjjahfmiaaDoor
