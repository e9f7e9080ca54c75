/-
  DERIVED. GIVEN WITH THE SEED: THE CARDS: each row of YthgdgjpckgfmbaaDoorRows.lean that lists a variable, with what it lists TIED to the program's text (the seventh form; the later family's looks); each row that meets fmt, with fmt's text TOLD by the authors' own Lean function (tested against real Go, not proved from fmt's source: count such statements apart). THE CARD IS WHAT COUNTS. Prove the row's statement (the work); the ties are given (YthgdgjpckgfmbaaDoorTie.lean); close each card by the builder's one call (the guide's Derived/Test/ToyasCard.lean, 'card_holds'). Laid BY PROGRAM, IN A SANDBOX (cutbox-door.mjs). By AI agents, Wed Nov 11 2026. No macro, syntax, notation, axiom, sorry.
-/
import Derived.Test.YthgdgjpckgfmbaaDoorRows
import GoSem.ClaimSeven
namespace Go.Proofs.YthgdgjpckgfmbaaDoor
namespace Rows

/-- THE TIED CARD OF 'vizardlaw07.InetParses'. -/
def inetParsesCard : Claim7 := { stood := { row := inetParsesRow, standIns := [], harness := (true, "15fe2b4f18855e841abf4bae8cf14e545f222323fb670d130179083d4581ed7d"), looks := true }, kinds := [], alts := [], laidByText := true, laidKinds := [.handle], laidTests := true, laidLooks := .later }
def InetParsesCardSaid : Prop := Claim7.holds Tryd.pinned (.plain (OpenSpec.ofChange inetParsesSpec)) inetParsesCard

/-- THE TIED CARD OF 'vizardlaw07.InetWrites'. -/
def inetWritesCard : Claim7 := { stood := { row := inetWritesRow, standIns := [], harness := (true, "15fe2b4f18855e841abf4bae8cf14e545f222323fb670d130179083d4581ed7d"), looks := true }, kinds := [], alts := [], laidByText := true, laidKinds := [.handle], laidTests := true, laidLooks := .later }
def InetWritesCardSaid : Prop := Claim7.holds Tryd.pinned (.plain (OpenSpec.ofChange inetWritesSpec)) inetWritesCard

/-- THE TIED CARD OF 'vizardlaw07.InetSpoilt'. -/
def inetSpoiltCard : Claim7 := { stood := { row := inetSpoiltRow, standIns := [], harness := (true, "15fe2b4f18855e841abf4bae8cf14e545f222323fb670d130179083d4581ed7d"), looks := true }, kinds := [], alts := [], laidByText := true, laidKinds := [.handle], laidTests := true, laidLooks := .later }
def InetSpoiltCardSaid : Prop := Claim7.holds Tryd.pinned (.plain (OpenSpec.ofChange inetSpoiltSpec)) inetSpoiltCard

/-- THE TIED CARD OF 'vizardlaw07.InetCuts'. -/
def inetCutsCard : Claim7 := { stood := { row := inetCutsRow, standIns := [], harness := (true, "15fe2b4f18855e841abf4bae8cf14e545f222323fb670d130179083d4581ed7d"), looks := true }, kinds := [], alts := [], laidByText := true, laidKinds := [.handle], laidTests := true, laidLooks := .later }
def InetCutsCardSaid : Prop := Claim7.holds Tryd.pinned (.plain (OpenSpec.ofChange inetCutsSpec)) inetCutsCard

/-- THE TIED CARD OF 'vizardlaw07.InetTtl'. -/
def inetTtlCard : Claim7 := { stood := { row := inetTtlRow, standIns := [], harness := (true, "15fe2b4f18855e841abf4bae8cf14e545f222323fb670d130179083d4581ed7d"), looks := true }, kinds := [], alts := [], laidByText := true, laidKinds := [.handle], laidTests := true, laidLooks := .later }
def InetTtlCardSaid : Prop := Claim7.holds Tryd.pinned (.plain (OpenSpec.ofChange inetTtlSpec)) inetTtlCard

/-- THE TIED CARD OF 'vizardlaw07.InetPeeks'. -/
def inetPeeksCard : Claim7 := { stood := { row := inetPeeksRow, standIns := [], harness := (true, "15fe2b4f18855e841abf4bae8cf14e545f222323fb670d130179083d4581ed7d"), looks := true }, kinds := [], alts := [], laidByText := true, laidKinds := [.handle], laidTests := true, laidLooks := .later }
def InetPeeksCardSaid : Prop := Claim7.holds Tryd.pinned (.plain (OpenSpec.ofChange inetPeeksSpec)) inetPeeksCard

/-- THE SECOND FORM's CARD OF 'vizardlaw07.InetParses'. -/
def inetParsesUptoCard : Claim7 := { stood := { row := inetParsesUptoRow, standIns := [], harness := (true, "15fe2b4f18855e841abf4bae8cf14e545f222323fb670d130179083d4581ed7d"), looks := true }, kinds := [], alts := [], laidByText := true, laidKinds := [.handle], laidTests := true, laidLooks := .later }
def InetParsesUptoCardSaid : Prop := Claim7.holds Tryd.pinned (.plain (OpenSpec.upto inetParsesSpec)) inetParsesUptoCard

/-- THE SECOND FORM's CARD OF 'vizardlaw07.InetWrites'. -/
def inetWritesUptoCard : Claim7 := { stood := { row := inetWritesUptoRow, standIns := [], harness := (true, "15fe2b4f18855e841abf4bae8cf14e545f222323fb670d130179083d4581ed7d"), looks := true }, kinds := [], alts := [], laidByText := true, laidKinds := [.handle], laidTests := true, laidLooks := .later }
def InetWritesUptoCardSaid : Prop := Claim7.holds Tryd.pinned (.plain (OpenSpec.upto inetWritesSpec)) inetWritesUptoCard

/-- THE SECOND FORM's CARD OF 'vizardlaw07.InetSpoilt'. -/
def inetSpoiltUptoCard : Claim7 := { stood := { row := inetSpoiltUptoRow, standIns := [], harness := (true, "15fe2b4f18855e841abf4bae8cf14e545f222323fb670d130179083d4581ed7d"), looks := true }, kinds := [], alts := [], laidByText := true, laidKinds := [.handle], laidTests := true, laidLooks := .later }
def InetSpoiltUptoCardSaid : Prop := Claim7.holds Tryd.pinned (.plain (OpenSpec.upto inetSpoiltSpec)) inetSpoiltUptoCard

/-- THE SECOND FORM's CARD OF 'vizardlaw07.InetCuts'. -/
def inetCutsUptoCard : Claim7 := { stood := { row := inetCutsUptoRow, standIns := [], harness := (true, "15fe2b4f18855e841abf4bae8cf14e545f222323fb670d130179083d4581ed7d"), looks := true }, kinds := [], alts := [], laidByText := true, laidKinds := [.handle], laidTests := true, laidLooks := .later }
def InetCutsUptoCardSaid : Prop := Claim7.holds Tryd.pinned (.plain (OpenSpec.upto inetCutsSpec)) inetCutsUptoCard

/-- THE SECOND FORM's CARD OF 'vizardlaw07.InetTtl'. -/
def inetTtlUptoCard : Claim7 := { stood := { row := inetTtlUptoRow, standIns := [], harness := (true, "15fe2b4f18855e841abf4bae8cf14e545f222323fb670d130179083d4581ed7d"), looks := true }, kinds := [], alts := [], laidByText := true, laidKinds := [.handle], laidTests := true, laidLooks := .later }
def InetTtlUptoCardSaid : Prop := Claim7.holds Tryd.pinned (.plain (OpenSpec.upto inetTtlSpec)) inetTtlUptoCard

/-- THE SECOND FORM's CARD OF 'vizardlaw07.InetPeeks'. -/
def inetPeeksUptoCard : Claim7 := { stood := { row := inetPeeksUptoRow, standIns := [], harness := (true, "15fe2b4f18855e841abf4bae8cf14e545f222323fb670d130179083d4581ed7d"), looks := true }, kinds := [], alts := [], laidByText := true, laidKinds := [.handle], laidTests := true, laidLooks := .later }
def InetPeeksUptoCardSaid : Prop := Claim7.holds Tryd.pinned (.plain (OpenSpec.upto inetPeeksSpec)) inetPeeksUptoCard
end Rows
end Go.Proofs.YthgdgjpckgfmbaaDoor
