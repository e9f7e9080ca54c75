/-
  DERIVED. GIVEN WITH THE SEED: THE CARDS: each row of YtbefoapnlehdmaaDoorRows.lean that lists a variable, with what it lists TIED to the program's text (the seventh form; the later family's looks); each row that meets fmt, with fmt's text TOLD by the authors' own Lean function (tested against real Go, not proved from fmt's source: count such statements apart). THE CARD IS WHAT COUNTS. Prove the row's statement (the work); the ties are given (YtbefoapnlehdmaaDoorTie.lean); close each card by the builder's one call (the guide's Derived/Test/ToyasCard.lean, 'card_holds'). Laid BY PROGRAM, IN A SANDBOX (cutbox-door.mjs). By AI agents, Wed Nov 11 2026. No macro, syntax, notation, axiom, sorry.
-/
import Derived.Test.YtbefoapnlehdmaaDoorRows
import GoSem.ClaimSeven
namespace Go.Proofs.YtbefoapnlehdmaaDoor
namespace Rows

/-- THE TIED CARD OF 'vizardlaw10.IcmpParses'. -/
def icmpParsesCard : Claim7 := { stood := { row := icmpParsesRow, standIns := [], harness := (true, "51d5e6179b0021ef1883e2af4f474a935774553d0d0b990341822ebc197c1ad4"), looks := true }, kinds := [], alts := [], laidByText := true, laidKinds := [.handle], laidTests := true, laidLooks := .later }
def IcmpParsesCardSaid : Prop := Claim7.holds Tryd.pinned (.plain (OpenSpec.ofChange icmpParsesSpec)) icmpParsesCard

/-- THE TIED CARD OF 'vizardlaw10.IcmpWrites'. -/
def icmpWritesCard : Claim7 := { stood := { row := icmpWritesRow, standIns := [], harness := (true, "51d5e6179b0021ef1883e2af4f474a935774553d0d0b990341822ebc197c1ad4"), looks := true }, kinds := [], alts := [], laidByText := true, laidKinds := [.handle], laidTests := true, laidLooks := .later }
def IcmpWritesCardSaid : Prop := Claim7.holds Tryd.pinned (.plain (OpenSpec.ofChange icmpWritesSpec)) icmpWritesCard

/-- THE TIED CARD OF 'vizardlaw10.IcmpInner'. -/
def icmpInnerCard : Claim7 := { stood := { row := icmpInnerRow, standIns := [], harness := (true, "51d5e6179b0021ef1883e2af4f474a935774553d0d0b990341822ebc197c1ad4"), looks := true }, kinds := [], alts := [], laidByText := true, laidKinds := [.handle], laidTests := true, laidLooks := .later }
def IcmpInnerCardSaid : Prop := Claim7.holds Tryd.pinned (.plain (OpenSpec.ofChange icmpInnerSpec)) icmpInnerCard

/-- THE TIED CARD OF 'vizardlaw10.IcmpErrors'. -/
def icmpErrorsCard : Claim7 := { stood := { row := icmpErrorsRow, standIns := [], harness := (true, "51d5e6179b0021ef1883e2af4f474a935774553d0d0b990341822ebc197c1ad4"), looks := true }, kinds := [], alts := [], laidByText := true, laidKinds := [.handle], laidTests := true, laidLooks := .later }
def IcmpErrorsCardSaid : Prop := Claim7.holds Tryd.pinned (.plain (OpenSpec.ofChange icmpErrorsSpec)) icmpErrorsCard

/-- THE TIED CARD OF 'vizardlaw10.IcmpMarks'. -/
def icmpMarksCard : Claim7 := { stood := { row := icmpMarksRow, standIns := [], harness := (true, "51d5e6179b0021ef1883e2af4f474a935774553d0d0b990341822ebc197c1ad4"), looks := true }, kinds := [], alts := [], laidByText := true, laidKinds := [.handle], laidTests := true, laidLooks := .later }
def IcmpMarksCardSaid : Prop := Claim7.holds Tryd.pinned (.plain (OpenSpec.ofChange icmpMarksSpec)) icmpMarksCard

/-- THE SECOND FORM's CARD OF 'vizardlaw10.IcmpParses'. -/
def icmpParsesUptoCard : Claim7 := { stood := { row := icmpParsesUptoRow, standIns := [], harness := (true, "51d5e6179b0021ef1883e2af4f474a935774553d0d0b990341822ebc197c1ad4"), looks := true }, kinds := [], alts := [], laidByText := true, laidKinds := [.handle], laidTests := true, laidLooks := .later }
def IcmpParsesUptoCardSaid : Prop := Claim7.holds Tryd.pinned (.plain (OpenSpec.upto icmpParsesSpec)) icmpParsesUptoCard

/-- THE SECOND FORM's CARD OF 'vizardlaw10.IcmpWrites'. -/
def icmpWritesUptoCard : Claim7 := { stood := { row := icmpWritesUptoRow, standIns := [], harness := (true, "51d5e6179b0021ef1883e2af4f474a935774553d0d0b990341822ebc197c1ad4"), looks := true }, kinds := [], alts := [], laidByText := true, laidKinds := [.handle], laidTests := true, laidLooks := .later }
def IcmpWritesUptoCardSaid : Prop := Claim7.holds Tryd.pinned (.plain (OpenSpec.upto icmpWritesSpec)) icmpWritesUptoCard

/-- THE SECOND FORM's CARD OF 'vizardlaw10.IcmpInner'. -/
def icmpInnerUptoCard : Claim7 := { stood := { row := icmpInnerUptoRow, standIns := [], harness := (true, "51d5e6179b0021ef1883e2af4f474a935774553d0d0b990341822ebc197c1ad4"), looks := true }, kinds := [], alts := [], laidByText := true, laidKinds := [.handle], laidTests := true, laidLooks := .later }
def IcmpInnerUptoCardSaid : Prop := Claim7.holds Tryd.pinned (.plain (OpenSpec.upto icmpInnerSpec)) icmpInnerUptoCard

/-- THE SECOND FORM's CARD OF 'vizardlaw10.IcmpErrors'. -/
def icmpErrorsUptoCard : Claim7 := { stood := { row := icmpErrorsUptoRow, standIns := [], harness := (true, "51d5e6179b0021ef1883e2af4f474a935774553d0d0b990341822ebc197c1ad4"), looks := true }, kinds := [], alts := [], laidByText := true, laidKinds := [.handle], laidTests := true, laidLooks := .later }
def IcmpErrorsUptoCardSaid : Prop := Claim7.holds Tryd.pinned (.plain (OpenSpec.upto icmpErrorsSpec)) icmpErrorsUptoCard

/-- THE SECOND FORM's CARD OF 'vizardlaw10.IcmpMarks'. -/
def icmpMarksUptoCard : Claim7 := { stood := { row := icmpMarksUptoRow, standIns := [], harness := (true, "51d5e6179b0021ef1883e2af4f474a935774553d0d0b990341822ebc197c1ad4"), looks := true }, kinds := [], alts := [], laidByText := true, laidKinds := [.handle], laidTests := true, laidLooks := .later }
def IcmpMarksUptoCardSaid : Prop := Claim7.holds Tryd.pinned (.plain (OpenSpec.upto icmpMarksSpec)) icmpMarksUptoCard
end Rows
end Go.Proofs.YtbefoapnlehdmaaDoor
