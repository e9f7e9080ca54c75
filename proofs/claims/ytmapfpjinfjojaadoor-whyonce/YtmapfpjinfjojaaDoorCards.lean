/-
  DERIVED. GIVEN WITH THE SEED: THE CARDS: each row of YtmapfpjinfjojaaDoorRows.lean that lists a variable, with what it lists TIED to the program's text (the seventh form; the later family's looks); each row that meets fmt, with fmt's text TOLD by the authors' own Lean function (tested against real Go, not proved from fmt's source: count such statements apart). THE CARD IS WHAT COUNTS. Prove the row's statement (the work); the ties are given (YtmapfpjinfjojaaDoorTie.lean); close each card by the builder's one call (the guide's Derived/Test/ToyasCard.lean, 'card_holds'). Laid BY PROGRAM, IN A SANDBOX (cutbox-door.mjs). By AI agents, Wed Nov 11 2026. No macro, syntax, notation, axiom, sorry.
-/
import Derived.Test.YtmapfpjinfjojaaDoorRows
import GoSem.ClaimSeven
namespace Go.Proofs.YtmapfpjinfjojaaDoor
namespace Rows

/-- THE TIED CARD OF 'vizardlaw02.WhyChains'. -/
def whyChainsCard : Claim7 := { stood := { row := whyChainsRow, standIns := [], harness := (true, "0a669f4b439fe66a0cc57d04dbf9de70920010681e13a4091a00d24507f9e381"), looks := true }, kinds := [], alts := [], laidByText := true, laidKinds := [.handle], laidTests := true, laidLooks := .later }
def WhyChainsCardSaid : Prop := Claim7.holds Tryd.pinned (.plain (OpenSpec.ofChange whyChainsSpec)) whyChainsCard

/-- THE TIED CARD OF 'vizardlaw02.WhyWords'. -/
def whyWordsCard : Claim7 := { stood := { row := whyWordsRow, standIns := [], harness := (true, "0a669f4b439fe66a0cc57d04dbf9de70920010681e13a4091a00d24507f9e381"), looks := true }, kinds := [], alts := [], laidByText := true, laidKinds := [.handle], laidTests := true, laidLooks := .later }
def WhyWordsCardSaid : Prop := Claim7.holds Tryd.pinned (.plain (OpenSpec.ofChange whyWordsSpec)) whyWordsCard

/-- THE TIED CARD OF 'vizardlaw02.WhyDeep'. -/
def whyDeepCard : Claim7 := { stood := { row := whyDeepRow, standIns := [], harness := (true, "0a669f4b439fe66a0cc57d04dbf9de70920010681e13a4091a00d24507f9e381"), looks := true }, kinds := [], alts := [], laidByText := true, laidKinds := [.handle], laidTests := true, laidLooks := .later }
def WhyDeepCardSaid : Prop := Claim7.holds Tryd.pinned (.plain (OpenSpec.ofChange whyDeepSpec)) whyDeepCard

/-- THE TIED CARD OF 'vizardlaw02.WhyOnce'. -/
def whyOnceCard : Claim7 := { stood := { row := whyOnceRow, standIns := [], harness := (true, "0a669f4b439fe66a0cc57d04dbf9de70920010681e13a4091a00d24507f9e381"), looks := true }, kinds := [], alts := [], laidByText := true, laidKinds := [.handle], laidTests := true, laidLooks := .later }
def WhyOnceCardSaid : Prop := Claim7.holds Tryd.pinned (.plain (OpenSpec.ofChange whyOnceSpec)) whyOnceCard

/-- THE SECOND FORM's CARD OF 'vizardlaw02.WhyChains'. -/
def whyChainsUptoCard : Claim7 := { stood := { row := whyChainsUptoRow, standIns := [], harness := (true, "0a669f4b439fe66a0cc57d04dbf9de70920010681e13a4091a00d24507f9e381"), looks := true }, kinds := [], alts := [], laidByText := true, laidKinds := [.handle], laidTests := true, laidLooks := .later }
def WhyChainsUptoCardSaid : Prop := Claim7.holds Tryd.pinned (.plain (OpenSpec.upto whyChainsSpec)) whyChainsUptoCard

/-- THE SECOND FORM's CARD OF 'vizardlaw02.WhyWords'. -/
def whyWordsUptoCard : Claim7 := { stood := { row := whyWordsUptoRow, standIns := [], harness := (true, "0a669f4b439fe66a0cc57d04dbf9de70920010681e13a4091a00d24507f9e381"), looks := true }, kinds := [], alts := [], laidByText := true, laidKinds := [.handle], laidTests := true, laidLooks := .later }
def WhyWordsUptoCardSaid : Prop := Claim7.holds Tryd.pinned (.plain (OpenSpec.upto whyWordsSpec)) whyWordsUptoCard

/-- THE SECOND FORM's CARD OF 'vizardlaw02.WhyDeep'. -/
def whyDeepUptoCard : Claim7 := { stood := { row := whyDeepUptoRow, standIns := [], harness := (true, "0a669f4b439fe66a0cc57d04dbf9de70920010681e13a4091a00d24507f9e381"), looks := true }, kinds := [], alts := [], laidByText := true, laidKinds := [.handle], laidTests := true, laidLooks := .later }
def WhyDeepUptoCardSaid : Prop := Claim7.holds Tryd.pinned (.plain (OpenSpec.upto whyDeepSpec)) whyDeepUptoCard

/-- THE SECOND FORM's CARD OF 'vizardlaw02.WhyOnce'. -/
def whyOnceUptoCard : Claim7 := { stood := { row := whyOnceUptoRow, standIns := [], harness := (true, "0a669f4b439fe66a0cc57d04dbf9de70920010681e13a4091a00d24507f9e381"), looks := true }, kinds := [], alts := [], laidByText := true, laidKinds := [.handle], laidTests := true, laidLooks := .later }
def WhyOnceUptoCardSaid : Prop := Claim7.holds Tryd.pinned (.plain (OpenSpec.upto whyOnceSpec)) whyOnceUptoCard
end Rows
end Go.Proofs.YtmapfpjinfjojaaDoor
