/-
  NARROWER THAN 'FOR EVERY INPUT', by the rows' own cells (each row's printed sentence says how): InetParses: laid · InetWrites: laid · InetSpoilt: laid · InetCuts: laid · InetTtl: laid · InetPeeks: laid.
  DERIVED. THE GIVEN ROWS OF THIS SEAT. 6 by the template 'for every input the law returns true; each argument reads behind the call as it read before'; 0 by the template 'total and deterministic' (their statements: YthgdgjpckgfmbaaDoorTotals.lean).
  GIVEN WITH THE SEED: the statements are not yours to turn. If you find one false, say at which input.
  Laid BY PROGRAM, IN A SANDBOX (cutbox-rows.mjs): the forced cells as the released guide's own fill.sh prints them over the translation 3c5a6a6d74fb1d7b… (all of the seat's roots in one cut). By AI agents, Wed Nov 11 2026. No macro, syntax, notation, axiom, sorry.
-/
import Derived.Test.YthgdgjpckgfmbaaDoorChecked
import GoSem.Claim
import GoSem.ClaimJoined
import GoSem.ClaimMapViews
import Derived.JoinedTies
import Derived.KernelRfl
namespace Go.Proofs.YthgdgjpckgfmbaaDoor
/- THE CELL 'sum', in the pinned program and in every row, IS THE sha256 OF THE DUMP (.gsa) THAT YthgdgjpckgfmbaaDoorProg.lean LOADS. Nothing in Lean hashes anything: it is a label: what it is worth is what the hold of that sum in a sandbox is worth. -/
noncomputable def Tryd.pinned : Pinned := { name := "ythgdgjpckgfmbaadoor", sum := "3c5a6a6d74fb1d7b78865a254409f66f38d2fe2d6089f15b69a6c2687cea5947", checked := Tryd.checked }
namespace Rows
def none {H : Type} : Left H := { results := [], args := [] }

/- WHAT THE LISTED PACKAGE-LEVEL VARIABLES READ AS WHEN THE CALL BEGINS. Each datum BY PROGRAM (the guide's laid-datum.mjs) off the statement by which the dump's own 'gosem.cut.vars' lays the variable. In a bare row this is a premise. The card (YthgdgjpckgfmbaaDoorCards.lean) ties it to the program's text. -/
def laid_errors_errorType {H : Type} : DataW H := .iface "internal/reflectlite.rtype" (.agg [.ptr (.lit (.string [101, 114, 114, 111, 114]))])

/-- 'vizardlaw07.InetParses': WHATEVER THE INPUT: true; the input reads as it did. -/
def inetParsesSpec : ChangeSpec := { name := "inetParses", fn := fun _ => fun
  | [d] => { results := [.lit (.bool true)], args := [d] }
  | _ => none }
def inetParsesRow : OpenClaim := { program := "ythgdgjpckgfmbaadoor", sum := "3c5a6a6d74fb1d7b78865a254409f66f38d2fe2d6089f15b69a6c2687cea5947", func := "vizard/vizardlaw07.InetParses", spec := "inetParses", inPlace := ["internal/reflectlite.TypeOf", "internal/reflectlite.ValueOf", "(internal/reflectlite.Value).Type", "(internal/reflectlite.Value).IsNil", "(internal/reflectlite.Value).Elem", "(internal/reflectlite.Value).Set"], unfollowed := true, recurses := true, named := ["errors.errorType"], apart := false, laid := [("errors.errorType", laid_errors_errorType)] }
def InetParsesSaid : Prop := inetParsesRow.holds Tryd.pinned (OpenSpec.ofChange inetParsesSpec)

/-- ITS FALSE NEIGHBOUR: 'it returns false'. Refute it at one input. -/
def inetParsesWrong : ChangeSpec := { name := "inetParses", fn := fun _ => fun
  | [d] => { results := [.lit (.bool false)], args := [d] }
  | _ => none }
def InetParsesWrongFalsely : Prop := inetParsesRow.holds Tryd.pinned (OpenSpec.ofChange inetParsesWrong)

/-- 'vizardlaw07.InetWrites': WHATEVER THE INPUT: true; the input reads as it did. -/
def inetWritesSpec : ChangeSpec := { name := "inetWrites", fn := fun _ => fun
  | [d1, d2, d3] => { results := [.lit (.bool true)], args := [d1, d2, d3] }
  | _ => none }
def inetWritesRow : OpenClaim := { program := "ythgdgjpckgfmbaadoor", sum := "3c5a6a6d74fb1d7b78865a254409f66f38d2fe2d6089f15b69a6c2687cea5947", func := "vizard/vizardlaw07.InetWrites", spec := "inetWrites", inPlace := ["internal/reflectlite.TypeOf", "internal/reflectlite.ValueOf", "(internal/reflectlite.Value).Type", "(internal/reflectlite.Value).IsNil", "(internal/reflectlite.Value).Elem", "(internal/reflectlite.Value).Set"], unfollowed := true, recurses := true, named := ["errors.errorType"], apart := false, laid := [("errors.errorType", laid_errors_errorType)] }
def InetWritesSaid : Prop := inetWritesRow.holds Tryd.pinned (OpenSpec.ofChange inetWritesSpec)

/-- ITS FALSE NEIGHBOUR: 'it returns false'. Refute it at one input. -/
def inetWritesWrong : ChangeSpec := { name := "inetWrites", fn := fun _ => fun
  | [d1, d2, d3] => { results := [.lit (.bool false)], args := [d1, d2, d3] }
  | _ => none }
def InetWritesWrongFalsely : Prop := inetWritesRow.holds Tryd.pinned (OpenSpec.ofChange inetWritesWrong)

/-- 'vizardlaw07.InetSpoilt': WHATEVER THE INPUT: true; the input reads as it did. -/
def inetSpoiltSpec : ChangeSpec := { name := "inetSpoilt", fn := fun _ => fun
  | [d1, d2, d3] => { results := [.lit (.bool true)], args := [d1, d2, d3] }
  | _ => none }
def inetSpoiltRow : OpenClaim := { program := "ythgdgjpckgfmbaadoor", sum := "3c5a6a6d74fb1d7b78865a254409f66f38d2fe2d6089f15b69a6c2687cea5947", func := "vizard/vizardlaw07.InetSpoilt", spec := "inetSpoilt", inPlace := ["internal/reflectlite.TypeOf", "internal/reflectlite.ValueOf", "(internal/reflectlite.Value).Type", "(internal/reflectlite.Value).IsNil", "(internal/reflectlite.Value).Elem", "(internal/reflectlite.Value).Set"], unfollowed := true, recurses := true, named := ["errors.errorType"], apart := false, laid := [("errors.errorType", laid_errors_errorType)] }
def InetSpoiltSaid : Prop := inetSpoiltRow.holds Tryd.pinned (OpenSpec.ofChange inetSpoiltSpec)

/-- ITS FALSE NEIGHBOUR: 'it returns false'. Refute it at one input. -/
def inetSpoiltWrong : ChangeSpec := { name := "inetSpoilt", fn := fun _ => fun
  | [d1, d2, d3] => { results := [.lit (.bool false)], args := [d1, d2, d3] }
  | _ => none }
def InetSpoiltWrongFalsely : Prop := inetSpoiltRow.holds Tryd.pinned (OpenSpec.ofChange inetSpoiltWrong)

/-- 'vizardlaw07.InetCuts': WHATEVER THE INPUT: true; the input reads as it did. -/
def inetCutsSpec : ChangeSpec := { name := "inetCuts", fn := fun _ => fun
  | [d1, d2] => { results := [.lit (.bool true)], args := [d1, d2] }
  | _ => none }
def inetCutsRow : OpenClaim := { program := "ythgdgjpckgfmbaadoor", sum := "3c5a6a6d74fb1d7b78865a254409f66f38d2fe2d6089f15b69a6c2687cea5947", func := "vizard/vizardlaw07.InetCuts", spec := "inetCuts", inPlace := ["internal/reflectlite.TypeOf", "internal/reflectlite.ValueOf", "(internal/reflectlite.Value).Type", "(internal/reflectlite.Value).IsNil", "(internal/reflectlite.Value).Elem", "(internal/reflectlite.Value).Set"], unfollowed := true, recurses := true, named := ["errors.errorType"], apart := false, laid := [("errors.errorType", laid_errors_errorType)] }
def InetCutsSaid : Prop := inetCutsRow.holds Tryd.pinned (OpenSpec.ofChange inetCutsSpec)

/-- ITS FALSE NEIGHBOUR: 'it returns false'. Refute it at one input. -/
def inetCutsWrong : ChangeSpec := { name := "inetCuts", fn := fun _ => fun
  | [d1, d2] => { results := [.lit (.bool false)], args := [d1, d2] }
  | _ => none }
def InetCutsWrongFalsely : Prop := inetCutsRow.holds Tryd.pinned (OpenSpec.ofChange inetCutsWrong)

/-- 'vizardlaw07.InetTtl': WHATEVER THE INPUT: true; the input reads as it did. -/
def inetTtlSpec : ChangeSpec := { name := "inetTtl", fn := fun _ => fun
  | [d1, d2, d3] => { results := [.lit (.bool true)], args := [d1, d2, d3] }
  | _ => none }
def inetTtlRow : OpenClaim := { program := "ythgdgjpckgfmbaadoor", sum := "3c5a6a6d74fb1d7b78865a254409f66f38d2fe2d6089f15b69a6c2687cea5947", func := "vizard/vizardlaw07.InetTtl", spec := "inetTtl", inPlace := ["internal/reflectlite.TypeOf", "internal/reflectlite.ValueOf", "(internal/reflectlite.Value).Type", "(internal/reflectlite.Value).IsNil", "(internal/reflectlite.Value).Elem", "(internal/reflectlite.Value).Set"], unfollowed := true, recurses := true, named := ["errors.errorType"], apart := false, laid := [("errors.errorType", laid_errors_errorType)] }
def InetTtlSaid : Prop := inetTtlRow.holds Tryd.pinned (OpenSpec.ofChange inetTtlSpec)

/-- ITS FALSE NEIGHBOUR: 'it returns false'. Refute it at one input. -/
def inetTtlWrong : ChangeSpec := { name := "inetTtl", fn := fun _ => fun
  | [d1, d2, d3] => { results := [.lit (.bool false)], args := [d1, d2, d3] }
  | _ => none }
def InetTtlWrongFalsely : Prop := inetTtlRow.holds Tryd.pinned (OpenSpec.ofChange inetTtlWrong)

/-- 'vizardlaw07.InetPeeks': WHATEVER THE INPUT: true; the input reads as it did. -/
def inetPeeksSpec : ChangeSpec := { name := "inetPeeks", fn := fun _ => fun
  | [d] => { results := [.lit (.bool true)], args := [d] }
  | _ => none }
def inetPeeksRow : OpenClaim := { program := "ythgdgjpckgfmbaadoor", sum := "3c5a6a6d74fb1d7b78865a254409f66f38d2fe2d6089f15b69a6c2687cea5947", func := "vizard/vizardlaw07.InetPeeks", spec := "inetPeeks", inPlace := ["internal/reflectlite.TypeOf", "internal/reflectlite.ValueOf", "(internal/reflectlite.Value).Type", "(internal/reflectlite.Value).IsNil", "(internal/reflectlite.Value).Elem", "(internal/reflectlite.Value).Set"], unfollowed := true, recurses := true, named := ["errors.errorType"], apart := false, laid := [("errors.errorType", laid_errors_errorType)] }
def InetPeeksSaid : Prop := inetPeeksRow.holds Tryd.pinned (OpenSpec.ofChange inetPeeksSpec)

/-- ITS FALSE NEIGHBOUR: 'it returns false'. Refute it at one input. -/
def inetPeeksWrong : ChangeSpec := { name := "inetPeeks", fn := fun _ => fun
  | [d] => { results := [.lit (.bool false)], args := [d] }
  | _ => none }
def InetPeeksWrongFalsely : Prop := inetPeeksRow.holds Tryd.pinned (OpenSpec.ofChange inetPeeksWrong)

/- THE SECOND FORM. 'bulk': how many values and letters a reading holds, each counted each time it is reached (what is shared counts as often as it is met; a slice's spare places count too). A statement '..UptoSaid' is the law's where the arguments, and the package variables that the reading takes, are together of bulk at most 1048576: NARROWER than '..Said'. Prove '..Said' where nothing that the law and all that it calls make is longer than what came in: it says more and counts as full. Else prove '..UptoSaid'. A law counts once. -/
mutual
def uptoBulk {H : Type} : DataW H → Nat
  | .lit (.string bytes) => bytes.length + 1
  | .lit _ => 1
  | .nil => 1
  | .ptr d => uptoBulk d + 1
  | .slice elems spare => uptoBulkAll elems + uptoBulkAll spare + 1
  | .agg parts => uptoBulkAll parts + 1
  | .iface _ d => uptoBulk d + 1
  | .map entries => uptoBulkEntries entries + 1
  | .held _ => 1
def uptoBulkAll {H : Type} : List (DataW H) → Nat
  | [] => 0
  | d :: r => uptoBulk d + uptoBulkAll r
def uptoBulkEntries {H : Type} : List (Lit × DataW H) → Nat
  | [] => 0
  | x :: r => uptoBulkEntry x + uptoBulkEntries r
def uptoBulkEntry {H : Type} : Lit × DataW H → Nat
  | (.string bytes, d) => bytes.length + uptoBulk d + 1
  | (_, d) => uptoBulk d + 1
 end
def uptoSmall : (H : Type) → List (DataW H) → Bool := fun _ ds => decide (uptoBulkAll ds ≤ 1048576)
def OpenSpec.upto (s : _root_.Go.ChangeSpec) : _root_.Go.OpenSpec := { _root_.Go.OpenSpec.ofChange s with cond := some uptoSmall }

/-- 'vizardlaw07.InetParses', WHERE WHAT IT READS IS OF BULK AT MOST 1048576: true; the input reads as it did. -/
def inetParsesUptoRow : OpenClaim := { program := "ythgdgjpckgfmbaadoor", sum := "3c5a6a6d74fb1d7b78865a254409f66f38d2fe2d6089f15b69a6c2687cea5947", func := "vizard/vizardlaw07.InetParses", spec := "inetParses", inPlace := ["internal/reflectlite.TypeOf", "internal/reflectlite.ValueOf", "(internal/reflectlite.Value).Type", "(internal/reflectlite.Value).IsNil", "(internal/reflectlite.Value).Elem", "(internal/reflectlite.Value).Set"], unfollowed := true, recurses := true, named := ["errors.errorType"], apart := false, laid := [("errors.errorType", laid_errors_errorType)], narrowed := true }
def InetParsesUptoSaid : Prop := inetParsesUptoRow.holds Tryd.pinned (OpenSpec.upto inetParsesSpec)

/-- 'vizardlaw07.InetWrites', WHERE WHAT IT READS IS OF BULK AT MOST 1048576: true; the input reads as it did. -/
def inetWritesUptoRow : OpenClaim := { program := "ythgdgjpckgfmbaadoor", sum := "3c5a6a6d74fb1d7b78865a254409f66f38d2fe2d6089f15b69a6c2687cea5947", func := "vizard/vizardlaw07.InetWrites", spec := "inetWrites", inPlace := ["internal/reflectlite.TypeOf", "internal/reflectlite.ValueOf", "(internal/reflectlite.Value).Type", "(internal/reflectlite.Value).IsNil", "(internal/reflectlite.Value).Elem", "(internal/reflectlite.Value).Set"], unfollowed := true, recurses := true, named := ["errors.errorType"], apart := false, laid := [("errors.errorType", laid_errors_errorType)], narrowed := true }
def InetWritesUptoSaid : Prop := inetWritesUptoRow.holds Tryd.pinned (OpenSpec.upto inetWritesSpec)

/-- 'vizardlaw07.InetSpoilt', WHERE WHAT IT READS IS OF BULK AT MOST 1048576: true; the input reads as it did. -/
def inetSpoiltUptoRow : OpenClaim := { program := "ythgdgjpckgfmbaadoor", sum := "3c5a6a6d74fb1d7b78865a254409f66f38d2fe2d6089f15b69a6c2687cea5947", func := "vizard/vizardlaw07.InetSpoilt", spec := "inetSpoilt", inPlace := ["internal/reflectlite.TypeOf", "internal/reflectlite.ValueOf", "(internal/reflectlite.Value).Type", "(internal/reflectlite.Value).IsNil", "(internal/reflectlite.Value).Elem", "(internal/reflectlite.Value).Set"], unfollowed := true, recurses := true, named := ["errors.errorType"], apart := false, laid := [("errors.errorType", laid_errors_errorType)], narrowed := true }
def InetSpoiltUptoSaid : Prop := inetSpoiltUptoRow.holds Tryd.pinned (OpenSpec.upto inetSpoiltSpec)

/-- 'vizardlaw07.InetCuts', WHERE WHAT IT READS IS OF BULK AT MOST 1048576: true; the input reads as it did. -/
def inetCutsUptoRow : OpenClaim := { program := "ythgdgjpckgfmbaadoor", sum := "3c5a6a6d74fb1d7b78865a254409f66f38d2fe2d6089f15b69a6c2687cea5947", func := "vizard/vizardlaw07.InetCuts", spec := "inetCuts", inPlace := ["internal/reflectlite.TypeOf", "internal/reflectlite.ValueOf", "(internal/reflectlite.Value).Type", "(internal/reflectlite.Value).IsNil", "(internal/reflectlite.Value).Elem", "(internal/reflectlite.Value).Set"], unfollowed := true, recurses := true, named := ["errors.errorType"], apart := false, laid := [("errors.errorType", laid_errors_errorType)], narrowed := true }
def InetCutsUptoSaid : Prop := inetCutsUptoRow.holds Tryd.pinned (OpenSpec.upto inetCutsSpec)

/-- 'vizardlaw07.InetTtl', WHERE WHAT IT READS IS OF BULK AT MOST 1048576: true; the input reads as it did. -/
def inetTtlUptoRow : OpenClaim := { program := "ythgdgjpckgfmbaadoor", sum := "3c5a6a6d74fb1d7b78865a254409f66f38d2fe2d6089f15b69a6c2687cea5947", func := "vizard/vizardlaw07.InetTtl", spec := "inetTtl", inPlace := ["internal/reflectlite.TypeOf", "internal/reflectlite.ValueOf", "(internal/reflectlite.Value).Type", "(internal/reflectlite.Value).IsNil", "(internal/reflectlite.Value).Elem", "(internal/reflectlite.Value).Set"], unfollowed := true, recurses := true, named := ["errors.errorType"], apart := false, laid := [("errors.errorType", laid_errors_errorType)], narrowed := true }
def InetTtlUptoSaid : Prop := inetTtlUptoRow.holds Tryd.pinned (OpenSpec.upto inetTtlSpec)

/-- 'vizardlaw07.InetPeeks', WHERE WHAT IT READS IS OF BULK AT MOST 1048576: true; the input reads as it did. -/
def inetPeeksUptoRow : OpenClaim := { program := "ythgdgjpckgfmbaadoor", sum := "3c5a6a6d74fb1d7b78865a254409f66f38d2fe2d6089f15b69a6c2687cea5947", func := "vizard/vizardlaw07.InetPeeks", spec := "inetPeeks", inPlace := ["internal/reflectlite.TypeOf", "internal/reflectlite.ValueOf", "(internal/reflectlite.Value).Type", "(internal/reflectlite.Value).IsNil", "(internal/reflectlite.Value).Elem", "(internal/reflectlite.Value).Set"], unfollowed := true, recurses := true, named := ["errors.errorType"], apart := false, laid := [("errors.errorType", laid_errors_errorType)], narrowed := true }
def InetPeeksUptoSaid : Prop := inetPeeksUptoRow.holds Tryd.pinned (OpenSpec.upto inetPeeksSpec)

end Rows
end Go.Proofs.YthgdgjpckgfmbaaDoor
