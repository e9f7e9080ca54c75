/-
  NARROWER THAN 'FOR EVERY INPUT', by the rows' own cells (each row's printed sentence says how): IcmpParses: laid · IcmpWrites: laid · IcmpInner: laid · IcmpErrors: laid · IcmpMarks: laid.
  DERIVED. THE GIVEN ROWS OF THIS SEAT. 5 by the template 'for every input the law returns true; each argument reads behind the call as it read before'; 0 by the template 'total and deterministic' (their statements: YtbefoapnlehdmaaDoorTotals.lean).
  GIVEN WITH THE SEED: the statements are not yours to turn. If you find one false, say at which input.
  Laid BY PROGRAM, IN A SANDBOX (cutbox-rows.mjs): the forced cells as the released guide's own fill.sh prints them over the translation 1e08b6d2386e0501… (all of the seat's roots in one cut). By AI agents, Wed Nov 11 2026. No macro, syntax, notation, axiom, sorry.
-/
import Derived.Test.YtbefoapnlehdmaaDoorChecked
import GoSem.Claim
import GoSem.ClaimJoined
import GoSem.ClaimMapViews
import Derived.JoinedTies
import Derived.KernelRfl
namespace Go.Proofs.YtbefoapnlehdmaaDoor
/- THE CELL 'sum', in the pinned program and in every row, IS THE sha256 OF THE DUMP (.gsa) THAT YtbefoapnlehdmaaDoorProg.lean LOADS. Nothing in Lean hashes anything: it is a label: what it is worth is what the hold of that sum in a sandbox is worth. -/
noncomputable def Tryd.pinned : Pinned := { name := "ytbefoapnlehdmaadoor", sum := "1e08b6d2386e0501582ae9e34aca1b22338ffcb89fe8f4c0922811ecea2d6bc1", checked := Tryd.checked }
namespace Rows
def none {H : Type} : Left H := { results := [], args := [] }

/- WHAT THE LISTED PACKAGE-LEVEL VARIABLES READ AS WHEN THE CALL BEGINS. Each datum BY PROGRAM (the guide's laid-datum.mjs) off the statement by which the dump's own 'gosem.cut.vars' lays the variable. In a bare row this is a premise. The card (YtbefoapnlehdmaaDoorCards.lean) ties it to the program's text. -/
def laid_errors_errorType {H : Type} : DataW H := .iface "internal/reflectlite.rtype" (.agg [.ptr (.lit (.string [101, 114, 114, 111, 114]))])

/-- 'vizardlaw10.IcmpParses': WHATEVER THE INPUT: true; the input reads as it did. -/
def icmpParsesSpec : ChangeSpec := { name := "icmpParses", fn := fun _ => fun
  | [d] => { results := [.lit (.bool true)], args := [d] }
  | _ => none }
def icmpParsesRow : OpenClaim := { program := "ytbefoapnlehdmaadoor", sum := "1e08b6d2386e0501582ae9e34aca1b22338ffcb89fe8f4c0922811ecea2d6bc1", func := "vizard/vizardlaw10.IcmpParses", spec := "icmpParses", inPlace := ["internal/reflectlite.TypeOf", "internal/reflectlite.ValueOf", "(internal/reflectlite.Value).Type", "(internal/reflectlite.Value).IsNil", "(internal/reflectlite.Value).Elem", "(internal/reflectlite.Value).Set"], unfollowed := true, recurses := true, named := ["errors.errorType"], apart := false, laid := [("errors.errorType", laid_errors_errorType)] }
def IcmpParsesSaid : Prop := icmpParsesRow.holds Tryd.pinned (OpenSpec.ofChange icmpParsesSpec)

/-- ITS FALSE NEIGHBOUR: 'it returns false'. Refute it at one input. -/
def icmpParsesWrong : ChangeSpec := { name := "icmpParses", fn := fun _ => fun
  | [d] => { results := [.lit (.bool false)], args := [d] }
  | _ => none }
def IcmpParsesWrongFalsely : Prop := icmpParsesRow.holds Tryd.pinned (OpenSpec.ofChange icmpParsesWrong)

/-- 'vizardlaw10.IcmpWrites': WHATEVER THE INPUT: true; the input reads as it did. -/
def icmpWritesSpec : ChangeSpec := { name := "icmpWrites", fn := fun _ => fun
  | [d1, d2, d3] => { results := [.lit (.bool true)], args := [d1, d2, d3] }
  | _ => none }
def icmpWritesRow : OpenClaim := { program := "ytbefoapnlehdmaadoor", sum := "1e08b6d2386e0501582ae9e34aca1b22338ffcb89fe8f4c0922811ecea2d6bc1", func := "vizard/vizardlaw10.IcmpWrites", spec := "icmpWrites", inPlace := ["internal/reflectlite.TypeOf", "internal/reflectlite.ValueOf", "(internal/reflectlite.Value).Type", "(internal/reflectlite.Value).IsNil", "(internal/reflectlite.Value).Elem", "(internal/reflectlite.Value).Set"], unfollowed := true, recurses := true, named := ["errors.errorType"], apart := false, laid := [("errors.errorType", laid_errors_errorType)] }
def IcmpWritesSaid : Prop := icmpWritesRow.holds Tryd.pinned (OpenSpec.ofChange icmpWritesSpec)

/-- ITS FALSE NEIGHBOUR: 'it returns false'. Refute it at one input. -/
def icmpWritesWrong : ChangeSpec := { name := "icmpWrites", fn := fun _ => fun
  | [d1, d2, d3] => { results := [.lit (.bool false)], args := [d1, d2, d3] }
  | _ => none }
def IcmpWritesWrongFalsely : Prop := icmpWritesRow.holds Tryd.pinned (OpenSpec.ofChange icmpWritesWrong)

/-- 'vizardlaw10.IcmpInner': WHATEVER THE INPUT: true; the input reads as it did. -/
def icmpInnerSpec : ChangeSpec := { name := "icmpInner", fn := fun _ => fun
  | [d1, d2, d3, d4] => { results := [.lit (.bool true)], args := [d1, d2, d3, d4] }
  | _ => none }
def icmpInnerRow : OpenClaim := { program := "ytbefoapnlehdmaadoor", sum := "1e08b6d2386e0501582ae9e34aca1b22338ffcb89fe8f4c0922811ecea2d6bc1", func := "vizard/vizardlaw10.IcmpInner", spec := "icmpInner", inPlace := ["internal/reflectlite.TypeOf", "internal/reflectlite.ValueOf", "(internal/reflectlite.Value).Type", "(internal/reflectlite.Value).IsNil", "(internal/reflectlite.Value).Elem", "(internal/reflectlite.Value).Set"], unfollowed := true, recurses := true, named := ["errors.errorType"], apart := false, laid := [("errors.errorType", laid_errors_errorType)] }
def IcmpInnerSaid : Prop := icmpInnerRow.holds Tryd.pinned (OpenSpec.ofChange icmpInnerSpec)

/-- ITS FALSE NEIGHBOUR: 'it returns false'. Refute it at one input. -/
def icmpInnerWrong : ChangeSpec := { name := "icmpInner", fn := fun _ => fun
  | [d1, d2, d3, d4] => { results := [.lit (.bool false)], args := [d1, d2, d3, d4] }
  | _ => none }
def IcmpInnerWrongFalsely : Prop := icmpInnerRow.holds Tryd.pinned (OpenSpec.ofChange icmpInnerWrong)

/-- 'vizardlaw10.IcmpErrors': WHATEVER THE INPUT: true; the input reads as it did. -/
def icmpErrorsSpec : ChangeSpec := { name := "icmpErrors", fn := fun _ => fun
  | [d1, d2, d3] => { results := [.lit (.bool true)], args := [d1, d2, d3] }
  | _ => none }
def icmpErrorsRow : OpenClaim := { program := "ytbefoapnlehdmaadoor", sum := "1e08b6d2386e0501582ae9e34aca1b22338ffcb89fe8f4c0922811ecea2d6bc1", func := "vizard/vizardlaw10.IcmpErrors", spec := "icmpErrors", inPlace := ["internal/reflectlite.TypeOf", "internal/reflectlite.ValueOf", "(internal/reflectlite.Value).Type", "(internal/reflectlite.Value).IsNil", "(internal/reflectlite.Value).Elem", "(internal/reflectlite.Value).Set"], unfollowed := true, recurses := true, named := ["errors.errorType"], apart := false, laid := [("errors.errorType", laid_errors_errorType)] }
def IcmpErrorsSaid : Prop := icmpErrorsRow.holds Tryd.pinned (OpenSpec.ofChange icmpErrorsSpec)

/-- ITS FALSE NEIGHBOUR: 'it returns false'. Refute it at one input. -/
def icmpErrorsWrong : ChangeSpec := { name := "icmpErrors", fn := fun _ => fun
  | [d1, d2, d3] => { results := [.lit (.bool false)], args := [d1, d2, d3] }
  | _ => none }
def IcmpErrorsWrongFalsely : Prop := icmpErrorsRow.holds Tryd.pinned (OpenSpec.ofChange icmpErrorsWrong)

/-- 'vizardlaw10.IcmpMarks': WHATEVER THE INPUT: true; the input reads as it did. -/
def icmpMarksSpec : ChangeSpec := { name := "icmpMarks", fn := fun _ => fun
  | [d1, d2] => { results := [.lit (.bool true)], args := [d1, d2] }
  | _ => none }
def icmpMarksRow : OpenClaim := { program := "ytbefoapnlehdmaadoor", sum := "1e08b6d2386e0501582ae9e34aca1b22338ffcb89fe8f4c0922811ecea2d6bc1", func := "vizard/vizardlaw10.IcmpMarks", spec := "icmpMarks", inPlace := ["internal/reflectlite.TypeOf", "internal/reflectlite.ValueOf", "(internal/reflectlite.Value).Type", "(internal/reflectlite.Value).IsNil", "(internal/reflectlite.Value).Elem", "(internal/reflectlite.Value).Set"], unfollowed := true, recurses := true, named := ["errors.errorType"], apart := false, laid := [("errors.errorType", laid_errors_errorType)] }
def IcmpMarksSaid : Prop := icmpMarksRow.holds Tryd.pinned (OpenSpec.ofChange icmpMarksSpec)

/-- ITS FALSE NEIGHBOUR: 'it returns false'. Refute it at one input. -/
def icmpMarksWrong : ChangeSpec := { name := "icmpMarks", fn := fun _ => fun
  | [d1, d2] => { results := [.lit (.bool false)], args := [d1, d2] }
  | _ => none }
def IcmpMarksWrongFalsely : Prop := icmpMarksRow.holds Tryd.pinned (OpenSpec.ofChange icmpMarksWrong)

/- THE SECOND FORM. 'bulk': how many values and letters a reading holds, each counted each time it is reached (what is shared counts as often as it is met; a slice's spare places count too). A statement '..UptoSaid' is the law's where the arguments, and the package variables that the reading takes, are together of bulk at most 1048576: NARROWER than '..Said'. Prove '..Said' where nothing that the law and all that it calls make is longer than what came in: it says more and counts as full. Else prove '..UptoSaid'. A law counts once. -/
mutual
def uptoBulk {H : Type} : DataW H → Nat
  | .lit (.string bytes) => bytes.length + 1
  | .lit _ => 1
  | .nil => 1
  | .ptr d => uptoBulk d + 1
  | .slice elems spare => uptoBulkAll elems + uptoBulkAll spare + 1
  | .agg parts => uptoBulkAll parts + 1
  | .iface _ d => uptoBulk d + 1
  | .map entries => uptoBulkEntries entries + 1
  | .held _ => 1
def uptoBulkAll {H : Type} : List (DataW H) → Nat
  | [] => 0
  | d :: r => uptoBulk d + uptoBulkAll r
def uptoBulkEntries {H : Type} : List (Lit × DataW H) → Nat
  | [] => 0
  | x :: r => uptoBulkEntry x + uptoBulkEntries r
def uptoBulkEntry {H : Type} : Lit × DataW H → Nat
  | (.string bytes, d) => bytes.length + uptoBulk d + 1
  | (_, d) => uptoBulk d + 1
 end
def uptoSmall : (H : Type) → List (DataW H) → Bool := fun _ ds => decide (uptoBulkAll ds ≤ 1048576)
def OpenSpec.upto (s : _root_.Go.ChangeSpec) : _root_.Go.OpenSpec := { _root_.Go.OpenSpec.ofChange s with cond := some uptoSmall }

/-- 'vizardlaw10.IcmpParses', WHERE WHAT IT READS IS OF BULK AT MOST 1048576: true; the input reads as it did. -/
def icmpParsesUptoRow : OpenClaim := { program := "ytbefoapnlehdmaadoor", sum := "1e08b6d2386e0501582ae9e34aca1b22338ffcb89fe8f4c0922811ecea2d6bc1", func := "vizard/vizardlaw10.IcmpParses", spec := "icmpParses", inPlace := ["internal/reflectlite.TypeOf", "internal/reflectlite.ValueOf", "(internal/reflectlite.Value).Type", "(internal/reflectlite.Value).IsNil", "(internal/reflectlite.Value).Elem", "(internal/reflectlite.Value).Set"], unfollowed := true, recurses := true, named := ["errors.errorType"], apart := false, laid := [("errors.errorType", laid_errors_errorType)], narrowed := true }
def IcmpParsesUptoSaid : Prop := icmpParsesUptoRow.holds Tryd.pinned (OpenSpec.upto icmpParsesSpec)

/-- 'vizardlaw10.IcmpWrites', WHERE WHAT IT READS IS OF BULK AT MOST 1048576: true; the input reads as it did. -/
def icmpWritesUptoRow : OpenClaim := { program := "ytbefoapnlehdmaadoor", sum := "1e08b6d2386e0501582ae9e34aca1b22338ffcb89fe8f4c0922811ecea2d6bc1", func := "vizard/vizardlaw10.IcmpWrites", spec := "icmpWrites", inPlace := ["internal/reflectlite.TypeOf", "internal/reflectlite.ValueOf", "(internal/reflectlite.Value).Type", "(internal/reflectlite.Value).IsNil", "(internal/reflectlite.Value).Elem", "(internal/reflectlite.Value).Set"], unfollowed := true, recurses := true, named := ["errors.errorType"], apart := false, laid := [("errors.errorType", laid_errors_errorType)], narrowed := true }
def IcmpWritesUptoSaid : Prop := icmpWritesUptoRow.holds Tryd.pinned (OpenSpec.upto icmpWritesSpec)

/-- 'vizardlaw10.IcmpInner', WHERE WHAT IT READS IS OF BULK AT MOST 1048576: true; the input reads as it did. -/
def icmpInnerUptoRow : OpenClaim := { program := "ytbefoapnlehdmaadoor", sum := "1e08b6d2386e0501582ae9e34aca1b22338ffcb89fe8f4c0922811ecea2d6bc1", func := "vizard/vizardlaw10.IcmpInner", spec := "icmpInner", inPlace := ["internal/reflectlite.TypeOf", "internal/reflectlite.ValueOf", "(internal/reflectlite.Value).Type", "(internal/reflectlite.Value).IsNil", "(internal/reflectlite.Value).Elem", "(internal/reflectlite.Value).Set"], unfollowed := true, recurses := true, named := ["errors.errorType"], apart := false, laid := [("errors.errorType", laid_errors_errorType)], narrowed := true }
def IcmpInnerUptoSaid : Prop := icmpInnerUptoRow.holds Tryd.pinned (OpenSpec.upto icmpInnerSpec)

/-- 'vizardlaw10.IcmpErrors', WHERE WHAT IT READS IS OF BULK AT MOST 1048576: true; the input reads as it did. -/
def icmpErrorsUptoRow : OpenClaim := { program := "ytbefoapnlehdmaadoor", sum := "1e08b6d2386e0501582ae9e34aca1b22338ffcb89fe8f4c0922811ecea2d6bc1", func := "vizard/vizardlaw10.IcmpErrors", spec := "icmpErrors", inPlace := ["internal/reflectlite.TypeOf", "internal/reflectlite.ValueOf", "(internal/reflectlite.Value).Type", "(internal/reflectlite.Value).IsNil", "(internal/reflectlite.Value).Elem", "(internal/reflectlite.Value).Set"], unfollowed := true, recurses := true, named := ["errors.errorType"], apart := false, laid := [("errors.errorType", laid_errors_errorType)], narrowed := true }
def IcmpErrorsUptoSaid : Prop := icmpErrorsUptoRow.holds Tryd.pinned (OpenSpec.upto icmpErrorsSpec)

/-- 'vizardlaw10.IcmpMarks', WHERE WHAT IT READS IS OF BULK AT MOST 1048576: true; the input reads as it did. -/
def icmpMarksUptoRow : OpenClaim := { program := "ytbefoapnlehdmaadoor", sum := "1e08b6d2386e0501582ae9e34aca1b22338ffcb89fe8f4c0922811ecea2d6bc1", func := "vizard/vizardlaw10.IcmpMarks", spec := "icmpMarks", inPlace := ["internal/reflectlite.TypeOf", "internal/reflectlite.ValueOf", "(internal/reflectlite.Value).Type", "(internal/reflectlite.Value).IsNil", "(internal/reflectlite.Value).Elem", "(internal/reflectlite.Value).Set"], unfollowed := true, recurses := true, named := ["errors.errorType"], apart := false, laid := [("errors.errorType", laid_errors_errorType)], narrowed := true }
def IcmpMarksUptoSaid : Prop := icmpMarksUptoRow.holds Tryd.pinned (OpenSpec.upto icmpMarksSpec)

end Rows
end Go.Proofs.YtbefoapnlehdmaaDoor
