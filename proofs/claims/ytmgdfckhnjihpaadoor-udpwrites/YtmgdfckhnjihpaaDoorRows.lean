/-
  NARROWER THAN 'FOR EVERY INPUT', by the rows' own cells (each row's printed sentence says how): UdpParses: laid · UdpWrites: laid · UdpSpoilt: laid · UdpSwaps: laid.
  DERIVED. THE GIVEN ROWS OF THIS SEAT. 4 by the template 'for every input the law returns true; each argument reads behind the call as it read before'; 0 by the template 'total and deterministic' (their statements: YtmgdfckhnjihpaaDoorTotals.lean).
  GIVEN WITH THE SEED: the statements are not yours to turn. If you find one false, say at which input.
  Laid BY PROGRAM, IN A SANDBOX (cutbox-rows.mjs): the forced cells as the released guide's own fill.sh prints them over the translation 1fa40c17bf97317e… (all of the seat's roots in one cut). By AI agents, Wed Nov 11 2026. No macro, syntax, notation, axiom, sorry.
-/
import Derived.Test.YtmgdfckhnjihpaaDoorChecked
import GoSem.Claim
import GoSem.ClaimJoined
import GoSem.ClaimMapViews
import Derived.JoinedTies
import Derived.KernelRfl
namespace Go.Proofs.YtmgdfckhnjihpaaDoor
/- THE CELL 'sum', in the pinned program and in every row, IS THE sha256 OF THE DUMP (.gsa) THAT YtmgdfckhnjihpaaDoorProg.lean LOADS. Nothing in Lean hashes anything: it is a label: what it is worth is what the hold of that sum in a sandbox is worth. -/
noncomputable def Tryd.pinned : Pinned := { name := "ytmgdfckhnjihpaadoor", sum := "1fa40c17bf97317e9881c14d269eacf011f751235c201ea42088d9e7c4913205", checked := Tryd.checked }
namespace Rows
def none {H : Type} : Left H := { results := [], args := [] }

/- WHAT THE LISTED PACKAGE-LEVEL VARIABLES READ AS WHEN THE CALL BEGINS. Each datum BY PROGRAM (the guide's laid-datum.mjs) off the statement by which the dump's own 'gosem.cut.vars' lays the variable. In a bare row this is a premise. The card (YtmgdfckhnjihpaaDoorCards.lean) ties it to the program's text. -/
def laid_errors_errorType {H : Type} : DataW H := .iface "internal/reflectlite.rtype" (.agg [.ptr (.lit (.string [101, 114, 114, 111, 114]))])

/-- 'vizardlaw08.UdpParses': WHATEVER THE INPUT: true; the input reads as it did. -/
def udpParsesSpec : ChangeSpec := { name := "udpParses", fn := fun _ => fun
  | [d1, d2, d3] => { results := [.lit (.bool true)], args := [d1, d2, d3] }
  | _ => none }
def udpParsesRow : OpenClaim := { program := "ytmgdfckhnjihpaadoor", sum := "1fa40c17bf97317e9881c14d269eacf011f751235c201ea42088d9e7c4913205", func := "vizard/vizardlaw08.UdpParses", spec := "udpParses", inPlace := ["internal/reflectlite.TypeOf", "internal/reflectlite.ValueOf", "(internal/reflectlite.Value).Type", "(internal/reflectlite.Value).IsNil", "(internal/reflectlite.Value).Elem", "(internal/reflectlite.Value).Set"], unfollowed := true, recurses := true, named := ["errors.errorType"], apart := false, laid := [("errors.errorType", laid_errors_errorType)] }
def UdpParsesSaid : Prop := udpParsesRow.holds Tryd.pinned (OpenSpec.ofChange udpParsesSpec)

/-- ITS FALSE NEIGHBOUR: 'it returns false'. Refute it at one input. -/
def udpParsesWrong : ChangeSpec := { name := "udpParses", fn := fun _ => fun
  | [d1, d2, d3] => { results := [.lit (.bool false)], args := [d1, d2, d3] }
  | _ => none }
def UdpParsesWrongFalsely : Prop := udpParsesRow.holds Tryd.pinned (OpenSpec.ofChange udpParsesWrong)

/-- 'vizardlaw08.UdpWrites': WHATEVER THE INPUT: true; the input reads as it did. -/
def udpWritesSpec : ChangeSpec := { name := "udpWrites", fn := fun _ => fun
  | [d1, d2, d3, d4, d5] => { results := [.lit (.bool true)], args := [d1, d2, d3, d4, d5] }
  | _ => none }
def udpWritesRow : OpenClaim := { program := "ytmgdfckhnjihpaadoor", sum := "1fa40c17bf97317e9881c14d269eacf011f751235c201ea42088d9e7c4913205", func := "vizard/vizardlaw08.UdpWrites", spec := "udpWrites", inPlace := ["internal/reflectlite.TypeOf", "internal/reflectlite.ValueOf", "(internal/reflectlite.Value).Type", "(internal/reflectlite.Value).IsNil", "(internal/reflectlite.Value).Elem", "(internal/reflectlite.Value).Set"], unfollowed := true, recurses := true, named := ["errors.errorType"], apart := false, laid := [("errors.errorType", laid_errors_errorType)] }
def UdpWritesSaid : Prop := udpWritesRow.holds Tryd.pinned (OpenSpec.ofChange udpWritesSpec)

/-- ITS FALSE NEIGHBOUR: 'it returns false'. Refute it at one input. -/
def udpWritesWrong : ChangeSpec := { name := "udpWrites", fn := fun _ => fun
  | [d1, d2, d3, d4, d5] => { results := [.lit (.bool false)], args := [d1, d2, d3, d4, d5] }
  | _ => none }
def UdpWritesWrongFalsely : Prop := udpWritesRow.holds Tryd.pinned (OpenSpec.ofChange udpWritesWrong)

/-- 'vizardlaw08.UdpSpoilt': WHATEVER THE INPUT: true; the input reads as it did. -/
def udpSpoiltSpec : ChangeSpec := { name := "udpSpoilt", fn := fun _ => fun
  | [d1, d2, d3, d4, d5] => { results := [.lit (.bool true)], args := [d1, d2, d3, d4, d5] }
  | _ => none }
def udpSpoiltRow : OpenClaim := { program := "ytmgdfckhnjihpaadoor", sum := "1fa40c17bf97317e9881c14d269eacf011f751235c201ea42088d9e7c4913205", func := "vizard/vizardlaw08.UdpSpoilt", spec := "udpSpoilt", inPlace := ["internal/reflectlite.TypeOf", "internal/reflectlite.ValueOf", "(internal/reflectlite.Value).Type", "(internal/reflectlite.Value).IsNil", "(internal/reflectlite.Value).Elem", "(internal/reflectlite.Value).Set"], unfollowed := true, recurses := true, named := ["errors.errorType"], apart := false, laid := [("errors.errorType", laid_errors_errorType)] }
def UdpSpoiltSaid : Prop := udpSpoiltRow.holds Tryd.pinned (OpenSpec.ofChange udpSpoiltSpec)

/-- ITS FALSE NEIGHBOUR: 'it returns false'. Refute it at one input. -/
def udpSpoiltWrong : ChangeSpec := { name := "udpSpoilt", fn := fun _ => fun
  | [d1, d2, d3, d4, d5] => { results := [.lit (.bool false)], args := [d1, d2, d3, d4, d5] }
  | _ => none }
def UdpSpoiltWrongFalsely : Prop := udpSpoiltRow.holds Tryd.pinned (OpenSpec.ofChange udpSpoiltWrong)

/-- 'vizardlaw08.UdpSwaps': WHATEVER THE INPUT: true; the input reads as it did. -/
def udpSwapsSpec : ChangeSpec := { name := "udpSwaps", fn := fun _ => fun
  | [d1, d2, d3] => { results := [.lit (.bool true)], args := [d1, d2, d3] }
  | _ => none }
def udpSwapsRow : OpenClaim := { program := "ytmgdfckhnjihpaadoor", sum := "1fa40c17bf97317e9881c14d269eacf011f751235c201ea42088d9e7c4913205", func := "vizard/vizardlaw08.UdpSwaps", spec := "udpSwaps", inPlace := ["internal/reflectlite.TypeOf", "internal/reflectlite.ValueOf", "(internal/reflectlite.Value).Type", "(internal/reflectlite.Value).IsNil", "(internal/reflectlite.Value).Elem", "(internal/reflectlite.Value).Set"], unfollowed := true, recurses := true, named := ["errors.errorType"], apart := false, laid := [("errors.errorType", laid_errors_errorType)] }
def UdpSwapsSaid : Prop := udpSwapsRow.holds Tryd.pinned (OpenSpec.ofChange udpSwapsSpec)

/-- ITS FALSE NEIGHBOUR: 'it returns false'. Refute it at one input. -/
def udpSwapsWrong : ChangeSpec := { name := "udpSwaps", fn := fun _ => fun
  | [d1, d2, d3] => { results := [.lit (.bool false)], args := [d1, d2, d3] }
  | _ => none }
def UdpSwapsWrongFalsely : Prop := udpSwapsRow.holds Tryd.pinned (OpenSpec.ofChange udpSwapsWrong)

/- THE SECOND FORM. 'bulk': how many values and letters a reading holds, each counted each time it is reached (what is shared counts as often as it is met; a slice's spare places count too). A statement '..UptoSaid' is the law's where the arguments, and the package variables that the reading takes, are together of bulk at most 1048576: NARROWER than '..Said'. Prove '..Said' where nothing that the law and all that it calls make is longer than what came in: it says more and counts as full. Else prove '..UptoSaid'. A law counts once. -/
mutual
def uptoBulk {H : Type} : DataW H → Nat
  | .lit (.string bytes) => bytes.length + 1
  | .lit _ => 1
  | .nil => 1
  | .ptr d => uptoBulk d + 1
  | .slice elems spare => uptoBulkAll elems + uptoBulkAll spare + 1
  | .agg parts => uptoBulkAll parts + 1
  | .iface _ d => uptoBulk d + 1
  | .map entries => uptoBulkEntries entries + 1
  | .held _ => 1
def uptoBulkAll {H : Type} : List (DataW H) → Nat
  | [] => 0
  | d :: r => uptoBulk d + uptoBulkAll r
def uptoBulkEntries {H : Type} : List (Lit × DataW H) → Nat
  | [] => 0
  | x :: r => uptoBulkEntry x + uptoBulkEntries r
def uptoBulkEntry {H : Type} : Lit × DataW H → Nat
  | (.string bytes, d) => bytes.length + uptoBulk d + 1
  | (_, d) => uptoBulk d + 1
 end
def uptoSmall : (H : Type) → List (DataW H) → Bool := fun _ ds => decide (uptoBulkAll ds ≤ 1048576)
def OpenSpec.upto (s : _root_.Go.ChangeSpec) : _root_.Go.OpenSpec := { _root_.Go.OpenSpec.ofChange s with cond := some uptoSmall }

/-- 'vizardlaw08.UdpParses', WHERE WHAT IT READS IS OF BULK AT MOST 1048576: true; the input reads as it did. -/
def udpParsesUptoRow : OpenClaim := { program := "ytmgdfckhnjihpaadoor", sum := "1fa40c17bf97317e9881c14d269eacf011f751235c201ea42088d9e7c4913205", func := "vizard/vizardlaw08.UdpParses", spec := "udpParses", inPlace := ["internal/reflectlite.TypeOf", "internal/reflectlite.ValueOf", "(internal/reflectlite.Value).Type", "(internal/reflectlite.Value).IsNil", "(internal/reflectlite.Value).Elem", "(internal/reflectlite.Value).Set"], unfollowed := true, recurses := true, named := ["errors.errorType"], apart := false, laid := [("errors.errorType", laid_errors_errorType)], narrowed := true }
def UdpParsesUptoSaid : Prop := udpParsesUptoRow.holds Tryd.pinned (OpenSpec.upto udpParsesSpec)

/-- 'vizardlaw08.UdpWrites', WHERE WHAT IT READS IS OF BULK AT MOST 1048576: true; the input reads as it did. -/
def udpWritesUptoRow : OpenClaim := { program := "ytmgdfckhnjihpaadoor", sum := "1fa40c17bf97317e9881c14d269eacf011f751235c201ea42088d9e7c4913205", func := "vizard/vizardlaw08.UdpWrites", spec := "udpWrites", inPlace := ["internal/reflectlite.TypeOf", "internal/reflectlite.ValueOf", "(internal/reflectlite.Value).Type", "(internal/reflectlite.Value).IsNil", "(internal/reflectlite.Value).Elem", "(internal/reflectlite.Value).Set"], unfollowed := true, recurses := true, named := ["errors.errorType"], apart := false, laid := [("errors.errorType", laid_errors_errorType)], narrowed := true }
def UdpWritesUptoSaid : Prop := udpWritesUptoRow.holds Tryd.pinned (OpenSpec.upto udpWritesSpec)

/-- 'vizardlaw08.UdpSpoilt', WHERE WHAT IT READS IS OF BULK AT MOST 1048576: true; the input reads as it did. -/
def udpSpoiltUptoRow : OpenClaim := { program := "ytmgdfckhnjihpaadoor", sum := "1fa40c17bf97317e9881c14d269eacf011f751235c201ea42088d9e7c4913205", func := "vizard/vizardlaw08.UdpSpoilt", spec := "udpSpoilt", inPlace := ["internal/reflectlite.TypeOf", "internal/reflectlite.ValueOf", "(internal/reflectlite.Value).Type", "(internal/reflectlite.Value).IsNil", "(internal/reflectlite.Value).Elem", "(internal/reflectlite.Value).Set"], unfollowed := true, recurses := true, named := ["errors.errorType"], apart := false, laid := [("errors.errorType", laid_errors_errorType)], narrowed := true }
def UdpSpoiltUptoSaid : Prop := udpSpoiltUptoRow.holds Tryd.pinned (OpenSpec.upto udpSpoiltSpec)

/-- 'vizardlaw08.UdpSwaps', WHERE WHAT IT READS IS OF BULK AT MOST 1048576: true; the input reads as it did. -/
def udpSwapsUptoRow : OpenClaim := { program := "ytmgdfckhnjihpaadoor", sum := "1fa40c17bf97317e9881c14d269eacf011f751235c201ea42088d9e7c4913205", func := "vizard/vizardlaw08.UdpSwaps", spec := "udpSwaps", inPlace := ["internal/reflectlite.TypeOf", "internal/reflectlite.ValueOf", "(internal/reflectlite.Value).Type", "(internal/reflectlite.Value).IsNil", "(internal/reflectlite.Value).Elem", "(internal/reflectlite.Value).Set"], unfollowed := true, recurses := true, named := ["errors.errorType"], apart := false, laid := [("errors.errorType", laid_errors_errorType)], narrowed := true }
def UdpSwapsUptoSaid : Prop := udpSwapsUptoRow.holds Tryd.pinned (OpenSpec.upto udpSwapsSpec)

end Rows
end Go.Proofs.YtmgdfckhnjihpaaDoor
