/-
  NARROWER THAN 'FOR EVERY INPUT', by the rows' own cells (each row's printed sentence says how): WhyChains: laid · WhyWords: laid · WhyDeep: laid · WhyOnce: laid.
  DERIVED. THE GIVEN ROWS OF THIS SEAT. 4 by the template 'for every input the law returns true; each argument reads behind the call as it read before'; 0 by the template 'total and deterministic' (their statements: YtmapfpjinfjojaaDoorTotals.lean).
  GIVEN WITH THE SEED: the statements are not yours to turn. If you find one false, say at which input.
  Laid BY PROGRAM, IN A SANDBOX (cutbox-rows.mjs): the forced cells as the released guide's own fill.sh prints them over the translation 8f207b4899645ed9… (all of the seat's roots in one cut). By AI agents, Wed Nov 11 2026. No macro, syntax, notation, axiom, sorry.
-/
import Derived.Test.YtmapfpjinfjojaaDoorChecked
import GoSem.Claim
import GoSem.ClaimJoined
import GoSem.ClaimMapViews
import Derived.JoinedTies
import Derived.KernelRfl
namespace Go.Proofs.YtmapfpjinfjojaaDoor
/- THE CELL 'sum', in the pinned program and in every row, IS THE sha256 OF THE DUMP (.gsa) THAT YtmapfpjinfjojaaDoorProg.lean LOADS. Nothing in Lean hashes anything: it is a label: what it is worth is what the hold of that sum in a sandbox is worth. -/
noncomputable def Tryd.pinned : Pinned := { name := "ytmapfpjinfjojaadoor", sum := "8f207b4899645ed907a2909501b22d1123cbc2c938c8000f62db04a56788dea5", checked := Tryd.checked }
namespace Rows
def none {H : Type} : Left H := { results := [], args := [] }

/- WHAT THE LISTED PACKAGE-LEVEL VARIABLES READ AS WHEN THE CALL BEGINS. Each datum BY PROGRAM (the guide's laid-datum.mjs) off the statement by which the dump's own 'gosem.cut.vars' lays the variable. In a bare row this is a premise. The card (YtmapfpjinfjojaaDoorCards.lean) ties it to the program's text. -/
def laid_errors_errorType {H : Type} : DataW H := .iface "internal/reflectlite.rtype" (.agg [.ptr (.lit (.string [101, 114, 114, 111, 114]))])

/-- 'vizardlaw02.WhyChains': WHATEVER THE INPUT: true; the input reads as it did. -/
def whyChainsSpec : ChangeSpec := { name := "whyChains", fn := fun _ => fun
  | [d1, d2, d3, d4] => { results := [.lit (.bool true)], args := [d1, d2, d3, d4] }
  | _ => none }
def whyChainsRow : OpenClaim := { program := "ytmapfpjinfjojaadoor", sum := "8f207b4899645ed907a2909501b22d1123cbc2c938c8000f62db04a56788dea5", func := "vizard/vizardlaw02.WhyChains", spec := "whyChains", inPlace := ["internal/reflectlite.ValueOf", "(internal/reflectlite.Value).Type", "(internal/reflectlite.Value).IsNil", "internal/reflectlite.TypeOf", "(internal/reflectlite.Value).Elem", "(internal/reflectlite.Value).Set"], unfollowed := true, recurses := true, named := ["errors.errorType"], apart := false, laid := [("errors.errorType", laid_errors_errorType)] }
def WhyChainsSaid : Prop := whyChainsRow.holds Tryd.pinned (OpenSpec.ofChange whyChainsSpec)

/-- ITS FALSE NEIGHBOUR: 'it returns false'. Refute it at one input. -/
def whyChainsWrong : ChangeSpec := { name := "whyChains", fn := fun _ => fun
  | [d1, d2, d3, d4] => { results := [.lit (.bool false)], args := [d1, d2, d3, d4] }
  | _ => none }
def WhyChainsWrongFalsely : Prop := whyChainsRow.holds Tryd.pinned (OpenSpec.ofChange whyChainsWrong)

/-- 'vizardlaw02.WhyWords': WHATEVER THE INPUT: true; the input reads as it did. -/
def whyWordsSpec : ChangeSpec := { name := "whyWords", fn := fun _ => fun
  | [d1, d2, d3] => { results := [.lit (.bool true)], args := [d1, d2, d3] }
  | _ => none }
def whyWordsRow : OpenClaim := { program := "ytmapfpjinfjojaadoor", sum := "8f207b4899645ed907a2909501b22d1123cbc2c938c8000f62db04a56788dea5", func := "vizard/vizardlaw02.WhyWords", spec := "whyWords", inPlace := ["internal/reflectlite.ValueOf", "(internal/reflectlite.Value).Type", "(internal/reflectlite.Value).IsNil", "internal/reflectlite.TypeOf", "(internal/reflectlite.Value).Elem", "(internal/reflectlite.Value).Set"], unfollowed := true, recurses := true, named := ["errors.errorType"], apart := false, laid := [("errors.errorType", laid_errors_errorType)] }
def WhyWordsSaid : Prop := whyWordsRow.holds Tryd.pinned (OpenSpec.ofChange whyWordsSpec)

/-- ITS FALSE NEIGHBOUR: 'it returns false'. Refute it at one input. -/
def whyWordsWrong : ChangeSpec := { name := "whyWords", fn := fun _ => fun
  | [d1, d2, d3] => { results := [.lit (.bool false)], args := [d1, d2, d3] }
  | _ => none }
def WhyWordsWrongFalsely : Prop := whyWordsRow.holds Tryd.pinned (OpenSpec.ofChange whyWordsWrong)

/-- 'vizardlaw02.WhyDeep': WHATEVER THE INPUT: true; the input reads as it did. -/
def whyDeepSpec : ChangeSpec := { name := "whyDeep", fn := fun _ => fun
  | [d1, d2, d3, d4] => { results := [.lit (.bool true)], args := [d1, d2, d3, d4] }
  | _ => none }
def whyDeepRow : OpenClaim := { program := "ytmapfpjinfjojaadoor", sum := "8f207b4899645ed907a2909501b22d1123cbc2c938c8000f62db04a56788dea5", func := "vizard/vizardlaw02.WhyDeep", spec := "whyDeep", inPlace := ["internal/reflectlite.ValueOf", "(internal/reflectlite.Value).Type", "(internal/reflectlite.Value).IsNil", "internal/reflectlite.TypeOf", "(internal/reflectlite.Value).Elem", "(internal/reflectlite.Value).Set"], unfollowed := true, recurses := true, named := ["errors.errorType"], apart := false, laid := [("errors.errorType", laid_errors_errorType)] }
def WhyDeepSaid : Prop := whyDeepRow.holds Tryd.pinned (OpenSpec.ofChange whyDeepSpec)

/-- ITS FALSE NEIGHBOUR: 'it returns false'. Refute it at one input. -/
def whyDeepWrong : ChangeSpec := { name := "whyDeep", fn := fun _ => fun
  | [d1, d2, d3, d4] => { results := [.lit (.bool false)], args := [d1, d2, d3, d4] }
  | _ => none }
def WhyDeepWrongFalsely : Prop := whyDeepRow.holds Tryd.pinned (OpenSpec.ofChange whyDeepWrong)

/-- 'vizardlaw02.WhyOnce': WHATEVER THE INPUT: true; the input reads as it did. -/
def whyOnceSpec : ChangeSpec := { name := "whyOnce", fn := fun _ => fun
  | [d1, d2] => { results := [.lit (.bool true)], args := [d1, d2] }
  | _ => none }
def whyOnceRow : OpenClaim := { program := "ytmapfpjinfjojaadoor", sum := "8f207b4899645ed907a2909501b22d1123cbc2c938c8000f62db04a56788dea5", func := "vizard/vizardlaw02.WhyOnce", spec := "whyOnce", inPlace := ["internal/reflectlite.ValueOf", "(internal/reflectlite.Value).Type", "(internal/reflectlite.Value).IsNil", "internal/reflectlite.TypeOf", "(internal/reflectlite.Value).Elem", "(internal/reflectlite.Value).Set"], unfollowed := true, recurses := true, named := ["errors.errorType"], apart := false, laid := [("errors.errorType", laid_errors_errorType)] }
def WhyOnceSaid : Prop := whyOnceRow.holds Tryd.pinned (OpenSpec.ofChange whyOnceSpec)

/-- ITS FALSE NEIGHBOUR: 'it returns false'. Refute it at one input. -/
def whyOnceWrong : ChangeSpec := { name := "whyOnce", fn := fun _ => fun
  | [d1, d2] => { results := [.lit (.bool false)], args := [d1, d2] }
  | _ => none }
def WhyOnceWrongFalsely : Prop := whyOnceRow.holds Tryd.pinned (OpenSpec.ofChange whyOnceWrong)

/- THE SECOND FORM. 'bulk': how many values and letters a reading holds, each counted each time it is reached (what is shared counts as often as it is met; a slice's spare places count too). A statement '..UptoSaid' is the law's where the arguments, and the package variables that the reading takes, are together of bulk at most 1048576: NARROWER than '..Said'. Prove '..Said' where nothing that the law and all that it calls make is longer than what came in: it says more and counts as full. Else prove '..UptoSaid'. A law counts once. -/
mutual
def uptoBulk {H : Type} : DataW H → Nat
  | .lit (.string bytes) => bytes.length + 1
  | .lit _ => 1
  | .nil => 1
  | .ptr d => uptoBulk d + 1
  | .slice elems spare => uptoBulkAll elems + uptoBulkAll spare + 1
  | .agg parts => uptoBulkAll parts + 1
  | .iface _ d => uptoBulk d + 1
  | .map entries => uptoBulkEntries entries + 1
  | .held _ => 1
def uptoBulkAll {H : Type} : List (DataW H) → Nat
  | [] => 0
  | d :: r => uptoBulk d + uptoBulkAll r
def uptoBulkEntries {H : Type} : List (Lit × DataW H) → Nat
  | [] => 0
  | x :: r => uptoBulkEntry x + uptoBulkEntries r
def uptoBulkEntry {H : Type} : Lit × DataW H → Nat
  | (.string bytes, d) => bytes.length + uptoBulk d + 1
  | (_, d) => uptoBulk d + 1
 end
def uptoSmall : (H : Type) → List (DataW H) → Bool := fun _ ds => decide (uptoBulkAll ds ≤ 1048576)
def OpenSpec.upto (s : _root_.Go.ChangeSpec) : _root_.Go.OpenSpec := { _root_.Go.OpenSpec.ofChange s with cond := some uptoSmall }

/-- 'vizardlaw02.WhyChains', WHERE WHAT IT READS IS OF BULK AT MOST 1048576: true; the input reads as it did. -/
def whyChainsUptoRow : OpenClaim := { program := "ytmapfpjinfjojaadoor", sum := "8f207b4899645ed907a2909501b22d1123cbc2c938c8000f62db04a56788dea5", func := "vizard/vizardlaw02.WhyChains", spec := "whyChains", inPlace := ["internal/reflectlite.ValueOf", "(internal/reflectlite.Value).Type", "(internal/reflectlite.Value).IsNil", "internal/reflectlite.TypeOf", "(internal/reflectlite.Value).Elem", "(internal/reflectlite.Value).Set"], unfollowed := true, recurses := true, named := ["errors.errorType"], apart := false, laid := [("errors.errorType", laid_errors_errorType)], narrowed := true }
def WhyChainsUptoSaid : Prop := whyChainsUptoRow.holds Tryd.pinned (OpenSpec.upto whyChainsSpec)

/-- 'vizardlaw02.WhyWords', WHERE WHAT IT READS IS OF BULK AT MOST 1048576: true; the input reads as it did. -/
def whyWordsUptoRow : OpenClaim := { program := "ytmapfpjinfjojaadoor", sum := "8f207b4899645ed907a2909501b22d1123cbc2c938c8000f62db04a56788dea5", func := "vizard/vizardlaw02.WhyWords", spec := "whyWords", inPlace := ["internal/reflectlite.ValueOf", "(internal/reflectlite.Value).Type", "(internal/reflectlite.Value).IsNil", "internal/reflectlite.TypeOf", "(internal/reflectlite.Value).Elem", "(internal/reflectlite.Value).Set"], unfollowed := true, recurses := true, named := ["errors.errorType"], apart := false, laid := [("errors.errorType", laid_errors_errorType)], narrowed := true }
def WhyWordsUptoSaid : Prop := whyWordsUptoRow.holds Tryd.pinned (OpenSpec.upto whyWordsSpec)

/-- 'vizardlaw02.WhyDeep', WHERE WHAT IT READS IS OF BULK AT MOST 1048576: true; the input reads as it did. -/
def whyDeepUptoRow : OpenClaim := { program := "ytmapfpjinfjojaadoor", sum := "8f207b4899645ed907a2909501b22d1123cbc2c938c8000f62db04a56788dea5", func := "vizard/vizardlaw02.WhyDeep", spec := "whyDeep", inPlace := ["internal/reflectlite.ValueOf", "(internal/reflectlite.Value).Type", "(internal/reflectlite.Value).IsNil", "internal/reflectlite.TypeOf", "(internal/reflectlite.Value).Elem", "(internal/reflectlite.Value).Set"], unfollowed := true, recurses := true, named := ["errors.errorType"], apart := false, laid := [("errors.errorType", laid_errors_errorType)], narrowed := true }
def WhyDeepUptoSaid : Prop := whyDeepUptoRow.holds Tryd.pinned (OpenSpec.upto whyDeepSpec)

/-- 'vizardlaw02.WhyOnce', WHERE WHAT IT READS IS OF BULK AT MOST 1048576: true; the input reads as it did. -/
def whyOnceUptoRow : OpenClaim := { program := "ytmapfpjinfjojaadoor", sum := "8f207b4899645ed907a2909501b22d1123cbc2c938c8000f62db04a56788dea5", func := "vizard/vizardlaw02.WhyOnce", spec := "whyOnce", inPlace := ["internal/reflectlite.ValueOf", "(internal/reflectlite.Value).Type", "(internal/reflectlite.Value).IsNil", "internal/reflectlite.TypeOf", "(internal/reflectlite.Value).Elem", "(internal/reflectlite.Value).Set"], unfollowed := true, recurses := true, named := ["errors.errorType"], apart := false, laid := [("errors.errorType", laid_errors_errorType)], narrowed := true }
def WhyOnceUptoSaid : Prop := whyOnceUptoRow.holds Tryd.pinned (OpenSpec.upto whyOnceSpec)

end Rows
end Go.Proofs.YtmapfpjinfjojaaDoor
