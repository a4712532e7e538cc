/-
  NARROWER THAN 'FOR EVERY INPUT', by the rows' own cells (each row's printed sentence says how): Blocks: laid · Streams: laid.
  DERIVED. THE GIVEN ROWS OF THIS SEAT. 2 by the template 'for every input the law returns true; each argument reads behind the call as it read before'; 0 by the template 'total and deterministic' (their statements: YthknflhgoldaeaaDoorTotals.lean).
  GIVEN WITH THE SEED: the statements are not yours to turn. If you find one false, say at which input.
  Laid BY PROGRAM, IN A SANDBOX (cutbox-rows.mjs): the forced cells as the released guide's own fill.sh prints them over the translation 94e6a9fa31bf528e… (all of the seat's roots in one cut). By AI agents, Wed Nov 11 2026. No macro, syntax, notation, axiom, sorry.
-/
import Derived.Test.YthknflhgoldaeaaDoorChecked
import GoSem.Claim
import GoSem.ClaimJoined
import GoSem.ClaimMapViews
import Derived.JoinedTies
import Derived.KernelRfl
namespace Go.Proofs.YthknflhgoldaeaaDoor
/- THE CELL 'sum', in the pinned program and in every row, IS THE sha256 OF THE DUMP (.gsa) THAT YthknflhgoldaeaaDoorProg.lean LOADS. Nothing in Lean hashes anything: it is a label: what it is worth is what the hold of that sum in a sandbox is worth. -/
noncomputable def Tryd.pinned : Pinned := { name := "ythknflhgoldaeaadoor", sum := "94e6a9fa31bf528e7f05acdc621585c7670e51be784a42528d63f39cd613ab41", checked := Tryd.checked }
namespace Rows
def none {H : Type} : Left H := { results := [], args := [] }

/- WHAT THE LISTED PACKAGE-LEVEL VARIABLES READ AS WHEN THE CALL BEGINS. Each datum BY PROGRAM (the guide's laid-datum.mjs) off the statement by which the dump's own 'gosem.cut.vars' lays the variable. In a bare row this is a premise. The card (YthknflhgoldaeaaDoorCards.lean) ties it to the program's text. -/
def laid_errors_errorType {H : Type} : DataW H := .iface "internal/reflectlite.rtype" (.agg [.ptr (.lit (.string [101, 114, 114, 111, 114]))])
def laid_marl_marl_Broken {H : Type} : DataW H := .iface "*errors.errorString" (.ptr (.agg [.lit (.string [97, 32, 98, 114, 111, 107, 101, 110, 32, 115, 116, 114, 101, 97, 109])]))

/-- 'marllaw.Blocks': WHATEVER THE INPUT: true; the input reads as it did. -/
def blocksSpec : ChangeSpec := { name := "blocks", fn := fun _ => fun
  | [d] => { results := [.lit (.bool true)], args := [d] }
  | _ => none }
def blocksRow : OpenClaim := { program := "ythknflhgoldaeaadoor", sum := "94e6a9fa31bf528e7f05acdc621585c7670e51be784a42528d63f39cd613ab41", func := "marl/marllaw.Blocks", spec := "blocks", inPlace := ["internal/reflectlite.ValueOf", "(internal/reflectlite.Value).Type", "(internal/reflectlite.Value).IsNil", "internal/reflectlite.TypeOf", "(internal/reflectlite.Value).Elem", "(internal/reflectlite.Value).Set"], unfollowed := true, recurses := true, named := ["marl/marl.Broken", "errors.errorType"], apart := false, laid := [("errors.errorType", laid_errors_errorType), ("marl/marl.Broken", laid_marl_marl_Broken)] }
def BlocksSaid : Prop := blocksRow.holds Tryd.pinned (OpenSpec.ofChange blocksSpec)

/-- ITS FALSE NEIGHBOUR: 'it returns false'. Refute it at one input. -/
def blocksWrong : ChangeSpec := { name := "blocks", fn := fun _ => fun
  | [d] => { results := [.lit (.bool false)], args := [d] }
  | _ => none }
def BlocksWrongFalsely : Prop := blocksRow.holds Tryd.pinned (OpenSpec.ofChange blocksWrong)

/-- 'marllaw.Streams': WHATEVER THE INPUT: true; the input reads as it did. -/
def streamsSpec : ChangeSpec := { name := "streams", fn := fun _ => fun
  | [d] => { results := [.lit (.bool true)], args := [d] }
  | _ => none }
def streamsRow : OpenClaim := { program := "ythknflhgoldaeaadoor", sum := "94e6a9fa31bf528e7f05acdc621585c7670e51be784a42528d63f39cd613ab41", func := "marl/marllaw.Streams", spec := "streams", inPlace := ["internal/reflectlite.ValueOf", "(internal/reflectlite.Value).Type", "(internal/reflectlite.Value).IsNil", "internal/reflectlite.TypeOf", "(internal/reflectlite.Value).Elem", "(internal/reflectlite.Value).Set"], unfollowed := true, recurses := true, named := ["marl/marl.Broken", "errors.errorType"], apart := false, laid := [("errors.errorType", laid_errors_errorType), ("marl/marl.Broken", laid_marl_marl_Broken)] }
def StreamsSaid : Prop := streamsRow.holds Tryd.pinned (OpenSpec.ofChange streamsSpec)

/-- ITS FALSE NEIGHBOUR: 'it returns false'. Refute it at one input. -/
def streamsWrong : ChangeSpec := { name := "streams", fn := fun _ => fun
  | [d] => { results := [.lit (.bool false)], args := [d] }
  | _ => none }
def StreamsWrongFalsely : Prop := streamsRow.holds Tryd.pinned (OpenSpec.ofChange streamsWrong)

/- THE SECOND FORM. 'bulk': how many values and letters a reading holds, each counted each time it is reached (what is shared counts as often as it is met; a slice's spare places count too). A statement '..UptoSaid' is the law's where the arguments, and the package variables that the reading takes, are together of bulk at most 1048576: NARROWER than '..Said'. Prove '..Said' where nothing that the law and all that it calls make is longer than what came in: it says more and counts as full. Else prove '..UptoSaid'. A law counts once. -/
mutual
def uptoBulk {H : Type} : DataW H → Nat
  | .lit (.string bytes) => bytes.length + 1
  | .lit _ => 1
  | .nil => 1
  | .ptr d => uptoBulk d + 1
  | .slice elems spare => uptoBulkAll elems + uptoBulkAll spare + 1
  | .agg parts => uptoBulkAll parts + 1
  | .iface _ d => uptoBulk d + 1
  | .map entries => uptoBulkEntries entries + 1
  | .held _ => 1
def uptoBulkAll {H : Type} : List (DataW H) → Nat
  | [] => 0
  | d :: r => uptoBulk d + uptoBulkAll r
def uptoBulkEntries {H : Type} : List (Lit × DataW H) → Nat
  | [] => 0
  | x :: r => uptoBulkEntry x + uptoBulkEntries r
def uptoBulkEntry {H : Type} : Lit × DataW H → Nat
  | (.string bytes, d) => bytes.length + uptoBulk d + 1
  | (_, d) => uptoBulk d + 1
 end
def uptoSmall : (H : Type) → List (DataW H) → Bool := fun _ ds => decide (uptoBulkAll ds ≤ 1048576)
def OpenSpec.upto (s : _root_.Go.ChangeSpec) : _root_.Go.OpenSpec := { _root_.Go.OpenSpec.ofChange s with cond := some uptoSmall }

/-- 'marllaw.Blocks', WHERE WHAT IT READS IS OF BULK AT MOST 1048576: true; the input reads as it did. -/
def blocksUptoRow : OpenClaim := { program := "ythknflhgoldaeaadoor", sum := "94e6a9fa31bf528e7f05acdc621585c7670e51be784a42528d63f39cd613ab41", func := "marl/marllaw.Blocks", spec := "blocks", inPlace := ["internal/reflectlite.ValueOf", "(internal/reflectlite.Value).Type", "(internal/reflectlite.Value).IsNil", "internal/reflectlite.TypeOf", "(internal/reflectlite.Value).Elem", "(internal/reflectlite.Value).Set"], unfollowed := true, recurses := true, named := ["marl/marl.Broken", "errors.errorType"], apart := false, laid := [("errors.errorType", laid_errors_errorType), ("marl/marl.Broken", laid_marl_marl_Broken)], narrowed := true }
def BlocksUptoSaid : Prop := blocksUptoRow.holds Tryd.pinned (OpenSpec.upto blocksSpec)

/-- 'marllaw.Streams', WHERE WHAT IT READS IS OF BULK AT MOST 1048576: true; the input reads as it did. -/
def streamsUptoRow : OpenClaim := { program := "ythknflhgoldaeaadoor", sum := "94e6a9fa31bf528e7f05acdc621585c7670e51be784a42528d63f39cd613ab41", func := "marl/marllaw.Streams", spec := "streams", inPlace := ["internal/reflectlite.ValueOf", "(internal/reflectlite.Value).Type", "(internal/reflectlite.Value).IsNil", "internal/reflectlite.TypeOf", "(internal/reflectlite.Value).Elem", "(internal/reflectlite.Value).Set"], unfollowed := true, recurses := true, named := ["marl/marl.Broken", "errors.errorType"], apart := false, laid := [("errors.errorType", laid_errors_errorType), ("marl/marl.Broken", laid_marl_marl_Broken)], narrowed := true }
def StreamsUptoSaid : Prop := streamsUptoRow.holds Tryd.pinned (OpenSpec.upto streamsSpec)

end Rows
end Go.Proofs.YthknflhgoldaeaaDoor
