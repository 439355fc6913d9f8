/-
  NARROWER THAN 'FOR EVERY INPUT', by the rows' own cells (each row's printed sentence says how): WalEncodes: laid · WalReads: laid · WalCuts: laid · WalGaps: laid.
  DERIVED. THE GIVEN ROWS OF THIS SEAT. 4 by the template 'for every input the law returns true; each argument reads behind the call as it read before'; 0 by the template 'total and deterministic' (their statements: YtoibhkmlebcepaaDoorTotals.lean).
  GIVEN WITH THE SEED: the statements are not yours to turn. If you find one false, say at which input.
  Laid BY PROGRAM, IN A SANDBOX (cutbox-rows.mjs): the forced cells as the released guide's own fill.sh prints them over the translation 1883e383e812c5cf… (all of the seat's roots in one cut). By AI agents, Wed Nov 11 2026. No macro, syntax, notation, axiom, sorry.
-/
import Derived.Test.YtoibhkmlebcepaaDoorChecked
import GoSem.Claim
import GoSem.ClaimJoined
import GoSem.ClaimMapViews
import Derived.JoinedTies
import Derived.KernelRfl
namespace Go.Proofs.YtoibhkmlebcepaaDoor
/- THE CELL 'sum', in the pinned program and in every row, IS THE sha256 OF THE DUMP (.gsa) THAT YtoibhkmlebcepaaDoorProg.lean LOADS. Nothing in Lean hashes anything: it is a label: what it is worth is what the hold of that sum in a sandbox is worth. -/
noncomputable def Tryd.pinned : Pinned := { name := "ytoibhkmlebcepaadoor", sum := "1883e383e812c5cf1fe8f990a9ff51963f3cf1fe95f874c73639a37cc692d1e0", checked := Tryd.checked }
namespace Rows
def none {H : Type} : Left H := { results := [], args := [] }

/- WHAT THE LISTED PACKAGE-LEVEL VARIABLES READ AS WHEN THE CALL BEGINS. Each datum BY PROGRAM (the guide's laid-datum.mjs) off the statement by which the dump's own 'gosem.cut.vars' lays the variable. In a bare row this is a premise. The card (YtoibhkmlebcepaaDoorCards.lean) ties it to the program's text. -/
def laid_sentry_frame_steps {H : Type} : DataW H := .agg [.lit (.int .u32 0), .lit (.int .u32 498536548), .lit (.int .u32 997073096), .lit (.int .u32 651767980), .lit (.int .u32 1994146192), .lit (.int .u32 1802195444), .lit (.int .u32 1303535960), .lit (.int .u32 1342533948), .lit (.int .u32 3988292384), .lit (.int .u32 4027552580), .lit (.int .u32 3604390888), .lit (.int .u32 3412177804), .lit (.int .u32 2607071920), .lit (.int .u32 2262029012), .lit (.int .u32 2685067896), .lit (.int .u32 3183342108)]

/-- 'sentrylaw20.WalEncodes': WHATEVER THE INPUT: true; the input reads as it did. -/
def walEncodesSpec : ChangeSpec := { name := "walEncodes", fn := fun _ => fun
  | [d] => { results := [.lit (.bool true)], args := [d] }
  | _ => none }
def walEncodesRow : OpenClaim := { program := "ytoibhkmlebcepaadoor", sum := "1883e383e812c5cf1fe8f990a9ff51963f3cf1fe95f874c73639a37cc692d1e0", func := "sentry/sentrylaw20.WalEncodes", spec := "walEncodes", named := ["sentry/frame.steps"], apart := false, laid := [("sentry/frame.steps", laid_sentry_frame_steps)] }
def WalEncodesSaid : Prop := walEncodesRow.holds Tryd.pinned (OpenSpec.ofChange walEncodesSpec)

/-- ITS FALSE NEIGHBOUR: 'it returns false'. Refute it at one input. -/
def walEncodesWrong : ChangeSpec := { name := "walEncodes", fn := fun _ => fun
  | [d] => { results := [.lit (.bool false)], args := [d] }
  | _ => none }
def WalEncodesWrongFalsely : Prop := walEncodesRow.holds Tryd.pinned (OpenSpec.ofChange walEncodesWrong)

/-- 'sentrylaw20.WalReads': WHATEVER THE INPUT: true; the input reads as it did. -/
def walReadsSpec : ChangeSpec := { name := "walReads", fn := fun _ => fun
  | [d] => { results := [.lit (.bool true)], args := [d] }
  | _ => none }
def walReadsRow : OpenClaim := { program := "ytoibhkmlebcepaadoor", sum := "1883e383e812c5cf1fe8f990a9ff51963f3cf1fe95f874c73639a37cc692d1e0", func := "sentry/sentrylaw20.WalReads", spec := "walReads", named := ["sentry/frame.steps"], apart := false, laid := [("sentry/frame.steps", laid_sentry_frame_steps)] }
def WalReadsSaid : Prop := walReadsRow.holds Tryd.pinned (OpenSpec.ofChange walReadsSpec)

/-- ITS FALSE NEIGHBOUR: 'it returns false'. Refute it at one input. -/
def walReadsWrong : ChangeSpec := { name := "walReads", fn := fun _ => fun
  | [d] => { results := [.lit (.bool false)], args := [d] }
  | _ => none }
def WalReadsWrongFalsely : Prop := walReadsRow.holds Tryd.pinned (OpenSpec.ofChange walReadsWrong)

/-- 'sentrylaw20.WalCuts': WHATEVER THE INPUT: true; the input reads as it did. -/
def walCutsSpec : ChangeSpec := { name := "walCuts", fn := fun _ => fun
  | [d1, d2, d3] => { results := [.lit (.bool true)], args := [d1, d2, d3] }
  | _ => none }
def walCutsRow : OpenClaim := { program := "ytoibhkmlebcepaadoor", sum := "1883e383e812c5cf1fe8f990a9ff51963f3cf1fe95f874c73639a37cc692d1e0", func := "sentry/sentrylaw20.WalCuts", spec := "walCuts", named := ["sentry/frame.steps"], apart := false, laid := [("sentry/frame.steps", laid_sentry_frame_steps)] }
def WalCutsSaid : Prop := walCutsRow.holds Tryd.pinned (OpenSpec.ofChange walCutsSpec)

/-- ITS FALSE NEIGHBOUR: 'it returns false'. Refute it at one input. -/
def walCutsWrong : ChangeSpec := { name := "walCuts", fn := fun _ => fun
  | [d1, d2, d3] => { results := [.lit (.bool false)], args := [d1, d2, d3] }
  | _ => none }
def WalCutsWrongFalsely : Prop := walCutsRow.holds Tryd.pinned (OpenSpec.ofChange walCutsWrong)

/-- 'sentrylaw20.WalGaps': WHATEVER THE INPUT: true; the input reads as it did. -/
def walGapsSpec : ChangeSpec := { name := "walGaps", fn := fun _ => fun
  | [d1, d2, d3, d4] => { results := [.lit (.bool true)], args := [d1, d2, d3, d4] }
  | _ => none }
def walGapsRow : OpenClaim := { program := "ytoibhkmlebcepaadoor", sum := "1883e383e812c5cf1fe8f990a9ff51963f3cf1fe95f874c73639a37cc692d1e0", func := "sentry/sentrylaw20.WalGaps", spec := "walGaps", named := ["sentry/frame.steps"], apart := false, laid := [("sentry/frame.steps", laid_sentry_frame_steps)] }
def WalGapsSaid : Prop := walGapsRow.holds Tryd.pinned (OpenSpec.ofChange walGapsSpec)

/-- ITS FALSE NEIGHBOUR: 'it returns false'. Refute it at one input. -/
def walGapsWrong : ChangeSpec := { name := "walGaps", fn := fun _ => fun
  | [d1, d2, d3, d4] => { results := [.lit (.bool false)], args := [d1, d2, d3, d4] }
  | _ => none }
def WalGapsWrongFalsely : Prop := walGapsRow.holds Tryd.pinned (OpenSpec.ofChange walGapsWrong)

/- THE SECOND FORM. 'bulk': how many values and letters a reading holds, each counted each time it is reached (what is shared counts as often as it is met; a slice's spare places count too). A statement '..UptoSaid' is the law's where the arguments, and the package variables that the reading takes, are together of bulk at most 1048576: NARROWER than '..Said'. Prove '..Said' where nothing that the law and all that it calls make is longer than what came in: it says more and counts as full. Else prove '..UptoSaid'. A law counts once. -/
mutual
def uptoBulk {H : Type} : DataW H → Nat
  | .lit (.string bytes) => bytes.length + 1
  | .lit _ => 1
  | .nil => 1
  | .ptr d => uptoBulk d + 1
  | .slice elems spare => uptoBulkAll elems + uptoBulkAll spare + 1
  | .agg parts => uptoBulkAll parts + 1
  | .iface _ d => uptoBulk d + 1
  | .map entries => uptoBulkEntries entries + 1
  | .held _ => 1
def uptoBulkAll {H : Type} : List (DataW H) → Nat
  | [] => 0
  | d :: r => uptoBulk d + uptoBulkAll r
def uptoBulkEntries {H : Type} : List (Lit × DataW H) → Nat
  | [] => 0
  | x :: r => uptoBulkEntry x + uptoBulkEntries r
def uptoBulkEntry {H : Type} : Lit × DataW H → Nat
  | (.string bytes, d) => bytes.length + uptoBulk d + 1
  | (_, d) => uptoBulk d + 1
 end
def uptoSmall : (H : Type) → List (DataW H) → Bool := fun _ ds => decide (uptoBulkAll ds ≤ 1048576)
def OpenSpec.upto (s : _root_.Go.ChangeSpec) : _root_.Go.OpenSpec := { _root_.Go.OpenSpec.ofChange s with cond := some uptoSmall }

/-- 'sentrylaw20.WalEncodes', WHERE WHAT IT READS IS OF BULK AT MOST 1048576: true; the input reads as it did. -/
def walEncodesUptoRow : OpenClaim := { program := "ytoibhkmlebcepaadoor", sum := "1883e383e812c5cf1fe8f990a9ff51963f3cf1fe95f874c73639a37cc692d1e0", func := "sentry/sentrylaw20.WalEncodes", spec := "walEncodes", named := ["sentry/frame.steps"], apart := false, laid := [("sentry/frame.steps", laid_sentry_frame_steps)], narrowed := true }
def WalEncodesUptoSaid : Prop := walEncodesUptoRow.holds Tryd.pinned (OpenSpec.upto walEncodesSpec)

/-- 'sentrylaw20.WalReads', WHERE WHAT IT READS IS OF BULK AT MOST 1048576: true; the input reads as it did. -/
def walReadsUptoRow : OpenClaim := { program := "ytoibhkmlebcepaadoor", sum := "1883e383e812c5cf1fe8f990a9ff51963f3cf1fe95f874c73639a37cc692d1e0", func := "sentry/sentrylaw20.WalReads", spec := "walReads", named := ["sentry/frame.steps"], apart := false, laid := [("sentry/frame.steps", laid_sentry_frame_steps)], narrowed := true }
def WalReadsUptoSaid : Prop := walReadsUptoRow.holds Tryd.pinned (OpenSpec.upto walReadsSpec)

/-- 'sentrylaw20.WalCuts', WHERE WHAT IT READS IS OF BULK AT MOST 1048576: true; the input reads as it did. -/
def walCutsUptoRow : OpenClaim := { program := "ytoibhkmlebcepaadoor", sum := "1883e383e812c5cf1fe8f990a9ff51963f3cf1fe95f874c73639a37cc692d1e0", func := "sentry/sentrylaw20.WalCuts", spec := "walCuts", named := ["sentry/frame.steps"], apart := false, laid := [("sentry/frame.steps", laid_sentry_frame_steps)], narrowed := true }
def WalCutsUptoSaid : Prop := walCutsUptoRow.holds Tryd.pinned (OpenSpec.upto walCutsSpec)

/-- 'sentrylaw20.WalGaps', WHERE WHAT IT READS IS OF BULK AT MOST 1048576: true; the input reads as it did. -/
def walGapsUptoRow : OpenClaim := { program := "ytoibhkmlebcepaadoor", sum := "1883e383e812c5cf1fe8f990a9ff51963f3cf1fe95f874c73639a37cc692d1e0", func := "sentry/sentrylaw20.WalGaps", spec := "walGaps", named := ["sentry/frame.steps"], apart := false, laid := [("sentry/frame.steps", laid_sentry_frame_steps)], narrowed := true }
def WalGapsUptoSaid : Prop := walGapsUptoRow.holds Tryd.pinned (OpenSpec.upto walGapsSpec)

end Rows
end Go.Proofs.YtoibhkmlebcepaaDoor
