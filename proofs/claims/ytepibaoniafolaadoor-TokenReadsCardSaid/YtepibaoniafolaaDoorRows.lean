/-
  NARROWER THAN 'FOR EVERY INPUT', by the rows' own cells (each row's printed sentence says how): TokenMakes: laid · TokenReads: laid · TokenTurned: laid · TokenChooses: laid.
  DERIVED. THE GIVEN ROWS OF THIS SEAT. 4 by the template 'for every input the law returns true; each argument reads behind the call as it read before'; 0 by the template 'total and deterministic' (their statements: YtepibaoniafolaaDoorTotals.lean).
  GIVEN WITH THE SEED: the statements are not yours to turn. If you find one false, say at which input.
  Laid BY PROGRAM, IN A SANDBOX (cutbox-rows.mjs): the forced cells as the released guide's own fill.sh prints them over the translation 89c9577ac431e269… (all of the seat's roots in one cut). By AI agents, Wed Nov 11 2026. No macro, syntax, notation, axiom, sorry.
-/
import Derived.Test.YtepibaoniafolaaDoorChecked
import GoSem.Claim
import GoSem.ClaimJoined
import GoSem.ClaimMapViews
import Derived.JoinedTies
import Derived.KernelRfl
namespace Go.Proofs.YtepibaoniafolaaDoor
/- THE CELL 'sum', in the pinned program and in every row, IS THE sha256 OF THE DUMP (.gsa) THAT YtepibaoniafolaaDoorProg.lean LOADS. Nothing in Lean hashes anything: it is a label: what it is worth is what the hold of that sum in a sandbox is worth. -/
noncomputable def Tryd.pinned : Pinned := { name := "ytepibaoniafolaadoor", sum := "89c9577ac431e269d431d1e33f6042bd32d063d140c9729334eb0690cac61afc", checked := Tryd.checked }
namespace Rows
def none {H : Type} : Left H := { results := [], args := [] }

/- WHAT THE LISTED PACKAGE-LEVEL VARIABLES READ AS WHEN THE CALL BEGINS. Each datum BY PROGRAM (the guide's laid-datum.mjs) off the statement by which the dump's own 'gosem.cut.vars' lays the variable. In a bare row this is a premise. The card (YtepibaoniafolaaDoorCards.lean) ties it to the program's text. -/
def laid_sentry_frame_steps {H : Type} : DataW H := .agg [.lit (.int .u32 0), .lit (.int .u32 498536548), .lit (.int .u32 997073096), .lit (.int .u32 651767980), .lit (.int .u32 1994146192), .lit (.int .u32 1802195444), .lit (.int .u32 1303535960), .lit (.int .u32 1342533948), .lit (.int .u32 3988292384), .lit (.int .u32 4027552580), .lit (.int .u32 3604390888), .lit (.int .u32 3412177804), .lit (.int .u32 2607071920), .lit (.int .u32 2262029012), .lit (.int .u32 2685067896), .lit (.int .u32 3183342108)]

/-- 'sentrylaw33.TokenMakes': WHATEVER THE INPUT: true; the input reads as it did. -/
def tokenMakesSpec : ChangeSpec := { name := "tokenMakes", fn := fun _ => fun
  | [d1, d2] => { results := [.lit (.bool true)], args := [d1, d2] }
  | _ => none }
def tokenMakesRow : OpenClaim := { program := "ytepibaoniafolaadoor", sum := "89c9577ac431e269d431d1e33f6042bd32d063d140c9729334eb0690cac61afc", func := "sentry/sentrylaw33.TokenMakes", spec := "tokenMakes", inPlace := ["internal/abi.NoEscape", "internal/bytealg.IndexByteString"], named := ["sentry/frame.steps"], apart := false, laid := [("sentry/frame.steps", laid_sentry_frame_steps)] }
def TokenMakesSaid : Prop := tokenMakesRow.holds Tryd.pinned (OpenSpec.ofChange tokenMakesSpec)

/-- ITS FALSE NEIGHBOUR: 'it returns false'. Refute it at one input. -/
def tokenMakesWrong : ChangeSpec := { name := "tokenMakes", fn := fun _ => fun
  | [d1, d2] => { results := [.lit (.bool false)], args := [d1, d2] }
  | _ => none }
def TokenMakesWrongFalsely : Prop := tokenMakesRow.holds Tryd.pinned (OpenSpec.ofChange tokenMakesWrong)

/-- 'sentrylaw33.TokenReads': WHATEVER THE INPUT: true; the input reads as it did. -/
def tokenReadsSpec : ChangeSpec := { name := "tokenReads", fn := fun _ => fun
  | [d1, d2, d3, d4, d5] => { results := [.lit (.bool true)], args := [d1, d2, d3, d4, d5] }
  | _ => none }
def tokenReadsRow : OpenClaim := { program := "ytepibaoniafolaadoor", sum := "89c9577ac431e269d431d1e33f6042bd32d063d140c9729334eb0690cac61afc", func := "sentry/sentrylaw33.TokenReads", spec := "tokenReads", inPlace := ["internal/abi.NoEscape", "internal/bytealg.IndexByteString"], named := ["sentry/frame.steps"], apart := false, laid := [("sentry/frame.steps", laid_sentry_frame_steps)] }
def TokenReadsSaid : Prop := tokenReadsRow.holds Tryd.pinned (OpenSpec.ofChange tokenReadsSpec)

/-- ITS FALSE NEIGHBOUR: 'it returns false'. Refute it at one input. -/
def tokenReadsWrong : ChangeSpec := { name := "tokenReads", fn := fun _ => fun
  | [d1, d2, d3, d4, d5] => { results := [.lit (.bool false)], args := [d1, d2, d3, d4, d5] }
  | _ => none }
def TokenReadsWrongFalsely : Prop := tokenReadsRow.holds Tryd.pinned (OpenSpec.ofChange tokenReadsWrong)

/-- 'sentrylaw33.TokenTurned': WHATEVER THE INPUT: true; the input reads as it did. -/
def tokenTurnedSpec : ChangeSpec := { name := "tokenTurned", fn := fun _ => fun
  | [d1, d2, d3, d4] => { results := [.lit (.bool true)], args := [d1, d2, d3, d4] }
  | _ => none }
def tokenTurnedRow : OpenClaim := { program := "ytepibaoniafolaadoor", sum := "89c9577ac431e269d431d1e33f6042bd32d063d140c9729334eb0690cac61afc", func := "sentry/sentrylaw33.TokenTurned", spec := "tokenTurned", inPlace := ["internal/abi.NoEscape", "internal/bytealg.IndexByteString"], named := ["sentry/frame.steps"], apart := false, laid := [("sentry/frame.steps", laid_sentry_frame_steps)] }
def TokenTurnedSaid : Prop := tokenTurnedRow.holds Tryd.pinned (OpenSpec.ofChange tokenTurnedSpec)

/-- ITS FALSE NEIGHBOUR: 'it returns false'. Refute it at one input. -/
def tokenTurnedWrong : ChangeSpec := { name := "tokenTurned", fn := fun _ => fun
  | [d1, d2, d3, d4] => { results := [.lit (.bool false)], args := [d1, d2, d3, d4] }
  | _ => none }
def TokenTurnedWrongFalsely : Prop := tokenTurnedRow.holds Tryd.pinned (OpenSpec.ofChange tokenTurnedWrong)

/-- 'sentrylaw33.TokenChooses': WHATEVER THE INPUT: true; the input reads as it did. -/
def tokenChoosesSpec : ChangeSpec := { name := "tokenChooses", fn := fun _ => fun
  | [d1, d2, d3, d4] => { results := [.lit (.bool true)], args := [d1, d2, d3, d4] }
  | _ => none }
def tokenChoosesRow : OpenClaim := { program := "ytepibaoniafolaadoor", sum := "89c9577ac431e269d431d1e33f6042bd32d063d140c9729334eb0690cac61afc", func := "sentry/sentrylaw33.TokenChooses", spec := "tokenChooses", inPlace := ["internal/abi.NoEscape", "internal/bytealg.IndexByteString"], named := ["sentry/frame.steps"], apart := false, laid := [("sentry/frame.steps", laid_sentry_frame_steps)] }
def TokenChoosesSaid : Prop := tokenChoosesRow.holds Tryd.pinned (OpenSpec.ofChange tokenChoosesSpec)

/-- ITS FALSE NEIGHBOUR: 'it returns false'. Refute it at one input. -/
def tokenChoosesWrong : ChangeSpec := { name := "tokenChooses", fn := fun _ => fun
  | [d1, d2, d3, d4] => { results := [.lit (.bool false)], args := [d1, d2, d3, d4] }
  | _ => none }
def TokenChoosesWrongFalsely : Prop := tokenChoosesRow.holds Tryd.pinned (OpenSpec.ofChange tokenChoosesWrong)

/- THE SECOND FORM. 'bulk': how many values and letters a reading holds, each counted each time it is reached (what is shared counts as often as it is met; a slice's spare places count too). A statement '..UptoSaid' is the law's where the arguments, and the package variables that the reading takes, are together of bulk at most 1048576: NARROWER than '..Said'. Prove '..Said' where nothing that the law and all that it calls make is longer than what came in: it says more and counts as full. Else prove '..UptoSaid'. A law counts once. -/
mutual
def uptoBulk {H : Type} : DataW H → Nat
  | .lit (.string bytes) => bytes.length + 1
  | .lit _ => 1
  | .nil => 1
  | .ptr d => uptoBulk d + 1
  | .slice elems spare => uptoBulkAll elems + uptoBulkAll spare + 1
  | .agg parts => uptoBulkAll parts + 1
  | .iface _ d => uptoBulk d + 1
  | .map entries => uptoBulkEntries entries + 1
  | .held _ => 1
def uptoBulkAll {H : Type} : List (DataW H) → Nat
  | [] => 0
  | d :: r => uptoBulk d + uptoBulkAll r
def uptoBulkEntries {H : Type} : List (Lit × DataW H) → Nat
  | [] => 0
  | x :: r => uptoBulkEntry x + uptoBulkEntries r
def uptoBulkEntry {H : Type} : Lit × DataW H → Nat
  | (.string bytes, d) => bytes.length + uptoBulk d + 1
  | (_, d) => uptoBulk d + 1
 end
def uptoSmall : (H : Type) → List (DataW H) → Bool := fun _ ds => decide (uptoBulkAll ds ≤ 1048576)
def OpenSpec.upto (s : _root_.Go.ChangeSpec) : _root_.Go.OpenSpec := { _root_.Go.OpenSpec.ofChange s with cond := some uptoSmall }

/-- 'sentrylaw33.TokenMakes', WHERE WHAT IT READS IS OF BULK AT MOST 1048576: true; the input reads as it did. -/
def tokenMakesUptoRow : OpenClaim := { program := "ytepibaoniafolaadoor", sum := "89c9577ac431e269d431d1e33f6042bd32d063d140c9729334eb0690cac61afc", func := "sentry/sentrylaw33.TokenMakes", spec := "tokenMakes", inPlace := ["internal/abi.NoEscape", "internal/bytealg.IndexByteString"], named := ["sentry/frame.steps"], apart := false, laid := [("sentry/frame.steps", laid_sentry_frame_steps)], narrowed := true }
def TokenMakesUptoSaid : Prop := tokenMakesUptoRow.holds Tryd.pinned (OpenSpec.upto tokenMakesSpec)

/-- 'sentrylaw33.TokenReads', WHERE WHAT IT READS IS OF BULK AT MOST 1048576: true; the input reads as it did. -/
def tokenReadsUptoRow : OpenClaim := { program := "ytepibaoniafolaadoor", sum := "89c9577ac431e269d431d1e33f6042bd32d063d140c9729334eb0690cac61afc", func := "sentry/sentrylaw33.TokenReads", spec := "tokenReads", inPlace := ["internal/abi.NoEscape", "internal/bytealg.IndexByteString"], named := ["sentry/frame.steps"], apart := false, laid := [("sentry/frame.steps", laid_sentry_frame_steps)], narrowed := true }
def TokenReadsUptoSaid : Prop := tokenReadsUptoRow.holds Tryd.pinned (OpenSpec.upto tokenReadsSpec)

/-- 'sentrylaw33.TokenTurned', WHERE WHAT IT READS IS OF BULK AT MOST 1048576: true; the input reads as it did. -/
def tokenTurnedUptoRow : OpenClaim := { program := "ytepibaoniafolaadoor", sum := "89c9577ac431e269d431d1e33f6042bd32d063d140c9729334eb0690cac61afc", func := "sentry/sentrylaw33.TokenTurned", spec := "tokenTurned", inPlace := ["internal/abi.NoEscape", "internal/bytealg.IndexByteString"], named := ["sentry/frame.steps"], apart := false, laid := [("sentry/frame.steps", laid_sentry_frame_steps)], narrowed := true }
def TokenTurnedUptoSaid : Prop := tokenTurnedUptoRow.holds Tryd.pinned (OpenSpec.upto tokenTurnedSpec)

/-- 'sentrylaw33.TokenChooses', WHERE WHAT IT READS IS OF BULK AT MOST 1048576: true; the input reads as it did. -/
def tokenChoosesUptoRow : OpenClaim := { program := "ytepibaoniafolaadoor", sum := "89c9577ac431e269d431d1e33f6042bd32d063d140c9729334eb0690cac61afc", func := "sentry/sentrylaw33.TokenChooses", spec := "tokenChooses", inPlace := ["internal/abi.NoEscape", "internal/bytealg.IndexByteString"], named := ["sentry/frame.steps"], apart := false, laid := [("sentry/frame.steps", laid_sentry_frame_steps)], narrowed := true }
def TokenChoosesUptoSaid : Prop := tokenChoosesUptoRow.holds Tryd.pinned (OpenSpec.upto tokenChoosesSpec)

end Rows
end Go.Proofs.YtepibaoniafolaaDoor
