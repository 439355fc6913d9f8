/-
  DERIVED. GIVEN WITH THE SEED: THE CARDS: each row of YtoibhkmlebcepaaDoorRows.lean that lists a variable, with what it lists TIED to the program's text (the seventh form; the later family's looks); each row that meets fmt, with fmt's text TOLD by the authors' own Lean function (tested against real Go, not proved from fmt's source: count such statements apart). THE CARD IS WHAT COUNTS. Prove the row's statement (the work); the ties are given (YtoibhkmlebcepaaDoorTie.lean); close each card by the builder's one call (the guide's Derived/Test/ToyasCard.lean, 'card_holds'). Laid BY PROGRAM, IN A SANDBOX (cutbox-door.mjs). By AI agents, Wed Nov 11 2026. No macro, syntax, notation, axiom, sorry.
-/
import Derived.Test.YtoibhkmlebcepaaDoorRows
import GoSem.ClaimSeven
namespace Go.Proofs.YtoibhkmlebcepaaDoor
namespace Rows

/-- THE TIED CARD OF 'sentrylaw20.WalEncodes'. -/
def walEncodesCard : Claim7 := { stood := { row := walEncodesRow, standIns := [], harness := (true, "85e81e42a35e009194558f43b7283fdf2bc46e0e536547cd1e049495c928bdbe"), looks := false }, kinds := [], alts := [], laidByText := true, laidKinds := [.data], laidTests := true, laidLooks := .later }
def WalEncodesCardSaid : Prop := Claim7.holds Tryd.pinned (.plain (OpenSpec.ofChange walEncodesSpec)) walEncodesCard

/-- THE TIED CARD OF 'sentrylaw20.WalReads'. -/
def walReadsCard : Claim7 := { stood := { row := walReadsRow, standIns := [], harness := (true, "85e81e42a35e009194558f43b7283fdf2bc46e0e536547cd1e049495c928bdbe"), looks := false }, kinds := [], alts := [], laidByText := true, laidKinds := [.data], laidTests := true, laidLooks := .later }
def WalReadsCardSaid : Prop := Claim7.holds Tryd.pinned (.plain (OpenSpec.ofChange walReadsSpec)) walReadsCard

/-- THE TIED CARD OF 'sentrylaw20.WalCuts'. -/
def walCutsCard : Claim7 := { stood := { row := walCutsRow, standIns := [], harness := (true, "85e81e42a35e009194558f43b7283fdf2bc46e0e536547cd1e049495c928bdbe"), looks := false }, kinds := [], alts := [], laidByText := true, laidKinds := [.data], laidTests := true, laidLooks := .later }
def WalCutsCardSaid : Prop := Claim7.holds Tryd.pinned (.plain (OpenSpec.ofChange walCutsSpec)) walCutsCard

/-- THE TIED CARD OF 'sentrylaw20.WalGaps'. -/
def walGapsCard : Claim7 := { stood := { row := walGapsRow, standIns := [], harness := (true, "85e81e42a35e009194558f43b7283fdf2bc46e0e536547cd1e049495c928bdbe"), looks := false }, kinds := [], alts := [], laidByText := true, laidKinds := [.data], laidTests := true, laidLooks := .later }
def WalGapsCardSaid : Prop := Claim7.holds Tryd.pinned (.plain (OpenSpec.ofChange walGapsSpec)) walGapsCard

/-- THE SECOND FORM's CARD OF 'sentrylaw20.WalEncodes'. -/
def walEncodesUptoCard : Claim7 := { stood := { row := walEncodesUptoRow, standIns := [], harness := (true, "85e81e42a35e009194558f43b7283fdf2bc46e0e536547cd1e049495c928bdbe"), looks := false }, kinds := [], alts := [], laidByText := true, laidKinds := [.data], laidTests := true, laidLooks := .later }
def WalEncodesUptoCardSaid : Prop := Claim7.holds Tryd.pinned (.plain (OpenSpec.upto walEncodesSpec)) walEncodesUptoCard

/-- THE SECOND FORM's CARD OF 'sentrylaw20.WalReads'. -/
def walReadsUptoCard : Claim7 := { stood := { row := walReadsUptoRow, standIns := [], harness := (true, "85e81e42a35e009194558f43b7283fdf2bc46e0e536547cd1e049495c928bdbe"), looks := false }, kinds := [], alts := [], laidByText := true, laidKinds := [.data], laidTests := true, laidLooks := .later }
def WalReadsUptoCardSaid : Prop := Claim7.holds Tryd.pinned (.plain (OpenSpec.upto walReadsSpec)) walReadsUptoCard

/-- THE SECOND FORM's CARD OF 'sentrylaw20.WalCuts'. -/
def walCutsUptoCard : Claim7 := { stood := { row := walCutsUptoRow, standIns := [], harness := (true, "85e81e42a35e009194558f43b7283fdf2bc46e0e536547cd1e049495c928bdbe"), looks := false }, kinds := [], alts := [], laidByText := true, laidKinds := [.data], laidTests := true, laidLooks := .later }
def WalCutsUptoCardSaid : Prop := Claim7.holds Tryd.pinned (.plain (OpenSpec.upto walCutsSpec)) walCutsUptoCard

/-- THE SECOND FORM's CARD OF 'sentrylaw20.WalGaps'. -/
def walGapsUptoCard : Claim7 := { stood := { row := walGapsUptoRow, standIns := [], harness := (true, "85e81e42a35e009194558f43b7283fdf2bc46e0e536547cd1e049495c928bdbe"), looks := false }, kinds := [], alts := [], laidByText := true, laidKinds := [.data], laidTests := true, laidLooks := .later }
def WalGapsUptoCardSaid : Prop := Claim7.holds Tryd.pinned (.plain (OpenSpec.upto walGapsSpec)) walGapsUptoCard
end Rows
end Go.Proofs.YtoibhkmlebcepaaDoor
