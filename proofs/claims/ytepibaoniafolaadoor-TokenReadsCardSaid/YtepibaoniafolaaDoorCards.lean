/-
  DERIVED. GIVEN WITH THE SEED: THE CARDS: each row of YtepibaoniafolaaDoorRows.lean that lists a variable, with what it lists TIED to the program's text (the seventh form; the later family's looks); each row that meets fmt, with fmt's text TOLD by the authors' own Lean function (tested against real Go, not proved from fmt's source: count such statements apart). THE CARD IS WHAT COUNTS. Prove the row's statement (the work); the ties are given (YtepibaoniafolaaDoorTie.lean); close each card by the builder's one call (the guide's Derived/Test/ToyasCard.lean, 'card_holds'). Laid BY PROGRAM, IN A SANDBOX (cutbox-door.mjs). By AI agents, Wed Nov 11 2026. No macro, syntax, notation, axiom, sorry.
-/
import Derived.Test.YtepibaoniafolaaDoorRows
import GoSem.ClaimSeven
namespace Go.Proofs.YtepibaoniafolaaDoor
namespace Rows

/-- THE TIED CARD OF 'sentrylaw33.TokenMakes'. -/
def tokenMakesCard : Claim7 := { stood := { row := tokenMakesRow, standIns := [], harness := (true, "1f299c6b58d3a23fbadbe26b797cd14d8df34e9dd4a047c75d7d04d1e6a92916"), looks := false }, kinds := [], alts := [], laidByText := true, laidKinds := [.data], laidTests := true, laidLooks := .later }
def TokenMakesCardSaid : Prop := Claim7.holds Tryd.pinned (.plain (OpenSpec.ofChange tokenMakesSpec)) tokenMakesCard

/-- THE TIED CARD OF 'sentrylaw33.TokenReads'. -/
def tokenReadsCard : Claim7 := { stood := { row := tokenReadsRow, standIns := [], harness := (true, "1f299c6b58d3a23fbadbe26b797cd14d8df34e9dd4a047c75d7d04d1e6a92916"), looks := false }, kinds := [], alts := [], laidByText := true, laidKinds := [.data], laidTests := true, laidLooks := .later }
def TokenReadsCardSaid : Prop := Claim7.holds Tryd.pinned (.plain (OpenSpec.ofChange tokenReadsSpec)) tokenReadsCard

/-- THE TIED CARD OF 'sentrylaw33.TokenTurned'. -/
def tokenTurnedCard : Claim7 := { stood := { row := tokenTurnedRow, standIns := [], harness := (true, "1f299c6b58d3a23fbadbe26b797cd14d8df34e9dd4a047c75d7d04d1e6a92916"), looks := false }, kinds := [], alts := [], laidByText := true, laidKinds := [.data], laidTests := true, laidLooks := .later }
def TokenTurnedCardSaid : Prop := Claim7.holds Tryd.pinned (.plain (OpenSpec.ofChange tokenTurnedSpec)) tokenTurnedCard

/-- THE TIED CARD OF 'sentrylaw33.TokenChooses'. -/
def tokenChoosesCard : Claim7 := { stood := { row := tokenChoosesRow, standIns := [], harness := (true, "1f299c6b58d3a23fbadbe26b797cd14d8df34e9dd4a047c75d7d04d1e6a92916"), looks := false }, kinds := [], alts := [], laidByText := true, laidKinds := [.data], laidTests := true, laidLooks := .later }
def TokenChoosesCardSaid : Prop := Claim7.holds Tryd.pinned (.plain (OpenSpec.ofChange tokenChoosesSpec)) tokenChoosesCard

/-- THE SECOND FORM's CARD OF 'sentrylaw33.TokenMakes'. -/
def tokenMakesUptoCard : Claim7 := { stood := { row := tokenMakesUptoRow, standIns := [], harness := (true, "1f299c6b58d3a23fbadbe26b797cd14d8df34e9dd4a047c75d7d04d1e6a92916"), looks := false }, kinds := [], alts := [], laidByText := true, laidKinds := [.data], laidTests := true, laidLooks := .later }
def TokenMakesUptoCardSaid : Prop := Claim7.holds Tryd.pinned (.plain (OpenSpec.upto tokenMakesSpec)) tokenMakesUptoCard

/-- THE SECOND FORM's CARD OF 'sentrylaw33.TokenReads'. -/
def tokenReadsUptoCard : Claim7 := { stood := { row := tokenReadsUptoRow, standIns := [], harness := (true, "1f299c6b58d3a23fbadbe26b797cd14d8df34e9dd4a047c75d7d04d1e6a92916"), looks := false }, kinds := [], alts := [], laidByText := true, laidKinds := [.data], laidTests := true, laidLooks := .later }
def TokenReadsUptoCardSaid : Prop := Claim7.holds Tryd.pinned (.plain (OpenSpec.upto tokenReadsSpec)) tokenReadsUptoCard

/-- THE SECOND FORM's CARD OF 'sentrylaw33.TokenTurned'. -/
def tokenTurnedUptoCard : Claim7 := { stood := { row := tokenTurnedUptoRow, standIns := [], harness := (true, "1f299c6b58d3a23fbadbe26b797cd14d8df34e9dd4a047c75d7d04d1e6a92916"), looks := false }, kinds := [], alts := [], laidByText := true, laidKinds := [.data], laidTests := true, laidLooks := .later }
def TokenTurnedUptoCardSaid : Prop := Claim7.holds Tryd.pinned (.plain (OpenSpec.upto tokenTurnedSpec)) tokenTurnedUptoCard

/-- THE SECOND FORM's CARD OF 'sentrylaw33.TokenChooses'. -/
def tokenChoosesUptoCard : Claim7 := { stood := { row := tokenChoosesUptoRow, standIns := [], harness := (true, "1f299c6b58d3a23fbadbe26b797cd14d8df34e9dd4a047c75d7d04d1e6a92916"), looks := false }, kinds := [], alts := [], laidByText := true, laidKinds := [.data], laidTests := true, laidLooks := .later }
def TokenChoosesUptoCardSaid : Prop := Claim7.holds Tryd.pinned (.plain (OpenSpec.upto tokenChoosesSpec)) tokenChoosesUptoCard
end Rows
end Go.Proofs.YtepibaoniafolaaDoor
