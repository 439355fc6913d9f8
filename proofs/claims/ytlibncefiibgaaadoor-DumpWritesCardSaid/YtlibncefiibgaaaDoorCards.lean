/-
  DERIVED. GIVEN WITH THE SEED: THE CARDS: each row of YtlibncefiibgaaaDoorRows.lean that lists a variable, with what it lists TIED to the program's text (the seventh form; the later family's looks); each row that meets fmt, with fmt's text TOLD by the authors' own Lean function (tested against real Go, not proved from fmt's source: count such statements apart). THE CARD IS WHAT COUNTS. Prove the row's statement (the work); the ties are given (YtlibncefiibgaaaDoorTie.lean); close each card by the builder's one call (the guide's Derived/Test/ToyasCard.lean, 'card_holds'). Laid BY PROGRAM, IN A SANDBOX (cutbox-door.mjs). By AI agents, Wed Nov 11 2026. No macro, syntax, notation, axiom, sorry.
-/
import Derived.Test.YtlibncefiibgaaaDoorRows
import GoSem.ClaimSeven
namespace Go.Proofs.YtlibncefiibgaaaDoor
namespace Rows

/-- THE TIED CARD OF 'sentrylaw36.DumpWrites'. -/
def dumpWritesCard : Claim7 := { stood := { row := dumpWritesRow, standIns := [], harness := (true, "c442965d6f20234b8069891b30d5d54afe20a645128c5d6ae416918314d865e8"), looks := false }, kinds := [], alts := [], laidByText := true, laidKinds := [.data, .data, .data], laidTests := true, laidLooks := .later }
def DumpWritesCardSaid : Prop := Claim7.holds Tryd.pinned (.plain (OpenSpec.ofChange dumpWritesSpec)) dumpWritesCard

/-- THE TIED CARD OF 'sentrylaw36.DumpReads'. -/
def dumpReadsCard : Claim7 := { stood := { row := dumpReadsRow, standIns := [], harness := (true, "c442965d6f20234b8069891b30d5d54afe20a645128c5d6ae416918314d865e8"), looks := false }, kinds := [], alts := [], laidByText := true, laidKinds := [.data, .data, .data], laidTests := true, laidLooks := .later }
def DumpReadsCardSaid : Prop := Claim7.holds Tryd.pinned (.plain (OpenSpec.ofChange dumpReadsSpec)) dumpReadsCard

/-- THE SECOND FORM's CARD OF 'sentrylaw36.DumpWrites'. -/
def dumpWritesUptoCard : Claim7 := { stood := { row := dumpWritesUptoRow, standIns := [], harness := (true, "c442965d6f20234b8069891b30d5d54afe20a645128c5d6ae416918314d865e8"), looks := false }, kinds := [], alts := [], laidByText := true, laidKinds := [.data, .data, .data], laidTests := true, laidLooks := .later }
def DumpWritesUptoCardSaid : Prop := Claim7.holds Tryd.pinned (.plain (OpenSpec.upto dumpWritesSpec)) dumpWritesUptoCard

/-- THE SECOND FORM's CARD OF 'sentrylaw36.DumpReads'. -/
def dumpReadsUptoCard : Claim7 := { stood := { row := dumpReadsUptoRow, standIns := [], harness := (true, "c442965d6f20234b8069891b30d5d54afe20a645128c5d6ae416918314d865e8"), looks := false }, kinds := [], alts := [], laidByText := true, laidKinds := [.data, .data, .data], laidTests := true, laidLooks := .later }
def DumpReadsUptoCardSaid : Prop := Claim7.holds Tryd.pinned (.plain (OpenSpec.upto dumpReadsSpec)) dumpReadsUptoCard
end Rows
end Go.Proofs.YtlibncefiibgaaaDoor
