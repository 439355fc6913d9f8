/-
  DERIVED. GIVEN WITH THE SEED: THE CARDS: each row of YtopnldebekhelaaDoorRows.lean that lists a variable, with what it lists TIED to the program's text (the seventh form; the later family's looks); each row that meets fmt, with fmt's text TOLD by the authors' own Lean function (tested against real Go, not proved from fmt's source: count such statements apart). THE CARD IS WHAT COUNTS. Prove the row's statement (the work); the ties are given (YtopnldebekhelaaDoorTie.lean); close each card by the builder's one call (the guide's Derived/Test/ToyasCard.lean, 'card_holds'). Laid BY PROGRAM, IN A SANDBOX (cutbox-door.mjs). By AI agents, Wed Nov 11 2026. No macro, syntax, notation, axiom, sorry.
-/
import Derived.Test.YtopnldebekhelaaDoorRows
import GoSem.ClaimSeven
namespace Go.Proofs.YtopnldebekhelaaDoor
namespace Rows

/-- THE TIED CARD OF 'sentrylaw05.SchemaParses'. -/
def schemaParsesCard : Claim7 := { stood := { row := schemaParsesRow, standIns := [], harness := (true, "18c2b5d8334ea783815e461dbca3cbcc21c18200f01ee55ac402df43daf7cf7f"), looks := false }, kinds := [], alts := [], laidByText := true, laidKinds := [.data, .pinned], laidTests := true, laidLooks := .later }
def SchemaParsesCardSaid : Prop := Claim7.holds Tryd.pinned (.plain (OpenSpec.ofChange schemaParsesSpec)) schemaParsesCard

/-- THE TIED CARD OF 'sentrylaw05.SchemaPrints'. -/
def schemaPrintsCard : Claim7 := { stood := { row := schemaPrintsRow, standIns := [], harness := (true, "18c2b5d8334ea783815e461dbca3cbcc21c18200f01ee55ac402df43daf7cf7f"), looks := false }, kinds := [], alts := [], laidByText := true, laidKinds := [.data, .pinned], laidTests := true, laidLooks := .later }
def SchemaPrintsCardSaid : Prop := Claim7.holds Tryd.pinned (.plain (OpenSpec.ofChange schemaPrintsSpec)) schemaPrintsCard

/-- THE TIED CARD OF 'sentrylaw05.SchemaAgain'. -/
def schemaAgainCard : Claim7 := { stood := { row := schemaAgainRow, standIns := [], harness := (true, "18c2b5d8334ea783815e461dbca3cbcc21c18200f01ee55ac402df43daf7cf7f"), looks := false }, kinds := [], alts := [], laidByText := true, laidKinds := [.data, .pinned], laidTests := true, laidLooks := .later }
def SchemaAgainCardSaid : Prop := Claim7.holds Tryd.pinned (.plain (OpenSpec.ofChange schemaAgainSpec)) schemaAgainCard

/-- THE TIED CARD OF 'sentrylaw05.SchemaBlanks'. -/
def schemaBlanksCard : Claim7 := { stood := { row := schemaBlanksRow, standIns := [], harness := (true, "18c2b5d8334ea783815e461dbca3cbcc21c18200f01ee55ac402df43daf7cf7f"), looks := false }, kinds := [], alts := [], laidByText := true, laidKinds := [.data, .pinned], laidTests := true, laidLooks := .later }
def SchemaBlanksCardSaid : Prop := Claim7.holds Tryd.pinned (.plain (OpenSpec.ofChange schemaBlanksSpec)) schemaBlanksCard

/-- THE SECOND FORM's CARD OF 'sentrylaw05.SchemaParses'. -/
def schemaParsesUptoCard : Claim7 := { stood := { row := schemaParsesUptoRow, standIns := [], harness := (true, "18c2b5d8334ea783815e461dbca3cbcc21c18200f01ee55ac402df43daf7cf7f"), looks := false }, kinds := [], alts := [], laidByText := true, laidKinds := [.data, .pinned], laidTests := true, laidLooks := .later }
def SchemaParsesUptoCardSaid : Prop := Claim7.holds Tryd.pinned (.plain (OpenSpec.upto schemaParsesSpec)) schemaParsesUptoCard

/-- THE SECOND FORM's CARD OF 'sentrylaw05.SchemaPrints'. -/
def schemaPrintsUptoCard : Claim7 := { stood := { row := schemaPrintsUptoRow, standIns := [], harness := (true, "18c2b5d8334ea783815e461dbca3cbcc21c18200f01ee55ac402df43daf7cf7f"), looks := false }, kinds := [], alts := [], laidByText := true, laidKinds := [.data, .pinned], laidTests := true, laidLooks := .later }
def SchemaPrintsUptoCardSaid : Prop := Claim7.holds Tryd.pinned (.plain (OpenSpec.upto schemaPrintsSpec)) schemaPrintsUptoCard

/-- THE SECOND FORM's CARD OF 'sentrylaw05.SchemaAgain'. -/
def schemaAgainUptoCard : Claim7 := { stood := { row := schemaAgainUptoRow, standIns := [], harness := (true, "18c2b5d8334ea783815e461dbca3cbcc21c18200f01ee55ac402df43daf7cf7f"), looks := false }, kinds := [], alts := [], laidByText := true, laidKinds := [.data, .pinned], laidTests := true, laidLooks := .later }
def SchemaAgainUptoCardSaid : Prop := Claim7.holds Tryd.pinned (.plain (OpenSpec.upto schemaAgainSpec)) schemaAgainUptoCard

/-- THE SECOND FORM's CARD OF 'sentrylaw05.SchemaBlanks'. -/
def schemaBlanksUptoCard : Claim7 := { stood := { row := schemaBlanksUptoRow, standIns := [], harness := (true, "18c2b5d8334ea783815e461dbca3cbcc21c18200f01ee55ac402df43daf7cf7f"), looks := false }, kinds := [], alts := [], laidByText := true, laidKinds := [.data, .pinned], laidTests := true, laidLooks := .later }
def SchemaBlanksUptoCardSaid : Prop := Claim7.holds Tryd.pinned (.plain (OpenSpec.upto schemaBlanksSpec)) schemaBlanksUptoCard
end Rows
end Go.Proofs.YtopnldebekhelaaDoor
