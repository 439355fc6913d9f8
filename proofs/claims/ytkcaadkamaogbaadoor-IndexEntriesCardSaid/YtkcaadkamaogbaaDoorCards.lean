/-
  DERIVED. GIVEN WITH THE SEED: THE CARDS: each row of YtkcaadkamaogbaaDoorRows.lean that lists a variable, with what it lists TIED to the program's text (the seventh form; the later family's looks); each row that meets fmt, with fmt's text TOLD by the authors' own Lean function (tested against real Go, not proved from fmt's source: count such statements apart). THE CARD IS WHAT COUNTS. Prove the row's statement (the work); the ties are given (YtkcaadkamaogbaaDoorTie.lean); close each card by the builder's one call (the guide's Derived/Test/ToyasCard.lean, 'card_holds'). Laid BY PROGRAM, IN A SANDBOX (cutbox-door.mjs). By AI agents, Wed Nov 11 2026. No macro, syntax, notation, axiom, sorry.
-/
import Derived.Test.YtkcaadkamaogbaaDoorRows
import GoSem.ClaimSeven
namespace Go.Proofs.YtkcaadkamaogbaaDoor
namespace Rows

/-- THE TIED CARD OF 'sentrylaw24.IndexKeys'. -/
def indexKeysCard : Claim7 := { stood := { row := indexKeysRow, standIns := [], harness := (true, "6e170a8c5f46522865922e4c4ba3c9ed5bad9689c137d185def93f505cb54dc5"), looks := false }, kinds := [], alts := [], laidByText := true, laidKinds := [.data, .pinned], laidTests := true, laidLooks := .later }
def IndexKeysCardSaid : Prop := Claim7.holds Tryd.pinned (.plain (OpenSpec.ofChange indexKeysSpec)) indexKeysCard

/-- THE TIED CARD OF 'sentrylaw24.IndexReads'. -/
def indexReadsCard : Claim7 := { stood := { row := indexReadsRow, standIns := [], harness := (true, "6e170a8c5f46522865922e4c4ba3c9ed5bad9689c137d185def93f505cb54dc5"), looks := false }, kinds := [], alts := [], laidByText := true, laidKinds := [.data, .pinned], laidTests := true, laidLooks := .later }
def IndexReadsCardSaid : Prop := Claim7.holds Tryd.pinned (.plain (OpenSpec.ofChange indexReadsSpec)) indexReadsCard

/-- THE TIED CARD OF 'sentrylaw24.IndexRanges'. -/
def indexRangesCard : Claim7 := { stood := { row := indexRangesRow, standIns := [], harness := (true, "6e170a8c5f46522865922e4c4ba3c9ed5bad9689c137d185def93f505cb54dc5"), looks := false }, kinds := [], alts := [], laidByText := true, laidKinds := [.data, .pinned], laidTests := true, laidLooks := .later }
def IndexRangesCardSaid : Prop := Claim7.holds Tryd.pinned (.plain (OpenSpec.ofChange indexRangesSpec)) indexRangesCard

/-- THE TIED CARD OF 'sentrylaw24.IndexEntries'. -/
def indexEntriesCard : Claim7 := { stood := { row := indexEntriesRow, standIns := [], harness := (true, "6e170a8c5f46522865922e4c4ba3c9ed5bad9689c137d185def93f505cb54dc5"), looks := false }, kinds := [], alts := [], laidByText := true, laidKinds := [.data, .pinned], laidTests := true, laidLooks := .later }
def IndexEntriesCardSaid : Prop := Claim7.holds Tryd.pinned (.plain (OpenSpec.ofChange indexEntriesSpec)) indexEntriesCard

/-- THE SECOND FORM's CARD OF 'sentrylaw24.IndexKeys'. -/
def indexKeysUptoCard : Claim7 := { stood := { row := indexKeysUptoRow, standIns := [], harness := (true, "6e170a8c5f46522865922e4c4ba3c9ed5bad9689c137d185def93f505cb54dc5"), looks := false }, kinds := [], alts := [], laidByText := true, laidKinds := [.data, .pinned], laidTests := true, laidLooks := .later }
def IndexKeysUptoCardSaid : Prop := Claim7.holds Tryd.pinned (.plain (OpenSpec.upto indexKeysSpec)) indexKeysUptoCard

/-- THE SECOND FORM's CARD OF 'sentrylaw24.IndexReads'. -/
def indexReadsUptoCard : Claim7 := { stood := { row := indexReadsUptoRow, standIns := [], harness := (true, "6e170a8c5f46522865922e4c4ba3c9ed5bad9689c137d185def93f505cb54dc5"), looks := false }, kinds := [], alts := [], laidByText := true, laidKinds := [.data, .pinned], laidTests := true, laidLooks := .later }
def IndexReadsUptoCardSaid : Prop := Claim7.holds Tryd.pinned (.plain (OpenSpec.upto indexReadsSpec)) indexReadsUptoCard

/-- THE SECOND FORM's CARD OF 'sentrylaw24.IndexRanges'. -/
def indexRangesUptoCard : Claim7 := { stood := { row := indexRangesUptoRow, standIns := [], harness := (true, "6e170a8c5f46522865922e4c4ba3c9ed5bad9689c137d185def93f505cb54dc5"), looks := false }, kinds := [], alts := [], laidByText := true, laidKinds := [.data, .pinned], laidTests := true, laidLooks := .later }
def IndexRangesUptoCardSaid : Prop := Claim7.holds Tryd.pinned (.plain (OpenSpec.upto indexRangesSpec)) indexRangesUptoCard

/-- THE SECOND FORM's CARD OF 'sentrylaw24.IndexEntries'. -/
def indexEntriesUptoCard : Claim7 := { stood := { row := indexEntriesUptoRow, standIns := [], harness := (true, "6e170a8c5f46522865922e4c4ba3c9ed5bad9689c137d185def93f505cb54dc5"), looks := false }, kinds := [], alts := [], laidByText := true, laidKinds := [.data, .pinned], laidTests := true, laidLooks := .later }
def IndexEntriesUptoCardSaid : Prop := Claim7.holds Tryd.pinned (.plain (OpenSpec.upto indexEntriesSpec)) indexEntriesUptoCard
end Rows
end Go.Proofs.YtkcaadkamaogbaaDoor
