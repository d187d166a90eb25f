/-
  DERIVED. GIVEN WITH THE SEED: THE CARDS: each row of YtkkbmfgkapdndaaDoorRows.lean that lists a variable, with what it lists TIED to the program's text (the seventh form; the later family's looks); each row that meets fmt, with fmt's text TOLD by the authors' own Lean function (tested against real Go, not proved from fmt's source: count such statements apart). THE CARD IS WHAT COUNTS. Prove the row's statement (the work); the ties are given (YtkkbmfgkapdndaaDoorTie.lean); close each card by the builder's one call (the guide's Derived/Test/ToyasCard.lean, 'card_holds'). Laid BY PROGRAM, IN A SANDBOX (cutbox-door.mjs). By AI agents, Wed Nov 11 2026. No macro, syntax, notation, axiom, sorry.
-/
import Derived.Test.YtkkbmfgkapdndaaDoorRows
import GoSem.ClaimSeven
namespace Go.Proofs.YtkkbmfgkapdndaaDoor
namespace Rows

/-- THE TIED CARD OF 'cubbylaw07.IrBlocks'. -/
def irBlocksCard : Claim7 := { stood := { row := irBlocksRow, standIns := [], harness := (true, "49676de88958159a6cb86ee160261ffdd9189fbd950b7f75851c5c72b10be0a4"), looks := false }, kinds := [], alts := [], laidByText := true, laidKinds := [.data], laidTests := true, laidLooks := .later }
def IrBlocksCardSaid : Prop := Claim7.holds Tryd.pinned (.plain (OpenSpec.ofChange irBlocksSpec)) irBlocksCard

/-- THE TIED CARD OF 'cubbylaw07.IrChecks'. -/
def irChecksCard : Claim7 := { stood := { row := irChecksRow, standIns := [], harness := (true, "49676de88958159a6cb86ee160261ffdd9189fbd950b7f75851c5c72b10be0a4"), looks := false }, kinds := [], alts := [], laidByText := true, laidKinds := [.data], laidTests := true, laidLooks := .later }
def IrChecksCardSaid : Prop := Claim7.holds Tryd.pinned (.plain (OpenSpec.ofChange irChecksSpec)) irChecksCard

/-- THE TIED CARD OF 'cubbylaw07.IrReads'. -/
def irReadsCard : Claim7 := { stood := { row := irReadsRow, standIns := [], harness := (true, "49676de88958159a6cb86ee160261ffdd9189fbd950b7f75851c5c72b10be0a4"), looks := false }, kinds := [], alts := [], laidByText := true, laidKinds := [.data], laidTests := true, laidLooks := .later }
def IrReadsCardSaid : Prop := Claim7.holds Tryd.pinned (.plain (OpenSpec.ofChange irReadsSpec)) irReadsCard

/-- THE TIED CARD OF 'cubbylaw07.IrSpoilt'. -/
def irSpoiltCard : Claim7 := { stood := { row := irSpoiltRow, standIns := [], harness := (true, "49676de88958159a6cb86ee160261ffdd9189fbd950b7f75851c5c72b10be0a4"), looks := false }, kinds := [], alts := [], laidByText := true, laidKinds := [.data], laidTests := true, laidLooks := .later }
def IrSpoiltCardSaid : Prop := Claim7.holds Tryd.pinned (.plain (OpenSpec.ofChange irSpoiltSpec)) irSpoiltCard

/-- THE SECOND FORM's CARD OF 'cubbylaw07.IrBlocks'. -/
def irBlocksUptoCard : Claim7 := { stood := { row := irBlocksUptoRow, standIns := [], harness := (true, "49676de88958159a6cb86ee160261ffdd9189fbd950b7f75851c5c72b10be0a4"), looks := false }, kinds := [], alts := [], laidByText := true, laidKinds := [.data], laidTests := true, laidLooks := .later }
def IrBlocksUptoCardSaid : Prop := Claim7.holds Tryd.pinned (.plain (OpenSpec.upto irBlocksSpec)) irBlocksUptoCard

/-- THE SECOND FORM's CARD OF 'cubbylaw07.IrChecks'. -/
def irChecksUptoCard : Claim7 := { stood := { row := irChecksUptoRow, standIns := [], harness := (true, "49676de88958159a6cb86ee160261ffdd9189fbd950b7f75851c5c72b10be0a4"), looks := false }, kinds := [], alts := [], laidByText := true, laidKinds := [.data], laidTests := true, laidLooks := .later }
def IrChecksUptoCardSaid : Prop := Claim7.holds Tryd.pinned (.plain (OpenSpec.upto irChecksSpec)) irChecksUptoCard

/-- THE SECOND FORM's CARD OF 'cubbylaw07.IrReads'. -/
def irReadsUptoCard : Claim7 := { stood := { row := irReadsUptoRow, standIns := [], harness := (true, "49676de88958159a6cb86ee160261ffdd9189fbd950b7f75851c5c72b10be0a4"), looks := false }, kinds := [], alts := [], laidByText := true, laidKinds := [.data], laidTests := true, laidLooks := .later }
def IrReadsUptoCardSaid : Prop := Claim7.holds Tryd.pinned (.plain (OpenSpec.upto irReadsSpec)) irReadsUptoCard

/-- THE SECOND FORM's CARD OF 'cubbylaw07.IrSpoilt'. -/
def irSpoiltUptoCard : Claim7 := { stood := { row := irSpoiltUptoRow, standIns := [], harness := (true, "49676de88958159a6cb86ee160261ffdd9189fbd950b7f75851c5c72b10be0a4"), looks := false }, kinds := [], alts := [], laidByText := true, laidKinds := [.data], laidTests := true, laidLooks := .later }
def IrSpoiltUptoCardSaid : Prop := Claim7.holds Tryd.pinned (.plain (OpenSpec.upto irSpoiltSpec)) irSpoiltUptoCard
end Rows
end Go.Proofs.YtkkbmfgkapdndaaDoor
