/-
  DERIVED. GIVEN WITH THE SEED: THE CARDS: each row of YtgahcbhdnplnoaaDoorRows.lean that lists a variable, with what it lists TIED to the program's text (the seventh form; the later family's looks); each row that meets fmt, with fmt's text TOLD by the authors' own Lean function (tested against real Go, not proved from fmt's source: count such statements apart). THE CARD IS WHAT COUNTS. Prove the row's statement (the work); the ties are given (YtgahcbhdnplnoaaDoorTie.lean); close each card by the builder's one call (the guide's Derived/Test/ToyasCard.lean, 'card_holds'). Laid BY PROGRAM, IN A SANDBOX (cutbox-door.mjs). By AI agents, Wed Nov 11 2026. No macro, syntax, notation, axiom, sorry.
-/
import Derived.Test.YtgahcbhdnplnoaaDoorRows
import GoSem.ClaimSeven
namespace Go.Proofs.YtgahcbhdnplnoaaDoor
namespace Rows

/-- THE TIED CARD OF 'cubbylaw05.LogTwice'. -/
def logTwiceCard : Claim7 := { stood := { row := logTwiceRow, standIns := [], harness := (true, "13c7aee1253f26512c6a449443bfcbcf61db17a8cc97e7e95202f578aff0f0cf"), looks := false }, kinds := [], alts := [], laidByText := true, laidKinds := [.data, .data, .data], laidTests := true, laidLooks := .later }
def LogTwiceCardSaid : Prop := Claim7.holds Tryd.pinned (.plain (OpenSpec.ofChange logTwiceSpec)) logTwiceCard

/-- THE TIED CARD OF 'cubbylaw05.LogRoom'. -/
def logRoomCard : Claim7 := { stood := { row := logRoomRow, standIns := [], harness := (true, "13c7aee1253f26512c6a449443bfcbcf61db17a8cc97e7e95202f578aff0f0cf"), looks := false }, kinds := [], alts := [], laidByText := true, laidKinds := [.data, .data, .data], laidTests := true, laidLooks := .later }
def LogRoomCardSaid : Prop := Claim7.holds Tryd.pinned (.plain (OpenSpec.ofChange logRoomSpec)) logRoomCard

/-- THE TIED CARD OF 'cubbylaw05.LogRenews'. -/
def logRenewsCard : Claim7 := { stood := { row := logRenewsRow, standIns := [], harness := (true, "13c7aee1253f26512c6a449443bfcbcf61db17a8cc97e7e95202f578aff0f0cf"), looks := false }, kinds := [], alts := [], laidByText := true, laidKinds := [.data, .data, .data], laidTests := true, laidLooks := .later }
def LogRenewsCardSaid : Prop := Claim7.holds Tryd.pinned (.plain (OpenSpec.ofChange logRenewsSpec)) logRenewsCard

/-- THE TIED CARD OF 'cubbylaw05.LogChunks'. -/
def logChunksCard : Claim7 := { stood := { row := logChunksRow, standIns := [], harness := (true, "13c7aee1253f26512c6a449443bfcbcf61db17a8cc97e7e95202f578aff0f0cf"), looks := false }, kinds := [], alts := [], laidByText := true, laidKinds := [.data, .data, .data], laidTests := true, laidLooks := .later }
def LogChunksCardSaid : Prop := Claim7.holds Tryd.pinned (.plain (OpenSpec.ofChange logChunksSpec)) logChunksCard

/-- THE TIED CARD OF 'cubbylaw05.LogKeeps'. -/
def logKeepsCard : Claim7 := { stood := { row := logKeepsRow, standIns := [], harness := (true, "13c7aee1253f26512c6a449443bfcbcf61db17a8cc97e7e95202f578aff0f0cf"), looks := false }, kinds := [], alts := [], laidByText := true, laidKinds := [.data, .data, .data], laidTests := true, laidLooks := .later }
def LogKeepsCardSaid : Prop := Claim7.holds Tryd.pinned (.plain (OpenSpec.ofChange logKeepsSpec)) logKeepsCard

/-- THE TIED CARD OF 'cubbylaw05.LogCuts'. -/
def logCutsCard : Claim7 := { stood := { row := logCutsRow, standIns := [], harness := (true, "13c7aee1253f26512c6a449443bfcbcf61db17a8cc97e7e95202f578aff0f0cf"), looks := false }, kinds := [], alts := [], laidByText := true, laidKinds := [.data, .data, .data], laidTests := true, laidLooks := .later }
def LogCutsCardSaid : Prop := Claim7.holds Tryd.pinned (.plain (OpenSpec.ofChange logCutsSpec)) logCutsCard

/-- THE SECOND FORM's CARD OF 'cubbylaw05.LogTwice'. -/
def logTwiceUptoCard : Claim7 := { stood := { row := logTwiceUptoRow, standIns := [], harness := (true, "13c7aee1253f26512c6a449443bfcbcf61db17a8cc97e7e95202f578aff0f0cf"), looks := false }, kinds := [], alts := [], laidByText := true, laidKinds := [.data, .data, .data], laidTests := true, laidLooks := .later }
def LogTwiceUptoCardSaid : Prop := Claim7.holds Tryd.pinned (.plain (OpenSpec.upto logTwiceSpec)) logTwiceUptoCard

/-- THE SECOND FORM's CARD OF 'cubbylaw05.LogRoom'. -/
def logRoomUptoCard : Claim7 := { stood := { row := logRoomUptoRow, standIns := [], harness := (true, "13c7aee1253f26512c6a449443bfcbcf61db17a8cc97e7e95202f578aff0f0cf"), looks := false }, kinds := [], alts := [], laidByText := true, laidKinds := [.data, .data, .data], laidTests := true, laidLooks := .later }
def LogRoomUptoCardSaid : Prop := Claim7.holds Tryd.pinned (.plain (OpenSpec.upto logRoomSpec)) logRoomUptoCard

/-- THE SECOND FORM's CARD OF 'cubbylaw05.LogRenews'. -/
def logRenewsUptoCard : Claim7 := { stood := { row := logRenewsUptoRow, standIns := [], harness := (true, "13c7aee1253f26512c6a449443bfcbcf61db17a8cc97e7e95202f578aff0f0cf"), looks := false }, kinds := [], alts := [], laidByText := true, laidKinds := [.data, .data, .data], laidTests := true, laidLooks := .later }
def LogRenewsUptoCardSaid : Prop := Claim7.holds Tryd.pinned (.plain (OpenSpec.upto logRenewsSpec)) logRenewsUptoCard

/-- THE SECOND FORM's CARD OF 'cubbylaw05.LogChunks'. -/
def logChunksUptoCard : Claim7 := { stood := { row := logChunksUptoRow, standIns := [], harness := (true, "13c7aee1253f26512c6a449443bfcbcf61db17a8cc97e7e95202f578aff0f0cf"), looks := false }, kinds := [], alts := [], laidByText := true, laidKinds := [.data, .data, .data], laidTests := true, laidLooks := .later }
def LogChunksUptoCardSaid : Prop := Claim7.holds Tryd.pinned (.plain (OpenSpec.upto logChunksSpec)) logChunksUptoCard

/-- THE SECOND FORM's CARD OF 'cubbylaw05.LogKeeps'. -/
def logKeepsUptoCard : Claim7 := { stood := { row := logKeepsUptoRow, standIns := [], harness := (true, "13c7aee1253f26512c6a449443bfcbcf61db17a8cc97e7e95202f578aff0f0cf"), looks := false }, kinds := [], alts := [], laidByText := true, laidKinds := [.data, .data, .data], laidTests := true, laidLooks := .later }
def LogKeepsUptoCardSaid : Prop := Claim7.holds Tryd.pinned (.plain (OpenSpec.upto logKeepsSpec)) logKeepsUptoCard

/-- THE SECOND FORM's CARD OF 'cubbylaw05.LogCuts'. -/
def logCutsUptoCard : Claim7 := { stood := { row := logCutsUptoRow, standIns := [], harness := (true, "13c7aee1253f26512c6a449443bfcbcf61db17a8cc97e7e95202f578aff0f0cf"), looks := false }, kinds := [], alts := [], laidByText := true, laidKinds := [.data, .data, .data], laidTests := true, laidLooks := .later }
def LogCutsUptoCardSaid : Prop := Claim7.holds Tryd.pinned (.plain (OpenSpec.upto logCutsSpec)) logCutsUptoCard
end Rows
end Go.Proofs.YtgahcbhdnplnoaaDoor
