/-
  DERIVED. GIVEN WITH THE SEED: THE CARDS: each row of YtimcepoleboldaaGreatDoorRows.lean that lists a variable, with what it lists TIED to the program's text (the seventh form; the later family's looks); each row that meets fmt, with fmt's text TOLD by the authors' own Lean function (tested against real Go, not proved from fmt's source: count such statements apart). THE CARD IS WHAT COUNTS. Prove the row's statement (the work); the ties are given (YtimcepoleboldaaGreatDoorTie.lean); close each card by the builder's one call (the guide's Derived/Test/ToyasCard.lean, 'card_holds'). Laid BY PROGRAM, IN A SANDBOX (cutbox-door.mjs). By AI agents, Wed Nov 11 2026. No macro, syntax, notation, axiom, sorry.
-/
import Derived.Test.YtimcepoleboldaaGreatDoorRows
import GoSem.ClaimSeven
namespace Go.Proofs.YtimcepoleboldaaGreatDoor
namespace Rows

/-- THE TIED CARD OF 'cubbylaw06.KeepOrder'. -/
def keepOrderCard : Claim7 := { stood := { row := keepOrderRow, standIns := [], harness := (true, "ce88d887c50d152b4fbaefb14970c990bf9e18562784eab76d5bf0340d8ab9d1"), looks := true }, kinds := [], alts := [], laidByText := true, laidKinds := [.data, .data, .data], laidTests := true, laidLooks := .later }
def KeepOrderCardSaid : Prop := Claim7.holds Tryz.pinned (.plain (OpenSpec.ofChange keepOrderSpec)) keepOrderCard

/-- THE TIED CARD OF 'cubbylaw06.KeepLong'. -/
def keepLongCard : Claim7 := { stood := { row := keepLongRow, standIns := [], harness := (true, "ce88d887c50d152b4fbaefb14970c990bf9e18562784eab76d5bf0340d8ab9d1"), looks := true }, kinds := [], alts := [], laidByText := true, laidKinds := [.data, .data, .data], laidTests := true, laidLooks := .later }
def KeepLongCardSaid : Prop := Claim7.holds Tryz.pinned (.plain (OpenSpec.ofChange keepLongSpec)) keepLongCard

/-- THE TIED CARD OF 'cubbylaw06.KeepForged'. -/
def keepForgedCard : Claim7 := { stood := { row := keepForgedRow, standIns := [], harness := (true, "ce88d887c50d152b4fbaefb14970c990bf9e18562784eab76d5bf0340d8ab9d1"), looks := true }, kinds := [], alts := [], laidByText := true, laidKinds := [.data, .data, .data], laidTests := true, laidLooks := .later }
def KeepForgedCardSaid : Prop := Claim7.holds Tryz.pinned (.plain (OpenSpec.ofChange keepForgedSpec)) keepForgedCard

/-- THE TIED CARD OF 'cubbylaw06.KeepCuts'. -/
def keepCutsCard : Claim7 := { stood := { row := keepCutsRow, standIns := [], harness := (true, "ce88d887c50d152b4fbaefb14970c990bf9e18562784eab76d5bf0340d8ab9d1"), looks := true }, kinds := [], alts := [], laidByText := true, laidKinds := [.data, .data, .data], laidTests := true, laidLooks := .later }
def KeepCutsCardSaid : Prop := Claim7.holds Tryz.pinned (.plain (OpenSpec.ofChange keepCutsSpec)) keepCutsCard

/-- THE TIED CARD OF 'cubbylaw06.KeepTwice'. -/
def keepTwiceCard : Claim7 := { stood := { row := keepTwiceRow, standIns := [], harness := (true, "ce88d887c50d152b4fbaefb14970c990bf9e18562784eab76d5bf0340d8ab9d1"), looks := true }, kinds := [], alts := [], laidByText := true, laidKinds := [.data, .data, .data], laidTests := true, laidLooks := .later }
def KeepTwiceCardSaid : Prop := Claim7.holds Tryz.pinned (.plain (OpenSpec.ofChange keepTwiceSpec)) keepTwiceCard

/-- THE TIED CARD OF 'cubbylaw06.KeepRoom'. -/
def keepRoomCard : Claim7 := { stood := { row := keepRoomRow, standIns := [], harness := (true, "ce88d887c50d152b4fbaefb14970c990bf9e18562784eab76d5bf0340d8ab9d1"), looks := true }, kinds := [], alts := [], laidByText := true, laidKinds := [.data, .data, .data], laidTests := true, laidLooks := .later }
def KeepRoomCardSaid : Prop := Claim7.holds Tryz.pinned (.plain (OpenSpec.ofChange keepRoomSpec)) keepRoomCard

/-- THE SECOND FORM's CARD OF 'cubbylaw06.KeepOrder'. -/
def keepOrderUptoCard : Claim7 := { stood := { row := keepOrderUptoRow, standIns := [], harness := (true, "ce88d887c50d152b4fbaefb14970c990bf9e18562784eab76d5bf0340d8ab9d1"), looks := true }, kinds := [], alts := [], laidByText := true, laidKinds := [.data, .data, .data], laidTests := true, laidLooks := .later }
def KeepOrderUptoCardSaid : Prop := Claim7.holds Tryz.pinned (.plain (OpenSpec.upto keepOrderSpec)) keepOrderUptoCard

/-- THE SECOND FORM's CARD OF 'cubbylaw06.KeepLong'. -/
def keepLongUptoCard : Claim7 := { stood := { row := keepLongUptoRow, standIns := [], harness := (true, "ce88d887c50d152b4fbaefb14970c990bf9e18562784eab76d5bf0340d8ab9d1"), looks := true }, kinds := [], alts := [], laidByText := true, laidKinds := [.data, .data, .data], laidTests := true, laidLooks := .later }
def KeepLongUptoCardSaid : Prop := Claim7.holds Tryz.pinned (.plain (OpenSpec.upto keepLongSpec)) keepLongUptoCard

/-- THE SECOND FORM's CARD OF 'cubbylaw06.KeepForged'. -/
def keepForgedUptoCard : Claim7 := { stood := { row := keepForgedUptoRow, standIns := [], harness := (true, "ce88d887c50d152b4fbaefb14970c990bf9e18562784eab76d5bf0340d8ab9d1"), looks := true }, kinds := [], alts := [], laidByText := true, laidKinds := [.data, .data, .data], laidTests := true, laidLooks := .later }
def KeepForgedUptoCardSaid : Prop := Claim7.holds Tryz.pinned (.plain (OpenSpec.upto keepForgedSpec)) keepForgedUptoCard

/-- THE SECOND FORM's CARD OF 'cubbylaw06.KeepCuts'. -/
def keepCutsUptoCard : Claim7 := { stood := { row := keepCutsUptoRow, standIns := [], harness := (true, "ce88d887c50d152b4fbaefb14970c990bf9e18562784eab76d5bf0340d8ab9d1"), looks := true }, kinds := [], alts := [], laidByText := true, laidKinds := [.data, .data, .data], laidTests := true, laidLooks := .later }
def KeepCutsUptoCardSaid : Prop := Claim7.holds Tryz.pinned (.plain (OpenSpec.upto keepCutsSpec)) keepCutsUptoCard

/-- THE SECOND FORM's CARD OF 'cubbylaw06.KeepTwice'. -/
def keepTwiceUptoCard : Claim7 := { stood := { row := keepTwiceUptoRow, standIns := [], harness := (true, "ce88d887c50d152b4fbaefb14970c990bf9e18562784eab76d5bf0340d8ab9d1"), looks := true }, kinds := [], alts := [], laidByText := true, laidKinds := [.data, .data, .data], laidTests := true, laidLooks := .later }
def KeepTwiceUptoCardSaid : Prop := Claim7.holds Tryz.pinned (.plain (OpenSpec.upto keepTwiceSpec)) keepTwiceUptoCard

/-- THE SECOND FORM's CARD OF 'cubbylaw06.KeepRoom'. -/
def keepRoomUptoCard : Claim7 := { stood := { row := keepRoomUptoRow, standIns := [], harness := (true, "ce88d887c50d152b4fbaefb14970c990bf9e18562784eab76d5bf0340d8ab9d1"), looks := true }, kinds := [], alts := [], laidByText := true, laidKinds := [.data, .data, .data], laidTests := true, laidLooks := .later }
def KeepRoomUptoCardSaid : Prop := Claim7.holds Tryz.pinned (.plain (OpenSpec.upto keepRoomSpec)) keepRoomUptoCard
end Rows
end Go.Proofs.YtimcepoleboldaaGreatDoor
