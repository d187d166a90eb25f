/-
  DERIVED. GIVEN WITH THE SEED: THE CARDS: each row of YtamadegodenobaaDoorRows.lean that lists a variable, with what it lists TIED to the program's text (the seventh form; the later family's looks); each row that meets fmt, with fmt's text TOLD by the authors' own Lean function (tested against real Go, not proved from fmt's source: count such statements apart). THE CARD IS WHAT COUNTS. Prove the row's statement (the work); the ties are given (YtamadegodenobaaDoorTie.lean); close each card by the builder's one call (the guide's Derived/Test/ToyasCard.lean, 'card_holds'). Laid BY PROGRAM, IN A SANDBOX (cutbox-door.mjs). By AI agents, Wed Nov 11 2026. No macro, syntax, notation, axiom, sorry.
-/
import Derived.Test.YtamadegodenobaaDoorRows
import GoSem.ClaimSeven
namespace Go.Proofs.YtamadegodenobaaDoor
namespace Rows

/-- THE TIED CARD OF 'cubbylaw09.FlowTurned'. -/
def flowTurnedCard : Claim7 := { stood := { row := flowTurnedRow, standIns := [], harness := (true, "197342fdc816bd5075cac943974d152d0653d732fbab87ff245af34c0d072ae9"), looks := false }, kinds := [], alts := [], laidByText := true, laidKinds := [.data], laidTests := true, laidLooks := .later }
def FlowTurnedCardSaid : Prop := Claim7.holds Tryd.pinned (.plain (OpenSpec.ofChange flowTurnedSpec)) flowTurnedCard

/-- THE TIED CARD OF 'cubbylaw09.FlowReaches'. -/
def flowReachesCard : Claim7 := { stood := { row := flowReachesRow, standIns := [], harness := (true, "197342fdc816bd5075cac943974d152d0653d732fbab87ff245af34c0d072ae9"), looks := false }, kinds := [], alts := [], laidByText := true, laidKinds := [.data], laidTests := true, laidLooks := .later }
def FlowReachesCardSaid : Prop := Claim7.holds Tryd.pinned (.plain (OpenSpec.ofChange flowReachesSpec)) flowReachesCard

/-- THE TIED CARD OF 'cubbylaw09.FlowNext'. -/
def flowNextCard : Claim7 := { stood := { row := flowNextRow, standIns := [], harness := (true, "197342fdc816bd5075cac943974d152d0653d732fbab87ff245af34c0d072ae9"), looks := false }, kinds := [], alts := [], laidByText := true, laidKinds := [.data], laidTests := true, laidLooks := .later }
def FlowNextCardSaid : Prop := Claim7.holds Tryd.pinned (.plain (OpenSpec.ofChange flowNextSpec)) flowNextCard

/-- THE TIED CARD OF 'cubbylaw09.FlowOrders'. -/
def flowOrdersCard : Claim7 := { stood := { row := flowOrdersRow, standIns := [], harness := (true, "197342fdc816bd5075cac943974d152d0653d732fbab87ff245af34c0d072ae9"), looks := false }, kinds := [], alts := [], laidByText := true, laidKinds := [.data], laidTests := true, laidLooks := .later }
def FlowOrdersCardSaid : Prop := Claim7.holds Tryd.pinned (.plain (OpenSpec.ofChange flowOrdersSpec)) flowOrdersCard

/-- THE TIED CARD OF 'cubbylaw09.FlowOnce'. -/
def flowOnceCard : Claim7 := { stood := { row := flowOnceRow, standIns := [], harness := (true, "197342fdc816bd5075cac943974d152d0653d732fbab87ff245af34c0d072ae9"), looks := false }, kinds := [], alts := [], laidByText := true, laidKinds := [.data], laidTests := true, laidLooks := .later }
def FlowOnceCardSaid : Prop := Claim7.holds Tryd.pinned (.plain (OpenSpec.ofChange flowOnceSpec)) flowOnceCard

/-- THE TIED CARD OF 'cubbylaw09.FlowAhead'. -/
def flowAheadCard : Claim7 := { stood := { row := flowAheadRow, standIns := [], harness := (true, "197342fdc816bd5075cac943974d152d0653d732fbab87ff245af34c0d072ae9"), looks := false }, kinds := [], alts := [], laidByText := true, laidKinds := [.data], laidTests := true, laidLooks := .later }
def FlowAheadCardSaid : Prop := Claim7.holds Tryd.pinned (.plain (OpenSpec.ofChange flowAheadSpec)) flowAheadCard

/-- THE SECOND FORM's CARD OF 'cubbylaw09.FlowTurned'. -/
def flowTurnedUptoCard : Claim7 := { stood := { row := flowTurnedUptoRow, standIns := [], harness := (true, "197342fdc816bd5075cac943974d152d0653d732fbab87ff245af34c0d072ae9"), looks := false }, kinds := [], alts := [], laidByText := true, laidKinds := [.data], laidTests := true, laidLooks := .later }
def FlowTurnedUptoCardSaid : Prop := Claim7.holds Tryd.pinned (.plain (OpenSpec.upto flowTurnedSpec)) flowTurnedUptoCard

/-- THE SECOND FORM's CARD OF 'cubbylaw09.FlowReaches'. -/
def flowReachesUptoCard : Claim7 := { stood := { row := flowReachesUptoRow, standIns := [], harness := (true, "197342fdc816bd5075cac943974d152d0653d732fbab87ff245af34c0d072ae9"), looks := false }, kinds := [], alts := [], laidByText := true, laidKinds := [.data], laidTests := true, laidLooks := .later }
def FlowReachesUptoCardSaid : Prop := Claim7.holds Tryd.pinned (.plain (OpenSpec.upto flowReachesSpec)) flowReachesUptoCard

/-- THE SECOND FORM's CARD OF 'cubbylaw09.FlowNext'. -/
def flowNextUptoCard : Claim7 := { stood := { row := flowNextUptoRow, standIns := [], harness := (true, "197342fdc816bd5075cac943974d152d0653d732fbab87ff245af34c0d072ae9"), looks := false }, kinds := [], alts := [], laidByText := true, laidKinds := [.data], laidTests := true, laidLooks := .later }
def FlowNextUptoCardSaid : Prop := Claim7.holds Tryd.pinned (.plain (OpenSpec.upto flowNextSpec)) flowNextUptoCard

/-- THE SECOND FORM's CARD OF 'cubbylaw09.FlowOrders'. -/
def flowOrdersUptoCard : Claim7 := { stood := { row := flowOrdersUptoRow, standIns := [], harness := (true, "197342fdc816bd5075cac943974d152d0653d732fbab87ff245af34c0d072ae9"), looks := false }, kinds := [], alts := [], laidByText := true, laidKinds := [.data], laidTests := true, laidLooks := .later }
def FlowOrdersUptoCardSaid : Prop := Claim7.holds Tryd.pinned (.plain (OpenSpec.upto flowOrdersSpec)) flowOrdersUptoCard

/-- THE SECOND FORM's CARD OF 'cubbylaw09.FlowOnce'. -/
def flowOnceUptoCard : Claim7 := { stood := { row := flowOnceUptoRow, standIns := [], harness := (true, "197342fdc816bd5075cac943974d152d0653d732fbab87ff245af34c0d072ae9"), looks := false }, kinds := [], alts := [], laidByText := true, laidKinds := [.data], laidTests := true, laidLooks := .later }
def FlowOnceUptoCardSaid : Prop := Claim7.holds Tryd.pinned (.plain (OpenSpec.upto flowOnceSpec)) flowOnceUptoCard

/-- THE SECOND FORM's CARD OF 'cubbylaw09.FlowAhead'. -/
def flowAheadUptoCard : Claim7 := { stood := { row := flowAheadUptoRow, standIns := [], harness := (true, "197342fdc816bd5075cac943974d152d0653d732fbab87ff245af34c0d072ae9"), looks := false }, kinds := [], alts := [], laidByText := true, laidKinds := [.data], laidTests := true, laidLooks := .later }
def FlowAheadUptoCardSaid : Prop := Claim7.holds Tryd.pinned (.plain (OpenSpec.upto flowAheadSpec)) flowAheadUptoCard
end Rows
end Go.Proofs.YtamadegodenobaaDoor
