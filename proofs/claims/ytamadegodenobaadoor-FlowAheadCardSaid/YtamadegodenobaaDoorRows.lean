/-
  NARROWER THAN 'FOR EVERY INPUT', by the rows' own cells (each row's printed sentence says how): FlowTurned: laid · FlowReaches: laid · FlowNext: laid · FlowOrders: laid · FlowOnce: laid · FlowAhead: laid.
  DERIVED. THE GIVEN ROWS OF THIS SEAT. 6 by the template 'for every input the law returns true; each argument reads behind the call as it read before'; 0 by the template 'total and deterministic' (their statements: YtamadegodenobaaDoorTotals.lean).
  GIVEN WITH THE SEED: the statements are not yours to turn. If you find one false, say at which input.
  Laid BY PROGRAM, IN A SANDBOX (cutbox-rows.mjs): the forced cells as the released guide's own fill.sh prints them over the translation ff8f350e6287d350… (all of the seat's roots in one cut). By AI agents, Wed Nov 11 2026. No macro, syntax, notation, axiom, sorry.
-/
import Derived.Test.YtamadegodenobaaDoorChecked
import GoSem.Claim
import GoSem.ClaimJoined
import GoSem.ClaimMapViews
import Derived.JoinedTies
import Derived.KernelRfl
namespace Go.Proofs.YtamadegodenobaaDoor
/- THE CELL 'sum', in the pinned program and in every row, IS THE sha256 OF THE DUMP (.gsa) THAT YtamadegodenobaaDoorProg.lean LOADS. Nothing in Lean hashes anything: it is a label: what it is worth is what the hold of that sum in a sandbox is worth. -/
noncomputable def Tryd.pinned : Pinned := { name := "ytamadegodenobaadoor", sum := "ff8f350e6287d3502f7d777cf15595ca6bc8059b94d8204759b9781d37eac739", checked := Tryd.checked }
namespace Rows
def none {H : Type} : Left H := { results := [], args := [] }

/- WHAT THE LISTED PACKAGE-LEVEL VARIABLES READ AS WHEN THE CALL BEGINS. Each datum BY PROGRAM (the guide's laid-datum.mjs) off the statement by which the dump's own 'gosem.cut.vars' lays the variable. In a bare row this is a premise. The card (YtamadegodenobaaDoorCards.lean) ties it to the program's text. -/
def laid_cubby_ir_table {H : Type} : DataW H := .agg [.agg [.lit (.int .i64 0), .lit (.int .i64 0), .lit (.int .i64 0), .lit (.bool false)], .agg [.lit (.int .i64 1), .lit (.int .i64 2), .lit (.int .i64 0), .lit (.bool false)], .agg [.lit (.int .i64 1), .lit (.int .i64 1), .lit (.int .i64 0), .lit (.bool false)], .agg [.lit (.int .i64 1), .lit (.int .i64 1), .lit (.int .i64 1), .lit (.bool false)], .agg [.lit (.int .i64 1), .lit (.int .i64 1), .lit (.int .i64 1), .lit (.bool false)], .agg [.lit (.int .i64 1), .lit (.int .i64 1), .lit (.int .i64 1), .lit (.bool false)], .agg [.lit (.int .i64 1), .lit (.int .i64 1), .lit (.int .i64 1), .lit (.bool false)], .agg [.lit (.int .i64 1), .lit (.int .i64 1), .lit (.int .i64 1), .lit (.bool false)], .agg [.lit (.int .i64 1), .lit (.int .i64 1), .lit (.int .i64 0), .lit (.bool false)], .agg [.lit (.int .i64 0), .lit (.int .i64 1), .lit (.int .i64 1), .lit (.bool false)], .agg [.lit (.int .i64 0), .lit (.int .i64 1), .lit (.int .i64 0), .lit (.bool false)], .agg [.lit (.int .i64 1), .lit (.int .i64 0), .lit (.int .i64 0), .lit (.bool true)], .agg [.lit (.int .i64 0), .lit (.int .i64 3), .lit (.int .i64 0), .lit (.bool false)], .agg [.lit (.int .i64 3), .lit (.int .i64 1), .lit (.int .i64 3), .lit (.bool false)], .agg [.lit (.int .i64 0), .lit (.int .i64 1), .lit (.int .i64 0), .lit (.bool false)]]

/-- 'cubbylaw09.FlowTurned': WHATEVER THE INPUT: true; the input reads as it did. -/
def flowTurnedSpec : ChangeSpec := { name := "flowTurned", fn := fun _ => fun
  | [d1, d2, d3] => { results := [.lit (.bool true)], args := [d1, d2, d3] }
  | _ => none }
def flowTurnedRow : OpenClaim := { program := "ytamadegodenobaadoor", sum := "ff8f350e6287d3502f7d777cf15595ca6bc8059b94d8204759b9781d37eac739", func := "cubby/cubbylaw09.FlowTurned", spec := "flowTurned", unfollowed := true, recurses := true, named := ["cubby/ir.table"], apart := false, laid := [("cubby/ir.table", laid_cubby_ir_table)] }
def FlowTurnedSaid : Prop := flowTurnedRow.holds Tryd.pinned (OpenSpec.ofChange flowTurnedSpec)

/-- ITS FALSE NEIGHBOUR: 'it returns false'. Refute it at one input. -/
def flowTurnedWrong : ChangeSpec := { name := "flowTurned", fn := fun _ => fun
  | [d1, d2, d3] => { results := [.lit (.bool false)], args := [d1, d2, d3] }
  | _ => none }
def FlowTurnedWrongFalsely : Prop := flowTurnedRow.holds Tryd.pinned (OpenSpec.ofChange flowTurnedWrong)

/-- 'cubbylaw09.FlowReaches': WHATEVER THE INPUT: true; the input reads as it did. -/
def flowReachesSpec : ChangeSpec := { name := "flowReaches", fn := fun _ => fun
  | [d] => { results := [.lit (.bool true)], args := [d] }
  | _ => none }
def flowReachesRow : OpenClaim := { program := "ytamadegodenobaadoor", sum := "ff8f350e6287d3502f7d777cf15595ca6bc8059b94d8204759b9781d37eac739", func := "cubby/cubbylaw09.FlowReaches", spec := "flowReaches", unfollowed := true, recurses := true, named := ["cubby/ir.table"], apart := false, laid := [("cubby/ir.table", laid_cubby_ir_table)] }
def FlowReachesSaid : Prop := flowReachesRow.holds Tryd.pinned (OpenSpec.ofChange flowReachesSpec)

/-- ITS FALSE NEIGHBOUR: 'it returns false'. Refute it at one input. -/
def flowReachesWrong : ChangeSpec := { name := "flowReaches", fn := fun _ => fun
  | [d] => { results := [.lit (.bool false)], args := [d] }
  | _ => none }
def FlowReachesWrongFalsely : Prop := flowReachesRow.holds Tryd.pinned (OpenSpec.ofChange flowReachesWrong)

/-- 'cubbylaw09.FlowNext': WHATEVER THE INPUT: true; the input reads as it did. -/
def flowNextSpec : ChangeSpec := { name := "flowNext", fn := fun _ => fun
  | [d1, d2] => { results := [.lit (.bool true)], args := [d1, d2] }
  | _ => none }
def flowNextRow : OpenClaim := { program := "ytamadegodenobaadoor", sum := "ff8f350e6287d3502f7d777cf15595ca6bc8059b94d8204759b9781d37eac739", func := "cubby/cubbylaw09.FlowNext", spec := "flowNext", named := ["cubby/ir.table"], apart := false, laid := [("cubby/ir.table", laid_cubby_ir_table)] }
def FlowNextSaid : Prop := flowNextRow.holds Tryd.pinned (OpenSpec.ofChange flowNextSpec)

/-- ITS FALSE NEIGHBOUR: 'it returns false'. Refute it at one input. -/
def flowNextWrong : ChangeSpec := { name := "flowNext", fn := fun _ => fun
  | [d1, d2] => { results := [.lit (.bool false)], args := [d1, d2] }
  | _ => none }
def FlowNextWrongFalsely : Prop := flowNextRow.holds Tryd.pinned (OpenSpec.ofChange flowNextWrong)

/-- 'cubbylaw09.FlowOrders': WHATEVER THE INPUT: true; the input reads as it did. -/
def flowOrdersSpec : ChangeSpec := { name := "flowOrders", fn := fun _ => fun
  | [d] => { results := [.lit (.bool true)], args := [d] }
  | _ => none }
def flowOrdersRow : OpenClaim := { program := "ytamadegodenobaadoor", sum := "ff8f350e6287d3502f7d777cf15595ca6bc8059b94d8204759b9781d37eac739", func := "cubby/cubbylaw09.FlowOrders", spec := "flowOrders", unfollowed := true, recurses := true, named := ["cubby/ir.table"], apart := false, laid := [("cubby/ir.table", laid_cubby_ir_table)] }
def FlowOrdersSaid : Prop := flowOrdersRow.holds Tryd.pinned (OpenSpec.ofChange flowOrdersSpec)

/-- ITS FALSE NEIGHBOUR: 'it returns false'. Refute it at one input. -/
def flowOrdersWrong : ChangeSpec := { name := "flowOrders", fn := fun _ => fun
  | [d] => { results := [.lit (.bool false)], args := [d] }
  | _ => none }
def FlowOrdersWrongFalsely : Prop := flowOrdersRow.holds Tryd.pinned (OpenSpec.ofChange flowOrdersWrong)

/-- 'cubbylaw09.FlowOnce': WHATEVER THE INPUT: true; the input reads as it did. -/
def flowOnceSpec : ChangeSpec := { name := "flowOnce", fn := fun _ => fun
  | [d] => { results := [.lit (.bool true)], args := [d] }
  | _ => none }
def flowOnceRow : OpenClaim := { program := "ytamadegodenobaadoor", sum := "ff8f350e6287d3502f7d777cf15595ca6bc8059b94d8204759b9781d37eac739", func := "cubby/cubbylaw09.FlowOnce", spec := "flowOnce", unfollowed := true, recurses := true, named := ["cubby/ir.table"], apart := false, laid := [("cubby/ir.table", laid_cubby_ir_table)] }
def FlowOnceSaid : Prop := flowOnceRow.holds Tryd.pinned (OpenSpec.ofChange flowOnceSpec)

/-- ITS FALSE NEIGHBOUR: 'it returns false'. Refute it at one input. -/
def flowOnceWrong : ChangeSpec := { name := "flowOnce", fn := fun _ => fun
  | [d] => { results := [.lit (.bool false)], args := [d] }
  | _ => none }
def FlowOnceWrongFalsely : Prop := flowOnceRow.holds Tryd.pinned (OpenSpec.ofChange flowOnceWrong)

/-- 'cubbylaw09.FlowAhead': WHATEVER THE INPUT: true; the input reads as it did. -/
def flowAheadSpec : ChangeSpec := { name := "flowAhead", fn := fun _ => fun
  | [d] => { results := [.lit (.bool true)], args := [d] }
  | _ => none }
def flowAheadRow : OpenClaim := { program := "ytamadegodenobaadoor", sum := "ff8f350e6287d3502f7d777cf15595ca6bc8059b94d8204759b9781d37eac739", func := "cubby/cubbylaw09.FlowAhead", spec := "flowAhead", unfollowed := true, recurses := true, named := ["cubby/ir.table"], apart := false, laid := [("cubby/ir.table", laid_cubby_ir_table)] }
def FlowAheadSaid : Prop := flowAheadRow.holds Tryd.pinned (OpenSpec.ofChange flowAheadSpec)

/-- ITS FALSE NEIGHBOUR: 'it returns false'. Refute it at one input. -/
def flowAheadWrong : ChangeSpec := { name := "flowAhead", fn := fun _ => fun
  | [d] => { results := [.lit (.bool false)], args := [d] }
  | _ => none }
def FlowAheadWrongFalsely : Prop := flowAheadRow.holds Tryd.pinned (OpenSpec.ofChange flowAheadWrong)

/- THE SECOND FORM. 'bulk': how many values and letters a reading holds, each counted each time it is reached (what is shared counts as often as it is met; a slice's spare places count too). A statement '..UptoSaid' is the law's where the arguments, and the package variables that the reading takes, are together of bulk at most 1048576: NARROWER than '..Said'. Prove '..Said' where nothing that the law and all that it calls make is longer than what came in: it says more and counts as full. Else prove '..UptoSaid'. A law counts once. -/
mutual
def uptoBulk {H : Type} : DataW H → Nat
  | .lit (.string bytes) => bytes.length + 1
  | .lit _ => 1
  | .nil => 1
  | .ptr d => uptoBulk d + 1
  | .slice elems spare => uptoBulkAll elems + uptoBulkAll spare + 1
  | .agg parts => uptoBulkAll parts + 1
  | .iface _ d => uptoBulk d + 1
  | .map entries => uptoBulkEntries entries + 1
  | .held _ => 1
def uptoBulkAll {H : Type} : List (DataW H) → Nat
  | [] => 0
  | d :: r => uptoBulk d + uptoBulkAll r
def uptoBulkEntries {H : Type} : List (Lit × DataW H) → Nat
  | [] => 0
  | x :: r => uptoBulkEntry x + uptoBulkEntries r
def uptoBulkEntry {H : Type} : Lit × DataW H → Nat
  | (.string bytes, d) => bytes.length + uptoBulk d + 1
  | (_, d) => uptoBulk d + 1
 end
def uptoSmall : (H : Type) → List (DataW H) → Bool := fun _ ds => decide (uptoBulkAll ds ≤ 1048576)
def OpenSpec.upto (s : _root_.Go.ChangeSpec) : _root_.Go.OpenSpec := { _root_.Go.OpenSpec.ofChange s with cond := some uptoSmall }

/-- 'cubbylaw09.FlowTurned', WHERE WHAT IT READS IS OF BULK AT MOST 1048576: true; the input reads as it did. -/
def flowTurnedUptoRow : OpenClaim := { program := "ytamadegodenobaadoor", sum := "ff8f350e6287d3502f7d777cf15595ca6bc8059b94d8204759b9781d37eac739", func := "cubby/cubbylaw09.FlowTurned", spec := "flowTurned", unfollowed := true, recurses := true, named := ["cubby/ir.table"], apart := false, laid := [("cubby/ir.table", laid_cubby_ir_table)], narrowed := true }
def FlowTurnedUptoSaid : Prop := flowTurnedUptoRow.holds Tryd.pinned (OpenSpec.upto flowTurnedSpec)

/-- 'cubbylaw09.FlowReaches', WHERE WHAT IT READS IS OF BULK AT MOST 1048576: true; the input reads as it did. -/
def flowReachesUptoRow : OpenClaim := { program := "ytamadegodenobaadoor", sum := "ff8f350e6287d3502f7d777cf15595ca6bc8059b94d8204759b9781d37eac739", func := "cubby/cubbylaw09.FlowReaches", spec := "flowReaches", unfollowed := true, recurses := true, named := ["cubby/ir.table"], apart := false, laid := [("cubby/ir.table", laid_cubby_ir_table)], narrowed := true }
def FlowReachesUptoSaid : Prop := flowReachesUptoRow.holds Tryd.pinned (OpenSpec.upto flowReachesSpec)

/-- 'cubbylaw09.FlowNext', WHERE WHAT IT READS IS OF BULK AT MOST 1048576: true; the input reads as it did. -/
def flowNextUptoRow : OpenClaim := { program := "ytamadegodenobaadoor", sum := "ff8f350e6287d3502f7d777cf15595ca6bc8059b94d8204759b9781d37eac739", func := "cubby/cubbylaw09.FlowNext", spec := "flowNext", named := ["cubby/ir.table"], apart := false, laid := [("cubby/ir.table", laid_cubby_ir_table)], narrowed := true }
def FlowNextUptoSaid : Prop := flowNextUptoRow.holds Tryd.pinned (OpenSpec.upto flowNextSpec)

/-- 'cubbylaw09.FlowOrders', WHERE WHAT IT READS IS OF BULK AT MOST 1048576: true; the input reads as it did. -/
def flowOrdersUptoRow : OpenClaim := { program := "ytamadegodenobaadoor", sum := "ff8f350e6287d3502f7d777cf15595ca6bc8059b94d8204759b9781d37eac739", func := "cubby/cubbylaw09.FlowOrders", spec := "flowOrders", unfollowed := true, recurses := true, named := ["cubby/ir.table"], apart := false, laid := [("cubby/ir.table", laid_cubby_ir_table)], narrowed := true }
def FlowOrdersUptoSaid : Prop := flowOrdersUptoRow.holds Tryd.pinned (OpenSpec.upto flowOrdersSpec)

/-- 'cubbylaw09.FlowOnce', WHERE WHAT IT READS IS OF BULK AT MOST 1048576: true; the input reads as it did. -/
def flowOnceUptoRow : OpenClaim := { program := "ytamadegodenobaadoor", sum := "ff8f350e6287d3502f7d777cf15595ca6bc8059b94d8204759b9781d37eac739", func := "cubby/cubbylaw09.FlowOnce", spec := "flowOnce", unfollowed := true, recurses := true, named := ["cubby/ir.table"], apart := false, laid := [("cubby/ir.table", laid_cubby_ir_table)], narrowed := true }
def FlowOnceUptoSaid : Prop := flowOnceUptoRow.holds Tryd.pinned (OpenSpec.upto flowOnceSpec)

/-- 'cubbylaw09.FlowAhead', WHERE WHAT IT READS IS OF BULK AT MOST 1048576: true; the input reads as it did. -/
def flowAheadUptoRow : OpenClaim := { program := "ytamadegodenobaadoor", sum := "ff8f350e6287d3502f7d777cf15595ca6bc8059b94d8204759b9781d37eac739", func := "cubby/cubbylaw09.FlowAhead", spec := "flowAhead", unfollowed := true, recurses := true, named := ["cubby/ir.table"], apart := false, laid := [("cubby/ir.table", laid_cubby_ir_table)], narrowed := true }
def FlowAheadUptoSaid : Prop := flowAheadUptoRow.holds Tryd.pinned (OpenSpec.upto flowAheadSpec)

end Rows
end Go.Proofs.YtamadegodenobaaDoor
