/-
  NARROWER THAN 'FOR EVERY INPUT', by the rows' own cells (each row's printed sentence says how): IrBlocks: laid · IrChecks: laid · IrReads: laid · IrSpoilt: laid.
  DERIVED. THE GIVEN ROWS OF THIS SEAT. 4 by the template 'for every input the law returns true; each argument reads behind the call as it read before'; 0 by the template 'total and deterministic' (their statements: YtkkbmfgkapdndaaDoorTotals.lean).
  GIVEN WITH THE SEED: the statements are not yours to turn. If you find one false, say at which input.
  Laid BY PROGRAM, IN A SANDBOX (cutbox-rows.mjs): the forced cells as the released guide's own fill.sh prints them over the translation 556e731abf15592d… (all of the seat's roots in one cut). By AI agents, Wed Nov 11 2026. No macro, syntax, notation, axiom, sorry.
-/
import Derived.Test.YtkkbmfgkapdndaaDoorChecked
import GoSem.Claim
import GoSem.ClaimJoined
import GoSem.ClaimMapViews
import Derived.JoinedTies
import Derived.KernelRfl
namespace Go.Proofs.YtkkbmfgkapdndaaDoor
/- THE CELL 'sum', in the pinned program and in every row, IS THE sha256 OF THE DUMP (.gsa) THAT YtkkbmfgkapdndaaDoorProg.lean LOADS. Nothing in Lean hashes anything: it is a label: what it is worth is what the hold of that sum in a sandbox is worth. -/
noncomputable def Tryd.pinned : Pinned := { name := "ytkkbmfgkapdndaadoor", sum := "556e731abf15592dd9931798d5da8a660ec1a992f3c36dc80162bb2f62c70e0b", checked := Tryd.checked }
namespace Rows
def none {H : Type} : Left H := { results := [], args := [] }

/- WHAT THE LISTED PACKAGE-LEVEL VARIABLES READ AS WHEN THE CALL BEGINS. Each datum BY PROGRAM (the guide's laid-datum.mjs) off the statement by which the dump's own 'gosem.cut.vars' lays the variable. In a bare row this is a premise. The card (YtkkbmfgkapdndaaDoorCards.lean) ties it to the program's text. -/
def laid_cubby_ir_table {H : Type} : DataW H := .agg [.agg [.lit (.int .i64 0), .lit (.int .i64 0), .lit (.int .i64 0), .lit (.bool false)], .agg [.lit (.int .i64 1), .lit (.int .i64 2), .lit (.int .i64 0), .lit (.bool false)], .agg [.lit (.int .i64 1), .lit (.int .i64 1), .lit (.int .i64 0), .lit (.bool false)], .agg [.lit (.int .i64 1), .lit (.int .i64 1), .lit (.int .i64 1), .lit (.bool false)], .agg [.lit (.int .i64 1), .lit (.int .i64 1), .lit (.int .i64 1), .lit (.bool false)], .agg [.lit (.int .i64 1), .lit (.int .i64 1), .lit (.int .i64 1), .lit (.bool false)], .agg [.lit (.int .i64 1), .lit (.int .i64 1), .lit (.int .i64 1), .lit (.bool false)], .agg [.lit (.int .i64 1), .lit (.int .i64 1), .lit (.int .i64 1), .lit (.bool false)], .agg [.lit (.int .i64 1), .lit (.int .i64 1), .lit (.int .i64 0), .lit (.bool false)], .agg [.lit (.int .i64 0), .lit (.int .i64 1), .lit (.int .i64 1), .lit (.bool false)], .agg [.lit (.int .i64 0), .lit (.int .i64 1), .lit (.int .i64 0), .lit (.bool false)], .agg [.lit (.int .i64 1), .lit (.int .i64 0), .lit (.int .i64 0), .lit (.bool true)], .agg [.lit (.int .i64 0), .lit (.int .i64 3), .lit (.int .i64 0), .lit (.bool false)], .agg [.lit (.int .i64 3), .lit (.int .i64 1), .lit (.int .i64 3), .lit (.bool false)], .agg [.lit (.int .i64 0), .lit (.int .i64 1), .lit (.int .i64 0), .lit (.bool false)]]

/-- 'cubbylaw07.IrBlocks': WHATEVER THE INPUT: true; the input reads as it did. -/
def irBlocksSpec : ChangeSpec := { name := "irBlocks", fn := fun _ => fun
  | [d1, d2, d3] => { results := [.lit (.bool true)], args := [d1, d2, d3] }
  | _ => none }
def irBlocksRow : OpenClaim := { program := "ytkkbmfgkapdndaadoor", sum := "556e731abf15592dd9931798d5da8a660ec1a992f3c36dc80162bb2f62c70e0b", func := "cubby/cubbylaw07.IrBlocks", spec := "irBlocks", named := ["cubby/ir.table"], apart := false, laid := [("cubby/ir.table", laid_cubby_ir_table)] }
def IrBlocksSaid : Prop := irBlocksRow.holds Tryd.pinned (OpenSpec.ofChange irBlocksSpec)

/-- ITS FALSE NEIGHBOUR: 'it returns false'. Refute it at one input. -/
def irBlocksWrong : ChangeSpec := { name := "irBlocks", fn := fun _ => fun
  | [d1, d2, d3] => { results := [.lit (.bool false)], args := [d1, d2, d3] }
  | _ => none }
def IrBlocksWrongFalsely : Prop := irBlocksRow.holds Tryd.pinned (OpenSpec.ofChange irBlocksWrong)

/-- 'cubbylaw07.IrChecks': WHATEVER THE INPUT: true; the input reads as it did. -/
def irChecksSpec : ChangeSpec := { name := "irChecks", fn := fun _ => fun
  | [d] => { results := [.lit (.bool true)], args := [d] }
  | _ => none }
def irChecksRow : OpenClaim := { program := "ytkkbmfgkapdndaadoor", sum := "556e731abf15592dd9931798d5da8a660ec1a992f3c36dc80162bb2f62c70e0b", func := "cubby/cubbylaw07.IrChecks", spec := "irChecks", named := ["cubby/ir.table"], apart := false, laid := [("cubby/ir.table", laid_cubby_ir_table)] }
def IrChecksSaid : Prop := irChecksRow.holds Tryd.pinned (OpenSpec.ofChange irChecksSpec)

/-- ITS FALSE NEIGHBOUR: 'it returns false'. Refute it at one input. -/
def irChecksWrong : ChangeSpec := { name := "irChecks", fn := fun _ => fun
  | [d] => { results := [.lit (.bool false)], args := [d] }
  | _ => none }
def IrChecksWrongFalsely : Prop := irChecksRow.holds Tryd.pinned (OpenSpec.ofChange irChecksWrong)

/-- 'cubbylaw07.IrReads': WHATEVER THE INPUT: true; the input reads as it did. -/
def irReadsSpec : ChangeSpec := { name := "irReads", fn := fun _ => fun
  | [d1, d2] => { results := [.lit (.bool true)], args := [d1, d2] }
  | _ => none }
def irReadsRow : OpenClaim := { program := "ytkkbmfgkapdndaadoor", sum := "556e731abf15592dd9931798d5da8a660ec1a992f3c36dc80162bb2f62c70e0b", func := "cubby/cubbylaw07.IrReads", spec := "irReads", named := ["cubby/ir.table"], apart := false, laid := [("cubby/ir.table", laid_cubby_ir_table)] }
def IrReadsSaid : Prop := irReadsRow.holds Tryd.pinned (OpenSpec.ofChange irReadsSpec)

/-- ITS FALSE NEIGHBOUR: 'it returns false'. Refute it at one input. -/
def irReadsWrong : ChangeSpec := { name := "irReads", fn := fun _ => fun
  | [d1, d2] => { results := [.lit (.bool false)], args := [d1, d2] }
  | _ => none }
def IrReadsWrongFalsely : Prop := irReadsRow.holds Tryd.pinned (OpenSpec.ofChange irReadsWrong)

/-- 'cubbylaw07.IrSpoilt': WHATEVER THE INPUT: true; the input reads as it did. -/
def irSpoiltSpec : ChangeSpec := { name := "irSpoilt", fn := fun _ => fun
  | [d1, d2, d3] => { results := [.lit (.bool true)], args := [d1, d2, d3] }
  | _ => none }
def irSpoiltRow : OpenClaim := { program := "ytkkbmfgkapdndaadoor", sum := "556e731abf15592dd9931798d5da8a660ec1a992f3c36dc80162bb2f62c70e0b", func := "cubby/cubbylaw07.IrSpoilt", spec := "irSpoilt", named := ["cubby/ir.table"], apart := false, laid := [("cubby/ir.table", laid_cubby_ir_table)] }
def IrSpoiltSaid : Prop := irSpoiltRow.holds Tryd.pinned (OpenSpec.ofChange irSpoiltSpec)

/-- ITS FALSE NEIGHBOUR: 'it returns false'. Refute it at one input. -/
def irSpoiltWrong : ChangeSpec := { name := "irSpoilt", fn := fun _ => fun
  | [d1, d2, d3] => { results := [.lit (.bool false)], args := [d1, d2, d3] }
  | _ => none }
def IrSpoiltWrongFalsely : Prop := irSpoiltRow.holds Tryd.pinned (OpenSpec.ofChange irSpoiltWrong)

/- THE SECOND FORM. 'bulk': how many values and letters a reading holds, each counted each time it is reached (what is shared counts as often as it is met; a slice's spare places count too). A statement '..UptoSaid' is the law's where the arguments, and the package variables that the reading takes, are together of bulk at most 1048576: NARROWER than '..Said'. Prove '..Said' where nothing that the law and all that it calls make is longer than what came in: it says more and counts as full. Else prove '..UptoSaid'. A law counts once. -/
mutual
def uptoBulk {H : Type} : DataW H → Nat
  | .lit (.string bytes) => bytes.length + 1
  | .lit _ => 1
  | .nil => 1
  | .ptr d => uptoBulk d + 1
  | .slice elems spare => uptoBulkAll elems + uptoBulkAll spare + 1
  | .agg parts => uptoBulkAll parts + 1
  | .iface _ d => uptoBulk d + 1
  | .map entries => uptoBulkEntries entries + 1
  | .held _ => 1
def uptoBulkAll {H : Type} : List (DataW H) → Nat
  | [] => 0
  | d :: r => uptoBulk d + uptoBulkAll r
def uptoBulkEntries {H : Type} : List (Lit × DataW H) → Nat
  | [] => 0
  | x :: r => uptoBulkEntry x + uptoBulkEntries r
def uptoBulkEntry {H : Type} : Lit × DataW H → Nat
  | (.string bytes, d) => bytes.length + uptoBulk d + 1
  | (_, d) => uptoBulk d + 1
 end
def uptoSmall : (H : Type) → List (DataW H) → Bool := fun _ ds => decide (uptoBulkAll ds ≤ 1048576)
def OpenSpec.upto (s : _root_.Go.ChangeSpec) : _root_.Go.OpenSpec := { _root_.Go.OpenSpec.ofChange s with cond := some uptoSmall }

/-- 'cubbylaw07.IrBlocks', WHERE WHAT IT READS IS OF BULK AT MOST 1048576: true; the input reads as it did. -/
def irBlocksUptoRow : OpenClaim := { program := "ytkkbmfgkapdndaadoor", sum := "556e731abf15592dd9931798d5da8a660ec1a992f3c36dc80162bb2f62c70e0b", func := "cubby/cubbylaw07.IrBlocks", spec := "irBlocks", named := ["cubby/ir.table"], apart := false, laid := [("cubby/ir.table", laid_cubby_ir_table)], narrowed := true }
def IrBlocksUptoSaid : Prop := irBlocksUptoRow.holds Tryd.pinned (OpenSpec.upto irBlocksSpec)

/-- 'cubbylaw07.IrChecks', WHERE WHAT IT READS IS OF BULK AT MOST 1048576: true; the input reads as it did. -/
def irChecksUptoRow : OpenClaim := { program := "ytkkbmfgkapdndaadoor", sum := "556e731abf15592dd9931798d5da8a660ec1a992f3c36dc80162bb2f62c70e0b", func := "cubby/cubbylaw07.IrChecks", spec := "irChecks", named := ["cubby/ir.table"], apart := false, laid := [("cubby/ir.table", laid_cubby_ir_table)], narrowed := true }
def IrChecksUptoSaid : Prop := irChecksUptoRow.holds Tryd.pinned (OpenSpec.upto irChecksSpec)

/-- 'cubbylaw07.IrReads', WHERE WHAT IT READS IS OF BULK AT MOST 1048576: true; the input reads as it did. -/
def irReadsUptoRow : OpenClaim := { program := "ytkkbmfgkapdndaadoor", sum := "556e731abf15592dd9931798d5da8a660ec1a992f3c36dc80162bb2f62c70e0b", func := "cubby/cubbylaw07.IrReads", spec := "irReads", named := ["cubby/ir.table"], apart := false, laid := [("cubby/ir.table", laid_cubby_ir_table)], narrowed := true }
def IrReadsUptoSaid : Prop := irReadsUptoRow.holds Tryd.pinned (OpenSpec.upto irReadsSpec)

/-- 'cubbylaw07.IrSpoilt', WHERE WHAT IT READS IS OF BULK AT MOST 1048576: true; the input reads as it did. -/
def irSpoiltUptoRow : OpenClaim := { program := "ytkkbmfgkapdndaadoor", sum := "556e731abf15592dd9931798d5da8a660ec1a992f3c36dc80162bb2f62c70e0b", func := "cubby/cubbylaw07.IrSpoilt", spec := "irSpoilt", named := ["cubby/ir.table"], apart := false, laid := [("cubby/ir.table", laid_cubby_ir_table)], narrowed := true }
def IrSpoiltUptoSaid : Prop := irSpoiltUptoRow.holds Tryd.pinned (OpenSpec.upto irSpoiltSpec)

end Rows
end Go.Proofs.YtkkbmfgkapdndaaDoor
