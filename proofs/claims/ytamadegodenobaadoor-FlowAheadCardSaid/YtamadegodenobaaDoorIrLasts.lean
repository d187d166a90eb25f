/- Last, Def: the program's and the document's. -/
import Derived.Test.YtamadegodenobaaDoorIrTable
namespace Go.Proofs.YtamadegodenobaaDoor
open Go.ChangeShapes Go.WideShapes Go.RowKit Go.Deep

theorem ret_i64 {a b : Int} (h : a = b) : Ending.returned (.int .i64 a) = .returned (.int .i64 b) := by rw [h]
theorem last_is (op : Int) : Ir.last op = (decide (op = 12) || (decide (op = 13) || decide (op = 14))) := by
  unfold Ir.last
  rw [Bool.decide_or, Bool.decide_or]
theorem eq_dec (a b : Int) : (a == b) = decide (a = b) := by
  rw [Bool.eq_iff_iff]; simp

/-- The fields' cells, by value. -/
abbrev FlC (op : Int) : Array Value := #[.int .i64 (Ir.fd op), .int .i64 (Ir.fa op), .int .i64 (Ir.fb op), .bool (Ir.fc op)]

/-- The six cells of a box. -/
theorem six_cells {w : World} {g : Nat} {t : TypeId} {a b c d e f : Value} (h : Blk w g t #[a, b, c, d, e, f]) :
    w.cell? ⟨g, 0, none⟩ = some a ∧ w.cell? ⟨g, 1, none⟩ = some b ∧ w.cell? ⟨g, 2, none⟩ = some c ∧ w.cell? ⟨g, 3, none⟩ = some d ∧ w.cell? ⟨g, 4, none⟩ = some e ∧ w.cell? ⟨g, 5, none⟩ = some f :=
  ⟨h.cell 0, h.cell 1, h.cell 2, h.cell 3, h.cell 4, h.cell 5⟩

/-- The first field, of the fields by value. -/
theorem run_field (a b c d : Value) (w : World) : (Instr.field 46 (.agg #[a, b, c, d]) 0).run Tryd.prog w = .ok a w := by
  first | rfl | kernel_rfl | simp [Instr.field]

/-- The ways of an Op that writes a register. -/
theorem fd_one {op : Int} : Ir.fd op = 1 ↔ op = 1 ∨ op = 2 ∨ op = 8 ∨ op = 3 ∨ op = 4 ∨ op = 5 ∨ op = 6 ∨ op = 7 ∨ op = 11 := by
  unfold Ir.fd
  split
  · subst op; decide
  · split <;> omega

end Go.Proofs.YtamadegodenobaaDoor
