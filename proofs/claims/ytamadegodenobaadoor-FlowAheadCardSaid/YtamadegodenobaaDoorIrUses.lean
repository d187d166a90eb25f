/- Uses: the program's and the document's. -/
import Derived.Test.YtamadegodenobaaDoorIrLasts
import Derived.Test.YtamadegodenobaaDoorIrRow
import Derived.Deep.Cut
namespace Go.Proofs.YtamadegodenobaaDoor
open Go.ChangeShapes Go.WideShapes Go.RowKit Go.Deep

/-- A list of numbers comes back. -/
def ListPost (l : List Int) (w : World) (e : Ending) (w' : World) : Prop := ∃ v, e = .returned v ∧ RowI w' w.heap.size v l ∧ Below w.heap.size w w'

theorem fa_one {op : Int} : Ir.fa op = 1 ↔ (2 ≤ op ∧ op ≤ 10) ∨ op = 13 ∨ op = 14 := by
  unfold Ir.fa
  split
  · subst op; decide
  · split
    · subst op; decide
    · split <;> omega
theorem fb_one {op : Int} : Ir.fb op = 1 ↔ (3 ≤ op ∧ op ≤ 7) ∨ op = 9 := by
  unfold Ir.fb
  split
  · subst op; decide
  · split <;> omega
theorem fc_one {op : Int} : Ir.fc op = true ↔ op = 11 := by unfold Ir.fc; simp

/-- The ways of Uses. -/
theorem uses_ways (x : Ir.In) :
    ((x.op = 3 ∨ x.op = 4 ∨ x.op = 5 ∨ x.op = 6 ∨ x.op = 7 ∨ x.op = 9) ∧ Ir.fa x.op = 1 ∧ Ir.fb x.op = 1 ∧ Ir.fc x.op = false ∧ Ir.uses x = [x.a, x.b]) ∨
    ((x.op = 2 ∨ x.op = 8 ∨ x.op = 10 ∨ x.op = 14 ∨ x.op = 13) ∧ Ir.fa x.op = 1 ∧ Ir.fb x.op ≠ 1 ∧ Ir.fc x.op = false ∧ Ir.uses x = [x.a]) ∨
    (x.op = 11 ∧ Ir.fa x.op ≠ 1 ∧ Ir.fb x.op ≠ 1 ∧ Ir.fc x.op = true ∧ Ir.uses x = x.args) ∨
    (¬ ((2 ≤ x.op ∧ x.op ≤ 11) ∨ x.op = 13 ∨ x.op = 14) ∧ Ir.fa x.op ≠ 1 ∧ Ir.fb x.op ≠ 1 ∧ Ir.fc x.op = false ∧ Ir.uses x = []) := by
  have ha := @fa_one x.op
  have hb := @fb_one x.op
  have hc := @fc_one x.op
  unfold Ir.uses
  by_cases h1 : Ir.fa x.op = 1 <;> by_cases h2 : Ir.fb x.op = 1 <;> cases h3 : Ir.fc x.op
  all_goals simp [h1, h2, h3] at ha hb hc ⊢
  all_goals omega

theorem uses_in64 {w : World} {x : Ir.In} {sl : Value} (hx : InR w (InsC x sl).toList x) : In64 (Ir.uses x) := by
  obtain ⟨_, _, hn, _, _, ha, hb⟩ := hx
  have hA := hn.in64
  rcases uses_ways x with ⟨-, -, -, -, h⟩ | ⟨-, -, -, -, h⟩ | ⟨-, -, -, -, h⟩ | ⟨-, -, -, -, h⟩ <;> rw [h]
  · intro n hn; simp at hn; rcases hn with rfl | rfl <;> assumption
  · intro n hn; simp at hn; subst hn; assumption
  · exact hA
  · intro n hn; cases hn

/-- The box of an instruction: its cells, and its numbers. -/
theorem box_in {w w1 : World} {x : Ir.In} {sl : Value} (hx : InR w (InsC x sl).toList x) (hb : Below w.heap.size w w1) : Nums w1 sl x.args := by
  obtain ⟨sl', h1, hn, _⟩ := hx
  simp at h1
  subst h1
  exact hn.below hb

/-- The two boxes: the instruction, its Op's fields. -/
def Two (w : World) (bx bf : Nat) (x : Ir.In) (sl : Value) : Prop := Blk w bx 36 (InsC x sl) ∧ Blk w bf 46 (FlC x.op)
theorem two_cells {w w' : World} {bx bf : Nat} {x : Ir.In} {sl : Value} (h : Two w bx bf x sl) (hb : Below w.heap.size w w') :
    (w'.cell? ⟨bx, 1, none⟩ = some (.int .i64 x.d) ∧ w'.cell? ⟨bx, 2, none⟩ = some (.int .i64 x.a) ∧ w'.cell? ⟨bx, 3, none⟩ = some (.int .i64 x.b) ∧ w'.cell? ⟨bx, 5, none⟩ = some sl) ∧
    (w'.cell? ⟨bf, 0, none⟩ = some (.int .i64 (Ir.fd x.op)) ∧ w'.cell? ⟨bf, 1, none⟩ = some (.int .i64 (Ir.fa x.op)) ∧ w'.cell? ⟨bf, 2, none⟩ = some (.int .i64 (Ir.fb x.op)) ∧ w'.cell? ⟨bf, 3, none⟩ = some (.bool (Ir.fc x.op))) ∧ bx < w'.heap.size ∧ bf < w'.heap.size := by
  have h1 := h.1.older hb h.1.lt
  have h2 := h.2.older hb h.2.lt
  exact ⟨⟨h1.cell 1, h1.cell 2, h1.cell 3, h1.cell 5⟩, ⟨h2.cell 0, h2.cell 1, h2.cell 2, h2.cell 3⟩, h1.lt, h2.lt⟩

theorem below_first {w3 w4 : World} {o : Obj} {r : Option Nat} (hg : (w3.alloc o).grownBy w4 r) (hr : ∀ k, r = some k → w3.heap.size ≤ k) : Below w3.heap.size w3 w4 :=
  ((Below.refl _ _).alloc (Nat.le_refl _) _).grown hg (by simp) hr
theorem below_next {w3 w4 w5 : World} {o : Obj} {r : Option Nat} (hb : Below w3.heap.size w3 w4) (hg : (w4.alloc o).grownBy w5 r) (hr : ∀ k, r = some k → w3.heap.size ≤ k) : Below w3.heap.size w3 w5 :=
  (hb.alloc hb.size _).grown hg (by have := hb.size; simp; omega) hr

end Go.Proofs.YtamadegodenobaaDoor
