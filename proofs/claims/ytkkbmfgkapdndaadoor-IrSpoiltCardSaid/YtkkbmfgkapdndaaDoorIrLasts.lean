/- Last, Def: the program's and the document's. -/
import Derived.Test.YtkkbmfgkapdndaaDoorIrTable
namespace Go.Proofs.YtkkbmfgkapdndaaDoor
open Go.ChangeShapes Go.WideShapes Go.RowKit Go.Deep

theorem ret_i64 {a b : Int} (h : a = b) : Ending.returned (.int .i64 a) = .returned (.int .i64 b) := by rw [h]
theorem last_is (op : Int) : Ir.last op = (decide (op = 12) || (decide (op = 13) || decide (op = 14))) := by
  unfold Ir.last
  rw [Bool.decide_or, Bool.decide_or]
theorem eq_dec (a b : Int) : (a == b) = decide (a = b) := by
  rw [Bool.eq_iff_iff]; simp

theorem last_any (op : Int) (w : World) : Calls Tryd.prog 10 #[.int .i64 op] w fun e w' => e = .returned (.bool (Ir.last op)) ∧ w = w' := by
  rw [last_is]
  by_cases h1 : op = 12
  · subst h1
    go_enter Tryd.func10, Tryd.ntmps10
    go_wp2_with fail
    go_ret
    exact ⟨rfl, rfl⟩
  by_cases h2 : op = 13
  · subst h2
    go_enter Tryd.func10, Tryd.ntmps10
    go_wp2_with fail
    go_ret
    exact ⟨rfl, rfl⟩
  rw [decide_eq_false h1, decide_eq_false h2]
  have e1 : (op == 12) = false := by simp [h1]
  have e2 : (op == 13) = false := by simp [h2]
  have e3 : (op == 14) = decide (op = 14) := eq_dec _ _
  clear h1 h2
  generalize decide (op = 14) = b at *
  go_enter Tryd.func10, Tryd.ntmps10
  go_wp2_with fail
  go_ret
  exact ⟨rfl, rfl⟩
theorem rlast_any (op : Int) (w : World) : Calls Tryd.prog 18 #[.int .i64 op] w fun e w' => e = .returned (.bool (Ir.last op)) ∧ w = w' := by
  rw [last_is]
  by_cases h1 : op = 12
  · subst h1
    go_enter Tryd.func18, Tryd.ntmps18
    go_wp2_with fail
    go_ret
    exact ⟨rfl, rfl⟩
  by_cases h2 : op = 13
  · subst h2
    go_enter Tryd.func18, Tryd.ntmps18
    go_wp2_with fail
    go_ret
    exact ⟨rfl, rfl⟩
  rw [decide_eq_false h1, decide_eq_false h2]
  have e1 : (op == 12) = false := by simp [h1]
  have e2 : (op == 13) = false := by simp [h2]
  have e3 : (op == 14) = decide (op = 14) := eq_dec _ _
  clear h1 h2
  generalize decide (op = 14) = b at *
  go_enter Tryd.func18, Tryd.ntmps18
  go_wp2_with fail
  go_ret
  exact ⟨rfl, rfl⟩

/-- The fields' cells, by value. -/
abbrev FlC (op : Int) : Array Value := #[.int .i64 (Ir.fd op), .int .i64 (Ir.fa op), .int .i64 (Ir.fb op), .bool (Ir.fc op)]

/-- The six cells of a box. -/
theorem six_cells {w : World} {g : Nat} {t : TypeId} {a b c d e f : Value} (h : Blk w g t #[a, b, c, d, e, f]) :
    w.cell? ⟨g, 0, none⟩ = some a ∧ w.cell? ⟨g, 1, none⟩ = some b ∧ w.cell? ⟨g, 2, none⟩ = some c ∧ w.cell? ⟨g, 3, none⟩ = some d ∧ w.cell? ⟨g, 4, none⟩ = some e ∧ w.cell? ⟨g, 5, none⟩ = some f :=
  ⟨h.cell 0, h.cell 1, h.cell 2, h.cell 3, h.cell 4, h.cell 5⟩

/-- The first field, of the fields by value. -/
theorem run_field (a b c d : Value) (w : World) : (Instr.field 45 (.agg #[a, b, c, d]) 0).run Tryd.prog w = .ok a w := by
  first | rfl | kernel_rfl | simp [Instr.field]

set_option maxRecDepth 20000 in
set_option maxHeartbeats 800000 in
theorem def_any (x : Ir.In) (sl : Value) (w : World) (ht : Tbl w) (hx : InR w (InsC x sl).toList x) :
    Calls Tryd.prog 13 #[InsV x sl] w fun e w' => e = .returned (.int .i64 (Ir.dest x)) ∧ Below w.heap.size w w' := by
  obtain ⟨_, -, -, hop, -⟩ := hx
  have hB := Blk.new w 32 (InsC x sl)
  have hb : Below w.heap.size w (w.alloc (.cells (InsC x sl) 32)) := (Below.refl _ _).alloc (Nat.le_refl _) _
  have HT := Lib.hid (ht.below hb)
  have HB := Lib.hid hB
  have HW := Lib.hid hb
  obtain ⟨c0, -, -, -, -, -⟩ := six_cells hB
  clear hB hb ht
  go_enter Tryd.func13, Tryd.ntmps13
  go_wp2_with fail
  generalize w.alloc (.cells (InsC x sl) 32) = w1 at *
  refine (fields_any x.op w1 HT.out hop).mono ?_
  rintro e w2 ⟨rfl, hb2⟩
  have HB2 := Lib.hid (HB.out.older hb2 HB.out.lt)
  have HW2 := Lib.hid (HW.out.trans (hb2.mono HW.out.size))
  obtain ⟨-, c1, -, -, -, -⟩ := six_cells HB2.out
  clear hb2 HB HW HT c0
  have hrun := run_field (.int .i64 (Ir.fd x.op)) (.int .i64 (Ir.fa x.op)) (.int .i64 (Ir.fb x.op)) (.bool (Ir.fc x.op)) w2
  by_cases hd : Ir.fd x.op = 1
  · have hd1 : (Ir.fd x.op != 1) = false := by simp [hd]
    have HD := Lib.hid (show x.d = Ir.dest x by unfold Ir.dest; rw [if_pos hd])
    clear hd
    go_wp2_with fail
    go_ret
    exact ⟨ret_i64 HD.out, HW2.out⟩
  · have hd1 : (Ir.fd x.op != 1) = true := by simp [hd]
    have HD := Lib.hid (show -1 = Ir.dest x by unfold Ir.dest; rw [if_neg hd])
    clear hd
    go_wp2_with fail
    go_ret
    exact ⟨ret_i64 HD.out, HW2.out⟩

/-- The ways of an Op that writes a register. -/
theorem fd_one {op : Int} : Ir.fd op = 1 ↔ op = 1 ∨ op = 2 ∨ op = 8 ∨ op = 3 ∨ op = 4 ∨ op = 5 ∨ op = 6 ∨ op = 7 ∨ op = 11 := by
  unfold Ir.fd
  split
  · subst op; decide
  · split <;> omega

set_option maxRecDepth 20000 in
set_option maxHeartbeats 800000 in
theorem rdef_any (x : Ir.In) (sl : Value) (w : World) (hx : InR w (InsC x sl).toList x) :
    Calls Tryd.prog 16 #[InsV x sl] w fun e w' => e = .returned (.int .i64 (Ir.dest x)) ∧ Below w.heap.size w w' := by
  obtain ⟨_, -, -, hop, -⟩ := hx
  have hB := Blk.new w 32 (InsC x sl)
  have hb : Below w.heap.size w (w.alloc (.cells (InsC x sl) 32)) := (Below.refl _ _).alloc (Nat.le_refl _) _
  have HW := Lib.hid hb
  obtain ⟨c0, c1, -, -, -, -⟩ := six_cells hB
  clear hB hb
  by_cases hd : Ir.fd x.op = 1
  · have HD := Lib.hid (show x.d = Ir.dest x by unfold Ir.dest; rw [if_pos hd])
    rw [fd_one] at hd
    generalize x.op = op at *
    rcases hd with rfl | rfl | rfl | rfl | rfl | rfl | rfl | rfl | rfl
    all_goals
      go_enter Tryd.func16, Tryd.ntmps16
      go_wp2_with fail
      go_ret
      exact ⟨ret_i64 HD.out, HW.out⟩
  · have HD := Lib.hid (show -1 = Ir.dest x by unfold Ir.dest; rw [if_neg hd])
    rw [fd_one] at hd
    have e1 : (x.op == 1) = false := by simp; omega
    have e2 : (x.op == 2) = false := by simp; omega
    have e3 : (x.op == 3) = false := by simp; omega
    have e4 : (x.op == 4) = false := by simp; omega
    have e5 : (x.op == 5) = false := by simp; omega
    have e6 : (x.op == 6) = false := by simp; omega
    have e7 : (x.op == 7) = false := by simp; omega
    have e8 : (x.op == 8) = false := by simp; omega
    have e9 : (x.op == 11) = false := by simp; omega
    clear hd
    go_enter Tryd.func16, Tryd.ntmps16
    go_wp2_with fail
    go_ret
    exact ⟨ret_i64 HD.out, HW.out⟩
end Go.Proofs.YtkkbmfgkapdndaaDoor
