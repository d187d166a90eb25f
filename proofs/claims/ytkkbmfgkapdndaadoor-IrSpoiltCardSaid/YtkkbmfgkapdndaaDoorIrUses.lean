/- Uses: the program's and the document's. -/
import Derived.Test.YtkkbmfgkapdndaaDoorIrLasts
import Derived.Test.YtkkbmfgkapdndaaDoorIrRow
import Derived.Deep.Cut
namespace Go.Proofs.YtkkbmfgkapdndaaDoor
open Go.ChangeShapes Go.WideShapes Go.RowKit Go.Deep

/-- A list of numbers comes back. -/
def ListPost (l : List Int) (w : World) (e : Ending) (w' : World) : Prop := ∃ v, e = .returned v ∧ RowI w' w.heap.size v l ∧ Below w.heap.size w w'

theorem fa_one {op : Int} : Ir.fa op = 1 ↔ (2 ≤ op ∧ op ≤ 10) ∨ op = 13 ∨ op = 14 := by
  unfold Ir.fa
  split
  · subst op; decide
  · split
    · subst op; decide
    · split <;> omega
theorem fb_one {op : Int} : Ir.fb op = 1 ↔ (3 ≤ op ∧ op ≤ 7) ∨ op = 9 := by
  unfold Ir.fb
  split
  · subst op; decide
  · split <;> omega
theorem fc_one {op : Int} : Ir.fc op = true ↔ op = 11 := by unfold Ir.fc; simp

/-- The ways of Uses. -/
theorem uses_ways (x : Ir.In) :
    ((x.op = 3 ∨ x.op = 4 ∨ x.op = 5 ∨ x.op = 6 ∨ x.op = 7 ∨ x.op = 9) ∧ Ir.fa x.op = 1 ∧ Ir.fb x.op = 1 ∧ Ir.fc x.op = false ∧ Ir.uses x = [x.a, x.b]) ∨
    ((x.op = 2 ∨ x.op = 8 ∨ x.op = 10 ∨ x.op = 14 ∨ x.op = 13) ∧ Ir.fa x.op = 1 ∧ Ir.fb x.op ≠ 1 ∧ Ir.fc x.op = false ∧ Ir.uses x = [x.a]) ∨
    (x.op = 11 ∧ Ir.fa x.op ≠ 1 ∧ Ir.fb x.op ≠ 1 ∧ Ir.fc x.op = true ∧ Ir.uses x = x.args) ∨
    (¬ ((2 ≤ x.op ∧ x.op ≤ 11) ∨ x.op = 13 ∨ x.op = 14) ∧ Ir.fa x.op ≠ 1 ∧ Ir.fb x.op ≠ 1 ∧ Ir.fc x.op = false ∧ Ir.uses x = []) := by
  have ha := @fa_one x.op
  have hb := @fb_one x.op
  have hc := @fc_one x.op
  unfold Ir.uses
  by_cases h1 : Ir.fa x.op = 1 <;> by_cases h2 : Ir.fb x.op = 1 <;> cases h3 : Ir.fc x.op
  all_goals simp [h1, h2, h3] at ha hb hc ⊢
  all_goals omega

theorem uses_in64 {w : World} {x : Ir.In} {sl : Value} (hx : InR w (InsC x sl).toList x) : In64 (Ir.uses x) := by
  obtain ⟨_, _, hn, _, _, ha, hb⟩ := hx
  have hA := hn.in64
  rcases uses_ways x with ⟨-, -, -, -, h⟩ | ⟨-, -, -, -, h⟩ | ⟨-, -, -, -, h⟩ | ⟨-, -, -, -, h⟩ <;> rw [h]
  · intro n hn; simp at hn; rcases hn with rfl | rfl <;> assumption
  · intro n hn; simp at hn; subst hn; assumption
  · exact hA
  · intro n hn; cases hn

/-- The box of an instruction: its cells, and its numbers. -/
theorem box_in {w w1 : World} {x : Ir.In} {sl : Value} (hx : InR w (InsC x sl).toList x) (hb : Below w.heap.size w w1) : Nums w1 sl x.args := by
  obtain ⟨sl', h1, hn, _⟩ := hx
  simp at h1
  subst h1
  exact hn.below hb

/-- The two boxes: the instruction, its Op's fields. -/
def Two (w : World) (bx bf : Nat) (x : Ir.In) (sl : Value) : Prop := Blk w bx 32 (InsC x sl) ∧ Blk w bf 45 (FlC x.op)
theorem two_cells {w w' : World} {bx bf : Nat} {x : Ir.In} {sl : Value} (h : Two w bx bf x sl) (hb : Below w.heap.size w w') :
    (w'.cell? ⟨bx, 1, none⟩ = some (.int .i64 x.d) ∧ w'.cell? ⟨bx, 2, none⟩ = some (.int .i64 x.a) ∧ w'.cell? ⟨bx, 3, none⟩ = some (.int .i64 x.b) ∧ w'.cell? ⟨bx, 5, none⟩ = some sl) ∧
    (w'.cell? ⟨bf, 0, none⟩ = some (.int .i64 (Ir.fd x.op)) ∧ w'.cell? ⟨bf, 1, none⟩ = some (.int .i64 (Ir.fa x.op)) ∧ w'.cell? ⟨bf, 2, none⟩ = some (.int .i64 (Ir.fb x.op)) ∧ w'.cell? ⟨bf, 3, none⟩ = some (.bool (Ir.fc x.op))) ∧ bx < w'.heap.size ∧ bf < w'.heap.size := by
  have h1 := h.1.older hb h.1.lt
  have h2 := h.2.older hb h.2.lt
  exact ⟨⟨h1.cell 1, h1.cell 2, h1.cell 3, h1.cell 5⟩, ⟨h2.cell 0, h2.cell 1, h2.cell 2, h2.cell 3⟩, h1.lt, h2.lt⟩

theorem below_first {w3 w4 : World} {o : Obj} {r : Option Nat} (hg : (w3.alloc o).grownBy w4 r) (hr : ∀ k, r = some k → w3.heap.size ≤ k) : Below w3.heap.size w3 w4 :=
  ((Below.refl _ _).alloc (Nat.le_refl _) _).grown hg (by simp) hr
theorem below_next {w3 w4 w5 : World} {o : Obj} {r : Option Nat} (hb : Below w3.heap.size w3 w4) (hg : (w4.alloc o).grownBy w5 r) (hr : ∀ k, r = some k → w3.heap.size ≤ k) : Below w3.heap.size w3 w5 :=
  (hb.alloc hb.size _).grown hg (by have := hb.size; simp; omega) hr

set_option maxRecDepth 20000 in
set_option maxHeartbeats 1600000 in
theorem uses_any (x : Ir.In) (sl : Value) (w : World) (ht : Tbl w) (hx : InR w (InsC x sl).toList x) (hlen : x.args.length ≤ 1048000) :
    Calls Tryd.prog 12 #[InsV x sl] w (ListPost (Ir.uses x) w) := by
  obtain ⟨_, -, -, hop, -, ha64, hb64⟩ := id hx
  have hB := Blk.new w 32 (InsC x sl)
  have hb : Below w.heap.size w (w.alloc (.cells (InsC x sl) 32)) := (Below.refl _ _).alloc (Nat.le_refl _) _
  have HT := Lib.hid (ht.below hb)
  have HB := Lib.hid hB
  have HW := Lib.hid hb
  have HX := Lib.hid hx
  have HA1 := Lib.hid (show In64 [x.a] by intro n hn; simp at hn; subst hn; exact ha64)
  have HB1 := Lib.hid (show In64 [x.b] by intro n hn; simp at hn; subst hn; exact hb64)
  have HL := Lib.hid hlen
  obtain ⟨c0, -, -, -, -, -⟩ := six_cells hB
  have HU := Lib.hid (uses_ways x)
  clear hB hb ht hx ha64 hb64 hlen
  go_enter Tryd.func12, Tryd.ntmps12
  go_wp2_with fail
  generalize w.alloc (.cells (InsC x sl) 32) = w1 at *
  refine (fields_any x.op w1 HT.out hop).mono ?_
  rintro e w2 ⟨rfl, hb2⟩
  have hB2 := HB.out.older hb2 HB.out.lt
  have hW2 := HW.out.trans (hb2.mono HW.out.size)
  clear hb2 HB HW HT c0 hop
  have HTW := Lib.hid (show Two (w2.alloc (.cells (FlC x.op) 45)) w.heap.size w2.heap.size x sl from ⟨hB2.alloc _, Blk.new _ _ _⟩)
  have HW3 := Lib.hid (hW2.alloc hW2.size (.cells (FlC x.op) 45))
  clear hB2 hW2
  go_upto_region 2 with fail
  generalize w2.alloc (.cells (FlC x.op) 45) = w3 at *
  generalize w2.heap.size = bf at *
  obtain ⟨⟨d1, d2, d3, d5⟩, ⟨q0, q1, q2, q3⟩, l1, l2⟩ := two_cells HTW.out (Below.refl _ _)
  rcases HU.out with ⟨-, e1, e2, e3, hu⟩ | ⟨-, e1, e2, e3, hu⟩ | ⟨-, e1, e2, e3, hu⟩ | ⟨-, e1, e2, e3, hu⟩
  · have E1 : (Ir.fa x.op == 1) = true := by simp [e1]
    have E2 : (Ir.fb x.op == 1) = true := by simp [e2]
    have HE := Lib.hid hu
    have HC := Lib.hid e3
    clear hu e1 e2 HU
    rw [e3] at q3
    clear e3
    go_wp2_with (first | (at_builtin; refine wpList_append_nums rfl (.tmp 11) (.tmp 14) rfl (RowI.nil _ w3.heap.size) (nums_one w3 x.a HA1.out) (by simp) (by simp) rfl rfl ?_; intro v4 w4 hr4 hg4; have hb4 := below_first hg4 (fun k h => by cases h); have HR4 := Lib.hid hr4; have HB4 := Lib.hid hb4; obtain ⟨⟨d1, d2, d3, d5⟩, ⟨q0, q1, q2, q3⟩, l1, l2⟩ := two_cells HTW.out hb4; rw [HC.out] at q3; clear hr4 hg4 hb4) | (at_builtin; refine wpList_append_nums rfl (.tmp 19) (.tmp 22) rfl (HR4.out.alloc _) (nums_one w4 x.b HB1.out) (by simp) (by have := HB4.out.size; simp; omega) rfl rfl ?_; intro v5 w5 hr5 hg5; have hb5 := below_next HB4.out hg5 (fun k h => (World.ownsRow.lt HR4.out k h).1); have HR5 := Lib.hid hr5; have HB5 := Lib.hid hb5; obtain ⟨⟨d1, d2, d3, d5⟩, ⟨q0, q1, q2, q3⟩, l1, l2⟩ := two_cells HTW.out hb5; rw [HC.out] at q3; clear hr5 hg5 hb5))
    go_ret
    exact ⟨_, rfl, by rw [HE.out]; exact HR5.out.less HW3.out.size, HW3.out.trans (HB5.out.mono HW3.out.size)⟩
  · have E1 : (Ir.fa x.op == 1) = true := by simp [e1]
    have E2 : (Ir.fb x.op == 1) = false := by simp [e2]
    have HE := Lib.hid hu
    have HC := Lib.hid e3
    clear hu e1 e2 HU
    rw [e3] at q3
    clear e3
    go_wp2_with (at_builtin; refine wpList_append_nums rfl (.tmp 11) (.tmp 14) rfl (RowI.nil _ w3.heap.size) (nums_one w3 x.a HA1.out) (by simp) (by simp) rfl rfl ?_; intro v4 w4 hr4 hg4; have hb4 := below_first hg4 (fun k h => by cases h); have HR4 := Lib.hid hr4; have HB4 := Lib.hid hb4; obtain ⟨⟨d1, d2, d3, d5⟩, ⟨q0, q1, q2, q3⟩, l1, l2⟩ := two_cells HTW.out hb4; rw [HC.out] at q3; clear hr4 hg4 hb4)
    go_ret
    exact ⟨_, rfl, by rw [HE.out]; exact HR4.out.less HW3.out.size, HW3.out.trans (HB4.out.mono HW3.out.size)⟩
  · have E1 : (Ir.fa x.op == 1) = false := by simp [e1]
    have E2 : (Ir.fb x.op == 1) = false := by simp [e2]
    have HE := Lib.hid hu
    have HC := Lib.hid e3
    clear hu e1 e2 HU
    rw [e3] at q3
    clear e3
    go_wp2_with (at_builtin; refine wpList_append_nums rfl (.tmp 26) (.tmp 28) rfl (RowI.nil _ w3.heap.size) (box_in HX.out HW3.out) (by have := HL.out; simp; omega) (Nat.le_refl _) rfl rfl ?_; intro v4 w4 hr4 hg4; have HR4 := Lib.hid hr4; have HB4 := Lib.hid (show Below w3.heap.size w3 w4 from gr_to_below hg4); clear hr4 hg4)
    go_ret
    exact ⟨_, rfl, by rw [HE.out]; exact HR4.out.less HW3.out.size, HW3.out.trans (HB4.out.mono HW3.out.size)⟩
  · have E1 : (Ir.fa x.op == 1) = false := by simp [e1]
    have E2 : (Ir.fb x.op == 1) = false := by simp [e2]
    have HE := Lib.hid hu
    have HC := Lib.hid e3
    clear hu e1 e2 HU
    rw [e3] at q3
    clear e3
    go_wp2_with fail
    go_ret
    exact ⟨_, rfl, by rw [HE.out]; exact RowI.nil _ _, HW3.out⟩
end Go.Proofs.YtkkbmfgkapdndaaDoor
