/- Targets of the program. -/
import Derived.Test.YtamadegodenobaaDoorIrUses
namespace Go.Proofs.YtamadegodenobaaDoor
open Go.ChangeShapes Go.WideShapes Go.RowKit Go.Deep

theorem fa_three {op : Int} : Ir.fa op = 3 ↔ op = 12 := by
  unfold Ir.fa
  split
  · subst op; decide
  · split
    · subst op; decide
    · split <;> omega
theorem fb_three {op : Int} : Ir.fb op = 3 ↔ op = 13 := by
  unfold Ir.fb
  split
  · subst op; decide
  · split <;> omega
theorem fd_three {op : Int} : Ir.fd op = 3 ↔ op = 13 := by
  unfold Ir.fd
  split
  · subst op; decide
  · split <;> omega

/-- The ways of Targets. -/
theorem targets_ways (x : Ir.In) :
    (x.op = 12 ∧ Ir.fa x.op = 3 ∧ Ir.fb x.op ≠ 3 ∧ Ir.fd x.op ≠ 3 ∧ Ir.targets x = [x.a]) ∨
    (x.op = 13 ∧ Ir.fa x.op ≠ 3 ∧ Ir.fb x.op = 3 ∧ Ir.fd x.op = 3 ∧ Ir.targets x = [x.b, x.d]) ∨
    (¬ (x.op = 12 ∨ x.op = 13) ∧ Ir.fa x.op ≠ 3 ∧ Ir.fb x.op ≠ 3 ∧ Ir.fd x.op ≠ 3 ∧ Ir.targets x = []) := by
  have ha := @fa_three x.op
  have hb := @fb_three x.op
  have hc := @fd_three x.op
  unfold Ir.targets
  by_cases h1 : Ir.fa x.op = 3 <;> by_cases h2 : Ir.fb x.op = 3 <;> by_cases h3 : Ir.fd x.op = 3
  all_goals simp [h1, h2, h3] at ha hb hc ⊢
  all_goals omega

theorem targets_in64 {w : World} {x : Ir.In} {sl : Value} (hx : InR w (InsC x sl).toList x) : In64 (Ir.targets x) := by
  obtain ⟨_, _, hn, _, hd, ha, hb⟩ := hx
  rcases targets_ways x with ⟨-, -, -, -, h⟩ | ⟨-, -, -, -, h⟩ | ⟨-, -, -, -, h⟩ <;> rw [h]
  · intro n hn; simp at hn; subst hn; assumption
  · intro n hn; simp at hn; rcases hn with rfl | rfl <;> assumption
  · intro n hn; cases hn

set_option maxRecDepth 20000 in
set_option maxHeartbeats 1600000 in
theorem targets_any (x : Ir.In) (sl : Value) (w : World) (ht : Tbl w) (hx : InR w (InsC x sl).toList x) :
    Calls Tryd.prog 23 #[InsV x sl] w (ListPost (Ir.targets x) w) := by
  obtain ⟨_, -, -, hop, hd64, ha64, hb64⟩ := id hx
  have hB := Blk.new w 36 (InsC x sl)
  have hb : Below w.heap.size w (w.alloc (.cells (InsC x sl) 36)) := (Below.refl _ _).alloc (Nat.le_refl _) _
  have HT := Lib.hid (ht.below hb)
  have HB := Lib.hid hB
  have HW := Lib.hid hb
  have HX := Lib.hid hx
  have HA1 := Lib.hid (show In64 [x.a] by intro n hn; simp at hn; subst hn; exact ha64)
  have HB1 := Lib.hid (show In64 [x.b] by intro n hn; simp at hn; subst hn; exact hb64)
  have HD1 := Lib.hid (show In64 [x.d] by intro n hn; simp at hn; subst hn; exact hd64)
  obtain ⟨c0, -, -, -, -, -⟩ := six_cells hB
  have HU := Lib.hid (targets_ways x)
  clear hB hb ht hx ha64 hb64 hd64
  go_enter Tryd.func23, Tryd.ntmps23
  go_wp2_with fail
  generalize w.alloc (.cells (InsC x sl) 36) = w1 at *
  refine (fields_any x.op w1 HT.out hop).mono ?_
  rintro e w2 ⟨rfl, hb2⟩
  have hB2 := HB.out.older hb2 HB.out.lt
  have hW2 := HW.out.trans (hb2.mono HW.out.size)
  clear hb2 HB HW HT c0 hop
  have HTW := Lib.hid (show Two (w2.alloc (.cells (FlC x.op) 46)) w.heap.size w2.heap.size x sl from ⟨hB2.alloc _, Blk.new _ _ _⟩)
  have HW3 := Lib.hid (hW2.alloc hW2.size (.cells (FlC x.op) 46))
  clear hB2 hW2
  go_upto_region 2 with fail
  generalize w2.alloc (.cells (FlC x.op) 46) = w3 at *
  generalize w2.heap.size = bf at *
  obtain ⟨⟨d1, d2, d3, d5⟩, ⟨q0, q1, q2, q3⟩, l1, l2⟩ := two_cells HTW.out (Below.refl _ _)
  rcases HU.out with ⟨-, e1, e2, e3, hu⟩ | ⟨-, e1, e2, e3, hu⟩ | ⟨-, e1, e2, e3, hu⟩
  · have E1 : (Ir.fa x.op == 3) = true := by simp [e1]
    have E2 : (Ir.fb x.op == 3) = false := by simp [e2]
    have E3 : (Ir.fd x.op == 3) = false := by simp [e3]
    have HE := Lib.hid hu
    clear hu e1 e2 e3 HU
    go_wp2_with (at_builtin; refine wpList_append_nums rfl (.tmp 11) (.tmp 14) rfl (RowI.nil _ w3.heap.size) (nums_one w3 x.a HA1.out) (by simp) (by simp) rfl rfl ?_; intro v4 w4 hr4 hg4; have hb4 := below_first hg4 (fun k h => by cases h); have HR4 := Lib.hid hr4; have HB4 := Lib.hid hb4; obtain ⟨⟨d1, d2, d3, d5⟩, ⟨q0, q1, q2, q3⟩, l1, l2⟩ := two_cells HTW.out hb4; clear hr4 hg4 hb4)
    go_ret
    exact ⟨_, rfl, by rw [HE.out]; exact HR4.out.less HW3.out.size, HW3.out.trans (HB4.out.mono HW3.out.size)⟩
  · have E1 : (Ir.fa x.op == 3) = false := by simp [e1]
    have E2 : (Ir.fb x.op == 3) = true := by simp [e2]
    have E3 : (Ir.fd x.op == 3) = true := by simp [e3]
    have HE := Lib.hid hu
    clear hu e1 e2 e3 HU
    go_wp2_with (first | (at_builtin; refine wpList_append_nums rfl (.tmp 19) (.tmp 22) rfl (RowI.nil _ w3.heap.size) (nums_one w3 x.b HB1.out) (by simp) (by simp) rfl rfl ?_; intro v4 w4 hr4 hg4; have hb4 := below_first hg4 (fun k h => by cases h); have HR4 := Lib.hid hr4; have HB4 := Lib.hid hb4; obtain ⟨⟨d1, d2, d3, d5⟩, ⟨q0, q1, q2, q3⟩, l1, l2⟩ := two_cells HTW.out hb4; clear hr4 hg4 hb4) | (at_builtin; refine wpList_append_nums rfl (.tmp 27) (.tmp 30) rfl (HR4.out.alloc _) (nums_one w4 x.d HD1.out) (by simp) (by have := HB4.out.size; simp; omega) rfl rfl ?_; intro v5 w5 hr5 hg5; have hb5 := below_next HB4.out hg5 (fun k h => (World.ownsRow.lt HR4.out k h).1); have HR5 := Lib.hid hr5; have HB5 := Lib.hid hb5; obtain ⟨⟨d1, d2, d3, d5⟩, ⟨q0, q1, q2, q3⟩, l1, l2⟩ := two_cells HTW.out hb5; clear hr5 hg5 hb5))
    go_ret
    exact ⟨_, rfl, by rw [HE.out]; exact HR5.out.less HW3.out.size, HW3.out.trans (HB5.out.mono HW3.out.size)⟩
  · have E1 : (Ir.fa x.op == 3) = false := by simp [e1]
    have E2 : (Ir.fb x.op == 3) = false := by simp [e2]
    have E3 : (Ir.fd x.op == 3) = false := by simp [e3]
    have HE := Lib.hid hu
    clear hu e1 e2 e3 HU
    go_wp2_with fail
    go_ret
    exact ⟨_, rfl, by rw [HE.out]; exact RowI.nil _ _, HW3.out⟩
end Go.Proofs.YtamadegodenobaaDoor
