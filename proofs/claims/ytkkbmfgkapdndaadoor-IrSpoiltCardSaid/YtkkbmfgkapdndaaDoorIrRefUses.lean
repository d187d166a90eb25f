/- Uses, Targets of the document. -/
import Derived.Test.YtkkbmfgkapdndaaDoorIrTargets
namespace Go.Proofs.YtkkbmfgkapdndaaDoor
open Go.ChangeShapes Go.WideShapes Go.RowKit Go.Deep

theorem ins_cells_at {w w' : World} {bx : Nat} {x : Ir.In} {sl : Value} (h : Blk w bx 32 (InsC x sl)) (hb : Below w.heap.size w w') :
    (w'.cell? ⟨bx, 0, none⟩ = some (.int .i64 x.op) ∧ w'.cell? ⟨bx, 1, none⟩ = some (.int .i64 x.d) ∧ w'.cell? ⟨bx, 2, none⟩ = some (.int .i64 x.a) ∧ w'.cell? ⟨bx, 3, none⟩ = some (.int .i64 x.b) ∧ w'.cell? ⟨bx, 4, none⟩ = some (.string x.name) ∧ w'.cell? ⟨bx, 5, none⟩ = some sl) ∧ bx < w'.heap.size := by
  have h1 := h.older hb h.lt
  exact ⟨six_cells h1, h1.lt⟩

theorem below_row {w w3 w4 : World} {v : Value} {l : List Int} (hb : Below w.heap.size w w3) (hr : RowI w3 w.heap.size v l) (hg : w3.grownBy w4 v.ownBlock) : Below w.heap.size w w4 :=
  hb.grown hg hb.size (fun k e => (World.ownsRow.lt hr k e).1)
theorem below_row_first {w w3 w4 : World} {o : Obj} {v : Value} {l : List Int} (hb : Below w.heap.size w w3) (hr : RowI w3 w.heap.size v l) (hg : (w3.alloc o).grownBy w4 v.ownBlock) : Below w.heap.size w w4 :=
  (hb.alloc hb.size _).grown hg (by have := hb.size; simp; omega) (fun k e => (World.ownsRow.lt hr k e).1)

set_option maxRecDepth 20000 in
set_option maxHeartbeats 3200000 in
theorem ruses_any (x : Ir.In) (sl : Value) (w : World) (hx : InR w (InsC x sl).toList x) (hlen : x.args.length ≤ 1048000) :
    Calls Tryd.prog 15 #[InsV x sl] w (ListPost (Ir.uses x) w) := by
  obtain ⟨_, -, -, hop, hd64, ha64, hb64⟩ := id hx
  have hB := Blk.new w 32 (InsC x sl)
  have hb : Below w.heap.size w (w.alloc (.cells (InsC x sl) 32)) := (Below.refl _ _).alloc (Nat.le_refl _) _
  have HTW := Lib.hid (hB.alloc (.cells #[] 3))
  have HW3 := Lib.hid (hb.alloc hb.size (.cells #[] 3))
  have hR3 := row_none (w.alloc (.cells (InsC x sl) 32)) w.heap.size hb.size
  rw [show (w.alloc (.cells (InsC x sl) 32)).heap.size = w.heap.size + 1 by simp] at hR3
  have HR3 := Lib.hid hR3
  have HX := Lib.hid hx
  have HA1 := Lib.hid (show In64 [x.a] by intro n hn; simp at hn; subst hn; exact ha64)
  have HAB := Lib.hid (show In64 [x.a, x.b] by intro n hn; simp at hn; rcases hn with rfl | rfl <;> assumption)
  have HBD := Lib.hid (show In64 [x.b, x.d] by intro n hn; simp at hn; rcases hn with rfl | rfl <;> assumption)
  have HL := Lib.hid hlen
  have HU := Lib.hid (uses_ways x)
  clear hB hb hR3 hx ha64 hb64 hd64 hlen
  go_enter Tryd.func15, Tryd.ntmps15
  go_upto_region 2 with fail
  generalize (w.alloc (.cells (InsC x sl) 32)).alloc (.cells #[] 3) = w3 at *
  obtain ⟨⟨d0, d1, d2, d3, d4, d5⟩, l1⟩ := ins_cells_at HTW.out (Below.refl _ _)
  rcases HU.out with ⟨ho, -, -, -, hu⟩ | ⟨ho, -, -, -, hu⟩ | ⟨ho, -, -, -, hu⟩ | ⟨ho, -, -, -, hu⟩
  · have HE := Lib.hid hu
    clear hu HU
    generalize x.op = op at *
    rcases ho with rfl | rfl | rfl | rfl | rfl | rfl
    all_goals
      go_wp2_with (at_builtin; refine wpList_append_nums rfl (.tmp 25) (.tmp 30) rfl (HR3.out.alloc _) (nums_two w3 x.a x.b HAB.out) (by simp) (by have := HW3.out.size; simp; omega) rfl rfl ?_; intro v4 w4 hr4 hg4; have HR4 := Lib.hid hr4; have HB4 := Lib.hid (below_row_first HW3.out HR3.out hg4); clear hr4 hg4)
      go_ret
      exact ⟨_, rfl, by rw [HE.out]; exact HR4.out, HB4.out⟩
  · have HE := Lib.hid hu
    clear hu HU
    generalize x.op = op at *
    rcases ho with rfl | rfl | rfl | rfl | rfl
    all_goals
      go_wp2_with (at_builtin; refine wpList_append_nums rfl (.tmp 13) (.tmp 16) rfl (HR3.out.alloc _) (nums_one w3 x.a HA1.out) (by simp) (by have := HW3.out.size; simp; omega) rfl rfl ?_; intro v4 w4 hr4 hg4; have HR4 := Lib.hid hr4; have HB4 := Lib.hid (below_row_first HW3.out HR3.out hg4); clear hr4 hg4)
      go_ret
      exact ⟨_, rfl, by rw [HE.out]; exact HR4.out, HB4.out⟩
  · have HE := Lib.hid hu
    clear hu HU
    generalize x.op = op at *
    subst ho
    go_wp2_with (at_builtin; refine wpList_append_nums rfl (.tmp 34) (.tmp 36) rfl (HR3.out) (box_in HX.out HW3.out) (by have := HL.out; simp; omega) (HW3.out.size) rfl rfl ?_; intro v4 w4 hr4 hg4; have HR4 := Lib.hid hr4; have HB4 := Lib.hid (below_row HW3.out HR3.out hg4); clear hr4 hg4)
    go_ret
    exact ⟨_, rfl, by rw [HE.out]; exact HR4.out, HB4.out⟩
  · have HE := Lib.hid hu
    have e2 : (x.op == 2) = false := by simp; omega
    have e3 : (x.op == 3) = false := by simp; omega
    have e4 : (x.op == 4) = false := by simp; omega
    have e5 : (x.op == 5) = false := by simp; omega
    have e6 : (x.op == 6) = false := by simp; omega
    have e7 : (x.op == 7) = false := by simp; omega
    have e8 : (x.op == 8) = false := by simp; omega
    have e9 : (x.op == 9) = false := by simp; omega
    have e10 : (x.op == 10) = false := by simp; omega
    have e11 : (x.op == 11) = false := by simp; omega
    have e13 : (x.op == 13) = false := by simp; omega
    have e14 : (x.op == 14) = false := by simp; omega
    clear hu HU ho
    go_wp2_with fail
    go_ret
    exact ⟨_, rfl, by rw [HE.out]; exact HR3.out, HW3.out⟩

set_option maxRecDepth 20000 in
set_option maxHeartbeats 3200000 in
theorem rtargets_any (x : Ir.In) (sl : Value) (w : World) (hx : InR w (InsC x sl).toList x) :
    Calls Tryd.prog 17 #[InsV x sl] w (ListPost (Ir.targets x) w) := by
  obtain ⟨_, -, -, hop, hd64, ha64, hb64⟩ := id hx
  have hB := Blk.new w 32 (InsC x sl)
  have hb : Below w.heap.size w (w.alloc (.cells (InsC x sl) 32)) := (Below.refl _ _).alloc (Nat.le_refl _) _
  have HTW := Lib.hid (hB.alloc (.cells #[] 3))
  have HW3 := Lib.hid (hb.alloc hb.size (.cells #[] 3))
  have hR3 := row_none (w.alloc (.cells (InsC x sl) 32)) w.heap.size hb.size
  rw [show (w.alloc (.cells (InsC x sl) 32)).heap.size = w.heap.size + 1 by simp] at hR3
  have HR3 := Lib.hid hR3
  have HX := Lib.hid hx
  have HA1 := Lib.hid (show In64 [x.a] by intro n hn; simp at hn; subst hn; exact ha64)
  have HAB := Lib.hid (show In64 [x.a, x.b] by intro n hn; simp at hn; rcases hn with rfl | rfl <;> assumption)
  have HBD := Lib.hid (show In64 [x.b, x.d] by intro n hn; simp at hn; rcases hn with rfl | rfl <;> assumption)
  skip
  have HU := Lib.hid (targets_ways x)
  clear hB hb hR3 hx ha64 hb64 hd64
  go_enter Tryd.func17, Tryd.ntmps17
  go_upto_region 2 with fail
  generalize (w.alloc (.cells (InsC x sl) 32)).alloc (.cells #[] 3) = w3 at *
  obtain ⟨⟨d0, d1, d2, d3, d4, d5⟩, l1⟩ := ins_cells_at HTW.out (Below.refl _ _)
  rcases HU.out with ⟨ho, -, -, -, hu⟩ | ⟨ho, -, -, -, hu⟩ | ⟨ho, -, -, -, hu⟩
  · have HE := Lib.hid hu
    clear hu HU
    generalize x.op = op at *
    subst ho
    go_wp2_with (at_builtin; refine wpList_append_nums rfl (.tmp 8) (.tmp 11) rfl (HR3.out.alloc _) (nums_one w3 x.a HA1.out) (by simp) (by have := HW3.out.size; simp; omega) rfl rfl ?_; intro v4 w4 hr4 hg4; have HR4 := Lib.hid hr4; have HB4 := Lib.hid (below_row_first HW3.out HR3.out hg4); clear hr4 hg4)
    go_ret
    exact ⟨_, rfl, by rw [HE.out]; exact HR4.out, HB4.out⟩
  · have HE := Lib.hid hu
    clear hu HU
    generalize x.op = op at *
    subst ho
    go_wp2_with (at_builtin; refine wpList_append_nums rfl (.tmp 16) (.tmp 21) rfl (HR3.out.alloc _) (nums_two w3 x.b x.d HBD.out) (by simp) (by have := HW3.out.size; simp; omega) rfl rfl ?_; intro v4 w4 hr4 hg4; have HR4 := Lib.hid hr4; have HB4 := Lib.hid (below_row_first HW3.out HR3.out hg4); clear hr4 hg4)
    go_ret
    exact ⟨_, rfl, by rw [HE.out]; exact HR4.out, HB4.out⟩
  · have HE := Lib.hid hu
    have e1 : (x.op == 12) = false := by simp; omega
    have e2 : (x.op == 13) = false := by simp; omega
    clear hu HU ho
    go_wp2_with fail
    go_ret
    exact ⟨_, rfl, by rw [HE.out]; exact HR3.out, HW3.out⟩
end Go.Proofs.YtkkbmfgkapdndaaDoor
