/- Uses, Targets of the document. -/
import Derived.Test.YtamadegodenobaaDoorIrTargets
namespace Go.Proofs.YtamadegodenobaaDoor
open Go.ChangeShapes Go.WideShapes Go.RowKit Go.Deep

theorem ins_cells_at {w w' : World} {bx : Nat} {x : Ir.In} {sl : Value} (h : Blk w bx 36 (InsC x sl)) (hb : Below w.heap.size w w') :
    (w'.cell? ⟨bx, 0, none⟩ = some (.int .i64 x.op) ∧ w'.cell? ⟨bx, 1, none⟩ = some (.int .i64 x.d) ∧ w'.cell? ⟨bx, 2, none⟩ = some (.int .i64 x.a) ∧ w'.cell? ⟨bx, 3, none⟩ = some (.int .i64 x.b) ∧ w'.cell? ⟨bx, 4, none⟩ = some (.string x.name) ∧ w'.cell? ⟨bx, 5, none⟩ = some sl) ∧ bx < w'.heap.size := by
  have h1 := h.older hb h.lt
  exact ⟨six_cells h1, h1.lt⟩

theorem below_row {w w3 w4 : World} {v : Value} {l : List Int} (hb : Below w.heap.size w w3) (hr : RowI w3 w.heap.size v l) (hg : w3.grownBy w4 v.ownBlock) : Below w.heap.size w w4 :=
  hb.grown hg hb.size (fun k e => (World.ownsRow.lt hr k e).1)
theorem below_row_first {w w3 w4 : World} {o : Obj} {v : Value} {l : List Int} (hb : Below w.heap.size w w3) (hr : RowI w3 w.heap.size v l) (hg : (w3.alloc o).grownBy w4 v.ownBlock) : Below w.heap.size w w4 :=
  (hb.alloc hb.size _).grown hg (by have := hb.size; simp; omega) (fun k e => (World.ownsRow.lt hr k e).1)

set_option maxRecDepth 20000 in
set_option maxHeartbeats 3200000 in
theorem rtargets_any (x : Ir.In) (sl : Value) (w : World) (hx : InR w (InsC x sl).toList x) :
    Calls Tryd.prog 25 #[InsV x sl] w (ListPost (Ir.targets x) w) := by
  obtain ⟨_, -, -, hop, hd64, ha64, hb64⟩ := id hx
  have hB := Blk.new w 36 (InsC x sl)
  have hb : Below w.heap.size w (w.alloc (.cells (InsC x sl) 36)) := (Below.refl _ _).alloc (Nat.le_refl _) _
  have HTW := Lib.hid (hB.alloc (.cells #[] 3))
  have HW3 := Lib.hid (hb.alloc hb.size (.cells #[] 3))
  have hR3 := row_none (w.alloc (.cells (InsC x sl) 36)) w.heap.size hb.size
  rw [show (w.alloc (.cells (InsC x sl) 36)).heap.size = w.heap.size + 1 by simp] at hR3
  have HR3 := Lib.hid hR3
  have HX := Lib.hid hx
  have HA1 := Lib.hid (show In64 [x.a] by intro n hn; simp at hn; subst hn; exact ha64)
  have HAB := Lib.hid (show In64 [x.a, x.b] by intro n hn; simp at hn; rcases hn with rfl | rfl <;> assumption)
  have HBD := Lib.hid (show In64 [x.b, x.d] by intro n hn; simp at hn; rcases hn with rfl | rfl <;> assumption)
  skip
  have HU := Lib.hid (targets_ways x)
  clear hB hb hR3 hx ha64 hb64 hd64
  go_enter Tryd.func25, Tryd.ntmps25
  go_upto_region 2 with fail
  generalize (w.alloc (.cells (InsC x sl) 36)).alloc (.cells #[] 3) = w3 at *
  obtain ⟨⟨d0, d1, d2, d3, d4, d5⟩, l1⟩ := ins_cells_at HTW.out (Below.refl _ _)
  rcases HU.out with ⟨ho, -, -, -, hu⟩ | ⟨ho, -, -, -, hu⟩ | ⟨ho, -, -, -, hu⟩
  · have HE := Lib.hid hu
    clear hu HU
    generalize x.op = op at *
    subst ho
    go_wp2_with (at_builtin; refine wpList_append_nums rfl (.tmp 8) (.tmp 11) rfl (HR3.out.alloc _) (nums_one w3 x.a HA1.out) (by simp) (by have := HW3.out.size; simp; omega) rfl rfl ?_; intro v4 w4 hr4 hg4; have HR4 := Lib.hid hr4; have HB4 := Lib.hid (below_row_first HW3.out HR3.out hg4); clear hr4 hg4)
    go_ret
    exact ⟨_, rfl, by rw [HE.out]; exact HR4.out, HB4.out⟩
  · have HE := Lib.hid hu
    clear hu HU
    generalize x.op = op at *
    subst ho
    go_wp2_with (at_builtin; refine wpList_append_nums rfl (.tmp 16) (.tmp 21) rfl (HR3.out.alloc _) (nums_two w3 x.b x.d HBD.out) (by simp) (by have := HW3.out.size; simp; omega) rfl rfl ?_; intro v4 w4 hr4 hg4; have HR4 := Lib.hid hr4; have HB4 := Lib.hid (below_row_first HW3.out HR3.out hg4); clear hr4 hg4)
    go_ret
    exact ⟨_, rfl, by rw [HE.out]; exact HR4.out, HB4.out⟩
  · have HE := Lib.hid hu
    have e1 : (x.op == 12) = false := by simp; omega
    have e2 : (x.op == 13) = false := by simp; omega
    clear hu HU ho
    go_wp2_with fail
    go_ret
    exact ⟨_, rfl, by rw [HE.out]; exact HR3.out, HW3.out⟩
end Go.Proofs.YtamadegodenobaaDoor
