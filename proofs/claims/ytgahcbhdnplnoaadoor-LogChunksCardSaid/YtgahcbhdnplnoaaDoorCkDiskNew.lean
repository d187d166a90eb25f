/- What New comes to: a disk of empty sectors. -/
import Derived.Test.YtgahcbhdnplnoaaDoorCkDiskDsk
namespace Go.Proofs.YtgahcbhdnplnoaaDoor
open Go.RowKit

theorem build_disk (w : World) (m : Nat) : (Instr.build 61 #[(1, .map (some m))]).run Tryd.prog w = .ok (.agg (rawOf Dk.St.new m (.slice none 0 0) 0 0).cells) w := by kernel_rfl

theorem wpList_build_disk (w : World) {ops : Array Oper} {rest : List Oper} {o : Oper} {a : Act} {Q : Exit → Act → World → Prop}
    (hg : o.guard = none) (x : Operand) (hop : o.op = Op.build 61 #[(1, x)]) (m : Nat) (hx : a.eval x = .map (some m))
    (hK : wpList Tryd.prog ops Q rest (a.put o.dst (.agg (rawOf Dk.St.new m (.slice none 0 0) 0 0).cells)) w) :
    wpList Tryd.prog ops Q (o :: rest) a w := by
  refine wpList_plain hg fun K' hK' => ?_
  have hrun := build_disk w m
  unfold Oper.wp
  simp [execOp, hop, hx, hrun, Result.andThen]
  exact hK' _ _ hK

theorem new_end (w : World) : Dsk ((w.alloc (.map #[] 0)).alloc (.cells (rawOf Dk.St.new w.heap.size (.slice none 0 0) 0 0).cells 61)) w.heap.size (w.heap.size + 1) Dk.St.new ∧
    Ch Td w.heap.size w ((w.alloc (.map #[] 0)).alloc (.cells (rawOf Dk.St.new w.heap.size (.slice none 0 0) 0 0).cells 61)) := by
  have hz : (w.alloc (.map #[] 0)).heap.size = w.heap.size + 1 := by simp
  have hb := Blk.new (w.alloc (.map #[] 0)) 61 (rawOf Dk.St.new w.heap.size (.slice none 0 0) 0 0).cells
  rw [hz] at hb
  refine ⟨⟨w.heap.size, .slice none 0 0, 0, 0, 0, { blk := hb, map := (MapIs.new w).grown (World.grownBy_alloc _ _ none) (by simp), row := World.ownsRow_nil _ _ _ _, atg := Nat.le_succ _, atm := Nat.le_refl _, cuts := rfl, tcle := by decide, fails := rfl, tfle := by decide, keep := by decide, inv := Dk.Inv.new }, Nat.zero_le _⟩, ((Ch.refl _ _ _).alloc _).alloc _⟩

set_option maxRecDepth 20000 in
set_option maxHeartbeats 400000 in
theorem new_any (w : World) :
    Calls Tryd.prog 10 #[] w fun e w' => e = .returned (.pointer (some ⟨w.heap.size + 1, 0, none⟩)) ∧ Dsk w' w.heap.size (w.heap.size + 1) Dk.St.new ∧ Ch Td w.heap.size w w' := by
  have hmm := @run_makeMap Tryd.prog
  have HE := Lib.hid (new_end w)
  go_enter Tryd.func10, Tryd.ntmps10
  go_wp2_with (refine wpList_build_disk _ rfl _ rfl _ rfl ?_)
  go_ret
  exact ⟨rfl, HE.out.1, HE.out.2⟩

end Go.Proofs.YtgahcbhdnplnoaaDoor
