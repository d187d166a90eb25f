/- A row of bools that a call has made, beside both disks. -/
import Derived.Test.YtfflopmbbmpeoaaDiskLastsPlain
namespace Go.Proofs.Ytfflopmbbmpeoaa
open Go.RowKit

def bools (ch : Nat → Bool) : List Value := (List.range 256).map fun i => Value.bool (ch i)
theorem bools_len (ch : Nat → Bool) : (bools ch).length = 256 := by simp [bools]
theorem bools_get (ch : Nat → Bool) {i : Nat} (h : i < 256) : (bools ch)[i]? = some (.bool (ch i)) := by
  unfold bools
  rw [List.getElem?_map, List.getElem?_range h]
  rfl
theorem bools_set (ch : Nat → Bool) {i : Nat} (h : i < 256) : (bools ch).set i (.bool true) = bools (Dk.mark ch i) := by
  apply List.ext_getElem?
  intro j
  by_cases hj : j < 256
  · rw [bools_get _ hj]
    by_cases e : i = j
    · subst e
      rw [List.getElem?_set_self (by rw [bools_len]; exact h)]
      unfold Dk.mark
      rw [if_pos rfl]
    · rw [List.getElem?_set_ne e, bools_get _ hj]
      unfold Dk.mark
      rw [if_neg (fun e2 => e e2.symm)]
  · rw [List.getElem?_eq_none (by rw [List.length_set, bools_len]; omega), List.getElem?_eq_none (by rw [bools_len]; omega)]

theorem make_bools (w : World) : (Instr.makeSlice 47 (.int .i64 256) (.int .i64 256)).run Try.prog w = .ok (.slice (some ⟨w.heap.size, 0, none⟩) 256 256) (w.alloc (.cells (bools fun _ => false).toArray 4)) := by kernel_rfl

theorem wpList_make_bools (w : World) {ops : Array Oper} {rest : List Oper} {o : Oper} {a : Act} {Q : Exit → Act → World → Prop}
    (hg : o.guard = none) (x y : Operand) (hop : o.op = Op.makeSlice 47 x y) (hx : a.eval x = .int .i64 256) (hy : a.eval y = .int .i64 256)
    (hK : wpList Try.prog ops Q rest (a.put o.dst (.slice (some ⟨w.heap.size, 0, none⟩) 256 256)) (w.alloc (.cells (bools fun _ => false).toArray 4))) :
    wpList Try.prog ops Q (o :: rest) a w := by
  refine wpList_plain hg fun K' hK' => ?_
  have hrun := make_bools w
  unfold Oper.wp
  simp [execOp, hop, hx, hy, hrun, Result.andThen]
  exact hK' _ _ hK

section
variable {w0 w : World} {gd gr : Nat} {sd sr : Dk.St}
theorem Two.mark {ch : Nat → Bool} {bc i : Nat} (h : Two w0 gd gr sd sr w) (hb : Blk w bc 4 (bools ch).toArray) (hB : w0.heap.size ≤ bc) (hi : i < 256) :
    Two w0 gd gr sd sr (w.setCell ⟨bc, i, none⟩ (.bool true)) ∧ Blk (w.setCell ⟨bc, i, none⟩ (.bool true)) bc 4 (bools (Dk.mark ch i)).toArray := by
  have hc : Ch (fun o => match o with | .cells _ t _ => t == 4 | _ => false) w0.heap.size w (w.setCell ⟨bc, i, none⟩ (.bool true)) := Ch.set hb hB rfl i _
  refine ⟨⟨h.d.kept hc (fun _ => rfl) (fun _ _ => rfl) (fun _ => rfl), h.r.kept hc (fun _ => rfl) (fun _ => rfl) (fun _ => rfl), Below.ch h.below hc⟩, ?_⟩
  have := hb.set i (.bool true)
  rw [List.setIfInBounds_toArray, bools_set _ hi] at this
  exact this
theorem two_write_ch (h : Two w0 gd gr sd sr w) (i : Int) (s : ByteArray) (hm : sd.many ≤ 1073741824) :
    Calls Try.prog 13 #[.pointer (some ⟨gd, 0, none⟩), .int .i64 i, .string s] w fun e w' => e = .returned (.int .i64 (sd.writeE i s)) ∧ Two w0 gd gr (sd.write i s) sr w' ∧ Ch Td w0.heap.size w w' := by
  refine (write_any _ _ _ i s w h.d hm).mono ?_
  rintro e w' ⟨rfl, h1, hc⟩
  exact ⟨rfl, h.god h1 hc, hc⟩
end

end Go.Proofs.Ytfflopmbbmpeoaa
