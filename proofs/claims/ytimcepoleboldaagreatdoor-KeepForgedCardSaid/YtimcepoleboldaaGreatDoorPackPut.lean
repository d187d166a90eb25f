/- What (*gather).put comes to: the bytes are behind those that were there. -/
import Derived.Test.YtimcepoleboldaaGreatDoorPackWorld
import Derived.Outline
namespace Go.Proofs.YtimcepoleboldaaGreatDoor
open Go.RowKit

set_option maxHeartbeats 400000 in
theorem put_any (bw : Nat) (s : ByteArray) (l : List UInt8) (w : World) (h : Wr w bw l) (hl : l.length ≤ 1099511627776) (hs : s.size ≤ 1099511627776) :
    Calls Tryz.prog 123 #[.pointer (some ⟨bw, 0, none⟩), .string s] w fun e w' => e = .returned (.tuple #[]) ∧ Wr w' bw (l ++ s.data.toList) ∧ w.grownBy w' (some bw) := by
  obtain ⟨p, ss, h1, h2, rfl⟩ := h
  have R := Wr.put s h1 h2 rfl
  have c0 := h1.cell 0
  have c1 := h1.cell 1
  have f0 := h1.frozen 0
  have f1 := h1.frozen 1
  have hlt := h1.lt
  have HR := Lib.hid R; clear R
  simp at c0 c1
  go_enter Tryz.func123, Tryz.ntmps123
  go_wp2_with fail
  go_end0
  exact ⟨rfl, HR.out.1, HR.out.2⟩

theorem put_list (bw : Nat) (bs l : List UInt8) (w : World) (h : Wr w bw l) (hl : l.length ≤ 1099511627776) (hs : bs.length ≤ 1099511627776) :
    Calls Tryz.prog 123 #[.pointer (some ⟨bw, 0, none⟩), .string ⟨bs.toArray⟩] w fun e w' => e = .returned (.tuple #[]) ∧ Wr w' bw (l ++ bs) ∧ w.grownBy w' (some bw) := by
  have H := put_any bw ⟨bs.toArray⟩ l w h hl (by simpa [ByteArray.size] using hs)
  simpa using H

end Go.Proofs.YtimcepoleboldaaGreatDoor
