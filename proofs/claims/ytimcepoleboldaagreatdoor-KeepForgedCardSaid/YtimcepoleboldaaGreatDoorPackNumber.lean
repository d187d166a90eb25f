/- What (*Writer).Number comes to: the number's code is behind the bytes that were there. -/
import Derived.Test.YtimcepoleboldaaGreatDoorPackPut
import Derived.Test.YtimcepoleboldaaGreatDoorPackBytes
import Derived.LoopTactic
import Derived.Outline
import Derived.Deep.RegionLaw
namespace Go.Proofs.YtimcepoleboldaaGreatDoor
open Go.RowKit

def NumberPost (bw : Nat) (l : List UInt8) (w : World) (e : Ending) (w' : World) : Prop := e = .returned (.tuple #[]) ∧ Wr w' bw l ∧ w.grownBy w' (some bw)

/-- What the loop knows. -/
def CodeLoop (base N : Nat) (w : World) (v i : Value) (wr : World) : Prop :=
  ∃ (m : Nat) (pre : List UInt8), i = .int .i64 (m : Int) ∧ m ≤ N ∧ pre ++ Pk.code m = Pk.code N ∧ wr.ownsRow base 5 1 v pre.length (Cells pre) ∧ Below base w wr

set_option maxRecDepth 20000 in
set_option maxHeartbeats 400000 in
theorem number_any (bw : Nat) (n : Int) (l : List UInt8) (w : World) (h : Wr w bw l) (hl : l.length ≤ 1099511627776) :
    Calls Tryz.prog 102 #[.pointer (some ⟨bw, 0, none⟩), .int .i64 n] w (NumberPost bw (l ++ Pk.code (Pk.cl n)) w) := by
  have hN := Pk.cl_le n
  have hc8 : (Pk.code (Pk.cl n)).length ≤ 1099511627776 := by have := Pk.code_len8 _ hN; omega
  have hcc := Pk.cl_cast n
  generalize Pk.cl n = N at hN hc8 hcc ⊢
  have HC := Lib.hid hcc; clear hcc
  obtain ⟨i0, hi, hz0, hz1, hz2⟩ := info_parts info_u8
  rcases (show n < 0 ∨ (72057594037927935 < n) ∨ (0 ≤ n ∧ n ≤ 72057594037927935) by omega) with hn | hn | ⟨hn, hn'⟩
  all_goals
    go_enter Tryz.func102, Tryz.ntmps102
    go_wp2_with fail
    go_loopw [4, 1] (CodeLoop w.heap.size N w) (fun _ i _ => (intOf i).toNat)
    case atStart => exact ⟨N, [], congrArg (Value.int .i64) (by have := HC.out; omega), Nat.le_refl _, rfl, World.ownsRow_nil _ _ _ _, Below.refl _ _⟩
    case round =>
      obtain ⟨m, pre, rfl, hmN, hpre, hown, hbel⟩ := hrel
      have hp8 := Pk.pre_lt hpre hN
      have hpl : pre.length ≤ 1099511627776 := by omega
      have HP := Lib.hid hpre; clear hpre
      have hm1 : (m : Int) ≤ 72057594037927935 := by omega
      clear hN hp8
      by_cases hm : 128 ≤ m
      · have hx := Pk.byte_more m
        go_wp2_with (at_builtin; refine wpList_append_lies _ rfl (.tmp 10) (.tmp 15) 37 rfl w.heap.size 5 i0 (.int .u8 0) 1 1 Tryz.underlying37 hi hz0 hz1 hz2 rfl (by decide) u4 pre.length _ rfl (hown.alloc _) ⟨wr.heap.size, 0, none⟩ 1 1 [.int .u8 ((m : Int) % 128 + 128)] rfl rfl (cell_one_new wr _ 5) (one_cell _) (by decide) (room_max _ hpl) (room_bytes _ hpl) (base_le hbel (Nat.le_refl _) _) _ rfl ?_; intro g1 cap1 w1 hown1 hgrow1 _ _)
        have hown2 := own_up hx hown1
        have hbel2 := below_up hbel (Nat.le_refl _) _ hgrow1 (fun j hj => (hown.lt j hj).1)
        clear hgrow1 hown1 hown hbel
        go_wp2_with fail
        go_roundw
        case rel => exact ⟨m / 128, _, by go_num, by omega, Pk.step_code HP.out hm, hown2, hbel2⟩
        case measure => simp [intOf]; omega
      · have hx := Pk.byte_last m (by omega)
        have hlast := Pk.last_code HP.out (show m < 128 by omega)
        have HL := Lib.hid hlast; clear hlast
        go_wp2_with fail
        have hwrap : IntKind.u8.wrap (m : Int) = (m : Int) := by rw [IntKind.wrap_u8]; omega
        go_region_law (first
          | (refine step_append_lies _ rfl (.tmp 22) (.tmp 25) 37 rfl w.heap.size 5 i0 (.int .u8 0) 1 1 Tryz.underlying37 hi hz0 hz1 hz2 rfl (by decide) u4 pre.length _ rfl (hown.alloc _).drew ⟨wr.heap.size, 0, none⟩ 1 1 [.int .u8 (m : Int)] rfl rfl (cell_one_new wr _ 5) (one_cell _) (by decide) (room_max _ hpl) (room_bytes _ hpl) (base_le_drew hbel (Nat.le_refl _) _) _ rfl ?_; intro g1 cap1 w1 hown1 hgrow1 _ _; have hcv := str_last hx HL.out hown1; have hbel2 := below_up_drew hbel (Nat.le_refl _) _ hgrow1 (fun j hj => (hown.lt j hj).1); clear hgrow1 hown1 hown)
          | (go_simp; go_at_call 123; refine (put_list bw _ l _ (h.quiet (gr_of_below (by assumption) none)) hl (by assumption)).mono ?_; rintro e w' ⟨rfl, hW', hg'⟩))
        go_end0
        exact ⟨rfl, hW', gr_trans (gr_of_below hbel2 _) hg'⟩

end Go.Proofs.YtimcepoleboldaaGreatDoor
