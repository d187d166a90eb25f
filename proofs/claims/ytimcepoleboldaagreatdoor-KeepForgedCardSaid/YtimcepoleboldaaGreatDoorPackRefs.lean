/- What the document's Code and Texted come to. -/
import Derived.Test.YtimcepoleboldaaGreatDoorPackBytes
import Derived.LoopTactic
import Derived.Outline
import Derived.OwnWalk
namespace Go.Proofs.YtimcepoleboldaaGreatDoor
open Go.RowKit

/-- What the loop knows. -/
def RefLoop (base N : Nat) (w : World) (v i : Value) (wr : World) : Prop :=
  ∃ (m : Nat) (pre : List UInt8), i = .int .i64 (m : Int) ∧ m ≤ N ∧ pre ++ Pk.code m = Pk.code N ∧ wr.ownsRow base 5 1 v pre.length (Cells pre) ∧ Below base w wr

theorem own_empty (w : World) : (w.alloc (.cells #[] 5)).ownsRow w.heap.size 5 1 (.slice (some ⟨w.heap.size, 0, none⟩) 0 0) 0 [] :=
  ⟨rfl, .inr ⟨w.heap.size, 0, #[], rfl, Nat.le_refl _, heap_alloc_new w _, Nat.le_refl _, Nat.zero_le _, rfl, rfl⟩⟩

set_option maxRecDepth 20000 in
set_option maxHeartbeats 400000 in
theorem code_ref (n : Int) (w : World) :
    Calls Tryz.prog 109 #[.int .i64 n] w fun e w' => e = .returned (.string ⟨(Pk.code (Pk.cl n)).toArray⟩) ∧ Below w.heap.size w w' := by
  have hN := Pk.cl_le n
  have hcc := Pk.cl_cast n
  generalize Pk.cl n = N at hN hcc ⊢
  have HC := Lib.hid hcc; clear hcc
  obtain ⟨i0, hi, hz0, hz1, hz2⟩ := info_parts info_u8
  rcases (show n < 0 ∨ (72057594037927935 < n) ∨ (0 ≤ n ∧ n ≤ 72057594037927935) by omega) with hn | hn | ⟨hn, hn'⟩
  all_goals
    go_enter Tryz.func109, Tryz.ntmps109
    go_wp2_with fail
    go_loopw [3, 0] (RefLoop w.heap.size N w) (fun _ i _ => (intOf i).toNat)
    case atStart => exact ⟨N, [], congrArg (Value.int .i64) (by have := HC.out; omega), Nat.le_refl _, rfl, own_empty w, (Below.refl _ _).alloc (Nat.le_refl _) _⟩
    case round =>
      obtain ⟨m, pre, rfl, hmN, hpre, hown, hbel⟩ := hrel
      have hp8 := Pk.pre_lt hpre hN
      have hpl : pre.length ≤ 1099511627776 := by omega
      have HP := Lib.hid hpre; clear hpre
      have hm1 : (m : Int) ≤ 72057594037927935 := by omega
      clear hN hp8
      by_cases hm : 128 ≤ m
      · have hx := Pk.byte_more m
        go_wp2_with (at_builtin; refine wpList_append_lies _ rfl (.tmp 10) (.tmp 15) 37 rfl w.heap.size 5 i0 (.int .u8 0) 1 1 Tryz.underlying37 hi hz0 hz1 hz2 rfl (by decide) u3 pre.length _ rfl (hown.alloc _) ⟨wr.heap.size, 0, none⟩ 1 1 [.int .u8 ((m : Int) % 128 + 128)] rfl rfl (cell_one_new wr _ 5) (one_cell _) (by decide) (room_max _ hpl) (room_bytes _ hpl) (base_le hbel (Nat.le_refl _) _) _ rfl ?_; intro g1 cap1 w1 hown1 hgrow1 _ _)
        have hown2 := own_up hx hown1
        have hbel2 := below_up hbel (Nat.le_refl _) _ hgrow1 (fun j hj => (hown.lt j hj).1)
        clear hgrow1 hown1 hown hbel
        go_wp2_with fail
        go_roundw
        case rel => exact ⟨m / 128, _, by go_num, by omega, Pk.step_code HP.out hm, hown2, hbel2⟩
        case measure => simp [intOf]; omega
      · have hx := Pk.byte_last m (by omega)
        have hlast := Pk.last_code HP.out (show m < 128 by omega)
        have HL := Lib.hid hlast; clear hlast
        go_wp2_with (at_builtin; refine wpList_append_lies _ rfl (.tmp 19) (.tmp 22) 37 rfl w.heap.size 5 i0 (.int .u8 0) 1 1 Tryz.underlying37 hi hz0 hz1 hz2 rfl (by decide) u3 pre.length _ rfl (hown.alloc _) ⟨wr.heap.size, 0, none⟩ 1 1 [.int .u8 (m : Int)] rfl rfl (cell_one_new wr _ 5) (one_cell _) (by decide) (room_max _ hpl) (room_bytes _ hpl) (base_le hbel (Nat.le_refl _) _) _ rfl ?_; intro g1 cap1 w1 hown1 hgrow1 _ _; have hcv := str_last hx HL.out hown1; have hbel2 := below_up hbel (Nat.le_refl _) _ hgrow1 (fun j hj => (hown.lt j hj).1); clear hgrow1 hown1 hown hbel)
        go_ret
        exact ⟨rfl, hbel2⟩

theorem str_add (a : List UInt8) (s : ByteArray) : (⟨a.toArray⟩ : ByteArray) ++ s = ⟨(a ++ s.data.toList).toArray⟩ := by
  apply ByteArray.ext
  simp

theorem str_adds (a b : List UInt8) : (⟨a.toArray⟩ : ByteArray) ++ (⟨b.toArray⟩ : ByteArray) = ⟨(a ++ b).toArray⟩ := by
  apply ByteArray.ext
  simp

theorem texted_ref (s : ByteArray) (w : World) (hs : s.size ≤ 1099511627776) :
    Calls Tryz.prog 110 #[.string s] w fun e w' => e = .returned (.string ⟨(Pk.texted s.data.toList).toArray⟩) ∧ Below w.heap.size w w' := by
  have H1 := code_ref (s.size : Int) w
  have hcl : Pk.cl (s.size : Int) = s.size := Pk.cl_nat _ (by omega)
  rw [hcl] at H1
  have hc8 := Pk.code_len8 s.size (by omega)
  have H2 := Lib.hid H1; clear H1 hcl
  go_enter Tryz.func110, Tryz.ntmps110
  go_wp2_with (go_at_call 109; refine H2.out.mono ?_; rintro e w1 ⟨rfl, hb⟩)
  go_ret
  have e : (⟨(Pk.code s.size).toArray⟩ : ByteArray) ++ s = ⟨(Pk.texted s.data.toList).toArray⟩ := by
    rw [str_add, Pk.texted, toList_len]
  exact ⟨congrArg (fun x => Ending.returned (Value.string x)) e, hb⟩

end Go.Proofs.YtimcepoleboldaaGreatDoor
