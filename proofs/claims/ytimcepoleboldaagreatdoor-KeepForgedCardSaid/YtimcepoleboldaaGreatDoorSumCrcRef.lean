/- What Step and Crc come to, the document's. -/
import Derived.Test.YtimcepoleboldaaGreatDoorSumBits
namespace Go.Proofs.YtimcepoleboldaaGreatDoor
open Go.RowKit

set_option maxHeartbeats 400000 in
theorem step_ref (a b : Nat) (w : World) (ha : a < 4294967296) (hb : b < 256) :
    Calls Tryz.prog 136 #[.int .u32 a, .int .u8 b] w fun e w' => e = .returned (.int .u32 (Plain.step a b : Nat)) ∧ w = w' := by
  go_enter Tryz.func136, Tryz.ntmps136
  go_wp2
  rw [u32_xor a b (by omega) (by omega) (by omega) (by omega), Int.toNat_natCast, Int.toNat_natCast]
  go_loop [0, 5] (fun c i => ∃ k : Nat, k ≤ 8 ∧ i = .int .i64 k ∧ c = .int .u32 (Plain.bitsN k (a ^^^ b) : Nat)) (fun _ i => 8 - (intOf i).toNat)
  case atStart => exact ⟨0, Nat.zero_le _, rfl, rfl⟩
  case round =>
    obtain ⟨k, hk, rfl, rfl⟩ := hrel
    have hl := Plain.bitsN_lt k (a ^^^ b) (Plain.xor_lt32 _ _ (by omega) (by omega))
    go_wp2
    · go_round
      case rel => exact ⟨k + 1, by omega, by go_num, by rw [bitsN_succ]; exact mixed_u32 _ hl (odd_rem _ (by assumption))⟩
      case measure => simp [intOf]; omega
    · go_round
      case rel => exact ⟨k + 1, by omega, by go_num, by rw [bitsN_succ]; exact shifted_u32 _ (even_rem _ (by assumption))⟩
      case measure => simp [intOf]; omega
    · obtain rfl : k = 8 := by omega
      go_ret
      exact ⟨rfl, rfl⟩

set_option maxHeartbeats 400000 in
theorem crc_ref (s : ByteArray) (w : World) (hs : s.size ≤ maxLen) :
    Calls Tryz.prog 111 #[.string s] w fun e w' => e = .returned (.int .u32 (Plain.crc s.data.toList : Nat)) ∧ w = w' := by
  unfold maxLen at hs
  go_enter Tryz.func111, Tryz.ntmps111
  go_wp2_with fail
  go_loop [3, 4] (fun c i => ∃ k : Nat, k ≤ s.size ∧ i = .int .i64 k ∧ c = .int .u32 (Plain.crcFrom 4294967295 (s.data.toList.take k) : Nat)) (fun _ i => s.size - (intOf i).toNat)
  case atStart => exact ⟨0, Nat.zero_le _, rfl, rfl⟩
  case round =>
    obtain ⟨k, hk, rfl, rfl⟩ := hrel
    have hl := Plain.crcFrom_lt (s.data.toList.take k) 4294967295 (by omega)
    by_cases hlt : k < s.size
    · go_wp2_with (go_at_call 136; refine (step_ref _ _ _ hl (Plain.byte_lt _)).mono ?_; rintro e w' ⟨rfl, rfl⟩)
      go_round
      case rel => exact ⟨k + 1, by omega, by go_num, by rw [crc_up s _ k hlt]⟩
      case measure => simp [intOf]; omega
    · go_wp2_with fail
      go_ret
      refine ⟨ret_int ?_, rfl⟩
      rw [turned_u32 _ hl]
      rw [take_all s k (by omega)]
      rfl

end Go.Proofs.YtimcepoleboldaaGreatDoor
