/- What the digest comes to, the program's. -/
import Derived.Test.YtimcepoleboldaaGreatDoorSumBits
namespace Go.Proofs.YtimcepoleboldaaGreatDoor
open Go.RowKit

set_option maxHeartbeats 400000 in
theorem mix_any (s : ByteArray) (w : World) (hs : s.size ≤ maxLen) :
    Calls Tryz.prog 75 #[.string s] w fun e w' => e = .returned (.int .u64 (Plain.mix s.data.toList : Nat)) ∧ w = w' := by
  unfold maxLen at hs
  go_enter Tryz.func75, Tryz.ntmps75
  go_wp2_with fail
  go_loop [3, 7] (fun c i => ∃ k : Nat, k ≤ s.size ∧ i = .int .i64 k ∧ c = .int .u64 (Plain.mix (s.data.toList.take k) : Nat)) (fun _ i => s.size - (intOf i).toNat)
  case atStart => exact ⟨0, Nat.zero_le _, rfl, rfl⟩
  case round =>
    obtain ⟨k, hk, rfl, rfl⟩ := hrel
    have hl := Plain.mix_lt (s.data.toList.take k)
    by_cases hlt : k < s.size
    · go_wp2_with fail
      go_round
      case rel => exact ⟨k + 1, by omega, by go_num, by rw [mix_up s k hlt, mix_u64 _ _ hl (Plain.byte_lt _)]⟩
      case measure => simp [intOf]; omega
    · go_wp2_with fail
      go_ret
      exact ⟨ret_int (by rw [take_all s k (by omega)]), rfl⟩

end Go.Proofs.YtimcepoleboldaaGreatDoor
