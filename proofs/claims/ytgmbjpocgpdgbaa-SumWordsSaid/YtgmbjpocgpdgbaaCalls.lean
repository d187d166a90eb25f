/- What each function of the check sums comes to, called with any values of its kinds: Step, Crc and Mix, the program's and the document's, each the plain function of the same name; the world stays as it is. -/
import Derived.Test.YtgmbjpocgpdgbaaRows
import Derived.Test.YtgmbjpocgpdgbaaPlain
import Derived.WalkKit
import Derived.WalkSpells
import Derived.WalkLawsBesides
import Derived.LoopTactic
import Derived.Outline
import Derived.Laws.BitsAllLaws
import Derived.Lib.Hide
namespace Go.Proofs.Ytgmbjpocgpdgbaa
open Go.RowKit

theorem ret_int {k : IntKind} {a b : Int} (h : a = b) : Ending.returned (.int k a) = .returned (.int k b) := by rw [h]

theorem bitsN_succ (k c : Nat) : Plain.bitsN (k + 1) c = Plain.bit (Plain.bitsN k c) := by simp only [Plain.bitsN]

theorem and_one_u32 (c : Nat) (h : c < 4294967296) : bits .and .u32 (c : Int) 1 = ((c % 2 : Nat) : Int) := by
  rw [u32_and c 1 (by omega) (by omega) (by omega) (by omega)]
  simp

theorem half_nat (c : Nat) : ((c : Int) / 2) = ((c / 2 : Nat) : Int) := (Int.natCast_ediv c 2).symm

theorem mixed_u32 (c : Nat) (h : c < 4294967296) (ho : c % 2 = 1) : Value.int .u32 (bits .xor .u32 ((c : Int) / 2) 3988292384) = Value.int .u32 ((Plain.bit c : Nat) : Int) := by
  have h2 : c / 2 < 4294967296 := by omega
  have hx := u32_xor_nat (c / 2) 3988292384 h2 (by omega)
  rw [half_nat c]
  unfold Plain.bit
  rw [if_pos ho, ← hx]
  rfl

theorem shifted_u32 (c : Nat) (ho : ¬ c % 2 = 1) : Value.int .u32 ((c : Int) / 2) = Value.int .u32 ((Plain.bit c : Nat) : Int) := by
  unfold Plain.bit
  rw [if_neg ho, half_nat c]

theorem max_u32 : IntKind.u32.max = 4294967295 := by decide

theorem turned_u32 (c : Nat) (h : c < 4294967296) : bits .xor .u32 (c : Int) 4294967295 = ((c ^^^ 4294967295 : Nat) : Int) :=
  u32_xor_nat c 4294967295 h (by omega)

theorem turned_u32' (c : Nat) (h : c < 4294967296) : bits .xor .u32 IntKind.u32.max (c : Int) = ((c ^^^ 4294967295 : Nat) : Int) := by
  rw [max_u32, Nat.xor_comm]
  exact u32_xor_nat 4294967295 c (by omega) h

theorem mix_u64 (m b : Nat) (h : m < 18446744073709551616) (hb : b < 256) :
    IntKind.u64.wrap (bits .xor .u64 (m : Int) (IntKind.u64.wrap (b : Int)) * 1099511628211) = ((Plain.mixStep m b : Nat) : Int) := by
  have hw : IntKind.u64.wrap (b : Int) = (b : Int) := by rw [IntKind.wrap_u64]; omega
  rw [hw, bits_xor_u64_nat m b h (by omega), IntKind.wrap_u64]
  unfold Plain.mixStep
  omega

theorem mix_u64' (m b : Nat) (h : m < 18446744073709551616) (hb : b < 256) :
    IntKind.u64.wrap (bits .xor .u64 (m : Int) (b : Int) * 1099511628211) = ((Plain.mixStep m b : Nat) : Int) := by
  have hw : IntKind.u64.wrap (b : Int) = (b : Int) := by rw [IntKind.wrap_u64]; omega
  have h2 := mix_u64 m b h hb
  rwa [hw] at h2

theorem take_snoc (s : ByteArray) (k : Nat) (h : k < s.size) : s.data.toList.take (k + 1) = s.data.toList.take k ++ [s[k]] := by
  rw [List.take_succ_eq_append_getElem (by simpa using h)]; rfl

theorem take_all (s : ByteArray) (k : Nat) (h : s.size ≤ k) : s.data.toList.take k = s.data.toList :=
  List.take_of_length_le (by simpa using h)

theorem crc_up (s : ByteArray) (c k : Nat) (h : k < s.size) : Plain.crcFrom c (s.data.toList.take (k + 1)) = Plain.step (Plain.crcFrom c (s.data.toList.take k)) s[k].toNat := by
  rw [take_snoc s k h, Plain.crcFrom_append, Plain.crcFrom_cons]
  simp only [Plain.crcFrom, List.foldl_nil]

theorem mix_up (s : ByteArray) (k : Nat) (h : k < s.size) : Plain.mix (s.data.toList.take (k + 1)) = Plain.mixStep (Plain.mix (s.data.toList.take k)) s[k].toNat := by
  rw [take_snoc s k h, Plain.mix_snoc]

theorem odd_and (c : Nat) (h : c < 4294967296) (t : (bits .and .u32 (c : Int) 1 == 1) = true) : c % 2 = 1 := by
  rw [and_one_u32 c h, beq_iff_eq] at t; omega
theorem even_and (c : Nat) (h : c < 4294967296) (t : (bits .and .u32 (c : Int) 1 == 1) = false) : ¬ c % 2 = 1 := by
  rw [and_one_u32 c h, beq_eq_false_iff_ne] at t; omega
theorem odd_rem (c : Nat) (t : (((c : Int) % 2) == 1) = true) : c % 2 = 1 := by
  rw [beq_iff_eq] at t; omega
theorem even_rem (c : Nat) (t : (((c : Int) % 2) == 1) = false) : ¬ c % 2 = 1 := by
  rw [beq_eq_false_iff_ne] at t; omega

set_option maxHeartbeats 400000 in
theorem f10 (a b : Nat) (w : World) (ha : a < 4294967296) (hb : b < 256) :
    Calls Try.prog 10 #[.int .u32 a, .int .u8 b] w fun e w' => e = .returned (.int .u32 (Plain.step a b : Nat)) ∧ w = w' := by
  go_enter Try.func10, Try.ntmps10
  go_wp2
  rw [u32_xor a b (by omega) (by omega) (by omega) (by omega), Int.toNat_natCast, Int.toNat_natCast]
  go_loop [0, 10] (fun c i => ∃ k : Nat, k ≤ 8 ∧ i = .int .i64 k ∧ c = .int .u32 (Plain.bitsN k (a ^^^ b) : Nat)) (fun _ i => 8 - (intOf i).toNat)
  case atStart => exact ⟨0, Nat.zero_le _, rfl, rfl⟩
  case round =>
    obtain ⟨k, hk, rfl, rfl⟩ := hrel
    have hl := Plain.bitsN_lt k (a ^^^ b) (Plain.xor_lt32 _ _ (by omega) (by omega))
    go_wp2
    · go_round
      case rel => exact ⟨k + 1, by omega, by go_num, by rw [bitsN_succ]; exact mixed_u32 _ hl (odd_and _ hl (by assumption))⟩
      case measure => simp [intOf]; omega
    · go_round
      case rel => exact ⟨k + 1, by omega, by go_num, by rw [bitsN_succ]; exact shifted_u32 _ (even_and _ hl (by assumption))⟩
      case measure => simp [intOf]; omega
    · obtain rfl : k = 8 := by omega
      go_ret
      exact ⟨rfl, rfl⟩

set_option maxHeartbeats 400000 in
theorem f11 (a b : Nat) (w : World) (ha : a < 4294967296) (hb : b < 256) :
    Calls Try.prog 11 #[.int .u32 a, .int .u8 b] w fun e w' => e = .returned (.int .u32 (Plain.step a b : Nat)) ∧ w = w' := by
  go_enter Try.func11, Try.ntmps11
  go_wp2
  rw [u32_xor a b (by omega) (by omega) (by omega) (by omega), Int.toNat_natCast, Int.toNat_natCast]
  go_loop [0, 5] (fun c i => ∃ k : Nat, k ≤ 8 ∧ i = .int .i64 k ∧ c = .int .u32 (Plain.bitsN k (a ^^^ b) : Nat)) (fun _ i => 8 - (intOf i).toNat)
  case atStart => exact ⟨0, Nat.zero_le _, rfl, rfl⟩
  case round =>
    obtain ⟨k, hk, rfl, rfl⟩ := hrel
    have hl := Plain.bitsN_lt k (a ^^^ b) (Plain.xor_lt32 _ _ (by omega) (by omega))
    go_wp2
    · go_round
      case rel => exact ⟨k + 1, by omega, by go_num, by rw [bitsN_succ]; exact mixed_u32 _ hl (odd_rem _ (by assumption))⟩
      case measure => simp [intOf]; omega
    · go_round
      case rel => exact ⟨k + 1, by omega, by go_num, by rw [bitsN_succ]; exact shifted_u32 _ (even_rem _ (by assumption))⟩
      case measure => simp [intOf]; omega
    · obtain rfl : k = 8 := by omega
      go_ret
      exact ⟨rfl, rfl⟩

set_option maxHeartbeats 400000 in
theorem f12 (s : ByteArray) (w : World) (hs : s.size ≤ maxLen) :
    Calls Try.prog 12 #[.string s] w fun e w' => e = .returned (.int .u32 (Plain.crc s.data.toList : Nat)) ∧ w = w' := by
  unfold maxLen at hs
  go_enter Try.func12, Try.ntmps12
  go_wp2_with fail
  go_loop [3, 7] (fun c i => ∃ k : Nat, k ≤ s.size ∧ i = .int .i64 k ∧ c = .int .u32 (Plain.crcFrom 4294967295 (s.data.toList.take k) : Nat)) (fun _ i => s.size - (intOf i).toNat)
  case atStart => exact ⟨0, Nat.zero_le _, rfl, rfl⟩
  case round =>
    obtain ⟨k, hk, rfl, rfl⟩ := hrel
    have hl := Plain.crcFrom_lt (s.data.toList.take k) 4294967295 (by omega)
    by_cases hlt : k < s.size
    · go_wp2_with (go_at_call 10; refine (f10 _ _ _ hl (Plain.byte_lt _)).mono ?_; rintro e w' ⟨rfl, rfl⟩)
      go_round
      case rel => exact ⟨k + 1, by omega, by go_num, by rw [crc_up s _ k hlt]⟩
      case measure => simp [intOf]; omega
    · go_wp2_with fail
      go_ret
      refine ⟨ret_int ?_, rfl⟩
      rw [turned_u32' _ hl]
      rw [take_all s k (by omega)]
      rfl

set_option maxHeartbeats 400000 in
theorem f13 (s : ByteArray) (w : World) (hs : s.size ≤ maxLen) :
    Calls Try.prog 13 #[.string s] w fun e w' => e = .returned (.int .u32 (Plain.crc s.data.toList : Nat)) ∧ w = w' := by
  unfold maxLen at hs
  go_enter Try.func13, Try.ntmps13
  go_wp2_with fail
  go_loop [3, 4] (fun c i => ∃ k : Nat, k ≤ s.size ∧ i = .int .i64 k ∧ c = .int .u32 (Plain.crcFrom 4294967295 (s.data.toList.take k) : Nat)) (fun _ i => s.size - (intOf i).toNat)
  case atStart => exact ⟨0, Nat.zero_le _, rfl, rfl⟩
  case round =>
    obtain ⟨k, hk, rfl, rfl⟩ := hrel
    have hl := Plain.crcFrom_lt (s.data.toList.take k) 4294967295 (by omega)
    by_cases hlt : k < s.size
    · go_wp2_with (go_at_call 11; refine (f11 _ _ _ hl (Plain.byte_lt _)).mono ?_; rintro e w' ⟨rfl, rfl⟩)
      go_round
      case rel => exact ⟨k + 1, by omega, by go_num, by rw [crc_up s _ k hlt]⟩
      case measure => simp [intOf]; omega
    · go_wp2_with fail
      go_ret
      refine ⟨ret_int ?_, rfl⟩
      rw [turned_u32 _ hl]
      rw [take_all s k (by omega)]
      rfl

set_option maxHeartbeats 400000 in
theorem f14 (s : ByteArray) (w : World) (hs : s.size ≤ maxLen) :
    Calls Try.prog 14 #[.string s] w fun e w' => e = .returned (.int .u64 (Plain.mix s.data.toList : Nat)) ∧ w = w' := by
  unfold maxLen at hs
  go_enter Try.func14, Try.ntmps14
  go_wp2_with fail
  go_loop [3, 7] (fun c i => ∃ k : Nat, k ≤ s.size ∧ i = .int .i64 k ∧ c = .int .u64 (Plain.mix (s.data.toList.take k) : Nat)) (fun _ i => s.size - (intOf i).toNat)
  case atStart => exact ⟨0, Nat.zero_le _, rfl, rfl⟩
  case round =>
    obtain ⟨k, hk, rfl, rfl⟩ := hrel
    have hl := Plain.mix_lt (s.data.toList.take k)
    by_cases hlt : k < s.size
    · go_wp2_with fail
      go_round
      case rel => exact ⟨k + 1, by omega, by go_num, by rw [mix_up s k hlt, mix_u64 _ _ hl (Plain.byte_lt _)]⟩
      case measure => simp [intOf]; omega
    · go_wp2_with fail
      go_ret
      exact ⟨ret_int (by rw [take_all s k (by omega)]), rfl⟩

set_option maxHeartbeats 400000 in
theorem f15 (s : ByteArray) (w : World) (hs : s.size ≤ maxLen) :
    Calls Try.prog 15 #[.string s] w fun e w' => e = .returned (.int .u64 (Plain.mix s.data.toList : Nat)) ∧ w = w' := by
  unfold maxLen at hs
  go_enter Try.func15, Try.ntmps15
  go_wp2_with fail
  go_loop [3, 4] (fun c i => ∃ k : Nat, k ≤ s.size ∧ i = .int .i64 k ∧ c = .int .u64 (Plain.mix (s.data.toList.take k) : Nat)) (fun _ i => s.size - (intOf i).toNat)
  case atStart => exact ⟨0, Nat.zero_le _, rfl, rfl⟩
  case round =>
    obtain ⟨k, hk, rfl, rfl⟩ := hrel
    have hl := Plain.mix_lt (s.data.toList.take k)
    by_cases hlt : k < s.size
    · go_wp2_with fail
      go_round
      case rel => exact ⟨k + 1, by omega, by go_num, by rw [mix_up s k hlt, mix_u64 _ _ hl (Plain.byte_lt _)]⟩
      case measure => simp [intOf]; omega
    · go_wp2_with fail
      go_ret
      exact ⟨ret_int (by rw [take_all s k (by omega)]), rfl⟩

end Go.Proofs.Ytgmbjpocgpdgbaa
