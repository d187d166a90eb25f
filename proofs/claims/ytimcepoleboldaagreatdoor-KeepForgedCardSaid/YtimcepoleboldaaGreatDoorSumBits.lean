/- Laws on numbers and bits behind the check sums, in the walk's spelling. -/
import Derived.Test.YtimcepoleboldaaGreatDoorRows
import Derived.Test.YtimcepoleboldaaGreatDoorSumPlain
import Derived.WalkKit
import Derived.WalkSpells
import Derived.WalkLawsBesides
import Derived.LoopTactic
import Derived.Outline
import Derived.Laws.BitsAllLaws
import Derived.Lib.Hide
namespace Go.Proofs.YtimcepoleboldaaGreatDoor
open Go.RowKit

theorem ret_int {k : IntKind} {a b : Int} (h : a = b) : Ending.returned (.int k a) = .returned (.int k b) := by rw [h]

theorem bitsN_succ (k c : Nat) : Plain.bitsN (k + 1) c = Plain.bit (Plain.bitsN k c) := by simp only [Plain.bitsN]

theorem and_one_u32 (c : Nat) (h : c < 4294967296) : bits .and .u32 (c : Int) 1 = ((c % 2 : Nat) : Int) := by
  rw [u32_and c 1 (by omega) (by omega) (by omega) (by omega)]
  simp

theorem half_nat (c : Nat) : ((c : Int) / 2) = ((c / 2 : Nat) : Int) := (Int.natCast_ediv c 2).symm

theorem mixed_u32 (c : Nat) (h : c < 4294967296) (ho : c % 2 = 1) : Value.int .u32 (bits .xor .u32 ((c : Int) / 2) 3988292384) = Value.int .u32 ((Plain.bit c : Nat) : Int) := by
  have h2 : c / 2 < 4294967296 := by omega
  have hx := u32_xor_nat (c / 2) 3988292384 h2 (by omega)
  rw [half_nat c]
  unfold Plain.bit
  rw [if_pos ho, ← hx]
  rfl

theorem shifted_u32 (c : Nat) (ho : ¬ c % 2 = 1) : Value.int .u32 ((c : Int) / 2) = Value.int .u32 ((Plain.bit c : Nat) : Int) := by
  unfold Plain.bit
  rw [if_neg ho, half_nat c]

theorem max_u32 : IntKind.u32.max = 4294967295 := by decide

theorem turned_u32 (c : Nat) (h : c < 4294967296) : bits .xor .u32 (c : Int) 4294967295 = ((c ^^^ 4294967295 : Nat) : Int) :=
  u32_xor_nat c 4294967295 h (by omega)

theorem turned_u32' (c : Nat) (h : c < 4294967296) : bits .xor .u32 IntKind.u32.max (c : Int) = ((c ^^^ 4294967295 : Nat) : Int) := by
  rw [max_u32, Nat.xor_comm]
  exact u32_xor_nat 4294967295 c (by omega) h

theorem mix_u64 (m b : Nat) (h : m < 18446744073709551616) (hb : b < 256) :
    IntKind.u64.wrap (bits .xor .u64 (m : Int) (IntKind.u64.wrap (b : Int)) * 1099511628211) = ((Plain.mixStep m b : Nat) : Int) := by
  have hw : IntKind.u64.wrap (b : Int) = (b : Int) := by rw [IntKind.wrap_u64]; omega
  rw [hw, bits_xor_u64_nat m b h (by omega), IntKind.wrap_u64]
  unfold Plain.mixStep
  omega

theorem mix_u64' (m b : Nat) (h : m < 18446744073709551616) (hb : b < 256) :
    IntKind.u64.wrap (bits .xor .u64 (m : Int) (b : Int) * 1099511628211) = ((Plain.mixStep m b : Nat) : Int) := by
  have hw : IntKind.u64.wrap (b : Int) = (b : Int) := by rw [IntKind.wrap_u64]; omega
  have h2 := mix_u64 m b h hb
  rwa [hw] at h2

theorem take_snoc (s : ByteArray) (k : Nat) (h : k < s.size) : s.data.toList.take (k + 1) = s.data.toList.take k ++ [s[k]] := by
  rw [List.take_succ_eq_append_getElem (by simpa using h)]; rfl

theorem take_all (s : ByteArray) (k : Nat) (h : s.size ≤ k) : s.data.toList.take k = s.data.toList :=
  List.take_of_length_le (by simpa using h)

theorem crc_up (s : ByteArray) (c k : Nat) (h : k < s.size) : Plain.crcFrom c (s.data.toList.take (k + 1)) = Plain.step (Plain.crcFrom c (s.data.toList.take k)) s[k].toNat := by
  rw [take_snoc s k h, Plain.crcFrom_append, Plain.crcFrom_cons]
  simp only [Plain.crcFrom, List.foldl_nil]

theorem mix_up (s : ByteArray) (k : Nat) (h : k < s.size) : Plain.mix (s.data.toList.take (k + 1)) = Plain.mixStep (Plain.mix (s.data.toList.take k)) s[k].toNat := by
  rw [take_snoc s k h, Plain.mix_snoc]

theorem odd_and (c : Nat) (h : c < 4294967296) (t : (bits .and .u32 (c : Int) 1 == 1) = true) : c % 2 = 1 := by
  rw [and_one_u32 c h, beq_iff_eq] at t; omega
theorem even_and (c : Nat) (h : c < 4294967296) (t : (bits .and .u32 (c : Int) 1 == 1) = false) : ¬ c % 2 = 1 := by
  rw [and_one_u32 c h, beq_eq_false_iff_ne] at t; omega
theorem odd_rem (c : Nat) (t : (((c : Int) % 2) == 1) = true) : c % 2 = 1 := by
  rw [beq_iff_eq] at t; omega
theorem even_rem (c : Nat) (t : (((c : Int) % 2) == 1) = false) : ¬ c % 2 = 1 := by
  rw [beq_eq_false_iff_ne] at t; omega

end Go.Proofs.YtimcepoleboldaaGreatDoor
