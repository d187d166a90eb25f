/- What (*Reader).Number comes to, whatever bytes are left. -/
import Derived.Test.YtimcepoleboldaaGreatDoorPackWorld
import Derived.LoopTactic
import Derived.Outline
namespace Go.Proofs.YtimcepoleboldaaGreatDoor
open Go.RowKit

/-- The sum that the loop makes. -/
theorem sum_wrap (acc i b : Nat) (hi : i < 8) (ha : acc < 2 ^ (7 * i)) : wrap64 ((acc : Int) + wrap64 ((b : Int) % 128 * 2 ^ (7 * i))) = ((acc + b % 128 * 2 ^ (7 * i) : Nat) : Int) := by
  obtain ⟨h1, h2⟩ := Pk.sum_small acc i b hi ha
  have e : (b : Int) % 128 * 2 ^ (7 * i) = ((b % 128 * 2 ^ (7 * i) : Nat) : Int) := by
    rw [Int.natCast_mul, Int.natCast_pow]; rfl
  rw [e]
  generalize b % 128 * 2 ^ (7 * i) = m at *
  unfold wrap64
  omega
theorem sum_none (acc i : Nat) (hi : i < 8) (ha : acc < 2 ^ (7 * i)) : wrap64 ((acc : Int) + wrap64 0) = (acc : Int) := by
  have h := Pk.pow_le i hi
  unfold wrap64
  omega

theorem tail_list (s : ByteArray) (a : Nat) : (s.extract a s.size).data.toList = s.data.toList.drop a := by
  rw [ByteArray.data_extract, Array.toList_extract]
  simp only [List.extract]
  exact List.take_of_length_le (by simp)
theorem head_list (s : ByteArray) (b : Nat) : (s.extract 0 b).data.toList = s.data.toList.take b := by
  rw [ByteArray.data_extract, Array.toList_extract]
  simp [List.extract]
theorem drop_byte (s : ByteArray) (i : Nat) (h : i < s.size) : s.data.toList.drop i = s[i] :: s.data.toList.drop (i + 1) := by
  have h' : i < s.data.toList.length := by simpa using h
  rw [List.drop_eq_getElem_cons h']; rfl

/-- The Reader at br had the text s; behind the call it has what r says, and just that has changed. -/
def RdPost (br : Nat) (res : List Value) (rest : List UInt8) (w : World) (e : Ending) (w' : World) : Prop :=
  ∃ s' : ByteArray, e = .returned (.tuple res.toArray) ∧ s'.data.toList = rest ∧ Blk w' br 148 #[.string s'] ∧ w.grownBy w' (some br)

/-- What the loop knows. -/
def NumLoop (s : ByteArray) (v4 v12 : Value) : Prop :=
  ∃ i acc : Nat, i ≤ s.size ∧ i ≤ 8 ∧ v12 = .int .i64 (i : Int) ∧ v4 = .int .i64 (acc : Int) ∧ acc < 2 ^ (7 * i) ∧ Pk.numGo 0 0 s.data.toList = Pk.numGo i acc (s.data.toList.drop i)

set_option maxRecDepth 20000 in
set_option maxHeartbeats 400000 in
theorem readnum_any (br : Nat) (s : ByteArray) (w : World) (h : Blk w br 148 #[.string s]) (hs : s.size ≤ 1099511627776) :
    Calls Tryz.prog 64 #[.pointer (some ⟨br, 0, none⟩)] w (RdPost br [.int .i64 ((Pk.num s.data.toList).1 : Int), .int .i64 ((Pk.num s.data.toList).2.1 : Int)] (Pk.num s.data.toList).2.2 w) := by
  have c0 := h.cell 0
  have f0 := h.frozen 0
  simp at c0
  have HB := Lib.hid h; clear h
  go_enter Tryz.func64, Tryz.ntmps64
  go_wp2_with fail
  go_loop [4, 12] (fun v4 v12 => NumLoop s v4 v12) (fun _ i => s.size - (intOf i).toNat)
  case atStart => exact ⟨0, 0, Nat.zero_le _, Nat.zero_le _, rfl, rfl, by decide, rfl⟩
  case round =>
    obtain ⟨i, acc, hi, hi8, rfl, rfl, hacc, hgo⟩ := hrel
    by_cases hlt : i < s.size
    · rw [drop_byte s i hlt] at hgo
      by_cases h8 : i = 8
      · subst h8
        have hN := Lib.hid (Pk.num_eight hgo)
        clear hgo hacc
        go_wp2_with fail
        go_ret2
        rw [hN.out]
        exact ⟨s, rfl, rfl, HB.out, gr_refl w _⟩
      · have hi7 : i < 8 := by omega
        have HG := Lib.hid hgo; clear hgo
        have HA := Lib.hid hacc; clear hacc
        go_wp2_with fail
        · go_round
          case rel => exact ⟨i + 1, _, by omega, by omega, by go_num, congrArg (Value.int .i64) (sum_wrap acc i _ hi7 HA.out), Pk.sum_lt _ _ _ HA.out, Pk.num_more HG.out hi7 (by omega)⟩
          case measure => simp [intOf]; omega
        · have hN := Pk.num_zero HG.out hi7 (by assumption) (by assumption)
          go_ret2
          rw [hN]
          exact ⟨s, rfl, rfl, HB.out, gr_refl w _⟩
        · have hN := Pk.num_last HG.out hi7 (by omega) (by omega)
          have h0 : s[i].toNat = 0 := by assumption
          go_ret2
          rw [hN, h0]
          refine ⟨_, ?_, tail_list s (i + 1), HB.out.set_one _, gr_set (gr_refl w _) 0 _⟩
          rw [sum_none acc i hi7 HA.out]
          simp
        · have hN := Pk.num_last HG.out hi7 (by omega) (by omega)
          go_ret2
          rw [hN]
          refine ⟨_, ?_, tail_list s (i + 1), HB.out.set_one _, gr_set (gr_refl w _) 0 _⟩
          rw [sum_wrap acc i _ hi7 HA.out]
          rfl
    · have hN := Lib.hid (Pk.num_end (l := s.data.toList) (i := i) (acc := acc) (by rw [hgo, List.drop_of_length_le (by simp; omega)]))
      clear hgo hacc
      go_wp2_with fail
      go_ret2
      rw [hN.out]
      exact ⟨s, rfl, rfl, HB.out, gr_refl w _⟩

end Go.Proofs.YtimcepoleboldaaGreatDoor
