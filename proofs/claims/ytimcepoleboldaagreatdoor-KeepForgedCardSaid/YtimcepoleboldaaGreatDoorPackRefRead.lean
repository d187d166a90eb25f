/- What the document's Reader comes to: Number and Text, whatever bytes are left; where there is no error, the same as the program's. -/
import Derived.Test.YtimcepoleboldaaGreatDoorPackRead
import Derived.Test.YtimcepoleboldaaGreatDoorPackBytes
import Derived.Outline
namespace Go.Proofs.YtimcepoleboldaaGreatDoor
open Go.RowKit

theorem refread_any (s : ByteArray) (w : World) : Calls Tryz.prog 83 #[.string s] w fun e w' => e = .returned (.pointer (some ⟨w.heap.size, 0, none⟩)) ∧ w' = w.alloc (.cells #[.string s] 169) := by
  go_enter Tryz.func83, Tryz.ntmps83
  go_wp2_with fail
  go_ret
  exact ⟨rfl, rfl⟩

/-- What the loop knows. -/
def RefNum (s : ByteArray) (v4 v5 v6 : Value) : Prop :=
  ∃ i acc b : Nat, i ≤ s.size ∧ i ≤ 8 ∧ v6 = .int .i64 (i : Int) ∧ v4 = .int .i64 (acc : Int) ∧ v5 = .int .i64 (b : Int) ∧ b = 2 ^ (7 * i) ∧ acc < 2 ^ (7 * i) ∧ Pk.numGo 0 0 s.data.toList = Pk.numGo i acc (s.data.toList.drop i)

theorem byte_mod (n : Nat) (h : n < 256) : wrap64 (n : Int) = (n : Int) ∧ ((n : Int).tmod 128) = ((n % 128 : Nat) : Int) := by
  refine ⟨by unfold wrap64; omega, ?_⟩
  rw [Int.tmod_eq_emod_of_nonneg (by omega)]
  omega

theorem up_num (acc i n b : Nat) (hi : i < 8) (ha : acc < 2 ^ (7 * i)) (hb : b = 2 ^ (7 * i)) :
    wrap64 ((acc : Int) + wrap64 ((n : Int) % 128 * (b : Int))) = ((acc + n % 128 * 2 ^ (7 * i) : Nat) : Int) ∧
    wrap64 ((b : Int) * 128) = ((b * 128 : Nat) : Int) ∧ b * 128 = 2 ^ (7 * (i + 1)) ∧ wrap64 ((acc : Int) + wrap64 0) = (acc : Int) := by
  subst hb
  obtain ⟨h1, h2⟩ := Pk.sum_small acc i n hi ha
  have h3 := Pk.pow_le i hi
  have e2 : 2 ^ (7 * i) * 128 = 2 ^ (7 * (i + 1)) := by
    rw [show 7 * (i + 1) = 7 * i + 7 by omega, Nat.pow_add]
  generalize 2 ^ (7 * i) = b at *
  have e3 : (n : Int) % 128 * (b : Int) = ((n % 128 * b : Nat) : Int) := by rw [Int.natCast_mul]; rfl
  rw [e3]
  refine ⟨?_, ?_, e2, ?_⟩
  · unfold wrap64; omega
  · unfold wrap64; omega
  · unfold wrap64; omega

/-- What Number leaves. -/
def RefNumPost (br : Nat) (s : ByteArray) (w : World) (x : Ending) (w' : World) : Prop :=
  ∃ (n m : Nat) (s' : ByteArray), x = .returned (.tuple #[.int .i64 (n : Int), .int .i64 (m : Int)]) ∧ Blk w' br 169 #[.string s'] ∧ w.grownBy w' (some br) ∧ Pk.num s.data.toList = (n, m, s'.data.toList)

set_option maxRecDepth 20000 in
set_option maxHeartbeats 400000 in
theorem refnum_any (br : Nat) (s : ByteArray) (w : World) (h : Blk w br 169 #[.string s]) (hs : s.size ≤ 1048576) :
    Calls Tryz.prog 84 #[.pointer (some ⟨br, 0, none⟩)] w (RefNumPost br s w) := by
  have c0 := h.cell 0
  have f0 := h.frozen 0
  simp at c0
  have HB := Lib.hid h; clear h
  go_enter Tryz.func84, Tryz.ntmps84
  go_wp2_with fail
  go_loop [4, 5, 6] (fun v4 v5 v6 => RefNum s v4 v5 v6) (fun _ _ i => s.size - (intOf i).toNat)
  case atStart => exact ⟨0, 0, 1, Nat.zero_le _, Nat.zero_le _, rfl, rfl, rfl, rfl, by decide, rfl⟩
  case round =>
    obtain ⟨i, acc, b, hi, hi8, rfl, rfl, rfl, hb, hacc, hgo⟩ := hrel
    by_cases hlt : i < s.size
    · rw [drop_byte s i hlt] at hgo
      by_cases h8 : i = 8
      · subst h8
        have hN := Lib.hid (Pk.num_eight hgo)
        clear hgo hacc hb
        go_wp2_with fail
        go_ret2
        exact ⟨0, 21, s, rfl, HB.out, gr_refl w _, hN.out⟩
      · have hi7 : i < 8 := by omega
        obtain ⟨b1, b2⟩ := byte_mod s[i].toNat (s[i].toNat_lt)
        obtain ⟨u1, u2, u3, u4⟩ := up_num acc i s[i].toNat b hi7 hacc hb
        have HG := Lib.hid hgo; have HA := Lib.hid hacc; have HU := Lib.hid (And.intro u1 (And.intro u2 u3))
        clear hgo hacc hb u1 u2 u3
        go_wp2_with fail
        · have hN := Pk.num_zero HG.out hi7 (by assumption) (by assumption)
          go_ret2
          exact ⟨0, 21, s, rfl, HB.out, gr_refl w _, hN⟩
        · have hN := Pk.num_last HG.out hi7 (by omega) (by omega)
          have h0 : s[i].toNat = 0 := by assumption
          rw [h0] at hN
          go_ret2
          refine ⟨acc, 0, _, rfl, HB.out.set_one _, gr_set (gr_refl w _) 0 _, ?_⟩
          rw [hN, tail_list]
          simp
        · have hN := Pk.num_last HG.out hi7 (by omega) (by omega)
          have HN := Lib.hid hN; clear hN
          go_ret2
          refine ⟨_, 0, _, congrArg (fun z => Ending.returned (Value.tuple #[.int .i64 z, .int .i64 0])) HU.out.1, HB.out.set_one _, gr_set (gr_refl w _) 0 _, ?_⟩
          rw [HN.out, tail_list]
        · go_round
          case rel => exact ⟨i + 1, _, _, by omega, by omega, by go_num, congrArg (Value.int .i64) HU.out.1, congrArg (Value.int .i64) HU.out.2.1, HU.out.2.2, Pk.sum_lt _ _ _ HA.out, Pk.num_more HG.out hi7 (by omega)⟩
          case measure => simp [intOf]; omega
    · have hN := Lib.hid (Pk.num_end (l := s.data.toList) (i := i) (acc := acc) (by rw [hgo, List.drop_of_length_le (by simp; omega)]))
      clear hgo hacc hb
      go_wp2_with fail
      go_ret2
      exact ⟨0, 20, s, rfl, HB.out, gr_refl w _, hN.out⟩

/-- What Text leaves. -/
def RefTextPost (br : Nat) (s : ByteArray) (w : World) (x : Ending) (w' : World) : Prop :=
  ∃ (d : ByteArray) (m : Nat) (s' : ByteArray), x = .returned (.tuple #[.string d, .int .i64 (m : Int)]) ∧ Blk w' br 169 #[.string s'] ∧ w.grownBy w' (some br) ∧ Pk.text s.data.toList = (d.data.toList, m, s'.data.toList)

set_option maxRecDepth 20000 in
set_option maxHeartbeats 400000 in
theorem reftext_any (br : Nat) (s : ByteArray) (w : World) (h : Blk w br 169 #[.string s]) (hs : s.size ≤ 1048576) :
    Calls Tryz.prog 85 #[.pointer (some ⟨br, 0, none⟩)] w (RefTextPost br s w) := by
  have c0 := h.cell 0
  simp at c0
  go_enter Tryz.func85, Tryz.ntmps85
  go_wp2_with fail
  refine (refnum_any br s w h hs).mono ?_
  rintro x w1 ⟨n, m, s1, rfl, hb, hg, hn⟩
  have c1 := hb.cell 0
  have f1 := hb.frozen 0
  simp at c1
  clear h c0
  have h1 : s1.size ≤ 1048576 := by
    have := Pk.num_len s.data.toList
    rw [hn] at this
    simp only [toList_len] at this
    omega
  by_cases hm : m = 0
  · subst hm
    by_cases hle : n ≤ s1.size
    · have ht : Pk.text s.data.toList = (s1.data.toList.take n, 0, s1.data.toList.drop n) := by
        unfold Pk.text
        rw [hn]
        simp only [if_true]
        rw [if_pos (by rw [toList_len]; exact hle)]
      have HT := Lib.hid ht; have HB := Lib.hid hb
      have hli : (n : Int) ≤ (s1.size : Int) := by omega
      clear hn hb ht
      go_wp2_with fail
      go_ret2
      refine ⟨_, 0, _, rfl, HB.out.set_one _, gr_set hg 0 _, ?_⟩
      rw [HT.out, tail_list, head_list]
    · have ht : Pk.text s.data.toList = ([], 20, s.data.toList) := by
        unfold Pk.text
        rw [hn]
        simp only [if_true]
        rw [if_neg (by rw [toList_len]; exact hle)]
      have HT := Lib.hid ht; have HB := Lib.hid hb
      have hli : (s1.size : Int) < (n : Int) := by omega
      clear hn hb ht
      go_wp2_with fail
      go_ret2
      exact ⟨⟨#[]⟩, 20, s, rfl, HB.out.set_one _, gr_set hg 0 _, HT.out⟩
  · have ht : Pk.text s.data.toList = ([], m, s.data.toList) := by
      unfold Pk.text
      rw [hn]
      simp only [if_neg hm]
    have hs1 : s1 = s := by
      have h2 : (Pk.num s.data.toList).2.1 ≠ 0 := by rw [hn]; exact hm
      have h3 := Pk.num_wrong _ h2
      rw [hn] at h3
      have h4 : s1.data.toList = s.data.toList := h3
      rw [← mk_toList s1, h4, mk_toList]
    subst hs1
    have HT := Lib.hid ht; have HB := Lib.hid hb
    have hm' : ((m : Int) != 0) = true := by rw [bne_iff_ne]; omega
    have HM := Lib.hid hm
    clear hn hb ht hm
    go_wp2_with fail
    go_ret2
    exact ⟨⟨#[]⟩, m, s1, rfl, HB.out, hg, HT.out⟩

end Go.Proofs.YtimcepoleboldaaGreatDoor
