/- The walk of ChunkShort: true of any chunk, any place and anything behind. -/
import Derived.Test.YthlkfgeabpdbbaaChunkRefDecode
import Derived.Test.YthlkfgeabpdbbaaChunkEncodesWalk
namespace Go.Proofs.Ythlkfgeabpdbbaa
open Go.RowKit

theorem place_in (a : Int) (n : Nat) (h0 : 0 < n) (hn : n ≤ 4096) : ∃ j : Nat, j < n ∧ (wrap64 (a.tmod (n : Int) + (n : Int))).tmod (n : Int) = (j : Int) := by
  have h1 := Int.lt_tmod_of_pos a (show (0 : Int) < (n : Int) by omega)
  have h2 := Int.tmod_lt_of_pos a (show (0 : Int) < (n : Int) by omega)
  generalize a.tmod (n : Int) = t at *
  have e : wrap64 (t + (n : Int)) = t + (n : Int) := by unfold wrap64; omega
  rw [e]
  have h3 : 0 ≤ (t + (n : Int)).tmod (n : Int) := Int.tmod_nonneg _ (by omega)
  have h4 := Int.tmod_lt_of_pos (t + (n : Int)) (show (0 : Int) < (n : Int) by omega)
  exact ⟨((t + (n : Int)).tmod (n : Int)).toNat, by omega, by omega⟩

theorem dec_none {s : List UInt8} (h : ¬ Cn.isC s) : Cn.decE s = 21 := by unfold Cn.decE; rw [if_neg h]

/-- The error that comes of what is no chunk. -/
theorem decode_none (s : ByteArray) (hs : s.size ≤ 1048576) (hn : ¬ Cn.isC s.data.toList) (w : World) :
    Calls Try.prog 11 #[.string s] w fun x w' => ∃ (e q : Int) (f l : Bool) (d : ByteArray), x = .returned (.tuple #[ChV e q f l d, .int .i64 21]) ∧ Below w.heap.size w w' := by
  refine (decode_any s w hs).mono ?_
  rintro x w' ⟨e, q, f, l, d, rfl, _, hb⟩
  exact ⟨e, q, f, l, d, by rw [dec_none hn]; rfl, hb⟩
theorem decode_none_ref (s : ByteArray) (hs : s.size ≤ 1048576) (hn : ¬ Cn.isC s.data.toList) (w : World) :
    Calls Try.prog 12 #[.string s] w fun x w' => ∃ (e q : Int) (f l : Bool) (d : ByteArray), x = .returned (.tuple #[ChV e q f l d, .int .i64 21]) ∧ Below w.heap.size w w' := by
  refine (decode_ref s w hs).mono ?_
  rintro x w' ⟨e, q, f, l, d, rfl, _, hb⟩
  exact ⟨e, q, f, l, d, by rw [dec_none hn]; rfl, hb⟩

theorem bytes_add (a b : ByteArray) : (a ++ b).data.toList = a.data.toList ++ b.data.toList := by simp

set_option maxRecDepth 20000 in
set_option maxHeartbeats 1000000 in
theorem short_walk (e q : Int) (f l : Bool) (d : ByteArray) (at_ : Int) (more : ByteArray) (w : World) (_ : -9223372036854775808 ≤ at_ ∧ at_ ≤ 9223372036854775807) (_ : more.size ≤ maxLen) :
    Calls Try.prog 4 #[ChV e q f l d, .int .i64 at_, .string more] w fun x w' => x = .returned (.bool true) ∧ Below w.heap.size w w' := by
  have hb := Blk.new w 26 (ChC e q f l d)
  have hg : Below w.heap.size w (w.alloc (.cells (ChC e q f l d) 26)) := (Below.refl _ _).alloc (Nat.le_refl _) _
  obtain ⟨c0, c1, c2, c3, c4⟩ := five hb
  by_cases hin : (d.size : Int) ≤ 96 ∧ (more.size : Int) ≤ 1024 ∧ ¬ ((more.size : Int) = 0)
  · obtain ⟨hd, hm, hm0⟩ := hin
    have hmb : ((more.size : Int) == 0) = false := by rw [beq_eq_false_iff_ne]; exact hm0
    rcases enc_cases ⟨e, q, f, l, d.data.toList⟩ with ⟨E, hV, hE⟩ | ⟨hok, S, hS, hS1, hS2, hV⟩
    · have HV := Lib.hid hV
      have HE : (E != 0) = true := by rw [bne_iff_ne]; exact hE
      clear hV
      go_enter Try.func4, Try.ntmps4
      go_wp2_with fail
      generalize w.alloc (.cells (ChC e q f l d) 26) = w1 at *
      refine (encode_ref e q f l d w1).mono ?_
      rintro x w2 ⟨rfl, hb2⟩
      rw [HV.out]
      have hg2 := hg.trans (hb2.mono hg.size)
      clear c0 c1 c2 c3 c4 hb hg hb2
      go_wp2_with fail
      go_ret
      exact ⟨rfl, hg2⟩
    · have HV := Lib.hid hV
      obtain ⟨j, hj, hE⟩ := place_in at_ S.size hS2 (by omega)
      have ht : ¬ Cn.isC (S.extract 0 j).data.toList := by
        rw [head_list, hS]
        refine Cn.take_none _ hok j ?_
        rw [← hS, toList_len]; exact hj
      have hp : ¬ Cn.isC (S ++ more).data.toList := by
        rw [bytes_add, hS]
        refine Cn.more_none _ hok _ ?_
        intro h
        have h0 := congrArg List.length h
        rw [toList_len] at h0
        have h1 : more.size = 0 := h0
        omega
      have hts : (S.extract 0 j).size ≤ 1048576 := by rw [← toList_len, head_list, List.length_take]; rw [toList_len]; omega
      have hps : (S ++ more).size ≤ 1048576 := by rw [ByteArray.size_append]; omega
      have A1 := Lib.hid (decode_none _ hts ht); have A2 := Lib.hid (decode_none _ hps hp)
      have R1 := Lib.hid (decode_none_ref _ hts ht); have R2 := Lib.hid (decode_none_ref _ hps hp)
      have hno : ¬ 9223372036854775807 < S.size + more.size := by omega
      have hjS : (j : Int) ≤ (S.size : Int) := by omega
      have hn0 : ((S.size : Int) == 0) = false := by rw [beq_eq_false_iff_ne]; omega
      clear hV hok hS hS1 ht hp hts hps
      go_enter Try.func4, Try.ntmps4
      go_wp2_with fail
      generalize w.alloc (.cells (ChC e q f l d) 26) = w1 at *
      refine (encode_ref e q f l d w1).mono ?_
      rintro x w2 ⟨rfl, hb2⟩
      rw [HV.out]
      have hg2 := hg.trans (hb2.mono hg.size)
      clear c0 c1 c2 c3 c4 hb hg hb2
      go_wp2_with fail
      refine (A1.out w2).mono ?_
      rintro x w3 ⟨e1, q1, f1, l1, d1, rfl, hb3⟩
      have hg3 := (hg2.trans (hb3.mono hg2.size))
      have hg4 := hg3.alloc hg3.size (.cells (ChC e1 q1 f1 l1 d1) 26)
      clear hg2 hb3 hg3 A1
      go_wp2_with fail
      generalize w3.alloc (.cells (ChC e1 q1 f1 l1 d1) 26) = w4 at *
      refine (A2.out w4).mono ?_
      rintro x w5 ⟨e2, q2, f2, l2, d2, rfl, hb5⟩
      have hg5 := (hg4.trans (hb5.mono hg4.size))
      have hg6 := hg5.alloc hg5.size (.cells (ChC e2 q2 f2 l2 d2) 26)
      clear hg4 hb5 hg5 A2
      go_wp2_with fail
      generalize w5.alloc (.cells (ChC e2 q2 f2 l2 d2) 26) = w6 at *
      refine (R1.out w6).mono ?_
      rintro x w7 ⟨e3, q3, f3, l3, d3, rfl, hb7⟩
      have hg7 := (hg6.trans (hb7.mono hg6.size))
      have hg8 := hg7.alloc hg7.size (.cells (ChC e3 q3 f3 l3 d3) 26)
      clear hg6 hb7 hg7 R1
      go_wp2_with fail
      generalize w7.alloc (.cells (ChC e3 q3 f3 l3 d3) 26) = w8 at *
      refine (R2.out w8).mono ?_
      rintro x w9 ⟨e4, q4, f4, l4, d4, rfl, hb9⟩
      have hg9 := (hg8.trans (hb9.mono hg8.size))
      clear hg8 hb9 R2
      go_wp2_with fail
      go_ret
      exact ⟨rfl, hg9.alloc hg9.size _⟩
  · have hn : ¬ Cn.isC (⟨#[]⟩ : ByteArray).data.toList := short_none _ (by decide)
    have HN := Lib.hid (decode_none ⟨#[]⟩ (by decide) hn)
    rcases (show 96 < (d.size : Int) ∨ ((d.size : Int) ≤ 96 ∧ 1024 < (more.size : Int)) ∨ ((d.size : Int) ≤ 96 ∧ (more.size : Int) ≤ 1024 ∧ (more.size : Int) = 0) by omega) with h1 | ⟨h1, h2⟩ | ⟨h1, h2, h3⟩
    rotate_left 2
    · have hmb : ((more.size : Int) == 0) = true := by rw [beq_iff_eq]; exact h3
      clear hin hn
      go_enter Try.func4, Try.ntmps4
      go_wp2_with fail
      refine (HN.out _).mono ?_
      rintro x w3 ⟨e1, q1, f1, l1, d1, rfl, hb3⟩
      have hg3 := (hg.trans (hb3.mono hg.size))
      go_wp2_with fail
      go_ret
      exact ⟨rfl, hg3.alloc hg3.size _⟩
    all_goals
      clear hin hn
      go_enter Try.func4, Try.ntmps4
      go_wp2_with fail
      refine (HN.out _).mono ?_
      rintro x w3 ⟨e1, q1, f1, l1, d1, rfl, hb3⟩
      have hg3 := (hg.trans (hb3.mono hg.size))
      go_wp2_with fail
      go_ret
      exact ⟨rfl, hg3.alloc hg3.size _⟩

end Go.Proofs.Ythlkfgeabpdbbaa
