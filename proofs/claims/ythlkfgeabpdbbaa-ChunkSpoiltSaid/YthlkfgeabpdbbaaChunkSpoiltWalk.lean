/- The walk of ChunkSpoilt: true of any chunk, any place and any byte. -/
import Derived.Test.YthlkfgeabpdbbaaChunkShortWalk
import Derived.Deep.RegionLaw
import Derived.RegionTactic
namespace Go.Proofs.Ythlkfgeabpdbbaa
open Go.RowKit

/-- The first 96 bytes of some data. -/
theorem data_cut (d : ByteArray) (h : 96 < d.size) : (d.extract 0 96).size = 96 := by
  rw [← toList_len, head_list, List.length_take, toList_len]; omega

/-- The bytes with the byte at j another one. -/
theorem put_byte (S : ByteArray) (j : Nat) (b : UInt8) (hj : j < S.size) :
    ∃ l m, S.data.toList = l ++ S[j] :: m ∧ (S.extract 0 j ++ ⟨#[b]⟩ ++ S.extract (j + 1) S.size).data.toList = l ++ b :: m := by
  refine ⟨S.data.toList.take j, S.data.toList.drop (j + 1), ?_, ?_⟩
  · rw [← drop_byte S j hj, List.take_append_drop]
  · rw [bytes_add, bytes_add, head_list, tail_list]; simp

/-- What decoding the spoilt bytes gives. -/
theorem spoilt_cases (c : Cn.Chu) (hok : Cn.ok c) (S : ByteArray) (hS : S.data.toList = Cn.sealed (Cn.body c)) (j : Nat) (hj : j < S.size) (b : UInt8) (T : ByteArray) (hT : S.extract 0 j ++ ⟨#[b]⟩ ++ S.extract (j + 1) S.size = T) :
    (S[j] = b ∧ T = S ∧ Cn.decE T.data.toList = 0 ∧ Cn.decC T.data.toList = c) ∨ (S[j] ≠ b ∧ T ≠ S ∧ Cn.decE T.data.toList = 21) := by
  obtain ⟨l, m, h1, h2⟩ := put_byte S j b hj
  rw [hT] at h2
  have hsp := Cn.spoilt c hok l m S[j] b (by rw [← hS, h1])
  rw [← h2] at hsp
  by_cases hb : S[j] = b
  · left
    have hTS : T = S := by
      rw [← mk_toList T, h2, ← hb, ← h1, mk_toList]
    refine ⟨hb, hTS, ?_, ?_⟩
    · rw [hTS, hS]; exact Cn.decE_enc c hok
    · rw [hTS, hS]; exact Cn.decC_enc c hok
  · right
    have hi : ¬ Cn.isC T.data.toList := fun h => hb (hsp.1 h)
    refine ⟨hb, ?_, dec_none hi⟩
    intro e
    rw [e, h1] at h2
    have := List.append_cancel_left h2
    simp only [List.cons.injEq, and_true] at this
    exact hb this

/-- The ways of encoding data that is not too long. -/
theorem enc_cases96 (c : Cn.Chu) (h : c.d.length ≤ 96) : (EncV c = .tuple #[.string ⟨#[]⟩, .int .i64 1]) ∨
    (Cn.ok c ∧ ∃ S : ByteArray, S.data.toList = Cn.sealed (Cn.body c) ∧ S.size ≤ 128 ∧ 0 < S.size ∧ EncV c = .tuple #[.string S, .int .i64 0]) := by
  by_cases harg : c.e < 0 ∨ 1099511627776 < c.e ∨ c.q < 0 ∨ 1099511627776 < c.q
  · exact .inl (encV_arg c harg)
  · rcases enc_cases c with ⟨E, hV, hE⟩ | h2
    · have hok : Cn.ok c := ⟨by omega, by omega, by omega, by omega, h⟩
      rw [encV_ok c hok] at hV
      injection hV with hV
      simp at hV
      exact absurd hV.2.symm hE
    · exact .inr h2

theorem one_byte (b : UInt8) (w : World) : (convert 33 9 (.slice (some ⟨w.heap.size, 0, none⟩) 1 1)).run Try.prog (w.alloc (.cells #[.int .u8 (b.toNat : Int)] 5)).drew = .ok (.string ⟨#[b]⟩) (w.alloc (.cells #[.int .u8 (b.toNat : Int)] 5)).drew :=
  run_convert_bytes_back (P := Try.prog) _ 33 9 5 ⟨w.heap.size, 0, none⟩ 1 [b] Try.underlying33 Try.underlying5 Try.underlying9 (fun j hj => by
    obtain rfl : j = 0 := by simpa using hj
    simp [Addr.add])

theorem put_size (S : ByteArray) (j : Nat) (b : UInt8) (h : j < S.size) : (S.extract 0 j ++ (⟨#[b]⟩ : ByteArray) ++ S.extract (j + 1) S.size).size = S.size := by
  rw [ByteArray.size_append, ByteArray.size_append, ByteArray.size_extract, ByteArray.size_extract]
  show _ + 1 + _ = _
  omega

set_option maxRecDepth 20000 in
set_option maxHeartbeats 1000000 in
theorem spoilt_walk (e q : Int) (f l : Bool) (d : ByteArray) (at_ : Int) (b : UInt8) (w : World) :
    Calls Try.prog 7 #[ChV e q f l d, .int .i64 at_, .int .u8 (b.toNat : Int)] w fun x w' => x = .returned (.bool true) ∧ Below w.heap.size w w' := by
  have hb := Blk.new w 26 (ChC e q f l d)
  obtain ⟨⟨c0, c1, c2, c3, c4⟩, f0, f1, f2, f3, f4⟩ := five_cells hb
  have hlt := hb.lt
  clear hb
  by_cases hd : (d.size : Int) ≤ 96
  · have hB := Blk.new w 26 (ChC e q f l d)
    have hG : Below w.heap.size w (w.alloc (.cells (ChC e q f l d) 26)) := (Below.refl _ _).alloc (Nat.le_refl _) _
    have hD96 : d.data.toList.length ≤ 96 := by rw [toList_len]; omega
    go_enter Try.func7, Try.ntmps7
    go_wp2_with fail
    clear c0 c1 c2 c3 c4 f0 f1 f2 f3 f4 hlt
    generalize w.alloc (.cells (ChC e q f l d) 26) = w1 at *
    refine (encode_any e q f l d w1).mono ?_
    rintro x w2 ⟨rfl, hb2⟩
    have hB2 := hB.older hb2 hB.lt
    have hG2 := hG.trans (hb2.mono hG.size)
    obtain ⟨c0, c1, c2, c3, c4⟩ := five hB2
    clear hB hG hb2
    rcases enc_cases96 ⟨e, q, f, l, d.data.toList⟩ hD96 with hV | ⟨hok, S, hS, hS1, hS2, hV⟩
    · have HV := Lib.hid hV
      rw [hV]
      clear hV
      go_wp2_with fail
      refine (encode_ref e q f l d w2).mono ?_
      rintro x w3 ⟨rfl, hb3⟩
      rw [HV.out]
      have hG3 := hG2.trans (hb3.mono hG2.size)
      clear hB2 hG2 hb3 c0 c1 c2 c3 c4
      go_wp2_with fail
      go_ret
      exact ⟨rfl, hG3⟩
    · have HV := Lib.hid hV
      rw [hV]
      obtain ⟨j, hj, hE⟩ := place_in at_ S.size hS2 (by omega)
      have hn0 : ((S.size : Int) == 0) = false := by rw [beq_eq_false_iff_ne]; omega
      have hj1 : j ≤ S.size := by omega
      have hj2 : j + 1 ≤ S.size := by omega
      have hTz := put_size S j b hj
      have hcs := spoilt_cases ⟨e, q, f, l, d.data.toList⟩ hok S hS j hj b _ rfl
      have HCS := Lib.hid hcs; have HTZ := Lib.hid hTz
      clear hV hok hS hcs hTz hD96
      have hno : ¬ 9223372036854775807 < j + 1 := by omega
      go_wp2_with fail
      refine (encode_ref e q f l d w2).mono ?_
      rintro x w3 ⟨rfl, hb3⟩
      rw [HV.out]
      have hB3 := hB2.older hb3 hB2.lt
      have hG3 := hG2.trans (hb3.mono hG2.size)
      have hc := one_byte b w3
      clear hB2 hG2 hb3 c0 c1 c2 c3 c4
      go_wp2_with fail
      go_region
      have hB4 := (hB3.alloc (.cells #[.int .u8 (b.toNat : Int)] 5)).drew
      have hG4 := (hG3.alloc hG3.size (.cells #[.int .u8 (b.toNat : Int)] 5)).drew
      generalize (w3.alloc (.cells #[.int .u8 (b.toNat : Int)] 5)).drew = w4 at *
      have hcs := HCS.out
      have hTz := HTZ.out
      generalize (S.extract 0 j ++ (⟨#[b]⟩ : ByteArray) ++ S.extract (j + 1) S.size) = T at *
      have HT := Lib.hid (fun W : World => decode_any T W (by omega))
      clear HCS HTZ hB3 hG3 hc hno hE hTz
      go_wp2_with fail
      refine (HT.out w4).mono ?_
      rintro x w5 ⟨e', q', f', l', d', rfl, his, hb5⟩
      have hG5 := hG4.trans (hb5.mono hG4.size)
      have hG6 := hG5.alloc hG5.size (.cells (ChC e' q' f' l' d') 26)
      obtain ⟨c0, c1, c2, c3, c4⟩ := five ((hB4.older hb5 hB4.lt).alloc (.cells (ChC e' q' f' l' d') 26))
      clear hB4 hG4 hb5 hG6 HT
      have his2 : (⟨e', q', f', l', d'.data.toList⟩ : Cn.Chu) = Cn.decC T.data.toList := his
      rcases hcs with ⟨hjb, rfl, h0, hC⟩ | ⟨hjb, hTS, h0⟩
      · rw [hC] at his
        obtain ⟨rfl, rfl, rfl, rfl, rfl⟩ := is_same his
        rw [h0]
        clear his his2 h0 hC HV
        go_wp2_with fail
        go_ret
        exact ⟨rfl, hG5.alloc hG5.size _⟩
      · rw [h0]
        have hjb' : ((S[j].toNat : Int) == (b.toNat : Int)) = false := by
          rw [beq_eq_false_iff_ne]; intro h; exact hjb (UInt8.toNat_inj.1 (by omega))
        have hTS' := neq_list hTS
        clear his his2 h0 HV hTS hjb
        go_wp2_with fail
        all_goals
          go_ret
          exact ⟨rfl, hG5.alloc hG5.size _⟩
  · have hB := Blk.new w 26 (ChC e q f l (d.extract 0 96))
    have hG : Below w.heap.size w (w.alloc (.cells (ChC e q f l (d.extract 0 96)) 26)) := (Below.refl _ _).alloc (Nat.le_refl _) _
    have hD96 : (d.extract 0 96).data.toList.length ≤ 96 := by rw [toList_len]; exact Nat.le_of_eq (data_cut d (by omega))
    go_enter Try.func7, Try.ntmps7
    go_wp2_with fail
    clear c0 c1 c2 c3 c4 f0 f1 f2 f3 f4 hlt
    generalize w.alloc (.cells (ChC e q f l (d.extract 0 96)) 26) = w1 at *
    generalize d.extract 0 96 = D2 at *
    refine (encode_any e q f l D2 w1).mono ?_
    rintro x w2 ⟨rfl, hb2⟩
    have hB2 := hB.older hb2 hB.lt
    have hG2 := hG.trans (hb2.mono hG.size)
    obtain ⟨c0, c1, c2, c3, c4⟩ := five hB2
    clear hB hG hb2
    rcases enc_cases96 ⟨e, q, f, l, D2.data.toList⟩ hD96 with hV | ⟨hok, S, hS, hS1, hS2, hV⟩
    · have HV := Lib.hid hV
      rw [hV]
      clear hV
      go_wp2_with fail
      refine (encode_ref e q f l D2 w2).mono ?_
      rintro x w3 ⟨rfl, hb3⟩
      rw [HV.out]
      have hG3 := hG2.trans (hb3.mono hG2.size)
      clear hB2 hG2 hb3 c0 c1 c2 c3 c4
      go_wp2_with fail
      go_ret
      exact ⟨rfl, hG3⟩
    · have HV := Lib.hid hV
      rw [hV]
      obtain ⟨j, hj, hE⟩ := place_in at_ S.size hS2 (by omega)
      have hn0 : ((S.size : Int) == 0) = false := by rw [beq_eq_false_iff_ne]; omega
      have hj1 : j ≤ S.size := by omega
      have hj2 : j + 1 ≤ S.size := by omega
      have hTz := put_size S j b hj
      have hcs := spoilt_cases ⟨e, q, f, l, D2.data.toList⟩ hok S hS j hj b _ rfl
      have HCS := Lib.hid hcs; have HTZ := Lib.hid hTz
      clear hV hok hS hcs hTz hD96
      have hno : ¬ 9223372036854775807 < j + 1 := by omega
      go_wp2_with fail
      refine (encode_ref e q f l D2 w2).mono ?_
      rintro x w3 ⟨rfl, hb3⟩
      rw [HV.out]
      have hB3 := hB2.older hb3 hB2.lt
      have hG3 := hG2.trans (hb3.mono hG2.size)
      have hc := one_byte b w3
      clear hB2 hG2 hb3 c0 c1 c2 c3 c4
      go_wp2_with fail
      go_region
      have hB4 := (hB3.alloc (.cells #[.int .u8 (b.toNat : Int)] 5)).drew
      have hG4 := (hG3.alloc hG3.size (.cells #[.int .u8 (b.toNat : Int)] 5)).drew
      generalize (w3.alloc (.cells #[.int .u8 (b.toNat : Int)] 5)).drew = w4 at *
      have hcs := HCS.out
      have hTz := HTZ.out
      generalize (S.extract 0 j ++ (⟨#[b]⟩ : ByteArray) ++ S.extract (j + 1) S.size) = T at *
      have HT := Lib.hid (fun W : World => decode_any T W (by omega))
      clear HCS HTZ hB3 hG3 hc hno hE hTz
      go_wp2_with fail
      refine (HT.out w4).mono ?_
      rintro x w5 ⟨e', q', f', l', d', rfl, his, hb5⟩
      have hG5 := hG4.trans (hb5.mono hG4.size)
      have hG6 := hG5.alloc hG5.size (.cells (ChC e' q' f' l' d') 26)
      obtain ⟨c0, c1, c2, c3, c4⟩ := five ((hB4.older hb5 hB4.lt).alloc (.cells (ChC e' q' f' l' d') 26))
      clear hB4 hG4 hb5 hG6 HT
      have his2 : (⟨e', q', f', l', d'.data.toList⟩ : Cn.Chu) = Cn.decC T.data.toList := his
      rcases hcs with ⟨hjb, rfl, h0, hC⟩ | ⟨hjb, hTS, h0⟩
      · rw [hC] at his
        obtain ⟨rfl, rfl, rfl, rfl, rfl⟩ := is_same his
        rw [h0]
        clear his his2 h0 hC HV
        go_wp2_with fail
        go_ret
        exact ⟨rfl, hG5.alloc hG5.size _⟩
      · rw [h0]
        have hjb' : ((S[j].toNat : Int) == (b.toNat : Int)) = false := by
          rw [beq_eq_false_iff_ne]; intro h; exact hjb (UInt8.toNat_inj.1 (by omega))
        have hTS' := neq_list hTS
        clear his his2 h0 HV hTS hjb
        go_wp2_with fail
        all_goals
          go_ret
          exact ⟨rfl, hG5.alloc hG5.size _⟩

theorem spoilt_walk_int (e q : Int) (f l : Bool) (d : ByteArray) (at_ : Int) (b : Int) (w : World) (_ : -9223372036854775808 ≤ at_ ∧ at_ ≤ 9223372036854775807) (hb : 0 ≤ b ∧ b ≤ 255) :
    Calls Try.prog 7 #[ChV e q f l d, .int .i64 at_, .int .u8 b] w fun x w' => x = .returned (.bool true) ∧ Below w.heap.size w w' := by
  obtain ⟨c, rfl⟩ : ∃ c : UInt8, b = (c.toNat : Int) := ⟨UInt8.ofNat b.toNat, by simp; omega⟩
  exact spoilt_walk e q f l d at_ c w

end Go.Proofs.Ythlkfgeabpdbbaa
