/- The walk of ChunkSmall: true of any small numbers and any data. -/
import Derived.Test.YthlkfgeabpdbbaaChunkRefEncode
namespace Go.Proofs.Ythlkfgeabpdbbaa
open Go.RowKit

theorem encV_letters (c : Cn.Chu) (h : Cn.ok c) (S : ByteArray) (hS : S.data.toList = Cn.sealed (Cn.body c)) : EncV c = .tuple #[.string S, .int .i64 0] := by
  rw [encV_ok c h, ← hS, mk_toList]

set_option maxRecDepth 20000 in
set_option maxHeartbeats 1000000 in
theorem small_walk (a0 a1 : Int) (f l : Bool) (d : ByteArray) (w : World) (h0 : 0 ≤ a0 ∧ a0 ≤ 255) (h1 : 0 ≤ a1 ∧ a1 ≤ 255) (_ : d.size ≤ maxLen) :
    Calls Try.prog 3 #[.int .u8 a0, .int .u8 a1, .bool f, .bool l, .string d] w fun e w' => e = .returned (.bool true) ∧ Below w.heap.size w w' := by
  by_cases hd : (d.size : Int) ≤ 96
  · obtain ⟨E, hE⟩ : ∃ E, a0.tmod 128 = E := ⟨_, rfl⟩
    obtain ⟨Q, hQ⟩ : ∃ Q, a1.tmod 128 = Q := ⟨_, rfl⟩
    have hE' : 0 ≤ E ∧ E < 128 := by rw [← hE, Int.tmod_eq_emod_of_nonneg h0.1]; omega
    have hQ' : 0 ≤ Q ∧ Q < 128 := by rw [← hQ, Int.tmod_eq_emod_of_nonneg h1.1]; omega
    have hok : Cn.ok ⟨E, Q, f, l, d.data.toList⟩ := ⟨hE'.1, by show E ≤ 1099511627776; omega, hQ'.1, by show Q ≤ 1099511627776; omega, by rw [toList_len]; omega⟩
    have hlen := Cn.sealed_small ⟨E, Q, f, l, d.data.toList⟩ hE'.1 hE'.2 hQ'.1 hQ'.2 (by rw [toList_len]; omega)
    obtain ⟨S, hS⟩ : ∃ S : ByteArray, S.data.toList = Cn.sealed (Cn.body ⟨E, Q, f, l, d.data.toList⟩) := ⟨⟨(Cn.sealed (Cn.body ⟨E, Q, f, l, d.data.toList⟩)).toArray⟩, toList_mk _⟩
    have hV := encV_letters _ hok S hS
    have hsz : (S.size : Int) = 8 + (d.size : Int) := by rw [← toList_len, hS, hlen, ← toList_len]; exact Int.natCast_add _ _
    have HV := Lib.hid hV
    have hb := Blk.new w 26 (ChC E Q f l d)
    have hg : Below w.heap.size w (w.alloc (.cells (ChC E Q f l d) 26)) := (Below.refl _ _).alloc (Nat.le_refl _) _
    clear hlen hok hV hS
    go_enter Try.func3, Try.ntmps3
    go_wp2_with fail
    generalize w.alloc (.cells (ChC E Q f l d) 26) = w1 at *
    refine (encode_any E Q f l d w1).mono ?_
    rintro x w2 ⟨rfl, hb2⟩
    rw [HV.out]
    have hB2 := hb.older hb2 hb.lt
    have hg2 := hg.trans (hb2.mono hg.size)
    obtain ⟨c0, c1, c2, c3, c4⟩ := five hB2
    clear hb hg hb2
    go_wp2_with fail
    refine (encode_ref E Q f l d w2).mono ?_
    rintro x w3 ⟨rfl, hb3⟩
    rw [HV.out]
    have hg3 := hg2.trans (hb3.mono hg2.size)
    clear hB2 hg2 hb3 c0 c1 c2 c3 c4
    go_wp2_with fail
    go_ret
    exact ⟨rfl, hg3⟩
  · have HV := Lib.hid (encV_size ⟨0, 0, false, false, d.data.toList⟩ (by show ¬ ((0 : Int) < 0 ∨ 1099511627776 < (0 : Int) ∨ (0 : Int) < 0 ∨ 1099511627776 < (0 : Int)); omega) (by show 96 < d.data.toList.length; rw [toList_len]; omega))
    go_enter Try.func3, Try.ntmps3
    go_wp2_with fail
    refine (encode_any 0 0 false false d w).mono ?_
    rintro x w1 ⟨rfl, hb⟩
    rw [HV.out]
    go_wp2_with fail
    go_ret
    exact ⟨rfl, hb⟩

end Go.Proofs.Ythlkfgeabpdbbaa
