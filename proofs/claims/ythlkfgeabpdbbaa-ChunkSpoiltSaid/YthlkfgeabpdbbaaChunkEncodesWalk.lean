/- The walk of ChunkEncodes: true of any chunk. -/
import Derived.Test.YthlkfgeabpdbbaaChunkRefEncode
import Derived.Test.YthlkfgeabpdbbaaChunkDecode
namespace Go.Proofs.Ythlkfgeabpdbbaa
open Go.RowKit

theorem encV_letters' (c : Cn.Chu) (h : Cn.ok c) (S : ByteArray) (hS : S.data.toList = Cn.sealed (Cn.body c)) : EncV c = .tuple #[.string S, .int .i64 0] := by
  rw [encV_ok c h, ← hS, mk_toList]

/-- The ways of encoding. -/
theorem enc_cases (c : Cn.Chu) : (∃ E : Int, EncV c = .tuple #[.string ⟨#[]⟩, .int .i64 E] ∧ E ≠ 0) ∨
    (Cn.ok c ∧ ∃ S : ByteArray, S.data.toList = Cn.sealed (Cn.body c) ∧ S.size ≤ 128 ∧ 0 < S.size ∧ EncV c = .tuple #[.string S, .int .i64 0]) := by
  by_cases hok : Cn.ok c
  · refine .inr ⟨hok, ⟨(Cn.sealed (Cn.body c)).toArray⟩, toList_mk _, ?_, ?_, encV_ok c hok⟩
    · rw [size_mk]; exact Cn.sealed_le c hok
    · rw [size_mk, Cn.sealed_length]; omega
  · left
    by_cases harg : c.e < 0 ∨ 1099511627776 < c.e ∨ c.q < 0 ∨ 1099511627776 < c.q
    · exact ⟨1, encV_arg c harg, by omega⟩
    · have hd : 96 < c.d.length := by
        apply Decidable.byContradiction
        intro h
        exact hok ⟨by omega, by omega, by omega, by omega, by omega⟩
      exact ⟨31, encV_size c harg hd, by omega⟩

theorem is_same {e q e' q' : Int} {f l f' l' : Bool} {d d' : ByteArray} (h : Is e' q' f' l' d' ⟨e, q, f, l, d.data.toList⟩) : e' = e ∧ q' = q ∧ f' = f ∧ l' = l ∧ d' = d := by
  unfold Is at h
  injection h with h1 h2 h3 h4 h5
  exact ⟨h1, h2, h3, h4, by rw [← mk_toList d', h5, mk_toList]⟩

set_option maxRecDepth 20000 in
set_option maxHeartbeats 1000000 in
theorem encodes_walk (e q : Int) (f l : Bool) (d : ByteArray) (w : World) :
    Calls Try.prog 5 #[ChV e q f l d] w fun x w' => x = .returned (.bool true) ∧ Below w.heap.size w w' := by
  have hb := Blk.new w 26 (ChC e q f l d)
  have hg : Below w.heap.size w (w.alloc (.cells (ChC e q f l d) 26)) := (Below.refl _ _).alloc (Nat.le_refl _) _
  obtain ⟨c0, c1, c2, c3, c4⟩ := five hb
  by_cases hd : (d.size : Int) ≤ 1024
  · rcases enc_cases ⟨e, q, f, l, d.data.toList⟩ with ⟨E, hV, hE⟩ | ⟨hok, S, hS, hS1, hS2, hV⟩
    · have HV := Lib.hid hV
      have HE : (E != 0) = true := by rw [bne_iff_ne]; exact hE
      clear hV
      go_enter Try.func5, Try.ntmps5
      go_wp2_with fail
      generalize w.alloc (.cells (ChC e q f l d) 26) = w1 at *
      refine (encode_any e q f l d w1).mono ?_
      rintro x w2 ⟨rfl, hb2⟩
      rw [HV.out]
      have hB2 := hb.older hb2 hb.lt
      have hg2 := hg.trans (hb2.mono hg.size)
      clear c0 c1 c2 c3 c4 hb hg hb2
      obtain ⟨c0, c1, c2, c3, c4⟩ := five hB2
      go_wp2_with fail
      refine (encode_ref e q f l d w2).mono ?_
      rintro x w3 ⟨rfl, hb3⟩
      rw [HV.out]
      have hg3 := hg2.trans (hb3.mono hg2.size)
      clear hB2 hg2 hb3 c0 c1 c2 c3 c4
      go_wp2_with fail
      go_ret
      exact ⟨rfl, hg3⟩
    · have HV := Lib.hid hV
      have HD := Lib.hid (fun W : World => decode_any S W (by omega))
      rw [hS] at HD
      have hdec := And.intro (Cn.decC_enc _ hok) (Cn.decE_enc _ hok)
      have HDC := Lib.hid hdec
      have hS1' : (S.size : Int) ≤ 128 := by omega
      clear hV hok hdec hS hS1 hS2
      go_enter Try.func5, Try.ntmps5
      go_wp2_with fail
      generalize w.alloc (.cells (ChC e q f l d) 26) = w1 at *
      refine (encode_any e q f l d w1).mono ?_
      rintro x w2 ⟨rfl, hb2⟩
      rw [HV.out]
      have hB2 := hb.older hb2 hb.lt
      have hg2 := hg.trans (hb2.mono hg.size)
      clear c0 c1 c2 c3 c4 hb hg hb2
      obtain ⟨c0, c1, c2, c3, c4⟩ := five hB2
      go_wp2_with fail
      refine (encode_ref e q f l d w2).mono ?_
      rintro x w3 ⟨rfl, hb3⟩
      rw [HV.out]
      have hB3 := hB2.older hb3 hB2.lt
      have hg3 := hg2.trans (hb3.mono hg2.size)
      clear hB2 hg2 hb3 c0 c1 c2 c3 c4
      go_wp2_with fail
      refine (HD.out w3).mono ?_
      rintro x w4 ⟨e', q', f', l', d', rfl, his, hb4⟩
      rw [HDC.out.1] at his
      obtain ⟨rfl, rfl, rfl, rfl, rfl⟩ := is_same his
      rw [HDC.out.2]
      have hB4 := hB3.older hb4 hB3.lt
      have hg4 := hg3.trans (hb4.mono hg3.size)
      clear hB3 hg3 hb4
      obtain ⟨c0, c1, c2, c3, c4⟩ := five (hB4.alloc (.cells (ChC e' q' f' l' d') 26))
      go_wp2_with fail
      go_ret
      exact ⟨rfl, hg4.alloc hg4.size _⟩
  · go_enter Try.func5, Try.ntmps5
    go_wp2_with fail
    go_ret
    exact ⟨rfl, hg⟩

end Go.Proofs.Ythlkfgeabpdbbaa
