/- The walk of ChunkDecodes: true of any bytes. -/
import Derived.Test.YthlkfgeabpdbbaaChunkRefDecode
import Derived.Test.YthlkfgeabpdbbaaChunkEncodesWalk
namespace Go.Proofs.Ythlkfgeabpdbbaa
open Go.RowKit

theorem is_two {e q e' q' : Int} {f l f' l' : Bool} {d d' : ByteArray} {c : Cn.Chu} (h : Is e q f l d c) (h' : Is e' q' f' l' d' c) : e' = e ∧ q' = q ∧ f' = f ∧ l' = l ∧ d' = d := by
  unfold Is at h
  subst h
  exact is_same h'

/-- The ways of decoding, with what encoding then gives. -/
theorem decs (s : ByteArray) : ((Cn.decE s.data.toList : Nat) = 0 ∧ EncV (Cn.decC s.data.toList) = .tuple #[.string s, .int .i64 0]) ∨ ((Cn.decE s.data.toList : Nat) = 21 ∧ ∃ S E, EncV (Cn.decC s.data.toList) = .tuple #[.string S, .int .i64 E]) := by
  by_cases hE : Cn.decE s.data.toList = 0
  · obtain ⟨hok, hs⟩ := Cn.enc_dec _ hE
    exact .inl ⟨hE, encV_letters' _ hok s hs.symm⟩
  · have h21 : Cn.decE s.data.toList = 21 := by
      unfold Cn.decE at hE ⊢
      split at hE
      · exact absurd rfl hE
      · rename_i h; rw [if_neg h]
    exact .inr ⟨h21, _, _, rfl⟩

set_option maxRecDepth 20000 in
set_option maxHeartbeats 1000000 in
theorem decodes_walk (s : ByteArray) (w : World) (_ : s.size ≤ maxLen) :
    Calls Try.prog 6 #[.string s] w fun x w' => x = .returned (.bool true) ∧ Below w.heap.size w w' := by
  by_cases hs : (s.size : Int) ≤ 1024
  · have HA := Lib.hid (fun W : World => decode_any s W (by omega))
    have HR := Lib.hid (fun W : World => decode_ref s W (by omega))
    have hD := decs s
    go_enter Try.func6, Try.ntmps6
    go_wp2_with fail
    refine (HA.out w).mono ?_
    rintro x w1 ⟨e, q, f, l, d, rfl, his, hb1⟩
    have hb := Blk.new w1 26 (ChC e q f l d)
    have hg := hb1.alloc hb1.size (.cells (ChC e q f l d) 26)
    go_wp2_with fail
    generalize w1.alloc (.cells (ChC e q f l d) 26) = w2 at *
    generalize w1.heap.size = B1 at *
    clear hb1 HA
    refine (HR.out w2).mono ?_
    rintro x w3 ⟨e', q', f', l', d', rfl, his', hb3⟩
    obtain ⟨rfl, rfl, rfl, rfl, rfl⟩ := is_two his his'
    have hB3 := hb.older hb3 hb.lt
    have hg3 := hg.trans (hb3.mono hg.size)
    have hg4 := hg3.alloc hg3.size (.cells (ChC e' q' f' l' d') 26)
    obtain ⟨c0, c1, c2, c3, c4⟩ := five (hB3.alloc (.cells (ChC e' q' f' l' d') 26))
    clear hb hg hb3 HR his'
    have his2 : (⟨e', q', f', l', d'.data.toList⟩ : Cn.Chu) = Cn.decC s.data.toList := his
    rcases hD with ⟨h0, hV⟩ | ⟨h0, S, E, hV⟩
    · rw [h0]
      rw [← his2] at hV
      have HV := Lib.hid hV
      clear h0 hV his his2
      go_wp2_with fail
      refine (encode_any e' q' f' l' d' _).mono ?_
      rintro x w5 ⟨rfl, hb5⟩
      rw [HV.out]
      have hg5 := hg4.trans (hb5.mono hg4.size)
      go_wp2_with fail
      go_ret
      exact ⟨rfl, hg5⟩
    · rw [h0]
      rw [← his2] at hV
      have HV := Lib.hid hV
      clear h0 hV his his2
      go_wp2_with fail
      refine (encode_any e' q' f' l' d' _).mono ?_
      rintro x w5 ⟨rfl, hb5⟩
      rw [HV.out]
      have hg5 := hg4.trans (hb5.mono hg4.size)
      go_wp2_with fail
      go_ret
      exact ⟨rfl, hg5⟩
  · go_enter Try.func6, Try.ntmps6
    go_wp2_with fail
    go_ret
    exact ⟨rfl, Below.refl _ _⟩

end Go.Proofs.Ythlkfgeabpdbbaa
