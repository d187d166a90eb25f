/- What Encode comes to, the program's: the document's bytes, or its error. -/
import Derived.Test.YtimcepoleboldaaGreatDoorChunkFits
import Derived.Test.YtimcepoleboldaaGreatDoorChunkCrc
import Derived.Test.YtimcepoleboldaaGreatDoorPackText
namespace Go.Proofs.YtimcepoleboldaaGreatDoor
open Go.RowKit

/-- The bytes and the error, as Encode returns them. -/
def EncV (c : Cn.Chu) : Value := .tuple #[.string ⟨(Cn.encB c).toArray⟩, .int .i64 ((Cn.encE c : Nat) : Int)]

theorem encV_arg (c : Cn.Chu) (h : c.e < 0 ∨ 1099511627776 < c.e ∨ c.q < 0 ∨ 1099511627776 < c.q) : EncV c = .tuple #[.string ⟨#[]⟩, .int .i64 1] := by
  have e : Cn.encE c = 1 := by unfold Cn.encE; rw [if_pos h]
  unfold EncV Cn.encB
  rw [e]
  rfl
theorem encV_size (c : Cn.Chu) (h : ¬ (c.e < 0 ∨ 1099511627776 < c.e ∨ c.q < 0 ∨ 1099511627776 < c.q)) (h2 : 96 < c.d.length) : EncV c = .tuple #[.string ⟨#[]⟩, .int .i64 31] := by
  have e : Cn.encE c = 31 := by unfold Cn.encE; rw [if_neg h, if_pos h2]
  unfold EncV Cn.encB
  rw [e]
  rfl
theorem encV_ok (c : Cn.Chu) (h : Cn.ok c) : EncV c = .tuple #[.string ⟨(Cn.sealed (Cn.body c)).toArray⟩, .int .i64 0] := by
  unfold EncV
  rw [Cn.encE_of_ok h, Cn.encB_of_ok h]
  rfl

theorem adds (a b : List UInt8) : (⟨a.toArray⟩ : ByteArray) ++ (⟨b.toArray⟩ : ByteArray) = ⟨(a ++ b).toArray⟩ := by
  apply ByteArray.ext
  simp

theorem body_add (c : Cn.Chu) : ((([] ++ Pk.code (Pk.cl c.e)) ++ Pk.code (Pk.cl c.q)) ++ Pk.code (Pk.cl ((Cn.flags c.f c.l : Nat) : Int))) ++ Pk.texted c.d = Cn.body c := by
  rw [List.nil_append, Pk.cl_nat _ (by have := Cn.flags_le c.f c.l; omega)]
  rfl

set_option maxRecDepth 20000 in
set_option maxHeartbeats 1000000 in
theorem encode_any (e q : Int) (f l : Bool) (d : ByteArray) (w : World) :
    Calls Tryz.prog 116 #[ChV e q f l d] w fun x w' => x = .returned (EncV ⟨e, q, f, l, d.data.toList⟩) ∧ Below w.heap.size w w' := by
  have hb := Blk.new w 95 (ChC e q f l d)
  have hg : w.grownBy (w.alloc (.cells (ChC e q f l d) 95)) none := gr_alloc (gr_refl w _) _
  have hsz : (w.alloc (.cells (ChC e q f l d) 95)).heap.size = w.heap.size + 1 := by simp
  by_cases he : 0 ≤ e ∧ e ≤ 1099511627776
  · by_cases hq : 0 ≤ q ∧ q ≤ 1099511627776
    · by_cases hd : d.size ≤ 96
      · have hok : Cn.ok ⟨e, q, f, l, d.data.toList⟩ := ⟨he.1, he.2, hq.1, hq.2, by rw [toList_len]; exact hd⟩
        have hbody := body_add ⟨e, q, f, l, d.data.toList⟩
        have hlen := Cn.body_le _ hok
        have hV := encV_ok _ hok
        have l1 := Cn.code_len6 _ (Cn.cl_small he.1 he.2).2
        have l2 := Cn.code_len6 _ (Cn.cl_small hq.1 hq.2).2
        have l3 := Pk.code_len8 _ (Pk.cl_le ((Cn.flags f l : Nat) : Int))
        have hadd := adds (Cn.body ⟨e, q, f, l, d.data.toList⟩) (Cn.le4 (Plain.crc (Cn.body ⟨e, q, f, l, d.data.toList⟩)))
        have HH := Lib.hid (And.intro hbody (And.intro hV hadd))
        have HE := Lib.hid he; have HQ := Lib.hid hq
        have hno : ¬ 9223372036854775807 < (Cn.body ⟨e, q, f, l, d.data.toList⟩).length + 4 := by omega
        generalize hB : Cn.body ⟨e, q, f, l, d.data.toList⟩ = B at *
        clear hok hbody hV hadd he hq hB
        have hnew := Wr.new (w.alloc (.cells (ChC e q f l d) 95))
        rw [hsz] at hnew
        have hb1 := hb.alloc (.cells #[.pointer none, .int .i64 0] 155)
        have hg1 := gr_alloc hg (.cells #[.pointer none, .int .i64 0] 155)
        have hB : w.heap.size ≤ w.heap.size + 1 := by omega
        have c1 := (five hb1).2.1
        have c4 := (five hb1).2.2.2.2
        have d0 := (five hb).1
        have d1 := (five hb).2.1
        have d4 := (five hb).2.2.2.2
        clear hb hg hsz
        have hdi : (d.size : Int) ≤ 96 := by omega
        go_enter Tryz.func116, Tryz.ntmps116
        go_wp2_with (go_at_call 137; (with_reducible first | refine (fits_yes e _ HE.out).mono ?_ | refine (fits_yes q _ HQ.out).mono ?_); rintro x w' ⟨rfl, rfl⟩)
        generalize (w.alloc (.cells (ChC e q f l d) 95)).alloc (.cells #[.pointer none, .int .i64 0] 155) = w1 at *
        refine (number_any (w.heap.size + 1) e [] w1 hnew (by simp)).mono ?_
        rintro x w2 ⟨rfl, hW2, hg2⟩
        have hb2 := hb1.grown hg2 (by intro e; injection e; omega)
        have hgg2 := gr_new hg1 hg2 hB
        clear hnew hg1 hg2 hb1 c1 c4 d0 d1 d4
        have c1 := (five hb2).2.1
        go_wp2_with fail
        refine (number_any (w.heap.size + 1) q _ w2 hW2 (by simp only [List.length_append, List.length_nil]; omega)).mono ?_
        rintro x w3 ⟨rfl, hW3, hg3⟩
        have hb3 := hb2.grown hg3 (by intro e; injection e; omega)
        have hgg3 := gr_new hgg2 hg3 hB
        clear hW2 hg3 hb2 hgg2 c1
        obtain ⟨c0, c1, c2, c3, c4⟩ := five hb3
        go_wp2_with fail
        refine (flags_any e q f l d w3).mono ?_
        rintro x w4 ⟨rfl, hb⟩
        have hb4 := hb3.older hb hb3.lt
        have hW4 := hW3.quiet (gr_of_below hb none)
        have hgg4 := gr_trans hgg3 (gr_of_below hb none)
        clear hW3 hb3 hgg3 c0 c1 c2 c3 c4 hb
        go_wp2_with fail
        refine (number_any (w.heap.size + 1) _ _ w4 hW4 (by simp only [List.length_append, List.length_nil]; omega)).mono ?_
        rintro x w5 ⟨rfl, hW5, hg5⟩
        have hb5 := hb4.grown hg5 (by intro e; injection e; omega)
        have hgg5 := gr_new hgg4 hg5 hB
        clear hW4 hg5 hb4 hgg4
        have c4 := (five hb5).2.2.2.2
        go_wp2_with fail
        refine (text_any (w.heap.size + 1) d _ w5 hW5 (by simp only [List.length_append, List.length_nil]; omega) (by omega)).mono ?_
        rintro x w6 ⟨rfl, hW6, hg6⟩
        have hgg6 := gr_new hgg5 hg6 hB
        clear hW5 hg6 hb5 hgg5 c4
        rw [HH.out.1] at hW6
        have hcrc := Lib.hid (fun W : World => crcBytes_any ⟨B.toArray⟩ W (by rw [size_mk]; unfold maxLen; omega))
        rw [toList_mk] at hcrc
        have hadd := HH.out.2.2
        go_wp2_with (first
          | (go_at_call 105; refine (bytes_any (w.heap.size + 1) _ _ hW6 (by omega)).mono ?_; rintro x w7 ⟨rfl, hb7⟩)
          | (go_at_call 139; refine (hcrc.out _).mono ?_; rintro x w8 ⟨rfl, hb8⟩))
        go_ret2
        exact ⟨congrArg Ending.returned HH.out.2.1.symm, ((gr_to_below hgg6).trans (hb7.mono hgg6.size)).trans (hb8.mono (by have := hgg6.size; have := hb7.size; omega))⟩
      · have hV := Lib.hid (encV_size ⟨e, q, f, l, d.data.toList⟩ (by show ¬ (e < 0 ∨ 1099511627776 < e ∨ q < 0 ∨ 1099511627776 < q); omega) (by show 96 < d.data.toList.length; rw [toList_len]; omega))
        have HE := Lib.hid he; have HQ := Lib.hid hq
        have d0 := (five hb).1
        have d1 := (five hb).2.1
        have d4 := (five hb).2.2.2.2
        have hdi : 96 < (d.size : Int) := by omega
        clear hb hsz he hq
        go_enter Tryz.func116, Tryz.ntmps116
        go_wp2_with (go_at_call 137; (with_reducible first | refine (fits_yes e _ HE.out).mono ?_ | refine (fits_yes q _ HQ.out).mono ?_); rintro x w' ⟨rfl, rfl⟩)
        go_ret2
        exact ⟨congrArg Ending.returned hV.out.symm, gr_to_below hg⟩
    · have hV := Lib.hid (encV_arg ⟨e, q, f, l, d.data.toList⟩ (by show e < 0 ∨ 1099511627776 < e ∨ q < 0 ∨ 1099511627776 < q; omega))
      have HE := Lib.hid he; have HQ := Lib.hid hq
      have d0 := (five hb).1
      have d1 := (five hb).2.1
      clear hb hsz he hq
      go_enter Tryz.func116, Tryz.ntmps116
      go_wp2_with (go_at_call 137; (with_reducible first | refine (fits_yes e _ HE.out).mono ?_ | refine (fits_no q _ HQ.out).mono ?_); rintro x w' ⟨rfl, rfl⟩)
      go_ret2
      exact ⟨congrArg Ending.returned hV.out.symm, gr_to_below hg⟩
  · have hV := Lib.hid (encV_arg ⟨e, q, f, l, d.data.toList⟩ (by show e < 0 ∨ 1099511627776 < e ∨ q < 0 ∨ 1099511627776 < q; omega))
    have HE := Lib.hid he
    have d0 := (five hb).1
    have d1 := (five hb).2.1
    clear hb hsz he
    go_enter Tryz.func116, Tryz.ntmps116
    go_wp2_with (go_at_call 137; with_reducible refine (fits_no e _ HE.out).mono ?_; rintro x w' ⟨rfl, rfl⟩)
    go_ret2
    exact ⟨congrArg Ending.returned hV.out.symm, gr_to_below hg⟩

end Go.Proofs.YtimcepoleboldaaGreatDoor
