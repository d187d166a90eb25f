/- The walk of PackCut: true of any record and any place. -/
import Derived.Test.YtgpijnfddjpmmaaPackRecord
import Derived.Test.YtgpijnfddjpmmaaPackUnrecord
namespace Go.Proofs.Ytgpijnfddjpmmaa
open Go.RowKit

/-- What Unrecord leaves: the document's record and error. -/
def UnrecPost (L : List UInt8) (w : World) (e : Ending) (w' : World) : Prop :=
  ∃ (k : Int) (key val : ByteArray), e = .returned (.tuple #[.agg #[.int .i64 k, .string key, .string val], .int .i64 ((Pk.unrec L).2.2.2 : Int)]) ∧
    ((Pk.unrec L).2.2.2 = 0 → k = ((Pk.unrec L).1 : Int) ∧ key.data.toList = (Pk.unrec L).2.1 ∧ val.data.toList = (Pk.unrec L).2.2.1) ∧ ((Pk.unrec L).2.2.2 ≠ 0 → k = 0 ∧ key = ⟨#[]⟩ ∧ val = ⟨#[]⟩) ∧ Below w.heap.size w w'

set_option maxRecDepth 20000 in
set_option maxHeartbeats 1000000 in
theorem unrec_any (s : ByteArray) (w : World) (hs : s.size ≤ 1048576) :
    Calls Try.prog 11 #[.string s] w (UnrecPost s.data.toList w) := by
  have hB := Blk.new w 25 #[.int .i64 0, .string ⟨#[]⟩, .string ⟨#[]⟩]
  have hg : w.grownBy (w.alloc (.cells #[.int .i64 0, .string ⟨#[]⟩, .string ⟨#[]⟩] 25)) none := gr_alloc (gr_refl w _) _
  have hsz : (w.alloc (.cells #[.int .i64 0, .string ⟨#[]⟩, .string ⟨#[]⟩] 25)).heap.size = w.heap.size + 1 := by simp
  go_enter Try.func11, Try.ntmps11
  go_wp2_with fail
  generalize w.alloc (.cells #[.int .i64 0, .string ⟨#[]⟩, .string ⟨#[]⟩] 25) = w1 at *
  generalize hBB : w.heap.size = B at *
  have HBB := Lib.hid hBB; clear hBB
  refine (read_any s w1).mono ?_
  rintro e w2 ⟨rfl, hw2⟩
  have hr2 : Blk w2 w1.heap.size 55 #[.string s] := by rw [hw2]; exact Blk.new _ _ _
  have hB2 : Blk w2 B 25 #[.int .i64 0, .string ⟨#[]⟩, .string ⟨#[]⟩] := by rw [hw2]; exact hB.alloc _
  have hg2 : w.grownBy w2 none := by rw [hw2]; exact gr_alloc hg _
  rw [hsz] at hr2
  clear hw2 hB hg
  have H := rec_any (B + 1) s w2 hr2 hs
  rw [hsz]
  clear hsz
  go_wp2_with fail
  refine H.mono ?_
  rintro e w3 ⟨k, key, val, err, rfl, herr, hz, hg3⟩
  have hB3 := hB2.grown hg3 (by intro e; injection e; omega)
  have hgg : w.grownBy w3 none := gr_new hg2 hg3 (by have := HBB.out; omega)
  obtain ⟨⟨c0, c1, c2⟩, f0, f1, f2⟩ := three_cells hB3
  have hlt := hB3.lt
  have HB3 := Lib.hid hB3
  clear H hB3 hB2 hr2 hg2 hg3
  by_cases h1 : (Pk.unrec s.data.toList).2.2.2 = 0
  · obtain ⟨rfl, hk2, hk3⟩ := hz h1
    have HZ := Lib.hid (And.intro hk2 hk3)
    have H1 := Lib.hid h1
    have he : err = 0 := by omega
    subst he
    clear h1 hz hk2 hk3 herr
    go_wp2_with fail
    refine bodyPost_ret (results_rec rfl _ _ B _ _ _ rfl ((HB3.out.s3 _ _ _).alloc _)) rfl ⟨_, key, val, ?_, fun _ => ⟨rfl, HZ.out⟩, fun h => absurd H1.out h, ?_⟩
    · rw [H1.out]; rfl
    · exact gr_to_below (gr_alloc (gr_s3 hgg (Nat.le_of_eq HBB.out) _ _ _) _)
  · have H1 := Lib.hid h1
    have he : (err != 0) = true := by rw [bne_iff_ne]; omega
    have HE := Lib.hid herr
    clear h1 hz herr
    go_wp2_with fail
    refine bodyPost_ret (results_rec rfl _ _ B _ _ _ rfl ((HB3.out.s3 _ _ _).alloc _)) rfl ⟨0, ⟨#[]⟩, ⟨#[]⟩, ?_, fun h => absurd h H1.out, fun _ => ⟨rfl, rfl, rfl⟩, ?_⟩
    · rw [← HE.out]; rfl
    · exact gr_to_below (gr_alloc (gr_s3 hgg (Nat.le_of_eq HBB.out) _ _ _) _)

theorem tmod_two (k : Int) : -2 < k.tmod 2 ∧ k.tmod 2 < 2 := ⟨Int.lt_tmod_of_pos k (by omega), Int.tmod_lt_of_pos k (by omega)⟩

theorem kind_of (k : Int) : wrap64 (1 + (wrap64 (k.tmod 2 + 2)).tmod 2) = 1 ∨ wrap64 (1 + (wrap64 (k.tmod 2 + 2)).tmod 2) = 2 := by
  obtain ⟨h1, h2⟩ := tmod_two k
  rcases (show k.tmod 2 = -1 ∨ k.tmod 2 = 0 ∨ k.tmod 2 = 1 by omega) with h | h | h <;> rw [h] <;> simp [wrap64]

theorem place_of (a : Int) (n : Nat) (h0 : 0 < n) (hn : n ≤ 4096) : ∃ j : Nat, j < n ∧ (wrap64 (a.tmod (n : Int) + (n : Int))).tmod (n : Int) = (j : Int) := by
  have h1 := Int.lt_tmod_of_pos a (show (0 : Int) < (n : Int) by omega)
  have h2 := Int.tmod_lt_of_pos a (show (0 : Int) < (n : Int) by omega)
  generalize a.tmod (n : Int) = t at *
  have e : wrap64 (t + (n : Int)) = t + (n : Int) := by unfold wrap64; omega
  rw [e]
  have h3 : 0 ≤ (t + (n : Int)).tmod (n : Int) := Int.tmod_nonneg _ (by omega)
  have h4 := Int.tmod_lt_of_pos (t + (n : Int)) (show (0 : Int) < (n : Int) by omega)
  exact ⟨((t + (n : Int)).tmod (n : Int)).toNat, by omega, by omega⟩

/-- What is cut short is too short, what goes on is not of the form: of a record. -/
theorem cut_facts {K : Int} (hK : K = 1 ∨ K = 2) (key val : List UInt8) (h1 : key.length ≤ 1024) (h2 : val.length ≤ 1024) :
    0 < (Pk.recd K key val).length ∧ (Pk.recd K key val).length ≤ 4096 ∧ (∀ j, j < (Pk.recd K key val).length → (Pk.unrec ((Pk.recd K key val).take j)).2.2.2 = 20) ∧ (Pk.unrec (Pk.recd K key val ++ [120])).2.2.2 = 21 := by
  have hc := Pk.code_len8 _ (Pk.cl_le K)
  have hk := Pk.code_len8 key.length (by omega)
  have hv := Pk.code_len8 val.length (by omega)
  refine ⟨Pk.recd_len K key val, ?_, ?_, ?_⟩
  · unfold Pk.recd Pk.texted
    simp only [List.length_append]
    split <;> simp only [List.length_append, List.length_nil] <;> omega
  · intro j hj
    rcases hK with rfl | rfl
    · rw [Pk.unrec_cut_put key val (by omega) (by omega) j hj]
    · rw [Pk.unrec_cut_del key val (by omega) j hj]
  · rcases hK with rfl | rfl
    · rw [Pk.unrec_back_put key val _ (by omega) (by omega), if_neg (by simp)]
    · rw [Pk.unrec_back_del key val _ (by omega), if_neg (by simp)]

set_option maxRecDepth 20000 in
set_option maxHeartbeats 1000000 in
theorem cut_walk (k : Int) (key val : ByteArray) (at_ : Int) (w : World) :
    Calls Try.prog 4 #[.agg #[.int .i64 k, .string key, .string val], .int .i64 at_] w fun e w' => e = .returned (.bool true) ∧ Below w.heap.size w w' := by
  by_cases hl1 : (key.size : Int) ≤ 1024
  · by_cases hl2 : (val.size : Int) ≤ 1024
    · have hkind := kind_of k
      obtain ⟨K, hK⟩ : ∃ K, wrap64 (1 + (wrap64 (k.tmod 2 + 2)).tmod 2) = K := ⟨_, rfl⟩
      rw [hK] at hkind
      have hB := (Blk.new w 25 #[.int .i64 K, .string key, .string val])
      have hg : w.grownBy (w.alloc (.cells #[.int .i64 K, .string key, .string val] 25)) none := gr_alloc (gr_refl w _) _
      obtain ⟨hR1, hR2, hR3, hR4⟩ := cut_facts hkind key.data.toList val.data.toList (by rw [toList_len]; omega) (by rw [toList_len]; omega)
      have HA := Lib.hid (fun W : World => record_any K key val W (by omega) (by omega))
      have HR := Lib.hid (fun W : World => record_ref K key val W (by omega) (by omega))
      generalize Pk.recd K key.data.toList val.data.toList = R at *
      obtain ⟨j, hj, hE⟩ := place_of at_ R.length hR1 hR2
      have h3 := hR3 j hj
      rw [← toList_mk R, ← head_list] at h3
      have HR3 := Lib.hid h3; have HR4 := Lib.hid hR4
      have hx : ((⟨R.toArray⟩ : ByteArray).extract 0 j).size ≤ 1048576 := by rw [← toList_len, head_list, toList_mk, List.length_take]; omega
      obtain ⟨S, hS⟩ : ∃ S : ByteArray, (⟨R.toArray⟩ : ByteArray) ++ (⟨#[120]⟩ : ByteArray) = S := ⟨_, rfl⟩
      have hSl : S.data.toList = R ++ [120] := by rw [← hS]; exact congrArg (fun x : ByteArray => x.data.toList) (str_adds R [120]) |>.trans (toList_mk _)
      have hS1 : S.size ≤ 1048576 := by rw [← toList_len, hSl, List.length_append, List.length_singleton]; omega
      have h4 := hR4
      rw [← hSl] at h4
      have HS4 := Lib.hid h4
      have hno : ¬ 9223372036854775807 < R.length + 1 := by omega
      clear hSl h4
      have hjn : (j : Int) ≤ (R.length : Int) := by omega
      have hn0 : ((R.length : Int) == 0) = false := by rw [beq_eq_false_iff_ne]; omega
      clear h3 hR3 hR4 hkind
      go_enter Try.func4, Try.ntmps4
      go_wp2_with fail
      generalize w.alloc (.cells #[.int .i64 K, .string key, .string val] 25) = w1 at *
      clear hK
      refine (HA.out w1).mono ?_
      rintro e w2 ⟨rfl, hb2⟩
      have hB2 := hB.older hb2 hB.lt
      have hg2 := gr_trans hg (gr_of_below hb2 none)
      obtain ⟨⟨c0, c1, c2⟩, f0, f1, f2⟩ := three_cells hB2
      clear hB hg hb2 HA
      go_wp2_with fail
      refine (HR.out w2).mono ?_
      rintro e w3 ⟨rfl, hb3⟩
      have hg3 := gr_trans hg2 (gr_of_below hb3 none)
      clear hB2 hg2 hb3 HR c0 c1 c2 f0 f1 f2
      go_wp2_with fail
      refine (unrec_any _ w3 hx).mono ?_
      rintro e w4 ⟨k1, key1, val1, rfl, -, -, hb4⟩
      rw [HR3.out]
      have hg4 := gr_trans hg3 (gr_of_below hb4 none)
      clear hb4 hg3 HR3
      go_wp2_with fail
      have hg5 := gr_alloc hg4 (.cells #[.int .i64 k1, .string key1, .string val1] 25)
      generalize w4.alloc (.cells #[.int .i64 k1, .string key1, .string val1] 25) = w5 at *
      refine (unrec_any _ w5 hS1).mono ?_
      rintro e w6 ⟨k2, key2, val2, rfl, -, -, hb6⟩
      rw [HS4.out]
      have hg6 := gr_trans hg5 (gr_of_below hb6 none)
      clear hb6 hg5 hg4 HS4
      go_wp2_with fail
      go_ret
      exact ⟨rfl, gr_to_below (gr_alloc hg6 _)⟩
    · go_enter Try.func4, Try.ntmps4
      go_wp2_with fail
      go_ret
      exact ⟨rfl, (Below.refl _ _).alloc (Nat.le_refl _) _⟩
  · go_enter Try.func4, Try.ntmps4
    go_wp2_with fail
    go_ret
    exact ⟨rfl, (Below.refl _ _).alloc (Nat.le_refl _) _⟩

end Go.Proofs.Ytgpijnfddjpmmaa
