/- What the document's Decode comes to, whatever bytes. -/
import Derived.Test.YtimcepoleboldaaGreatDoorChunkRefEncode
import Derived.Test.YtimcepoleboldaaGreatDoorChunkDecode
import Derived.Test.YtimcepoleboldaaGreatDoorPackRefRead
namespace Go.Proofs.YtimcepoleboldaaGreatDoor
open Go.RowKit

theorem dec_zero {s : List UInt8} (h : ¬ Cn.isC s) : Cn.decE s = 21 ∧ Cn.decC s = Cn.zero := by
  unfold Cn.decE Cn.decC; rw [if_neg h, if_neg h]; exact ⟨rfl, rfl⟩

theorem short_none (s : List UInt8) (h : s.length < 4) : ¬ Cn.isC s := fun hi => by have := (Cn.ref_got s hi).1; omega

/-- What was read of the bytes ahead of the last four, in letters. -/
theorem ref_letters {u s1 s2 s3 s4 d : ByteArray} {s : List UInt8} {n1 m1 n2 m2 n3 m3 m4 : Nat} (hu : u.data.toList = Cn.cut4 s) (h1 : Pk.num u.data.toList = (n1, m1, s1.data.toList)) (h2 : Pk.num s1.data.toList = (n2, m2, s2.data.toList))
    (h3 : Pk.num s2.data.toList = (n3, m3, s3.data.toList)) (h4 : Pk.text s3.data.toList = (d.data.toList, m4, s4.data.toList)) :
    (Cn.clean s ↔ m1 = 0 ∧ m2 = 0 ∧ m3 = 0 ∧ m4 = 0 ∧ n3 ≤ 3) ∧ Cn.got (Cn.cut4 s) = ⟨(n1 : Int), (n2 : Int), decide (n3 % 2 = 1), decide (n3 / 2 % 2 = 1), d.data.toList⟩ := by
  rw [← hu, got_letters h1 h2 h3 h4]
  refine ⟨?_, rfl⟩
  unfold Cn.clean Cn.r4 Cn.r3 Cn.r2 Cn.r1
  rw [← hu, h1]
  simp only [h2, h3, h4]

/-- The ways of the document's decoding, where nothing is wrong in the reading. -/
theorem ref_cases (s : List UInt8) (c : Cn.Chu) (h : Cn.got (Cn.cut4 s) = c) :
    (Cn.encE c = 0 ∧ Cn.encB c = s ∧ Cn.decE s = 0 ∧ Cn.decC s = c) ∨ (Cn.encE c ≠ 0 ∧ Cn.decE s = 21 ∧ Cn.decC s = Cn.zero) ∨ (Cn.encE c = 0 ∧ Cn.encB c ≠ s ∧ Cn.decE s = 21 ∧ Cn.decC s = Cn.zero) := by
  subst h
  by_cases hi : Cn.isC s
  · obtain ⟨_, _, e, h1, h2⟩ := Cn.ref_got s hi
    rw [e]
    exact dec_cases s _ rfl |>.elim (fun h => .inl h) (fun h => .inr h)
  · have h0 := Cn.ref_none s hi
    obtain ⟨h1, h2⟩ := dec_zero hi
    by_cases hE : Cn.encE (Cn.got (Cn.cut4 s)) = 0
    · exact .inr (.inr ⟨hE, fun hB => h0 ⟨hE, hB⟩, h1, h2⟩)
    · exact .inr (.inl ⟨hE, h1, h2⟩)

theorem rem_two (n : Nat) : ((n : Int) % 2 == 1) = decide (n % 2 = 1) := by
  by_cases h : n % 2 = 1
  · rw [decide_eq_true h, beq_iff_eq]; omega
  · rw [decide_eq_false h, beq_eq_false_iff_ne]; omega
theorem gt_one (n : Nat) (h : n ≤ 3) : decide (1 < (n : Int)) = decide (n / 2 % 2 = 1) := by
  by_cases h1 : n / 2 % 2 = 1
  · rw [decide_eq_true h1, decide_eq_true_iff]; omega
  · rw [decide_eq_false h1, decide_eq_false_iff_not]; omega

set_option maxRecDepth 20000 in
set_option maxHeartbeats 1000000 in
theorem decode_ref (s : ByteArray) (w : World) (hs : s.size ≤ 1048576) :
    Calls Tryz.prog 76 #[.string s] w (DecPost s.data.toList w) := by
  have hB := Blk.new w 95 #[.int .i64 0, .int .i64 0, .bool false, .bool false, .string ⟨#[]⟩]
  have hg : w.grownBy (w.alloc (.cells #[.int .i64 0, .int .i64 0, .bool false, .bool false, .string ⟨#[]⟩] 95)) none := gr_alloc (gr_refl w _) _
  by_cases h4 : s.size < 4
  · have HN := Lib.hid (dec_zero (short_none s.data.toList (by rw [toList_len]; exact h4)))
    have h4' : (s.size : Int) < 4 := by omega
    go_enter Tryz.func76, Tryz.ntmps76
    go_wp2_with fail
    refine bodyPost_ret (results_chu rfl _ _ w.heap.size _ _ _ _ _ rfl hB) rfl ⟨0, 0, false, false, ⟨#[]⟩, ?_, ?_, gr_to_below hg⟩
    · rw [HN.out.1]; rfl
    · unfold Is; rw [HN.out.2]; rfl
  · have hu : (s.extract 0 (s.size - 4)).data.toList = Cn.cut4 s.data.toList := by
      rw [head_list]; unfold Cn.cut4; rw [toList_len]
    have hus : (s.extract 0 (s.size - 4)).size ≤ 1048576 := by
      rw [← toList_len, head_list, List.length_take]; rw [toList_len]; omega
    have h4' : 4 ≤ (s.size : Int) := by omega
    have hsub : (s.size : Int) - 4 = ((s.size - 4 : Nat) : Int) := by omega
    go_enter Tryz.func76, Tryz.ntmps76
    go_wp2_with fail
    have hsz : (w.alloc (.cells #[.int .i64 0, .int .i64 0, .bool false, .bool false, .string ⟨#[]⟩] 95)).heap.size = w.heap.size + 1 := by simp
    generalize w.alloc (.cells #[.int .i64 0, .int .i64 0, .bool false, .bool false, .string ⟨#[]⟩] 95) = w1 at *
    generalize s.extract 0 (s.size - 4) = u at *
    generalize hBB : w.heap.size = B at *
    have HBB := Lib.hid hBB; clear hBB hsub
    refine (refread_any u w1).mono ?_
    rintro x w2 ⟨rfl, hw2⟩
    have hr2 : Blk w2 w1.heap.size 169 #[.string u] := by rw [hw2]; exact Blk.new _ _ _
    have hB2 : Blk w2 B 95 #[.int .i64 0, .int .i64 0, .bool false, .bool false, .string ⟨#[]⟩] := by rw [hw2]; exact hB.alloc _
    have hg2 : w.grownBy w2 none := by rw [hw2]; exact gr_alloc hg _
    have hsz2 : w2.heap.size = B + 2 := by rw [hw2]; simp [hsz]
    rw [hsz] at hr2 ⊢
    clear hw2 hB hg hsz
    have hnew : w.heap.size ≤ B + 1 := by have := HBB.out; omega
    have hC3 := Blk.new w2 95 #[.int .i64 0, .int .i64 0, .bool false, .bool false, .string ⟨#[]⟩]
    rw [hsz2] at hC3
    have hr3 := hr2.alloc (.cells #[.int .i64 0, .int .i64 0, .bool false, .bool false, .string ⟨#[]⟩] 95)
    have hB3 := hB2.alloc (.cells #[.int .i64 0, .int .i64 0, .bool false, .bool false, .string ⟨#[]⟩] 95)
    have hg3 := gr_alloc hg2 (.cells #[.int .i64 0, .int .i64 0, .bool false, .bool false, .string ⟨#[]⟩] 95)
    clear hr2 hB2 hg2
    go_wp2_with fail
    generalize w2.alloc (.cells #[.int .i64 0, .int .i64 0, .bool false, .bool false, .string ⟨#[]⟩] 95) = w3 at *
    clear hsz2
    refine (refnum_any (B + 1) u w3 hr3 hus).mono ?_
    rintro x w4 ⟨n1, m1, s1, rfl, hr4, hg4, k1⟩
    have hB4 := hB3.grown hg4 (by intro e; injection e; omega)
    have hC4 := hC3.grown hg4 (by intro e; injection e; omega)
    have hgg4 := gr_new hg3 hg4 hnew
    have hz1 : s1.size ≤ 1048576 := by
      have := Pk.num_len u.data.toList
      rw [k1] at this; simp only [toList_len] at this; omega
    have K1 := Lib.hid k1
    clear k1 hr3 hB3 hC3 hg3 hg4
    go_wp2_with fail
    refine (refnum_any (B + 1) s1 w4 hr4 hz1).mono ?_
    rintro x w5 ⟨n2, m2, s2, rfl, hr5, hg5, k2⟩
    have hB5 := hB4.grown hg5 (by intro e; injection e; omega)
    have hC5 := hC4.grown hg5 (by intro e; injection e; omega)
    have hgg5 := gr_new hgg4 hg5 hnew
    have hz2 : s2.size ≤ 1048576 := by
      have := Pk.num_len s1.data.toList
      rw [k2] at this; simp only [toList_len] at this; omega
    have K2 := Lib.hid k2
    clear k2 hr4 hB4 hC4 hgg4 hg5 hz1
    go_wp2_with fail
    refine (refnum_any (B + 1) s2 w5 hr5 hz2).mono ?_
    rintro x w6 ⟨n3, m3, s3, rfl, hr6, hg6, k3⟩
    have hB6 := hB5.grown hg6 (by intro e; injection e; omega)
    have hC6 := hC5.grown hg6 (by intro e; injection e; omega)
    have hgg6 := gr_new hgg5 hg6 hnew
    have hz3 : s3.size ≤ 1048576 := by
      have := Pk.num_len s2.data.toList
      rw [k3] at this; simp only [toList_len] at this; omega
    have K3 := Lib.hid k3
    clear k3 hr5 hB5 hC5 hgg5 hg6 hz2
    go_wp2_with fail
    refine (reftext_any (B + 1) s3 w6 hr6 hz3).mono ?_
    rintro x w7 ⟨d, m4, s4, rfl, hr7, hg7, k4⟩
    have hB7 := hB6.grown hg7 (by intro e; injection e; omega)
    have hC7 := hC6.grown hg7 (by intro e; injection e; omega)
    have hgg7 := gr_new hgg6 hg7 hnew
    obtain ⟨hclean, hgot⟩ := ref_letters hu K1.out K2.out K3.out k4
    clear k4 hr6 hB6 hC6 hgg6 hg7 hz3 K1 K2 K3 hu hus hr7
    obtain ⟨⟨c0, c1, c2, c3, c4⟩, f0, f1, f2, f3, f4⟩ := five_cells hB7
    by_cases hcl : Cn.clean s.data.toList
    · obtain ⟨rfl, rfl, rfl, rfl, hn3⟩ := hclean.1 hcl
      have hn3' : (n3 : Int) ≤ 3 := by omega
      have hd := ref_cases s.data.toList _ hgot
      have hfl := rem_two n3
      have hfl2 := gt_one n3 hn3
      obtain ⟨F, hF⟩ : ∃ F, decide (n3 % 2 = 1) = F := ⟨_, rfl⟩
      obtain ⟨L, hL⟩ : ∃ L, decide (n3 / 2 % 2 = 1) = L := ⟨_, rfl⟩
      rw [hF, hL] at hd
      rw [hF] at hfl
      rw [hL] at hfl2
      obtain ⟨⟨a0, a1, a2, a3, a4⟩, b0, b1, b2, b3, b4⟩ := five_cells hC7
      have hlt := hC7.lt
      have HC := Lib.hid (hC7.t5 (.int .i64 (n1 : Int)) (.int .i64 (n2 : Int)) (.bool F) (.bool L) (.string d))
      have HG := Lib.hid (gr_t5 hgg7 (Nat.le_trans hnew (by omega : B + 1 ≤ B + 2)) (.int .i64 (n1 : Int)) (.int .i64 (n2 : Int)) (.bool F) (.bool L) (.string d))
      have HB := Lib.hid (((((hB7.apart (p := ⟨B + 2, 0, none⟩) (by show B ≠ B + 2; omega) (.int .i64 (n1 : Int))).apart (p := ⟨B + 2, 1, none⟩) (by show B ≠ B + 2; omega) (.int .i64 (n2 : Int))).apart (p := ⟨B + 2, 2, none⟩) (by show B ≠ B + 2; omega) (.bool F)).apart (p := ⟨B + 2, 3, none⟩) (by show B ≠ B + 2; omega) (.bool L)).apart (p := ⟨B + 2, 4, none⟩) (by show B ≠ B + 2; omega) (.string d))
      clear hcl hclean hgot hB7 hC7 hF hL hn3 c0 c1 c2 c3 c4 f0 f1 f2 f3 f4
      go_wp2_with fail
      generalize ((((w7.setCell ⟨B + 2, 0, none⟩ (.int .i64 (n1 : Int))).setCell ⟨B + 2, 1, none⟩ (.int .i64 (n2 : Int))).setCell ⟨B + 2, 2, none⟩ (.bool F)).setCell ⟨B + 2, 3, none⟩ (.bool L)).setCell ⟨B + 2, 4, none⟩ (.string d) = w8 at *
      have hC8 := HC.out
      have hB8 := HB.out
      have hg8 := HG.out
      clear HC HB HG a0 a1 a2 a3 a4 b0 b1 b2 b3 b4 hlt hgg7 hfl hfl2
      refine (encode_ref (n1 : Int) (n2 : Int) F L d w8).mono ?_
      rintro x w9 ⟨rfl, hb⟩
      have hB9 := hB8.older hb hB8.lt
      have hC9 := hC8.older hb hC8.lt
      have hg9 := gr_trans hg8 (gr_of_below hb none)
      clear hB8 hC8 hg8 hb
      unfold EncV
      generalize Cn.encE (⟨(n1 : Int), (n2 : Int), F, L, d.data.toList⟩ : Cn.Chu) = E at *
      generalize hS : (⟨(Cn.encB (⟨(n1 : Int), (n2 : Int), F, L, d.data.toList⟩ : Cn.Chu)).toArray⟩ : ByteArray) = S at *
      have hSl : Cn.encB (⟨(n1 : Int), (n2 : Int), F, L, d.data.toList⟩ : Cn.Chu) = S.data.toList := by rw [← hS]
      rw [hSl] at hd
      clear hS hSl
      obtain ⟨⟨c0, c1, c2, c3, c4⟩, f0, f1, f2, f3, f4⟩ := five_cells hB9
      obtain ⟨a0, a1, a2, a3, a4⟩ := five hC9
      have HB5 := Lib.hid hB9
      have hlt := hB9.lt
      clear hB9 hC9
      rcases hd with ⟨hE, hSs, hdE, hdC⟩ | ⟨hE, hdE, hdC⟩ | ⟨hE, hSs, hdE, hdC⟩
      · subst hE
        have e1 : S = s := by rw [← mk_toList S, hSs, mk_toList]
        subst e1
        have HD := Lib.hid (And.intro hdE hdC)
        clear hSs hdE hdC
        go_wp2_with fail
        refine bodyPost_ret (results_chu rfl _ _ B _ _ _ _ _ rfl (HB5.out.t5 _ _ _ _ _)) rfl ⟨(n1 : Int), (n2 : Int), F, L, d, ?_, ?_, gr_to_below (gr_t5 hg9 (Nat.le_of_eq HBB.out) _ _ _ _ _)⟩
        · rw [HD.out.1]; rfl
        · unfold Is; rw [HD.out.2]
      · have HD := Lib.hid (And.intro hdE hdC)
        have hE' : ((E : Int) != 0) = true := by rw [bne_iff_ne]; omega
        have hE2 : ¬ (E : Int) = 0 := by omega
        clear hE hdE hdC
        go_wp2_with fail
        refine bodyPost_ret (results_chu rfl _ _ B _ _ _ _ _ rfl (HB5.out.t5 _ _ _ _ _)) rfl ⟨0, 0, false, false, ⟨#[]⟩, ?_, ?_, gr_to_below (gr_t5 hg9 (Nat.le_of_eq HBB.out) _ _ _ _ _)⟩
        · rw [HD.out.1]; rfl
        · unfold Is; rw [HD.out.2]; rfl
      · subst hE
        have e1 : (S.toList == s.toList) = false := neq_list (fun h => hSs (by rw [h]))
        have HD := Lib.hid (And.intro hdE hdC)
        clear hSs hdE hdC
        go_wp2_with fail
        refine bodyPost_ret (results_chu rfl _ _ B _ _ _ _ _ rfl (HB5.out.t5 _ _ _ _ _)) rfl ⟨0, 0, false, false, ⟨#[]⟩, ?_, ?_, gr_to_below (gr_t5 hg9 (Nat.le_of_eq HBB.out) _ _ _ _ _)⟩
        · rw [HD.out.1]; rfl
        · unfold Is; rw [HD.out.2]; rfl
    · have hno : ¬ Cn.isC s.data.toList := fun hi => hcl (Cn.ref_got _ hi).2.1
      have HN := Lib.hid (dec_zero hno)
      have hcl' : ¬ (m1 = 0 ∧ m2 = 0 ∧ m3 = 0 ∧ m4 = 0 ∧ n3 ≤ 3) := fun h => hcl (hclean.2 h)
      have HB7 := Lib.hid hB7
      clear hcl hno hclean hgot hB7 hC7
      rcases (show (¬ (m1 : Int) = 0) ∨ ((m1 : Int) = 0 ∧ ¬ (m2 : Int) = 0) ∨ ((m1 : Int) = 0 ∧ (m2 : Int) = 0 ∧ ¬ (m3 : Int) = 0) ∨ ((m1 : Int) = 0 ∧ (m2 : Int) = 0 ∧ (m3 : Int) = 0 ∧ ¬ (m4 : Int) = 0) ∨ ((m1 : Int) = 0 ∧ (m2 : Int) = 0 ∧ (m3 : Int) = 0 ∧ (m4 : Int) = 0 ∧ 3 < (n3 : Int)) by omega) with g1 | ⟨g1, g2⟩ | ⟨g1, g2, g3⟩ | ⟨g1, g2, g3, g4⟩ | ⟨g1, g2, g3, g4, g5⟩
      all_goals
        clear hcl'
        go_wp2_with fail
      all_goals
        refine bodyPost_ret (results_chu rfl _ _ B _ _ _ _ _ rfl (HB7.out.t5 _ _ _ _ _)) rfl ⟨0, 0, false, false, ⟨#[]⟩, ?_, ?_, gr_to_below (gr_t5 hgg7 (Nat.le_of_eq HBB.out) _ _ _ _ _)⟩
        · rw [HN.out.1]; rfl
        · unfold Is; rw [HN.out.2]; rfl

end Go.Proofs.YtimcepoleboldaaGreatDoor
