/- What the document's head comes to. -/
import Derived.Test.YtimcepoleboldaaGreatDoorLogScan
import Derived.Test.YtimcepoleboldaaGreatDoorChunkRefDecode
namespace Go.Proofs.YtimcepoleboldaaGreatDoor
open Go.RowKit

/-- The two results of head: what the block holds, and whether it is one. -/
theorem results_hd {fn : Func} (h : fn.results = #[.cell 4 95, .tmp 5]) (tmps : Array Value) (W : World) (B : Nat) (a b c d e : Value)
    (hp : tmps.getD 4 undef = .pointer (some ⟨B, 0, none⟩)) (hb : Blk W B 95 #[a, b, c, d, e]) :
    (results fn tmps).run Tryz.prog W = .ok (.tuple #[.agg #[a, b, c, d, e], tmps.getD 5 undef]) W := by
  have hp' : tmps[4]?.getD undef = .pointer (some ⟨B, 0, none⟩) := by simpa using hp
  simp [results, h, hp', asAddr, run_loadVar_row W B 95 95 #[a, b, c, d, e] (0, 0) _ hb Tryz.underlying95 rfl info_chu]

theorem of_list {d : ByteArray} {l : List UInt8} (h : d.data.toList = l) : d = ⟨l.toArray⟩ := by
  subst h
  simp

def HeadPost (s : ByteArray) (i : Nat) (w : World) (x : Ending) (w' : World) : Prop :=
  ∃ (e q : Int) (f l : Bool) (d : ByteArray), x = .returned (.tuple #[ChV e q f l d, .bool (decide (Cn.isC s.data.toList ∧ Lg.isHead (Cn.decC s.data.toList) i))]) ∧ Is e q f l d (Cn.decC s.data.toList) ∧ Below w.heap.size w w'

set_option maxRecDepth 20000 in
set_option maxHeartbeats 1000000 in
theorem refhead_any (s : ByteArray) (i : Nat) (w : World) (hs : s.size ≤ 1048576) :
    Calls Tryz.prog 42 #[.string s, .int .i64 (i : Int)] w (HeadPost s i w) := by
  have HD := Lib.hid (fun W : World => decode_ref s W hs)
  have hB := Blk.new w 95 #[.int .i64 0, .int .i64 0, .bool false, .bool false, .string ⟨#[]⟩]
  have hg : Below w.heap.size w (w.alloc (.cells #[.int .i64 0, .int .i64 0, .bool false, .bool false, .string ⟨#[]⟩] 95)) := (Below.refl _ _).alloc (Nat.le_refl _) _
  go_enter Tryz.func42, Tryz.ntmps42
  go_wp2_with fail
  generalize w.alloc (.cells #[.int .i64 0, .int .i64 0, .bool false, .bool false, .string ⟨#[]⟩] 95) = w1 at *
  refine (HD.out w1).mono ?_
  rintro x w2 ⟨e, q, f, l, d, rfl, his, hb2⟩
  have hB2 := hB.older hb2 hB.lt
  have hg2 := hg.trans (hb2.mono hg.size)
  have hg3 := hg2.alloc hg2.size (.cells (ChC e q f l d) 95)
  have hB3 := hB2.alloc (.cells (ChC e q f l d) 95)
  have hC3 := Blk.new w2 95 (ChC e q f l d)
  obtain ⟨c0, c1, c2, c3, c4⟩ := five hC3
  have hapart : w.heap.size ≠ w2.heap.size := fun e => Nat.lt_irrefl _ (e ▸ hB2.lt)
  have F5 := five_cells hB3
  obtain ⟨⟨a0, a1, a2, a3, a4⟩, b0, b1, b2, b3, b4⟩ := F5
  have his' : (⟨e, q, f, l, d.data.toList⟩ : Cn.Chu) = Cn.decC s.data.toList := his
  by_cases hC : Cn.isC s.data.toList
  · have hE : Cn.decE s.data.toList = 0 := by unfold Cn.decE; rw [if_pos hC]
    have hpos : 0 ≤ e ∧ e ≤ 1099511627776 := by
      have := (Cn.enc_dec _ hE).1
      rw [← his'] at this
      exact ⟨this.1, this.2.1⟩
    rw [hE]
    clear hE hB hg hB2 hg2 hb2
    cases f with
    | false =>
      have hno : ¬ (Cn.isC s.data.toList ∧ Lg.isHead (Cn.decC s.data.toList) i) := by
        rintro ⟨-, h⟩; rw [← his'] at h; cases h.1
      have HN := Lib.hid hno
      clear hno
      go_wp2_with fail
      refine bodyPost_ret (results_hd rfl _ _ w.heap.size _ _ _ _ _ rfl (hB3.t5 _ _ _ _ _)) rfl ⟨e, q, _, _, _, ?_, his, gr_to_below (gr_t5 (gr_of_below hg3 none) (Nat.le_refl _) _ _ _ _ _)⟩
      rw [decide_eq_false HN.out]
      rfl
    | true =>
      cases l with
      | false =>
        have hno : ¬ (Cn.isC s.data.toList ∧ Lg.isHead (Cn.decC s.data.toList) i) := by
          rintro ⟨-, h⟩; rw [← his'] at h; cases h.2.1
        have HN := Lib.hid hno
        clear hno
        go_wp2_with fail
        refine bodyPost_ret (results_hd rfl _ _ w.heap.size _ _ _ _ _ rfl (hB3.t5 _ _ _ _ _)) rfl ⟨e, q, _, _, _, ?_, his, gr_to_below (gr_t5 (gr_of_below hg3 none) (Nat.le_refl _) _ _ _ _ _)⟩
        rw [decide_eq_false HN.out]
        rfl
      | true =>
        by_cases h0 : d = ⟨#[48]⟩
        · subst h0
          by_cases hq : q ≤ e
          · by_cases hm : e % 2 = (i : Int)
            · have hyes : Cn.isC s.data.toList ∧ Lg.isHead (Cn.decC s.data.toList) i := by
                refine ⟨hC, ?_⟩
                rw [← his']
                exact ⟨rfl, rfl, by first | exact .inl rfl | exact .inr rfl, hq, hm⟩
              have HN := Lib.hid hyes
              clear hyes
              go_wp2_with fail
              refine bodyPost_ret (results_hd rfl _ _ w.heap.size _ _ _ _ _ rfl (hB3.t5 _ _ _ _ _)) rfl ⟨e, q, _, _, _, ?_, his, gr_to_below (gr_t5 (gr_of_below hg3 none) (Nat.le_refl _) _ _ _ _ _)⟩
              rw [decide_eq_true HN.out]
              rfl
            · have hmb : (e % 2 == (i : Int)) = false := by rw [beq_eq_false_iff_ne]; exact hm
              have hno : ¬ (Cn.isC s.data.toList ∧ Lg.isHead (Cn.decC s.data.toList) i) := by
                rintro ⟨-, h⟩; rw [← his'] at h; exact hm h.2.2.2.2
              have HN := Lib.hid hno
              clear hno
              go_wp2_with fail
              refine bodyPost_ret (results_hd rfl _ _ w.heap.size _ _ _ _ _ rfl (hB3.t5 _ _ _ _ _)) rfl ⟨e, q, _, _, _, ?_, his, gr_to_below (gr_t5 (gr_of_below hg3 none) (Nat.le_refl _) _ _ _ _ _)⟩
              rw [decide_eq_false HN.out]
              rfl
          · have hno : ¬ (Cn.isC s.data.toList ∧ Lg.isHead (Cn.decC s.data.toList) i) := by
              rintro ⟨-, h⟩; rw [← his'] at h; exact hq h.2.2.2.1
            have HN := Lib.hid hno
            clear hno
            go_wp2_with fail
            refine bodyPost_ret (results_hd rfl _ _ w.heap.size _ _ _ _ _ rfl (hB3.t5 _ _ _ _ _)) rfl ⟨e, q, _, _, _, ?_, his, gr_to_below (gr_t5 (gr_of_below hg3 none) (Nat.le_refl _) _ _ _ _ _)⟩
            rw [decide_eq_false HN.out]
            rfl
        · have hn0 : ¬ d.toList = [48] := fun e => h0 (of_list (by rw [← ByteArray.toList_eq]; exact e))
          by_cases h1 : d = ⟨#[49]⟩
          · subst h1
            by_cases hq : q ≤ e
            · by_cases hm : e % 2 = (i : Int)
              · have hyes : Cn.isC s.data.toList ∧ Lg.isHead (Cn.decC s.data.toList) i := by
                  refine ⟨hC, ?_⟩
                  rw [← his']
                  exact ⟨rfl, rfl, by first | exact .inl rfl | exact .inr rfl, hq, hm⟩
                have HN := Lib.hid hyes
                clear hyes
                go_wp2_with fail
                refine bodyPost_ret (results_hd rfl _ _ w.heap.size _ _ _ _ _ rfl (hB3.t5 _ _ _ _ _)) rfl ⟨e, q, _, _, _, ?_, his, gr_to_below (gr_t5 (gr_of_below hg3 none) (Nat.le_refl _) _ _ _ _ _)⟩
                rw [decide_eq_true HN.out]
                rfl
              · have hmb : (e % 2 == (i : Int)) = false := by rw [beq_eq_false_iff_ne]; exact hm
                have hno : ¬ (Cn.isC s.data.toList ∧ Lg.isHead (Cn.decC s.data.toList) i) := by
                  rintro ⟨-, h⟩; rw [← his'] at h; exact hm h.2.2.2.2
                have HN := Lib.hid hno
                clear hno
                go_wp2_with fail
                refine bodyPost_ret (results_hd rfl _ _ w.heap.size _ _ _ _ _ rfl (hB3.t5 _ _ _ _ _)) rfl ⟨e, q, _, _, _, ?_, his, gr_to_below (gr_t5 (gr_of_below hg3 none) (Nat.le_refl _) _ _ _ _ _)⟩
                rw [decide_eq_false HN.out]
                rfl
            · have hno : ¬ (Cn.isC s.data.toList ∧ Lg.isHead (Cn.decC s.data.toList) i) := by
                rintro ⟨-, h⟩; rw [← his'] at h; exact hq h.2.2.2.1
              have HN := Lib.hid hno
              clear hno
              go_wp2_with fail
              refine bodyPost_ret (results_hd rfl _ _ w.heap.size _ _ _ _ _ rfl (hB3.t5 _ _ _ _ _)) rfl ⟨e, q, _, _, _, ?_, his, gr_to_below (gr_t5 (gr_of_below hg3 none) (Nat.le_refl _) _ _ _ _ _)⟩
              rw [decide_eq_false HN.out]
              rfl
          · have hn1 : ¬ d.toList = [49] := fun e => h1 (of_list (by rw [← ByteArray.toList_eq]; exact e))
            have hno : ¬ (Cn.isC s.data.toList ∧ Lg.isHead (Cn.decC s.data.toList) i) := by
              rintro ⟨-, h⟩; rw [← his'] at h; exact h.2.2.1.elim (fun h2 => h0 (of_list h2)) (fun h2 => h1 (of_list h2))
            have HN := Lib.hid hno
            clear hno
            go_wp2_with fail
            refine bodyPost_ret (results_hd rfl _ _ w.heap.size _ _ _ _ _ rfl (hB3.t5 _ _ _ _ _)) rfl ⟨e, q, _, _, _, ?_, his, gr_to_below (gr_t5 (gr_of_below hg3 none) (Nat.le_refl _) _ _ _ _ _)⟩
            rw [decide_eq_false HN.out]
            rfl
  · have hE : Cn.decE s.data.toList = 21 := by unfold Cn.decE; rw [if_neg hC]
    rw [hE]
    clear hE hB hg hB2 hg2 hb2
    have hno : ¬ (Cn.isC s.data.toList ∧ Lg.isHead (Cn.decC s.data.toList) i) := by
      exact fun h => hC h.1
    have HN := Lib.hid hno
    clear hno
    go_wp2_with fail
    refine bodyPost_ret (results_hd rfl _ _ w.heap.size _ _ _ _ _ rfl (hB3.t5 _ _ _ _ _)) rfl ⟨e, q, _, _, _, ?_, his, gr_to_below (gr_t5 (gr_of_below hg3 none) (Nat.le_refl _) _ _ _ _ _)⟩
    rw [decide_eq_false HN.out]
    rfl

end Go.Proofs.YtimcepoleboldaaGreatDoor
