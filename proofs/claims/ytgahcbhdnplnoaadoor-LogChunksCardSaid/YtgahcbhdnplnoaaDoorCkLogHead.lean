/- What headOf comes to, the program's. -/
import Derived.Test.YtgahcbhdnplnoaaDoorCkLogSmall
namespace Go.Proofs.YtgahcbhdnplnoaaDoor
open Go.RowKit

/-- The head that bytes are, in whatever sector. -/
def topIn (s : List UInt8) : Option Lg.Top :=
  if Cn.isC s ∧ (Cn.decC s).f = true ∧ (Cn.decC s).l = true ∧ ((Cn.decC s).d = [48] ∨ (Cn.decC s).d = [49]) ∧ (Cn.decC s).q ≤ (Cn.decC s).e then some (Lg.topOf (Cn.decC s)) else none

theorem topIn_not {s : List UInt8} (h : ¬ Cn.isC s) : topIn s = none := if_neg fun h2 => h h2.1
theorem topIn_no {s : List UInt8} {c : Cn.Chu} (hc : c = Cn.decC s) (h : ¬ (c.f = true ∧ c.l = true ∧ (c.d = [48] ∨ c.d = [49]) ∧ c.q ≤ c.e)) : topIn s = none := if_neg fun h2 => h (hc ▸ h2.2)
theorem topIn_yes {s : List UInt8} {c : Cn.Chu} (hC : Cn.isC s) (hc : c = Cn.decC s) (h : c.f = true ∧ c.l = true ∧ (c.d = [48] ∨ c.d = [49]) ∧ c.q ≤ c.e) : topIn s = some (Lg.topOf c) := by
  subst hc
  exact if_pos ⟨hC, h⟩

theorem info_head : (Tryd.prog.info? 63).map (·.size) = some 3 := by kernel_rfl
theorem results_head {fn : Func} (h : fn.results = #[.cell 2 63, .tmp 3]) (tmps : Array Value) (W : World) (B : Nat) (a b c : Value)
    (hp : tmps.getD 2 undef = .pointer (some ⟨B, 0, none⟩)) (hb : Blk W B 63 #[a, b, c]) :
    (results fn tmps).run Tryd.prog W = .ok (.tuple #[.agg #[a, b, c], tmps.getD 3 undef]) W := by
  have hp' : tmps[2]?.getD undef = .pointer (some ⟨B, 0, none⟩) := by simpa using hp
  simp [results, h, hp', asAddr, run_loadVar_row W B 63 63 #[a, b, c] (0, 0) _ hb Tryd.underlying63 rfl info_head]

theorem of_list' {d : ByteArray} {l : List UInt8} (h : d.data.toList = l) : d = ⟨l.toArray⟩ := by
  subst h
  simp

def HeadOfPost (s : ByteArray) (w : World) (x : Ending) (w' : World) : Prop :=
  x = .returned (.tuple #[HdV ((topIn s.data.toList).getD ⟨0, 0, 0⟩), .bool (topIn s.data.toList).isSome]) ∧ Below w.heap.size w w'

set_option maxRecDepth 20000 in
set_option maxHeartbeats 1000000 in
theorem headof_any (s : ByteArray) (w : World) (hs : s.size ≤ 1048576) :
    Calls Tryd.prog 51 #[.string s] w (HeadOfPost s w) := by
  have HD := Lib.hid (fun W : World => decode_any s W hs)
  have hB := Blk.new w 63 #[.int .i64 0, .int .i64 0, .int .i64 0]
  have hg : Below w.heap.size w (w.alloc (.cells #[.int .i64 0, .int .i64 0, .int .i64 0] 63)) := (Below.refl _ _).alloc (Nat.le_refl _) _
  go_enter Tryd.func51, Tryd.ntmps51
  go_wp2_with fail
  generalize w.alloc (.cells #[.int .i64 0, .int .i64 0, .int .i64 0] 63) = w1 at *
  refine (HD.out w1).mono ?_
  rintro x w2 ⟨e, q, f, l, d, rfl, his, hb2⟩
  have hB2 := hB.older hb2 hB.lt
  have hg2 := hg.trans (hb2.mono hg.size)
  have hg3 := hg2.alloc hg2.size (.cells (ChC e q f l d) 45)
  have hB3 := hB2.alloc (.cells (ChC e q f l d) 45)
  have hC3 := Blk.new w2 45 (ChC e q f l d)
  obtain ⟨c0, c1, c2, c3, c4⟩ := five hC3
  have hapart : w.heap.size ≠ w2.heap.size := fun e => Nat.lt_irrefl _ (e ▸ hB2.lt)
  obtain ⟨⟨a0, a1, a2⟩, b0, b1, b2⟩ := three hB3
  have his' : (⟨e, q, f, l, d.data.toList⟩ : Cn.Chu) = Cn.decC s.data.toList := his
  by_cases hC : Cn.isC s.data.toList
  · have hE : Cn.decE s.data.toList = 0 := by unfold Cn.decE; rw [if_pos hC]
    have hpos : 0 ≤ e ∧ e ≤ 1099511627776 := by
      have := (Cn.enc_dec _ hE).1
      rw [← his'] at this
      exact ⟨this.1, this.2.1⟩
    rw [hE]
    clear hE hB hg hB2 hg2 hb2
    cases f with
    | false =>
      have HN := Lib.hid (topIn_no his' (fun h => by cases h.1))
      clear his his'
      go_wp2_with fail
      refine bodyPost_ret (results_head rfl _ _ w.heap.size _ _ _ rfl (hB3.h3 _ _ _)) rfl ⟨?_, gr_to_below (gr_h3 (gr_of_below hg3 none) (Nat.le_refl _) _ _ _)⟩
      rw [HN.out]; rfl
    | true =>
      cases l with
      | false =>
        have HN := Lib.hid (topIn_no his' (fun h => by cases h.2.1))
        clear his his'
        go_wp2_with fail
        refine bodyPost_ret (results_head rfl _ _ w.heap.size _ _ _ rfl (hB3.h3 _ _ _)) rfl ⟨?_, gr_to_below (gr_h3 (gr_of_below hg3 none) (Nat.le_refl _) _ _ _)⟩
        rw [HN.out]; rfl
      | true =>
        by_cases hq : q ≤ e
        · by_cases h0 : d = ⟨#[48]⟩
          · subst h0
            have HN := Lib.hid (topIn_yes hC his' ⟨rfl, rfl, .inl rfl, hq⟩)
            clear his his'
            go_wp2_with fail
            refine bodyPost_ret (results_head rfl _ _ w.heap.size _ _ _ rfl (hB3.h3 _ _ _)) rfl ⟨?_, gr_to_below (gr_h3 (gr_of_below hg3 none) (Nat.le_refl _) _ _ _)⟩
            rw [HN.out]; rfl
          · have hn0 : ¬ d.toList = [48] := fun e => h0 (of_list' (by rw [← ByteArray.toList_eq]; exact e))
            by_cases h1 : d = ⟨#[49]⟩
            · subst h1
              have HN := Lib.hid (topIn_yes hC his' ⟨rfl, rfl, .inr rfl, hq⟩)
              clear his his'
              go_wp2_with fail
              refine bodyPost_ret (results_head rfl _ _ w.heap.size _ _ _ rfl (hB3.h3 _ _ _)) rfl ⟨?_, gr_to_below (gr_h3 (gr_of_below hg3 none) (Nat.le_refl _) _ _ _)⟩
              rw [HN.out]; rfl
            · have hn1 : ¬ d.toList = [49] := fun e => h1 (of_list' (by rw [← ByteArray.toList_eq]; exact e))
              have hb1 : (d.toList == [49]) = false := by rw [beq_eq_false_iff_ne]; exact hn1
              have HN := Lib.hid (topIn_no his' (fun h => h.2.2.1.elim (fun h2 => h0 (of_list' h2)) (fun h2 => h1 (of_list' h2))))
              clear his his'
              go_wp2_with fail
              · exact absurd (eq_of_beq (by assumption : (d.toList == [48]) = true)) hn0
              refine bodyPost_ret (results_head rfl _ _ w.heap.size _ _ _ rfl (hB3.h3 _ _ _)) rfl ⟨?_, gr_to_below (gr_h3 (gr_of_below hg3 none) (Nat.le_refl _) _ _ _)⟩
              rw [HN.out]; rfl
        · have HN := Lib.hid (topIn_no his' (fun h => hq h.2.2.2))
          clear his his'
          go_wp2_with fail
          refine bodyPost_ret (results_head rfl _ _ w.heap.size _ _ _ rfl (hB3.h3 _ _ _)) rfl ⟨?_, gr_to_below (gr_h3 (gr_of_below hg3 none) (Nat.le_refl _) _ _ _)⟩
          rw [HN.out]; rfl
  · have hE : Cn.decE s.data.toList = 21 := by unfold Cn.decE; rw [if_neg hC]
    rw [hE]
    clear hE hB hg hB2 hg2 hb2
    have HN := Lib.hid (topIn_not hC)
    clear his his'
    go_wp2_with fail
    refine bodyPost_ret (results_head rfl _ _ w.heap.size _ _ _ rfl (hB3.h3 _ _ _)) rfl ⟨?_, gr_to_below (gr_h3 (gr_of_below hg3 none) (Nat.le_refl _) _ _ _)⟩
    rw [HN.out]; rfl

end Go.Proofs.YtgahcbhdnplnoaaDoor
