/- What the document's Open comes to. -/
import Derived.Test.YtgahcbhdnplnoaaDoorCkLogRefHd
import Derived.Test.YtgahcbhdnplnoaaDoorCkLogRefHead
namespace Go.Proofs.YtgahcbhdnplnoaaDoor
open Go.RowKit

/-- Has one of the first k sectors a head? -/
def foundTo (f : Nat → ByteArray) : Nat → Bool
  | 0 => false
  | k + 1 => foundTo f k || (hdIn f k).isSome

theorem best_found {f : Nat → ByteArray} : ∀ {k : Nat}, foundTo f k = false → bestTo f k = ⟨0, 0, 0⟩ := by
  intro k
  induction k with
  | zero => intro _; rfl
  | succ k ih =>
    intro h
    have h' : (foundTo f k || (hdIn f k).isSome) = false := h
    rw [Bool.or_eq_false_iff] at h'
    have hn : hdIn f k = none := by
      cases hh : hdIn f k with
      | none => rfl
      | some t => rw [hh] at h'; cases h'.2
    rw [best_none hn]
    exact ih h'.1
theorem found_one {f : Nat → ByteArray} (h : foundTo f 1 = true) : (bestTo f 1).e % 2 = 0 := by
  have h' : (false || (hdIn f 0).isSome) = true := h
  rw [Bool.false_or] at h'
  cases hh : hdIn f 0 with
  | none => rw [hh] at h'; cases h'
  | some t =>
    have hg := hdIn_good hh
    rw [best_some hh, if_pos (by show (0 : Int) ≤ t.e; omega)]
    exact hg.2.2.2.2

theorem hdIn_head {f : Nat → ByteArray} {k : Nat} {s : ByteArray} (hs : f k = s) (hC : Cn.isC s.data.toList) (hH : Lg.isHead (Cn.decC s.data.toList) k) : hdIn f k = some (Lg.topOf (Cn.decC s.data.toList)) := by
  have eD : Cn.decC s.data.toList = Cn.got s.data.toList := by unfold Cn.decC; rw [if_pos hC]
  unfold hdIn Lg.head Lg.chk
  rw [hs, if_pos hC, ← eD]
  show (if Lg.isHead (Cn.decC s.data.toList) k then some (Cn.decC s.data.toList) else none).map Lg.topOf = _
  rw [if_pos hH]
  rfl
theorem hdIn_none {f : Nat → ByteArray} {k : Nat} {s : ByteArray} (hs : f k = s) (h : ¬ (Cn.isC s.data.toList ∧ Lg.isHead (Cn.decC s.data.toList) k)) : hdIn f k = none := by
  unfold hdIn Lg.head Lg.chk
  rw [hs]
  by_cases hC : Cn.isC s.data.toList
  · have eD : Cn.decC s.data.toList = Cn.got s.data.toList := by unfold Cn.decC; rw [if_pos hC]
    rw [if_pos hC, ← eD]
    show (if Lg.isHead (Cn.decC s.data.toList) k then some (Cn.decC s.data.toList) else none).map Lg.topOf = _
    rw [if_neg (fun hH => h ⟨hC, hH⟩)]
    rfl
  · rw [if_neg hC]
    rfl

def RopenPost (B g b : Nat) (st : Dk.St) (w : World) (e : Ending) (w' : World) : Prop :=
  (∃ lv, RefAt w' B g (Lg.openR st).2 b lv) ∧ Rch B b w w' ∧
  (((Lg.openR st).1 = 0 ∧ ∃ q v, e = .returned (.tuple #[.pointer (some ⟨q, 0, none⟩), v, .int .i64 0]) ∧ Strs w' v (mks (Lg.openRecs st))) ∨
   ((Lg.openR st).1 ≠ 0 ∧ ∃ v, e = .returned (.tuple #[.pointer none, v, .int .i64 (Lg.openR st).1]) ∧ Strs w' v []))

theorem ropen_bad {B g b : Nat} {st : Dk.St} {lv : Value} {w w' : World} {E : Int} (h : RefAt w' B g st b lv) (hc : Rch B b w w') (hr : Lg.openR st = (E, st)) (hE : E ≠ 0) :
    RopenPost B g b st w (.returned (.tuple #[.pointer none, .slice none 0 0, .int .i64 E])) w' := by
  unfold RopenPost
  rw [hr]
  exact ⟨⟨lv, h⟩, hc, .inr ⟨hE, _, rfl, Strs.of_row (l := []) (World.ownsRow_nil _ 0 _ _)⟩⟩

theorem Ch.lower {T : Obj → Bool} {B B' : Nat} {a b : World} (h : Ch T B a b) (hB : B' ≤ B) : Ch T B' a b :=
  ⟨h.os, h.tape, h.output, h.size, fun i hi hT => h.block i hi (fun hb => hT (Nat.le_trans hB hb))⟩
theorem Only.of_ch {T : Obj → Bool} {B b : Nat} {w w' : World} (hc : Ch T B w w') (hT : ∀ cs z, T (.cells cs 9 z) = false) : Only b w w' := fun k cs z _ h0 =>
  (hc.block k (by
    rcases Nat.lt_or_ge k w.heap.size with h2 | h2
    · exact h2
    · rw [Array.getElem?_eq_none h2] at h0; cases h0) (fun _ o ho => by rw [h0] at ho; injection ho with ho; rw [← ho]; exact hT cs z)).trans h0
/-- A log of one's own, newer than w. -/
theorem Rch.then_log {B b q : Nat} {w w1 w2 : World} (h : Rch B b w w1) (hc : Ch Tq q w1 w2) (hq : w.heap.size ≤ q) : Rch B b w w2 :=
  ⟨h.ch.then_new (hc.lower hq), h.only.trans (Only.of_ch hc (fun _ _ => rfl))⟩

/-- What Open's loop knows. -/
structure RopAt (f : Nat → ByteArray) (g : Nat) (w : World) (k : Nat) (wr : World) : Prop where
  lg : Blk wr w.heap.size 84 (LgC g (bestTo f k) 0)
  below : Below w.heap.size w wr
theorem RopAt.up {f : Nat → ByteArray} {g : Nat} {w wr w1 : World} {k : Nat} (h : RopAt f g w k wr) (hb : Below wr.heap.size wr w1) : RopAt f g w k w1 := ⟨h.lg.older hb h.lg.lt, h.below.trans (hb.mono h.below.size)⟩
theorem RopAt.turn {f : Nat → ByteArray} {g : Nat} {w W : World} {k : Nat} {t0 : Lg.Top} {e q : Int} (hl : Blk W w.heap.size 84 (LgC g t0 0)) (hb : Below w.heap.size w W) :
    (bestTo f (k + 1) = ⟨e, q, 0⟩ → RopAt f g w (k + 1) (((W.setCell ⟨w.heap.size, 1, none⟩ (.int .i64 e)).setCell ⟨w.heap.size, 2, none⟩ (.int .i64 q)).setCell ⟨w.heap.size, 3, none⟩ (.int .i64 0))) ∧
    (bestTo f (k + 1) = ⟨e, q, 1⟩ → RopAt f g w (k + 1) ((((W.setCell ⟨w.heap.size, 1, none⟩ (.int .i64 e)).setCell ⟨w.heap.size, 2, none⟩ (.int .i64 q)).setCell ⟨w.heap.size, 3, none⟩ (.int .i64 0)).setCell ⟨w.heap.size, 3, none⟩ (.int .i64 1))) := by
  have h3 := ((hl.l1 (.int .i64 e)).l2 (.int .i64 q)).l3 (.int .i64 0)
  have g3 := gr_set_new (gr_set_new (gr_set_new (gr_of_below hb none) (Nat.le_refl _) 1 (.int .i64 e)) (Nat.le_refl _) 2 (.int .i64 q)) (Nat.le_refl _) 3 (.int .i64 0)
  exact ⟨fun he => ⟨by rw [he]; exact h3, gr_to_below g3⟩, fun he => ⟨by rw [he]; exact h3.l3 (.int .i64 1), gr_to_below (gr_set_new g3 (Nat.le_refl _) 3 _)⟩⟩

set_option maxRecDepth 20000 in
set_option maxHeartbeats 4000000 in
theorem ropen_any (B g b : Nat) (st : Dk.St) (lv : Value) (w : World) (h : RefAt w B g st b lv) (hm : st.many ≤ 1000000) :
    Calls Tryd.prog 25 #[.pointer (some ⟨g, 0, none⟩)] w (RopenPost B g b st w) := by
  have hin := Lib.hid h.inv.texts
  have HR := Lib.hid (fun (i : Int) (W : World) (hb : Below w.heap.size w W) => rread_any B g st i W ⟨b, lv, h.up hb⟩)
  have h0 : RopAt st.is g w 0 (w.alloc (.cells #[.pointer (some ⟨g, 0, none⟩), .int .i64 0, .int .i64 0, .int .i64 0, .int .i64 0, .int .i64 0] 84)) :=
    ⟨Blk.new w 84 _, (Below.refl _ _).alloc (Nat.le_refl _) _⟩
  have HRef := Lib.hid h
  have HM := Lib.hid hm
  clear h hm
  go_enter Tryd.func25, Tryd.ntmps25
  go_wp2_with fail
  go_loopw [6, 7] (fun v6 v7 wr => ∃ k : Nat, k ≤ 2 ∧ (0 < k → st.off = false) ∧ v6 = .bool (foundTo st.is k) ∧ v7 = .int .i64 (k : Int) ∧ RopAt st.is g w k wr) (fun _ v _ => 2 - (intOf v).toNat)
  case atStart => exact ⟨0, by omega, fun h => absurd h (Nat.lt_irrefl _), rfl, rfl, h0⟩
  case round =>
    obtain ⟨k, hk, hoff, rfl, rfl, hL⟩ := hrel
    have HOF := Lib.hid hoff
    have HL := Lib.hid hL
    clear h0 hoff hL
    by_cases hlt : k < 2
    · cases ho : st.off with
      | true =>
        obtain ⟨r1, r2⟩ := read_off (i := (k : Int)) ho
        have HR33 := Lib.hid (show Lg.openR st = (33, st) by unfold Lg.openR; rw [if_pos ho])
        go_wp2_with fail
        refine (HR.out (k : Int) wr HL.out.below).mono ?_
        rintro e w2 ⟨rfl, rfl⟩
        rw [r1, r2]
        clear r1 r2 ho
        go_wp2_with fail
        go_ret3
        exact ropen_bad (HRef.out.up HL.out.below) (Rch.of_below HL.out.below) HR33.out (by decide)
      | false =>
        have HO := Lib.hid ho
        obtain ⟨r1, r2⟩ := read_on ho (i := k) (by omega)
        obtain ⟨s, hs⟩ : ∃ s, st.is k = s := ⟨_, rfl⟩
        have hsz : s.size ≤ 1048576 := by rw [← hs]; exact Nat.le_trans (hin.out k) (by decide)
        rw [hs] at r1
        have HS := Lib.hid hs
        clear ho hs
        go_wp2_with fail
        refine (HR.out (k : Int) wr HL.out.below).mono ?_
        rintro e w2 ⟨rfl, rfl⟩
        rw [r1, r2]
        clear r1 r2
        go_wp2_with fail
        refine (refhead_any s k wr hsz).mono ?_
        rintro x w2 ⟨e, cq, f, l, d, rfl, his, hb2⟩
        have his' : (⟨e, cq, f, l, d.data.toList⟩ : Cn.Chu) = Cn.decC s.data.toList := his
        have hL2 := HL.out.up hb2
        have hap : w.heap.size ≠ w2.heap.size := fun e => by have := hL2.lg.lt; omega
        have hL3 := hL2.up ((Below.refl _ _).alloc (Nat.le_refl _) (.cells (ChC e cq f l d) 45))
        obtain ⟨d0, d1, d2, d3, d4⟩ := five (Blk.new w2 45 (ChC e cq f l d))
        obtain ⟨⟨a0, a1, a2, a3, a4, a5⟩, y0, y1, y2, y3, y4, y5⟩ := six hL3.lg
        have HL3 := Lib.hid hL3
        have HIS := Lib.hid his'
        clear hL2 hL3 his his' hb2 HL
        by_cases hc : Cn.isC s.data.toList ∧ Lg.isHead (Cn.decC s.data.toList) k
        · rw [decide_eq_true hc]
          have HD := Lib.hid (hdIn_head HS.out hc.1 hc.2)
          have HTOP := Lib.hid (show Lg.topOf (Cn.decC s.data.toList) = ⟨e, cq, if d.data.toList = [49] then 1 else 0⟩ by rw [← HIS.out]; rfl)
          have HG := Lib.hid (hdIn_good HD.out)
          have hpos : 0 ≤ e := by
            have h1 := HG.out
            rw [HTOP.out] at h1
            have h2 : 0 ≤ cq ∧ cq ≤ e := ⟨h1.1, h1.2.1⟩
            omega
          have HFN := Lib.hid (show foundTo st.is (k + 1) = true by show (foundTo st.is k || (hdIn st.is k).isSome) = true; rw [HD.out]; simp)
          clear hc
          cases hfd : foundTo st.is k with
          | false =>
            have HB1 := Lib.hid (show bestTo st.is (k + 1) = Lg.topOf (Cn.decC s.data.toList) by
              rw [best_some HD.out, best_found hfd, if_pos (by rw [HTOP.out]; exact hpos)])
            clear hfd
            by_cases hd1 : d = ⟨#[49]⟩
            · subst hd1
              have HEQ := Lib.hid (show bestTo st.is (k + 1) = ⟨e, cq, 1⟩ by rw [HB1.out, HTOP.out]; rfl)
              go_wp2_with fail
              generalize w2.alloc (.cells (ChC e cq f l ⟨#[49]⟩) 45) = w3 at *
              have HT := Lib.hid (fun n => RopAt.turn (f := st.is) (k := k) (e := e) (q := cq) (W := w3.drewN n) (t0 := bestTo st.is k) HL3.out.lg (HL3.out.below.trans ((below_drewN w3 n).mono HL3.out.below.size)))
              go_quiet (fail)
              go_wp2_with fail
              go_roundw
              case rel => exact ⟨k + 1, by omega, by first | exact fun _ => trivial | exact fun _ => HO.out, by rw [HFN.out], by go_num, (HT.out _).2 HEQ.out⟩
              case measure => simp [intOf]; omega
            · have hd2 : (d.toList == [49]) = false := by
                rw [beq_eq_false_iff_ne]
                exact fun e => hd1 (of_list (by rw [← ByteArray.toList_eq]; exact e))
              have HEQ := Lib.hid (show bestTo st.is (k + 1) = ⟨e, cq, 0⟩ by
                rw [HB1.out, HTOP.out, if_neg (fun h => hd1 (of_list h))])
              go_wp2_with fail
              generalize w2.alloc (.cells (ChC e cq f l d) 45) = w3 at *
              have HT := Lib.hid (fun n => RopAt.turn (f := st.is) (k := k) (e := e) (q := cq) (W := w3.drewN n) (t0 := bestTo st.is k) HL3.out.lg (HL3.out.below.trans ((below_drewN w3 n).mono HL3.out.below.size)))
              go_quiet (fail)
              go_wp2_with fail
              go_roundw
              case rel => exact ⟨k + 1, by omega, by first | exact fun _ => trivial | exact fun _ => HO.out, by rw [HFN.out], by go_num, (HT.out _).1 HEQ.out⟩
              case measure => simp [intOf]; omega
          | true =>
            have hk1 : k = 1 := by
              rcases (show k = 0 ∨ k = 1 by omega) with rfl | rfl
              · cases hfd
              · rfl
            have hpar : (bestTo st.is k).e % 2 = 0 := by subst hk1; exact found_one hfd
            have hpe : e % 2 = (k : Int) := by
              have h1 := HG.out.2.2.2.2
              rw [HTOP.out] at h1
              exact h1
            clear hfd
            by_cases hle : (bestTo st.is k).e < e
            · have HB1 := Lib.hid (show bestTo st.is (k + 1) = Lg.topOf (Cn.decC s.data.toList) by
                rw [best_some HD.out, if_pos (by rw [HTOP.out]; show (bestTo st.is k).e ≤ e; omega)])
              have hcmp : decide ((bestTo st.is k).e < e) = true := decide_eq_true hle
              clear hpar hpe hk1
              by_cases hd1 : d = ⟨#[49]⟩
              · subst hd1
                have HEQ := Lib.hid (show bestTo st.is (k + 1) = ⟨e, cq, 1⟩ by rw [HB1.out, HTOP.out]; rfl)
                go_wp2_with fail
                generalize w2.alloc (.cells (ChC e cq f l ⟨#[49]⟩) 45) = w3 at *
                have HT := Lib.hid (fun n => RopAt.turn (f := st.is) (k := k) (e := e) (q := cq) (W := w3.drewN n) (t0 := bestTo st.is k) HL3.out.lg (HL3.out.below.trans ((below_drewN w3 n).mono HL3.out.below.size)))
                go_quiet (fail)
                go_wp2_with fail
                go_roundw
                case rel => exact ⟨k + 1, by omega, by first | exact fun _ => trivial | exact fun _ => HO.out, by rw [HFN.out], by go_num, (HT.out _).2 HEQ.out⟩
                case measure => simp [intOf]; omega
              · have hd2 : (d.toList == [49]) = false := by
                  rw [beq_eq_false_iff_ne]
                  exact fun e => hd1 (of_list (by rw [← ByteArray.toList_eq]; exact e))
                have HEQ := Lib.hid (show bestTo st.is (k + 1) = ⟨e, cq, 0⟩ by
                  rw [HB1.out, HTOP.out, if_neg (fun h => hd1 (of_list h))])
                go_wp2_with fail
                generalize w2.alloc (.cells (ChC e cq f l d) 45) = w3 at *
                have HT := Lib.hid (fun n => RopAt.turn (f := st.is) (k := k) (e := e) (q := cq) (W := w3.drewN n) (t0 := bestTo st.is k) HL3.out.lg (HL3.out.below.trans ((below_drewN w3 n).mono HL3.out.below.size)))
                go_quiet (fail)
                go_wp2_with fail
                go_roundw
                case rel => exact ⟨k + 1, by omega, by first | exact fun _ => trivial | exact fun _ => HO.out, by rw [HFN.out], by go_num, (HT.out _).1 HEQ.out⟩
                case measure => simp [intOf]; omega
            · have HB1 := Lib.hid (show bestTo st.is (k + 1) = bestTo st.is k by
                rw [best_some HD.out, if_neg (by rw [HTOP.out]; show ¬ (bestTo st.is k).e ≤ e; omega)])
              have hcmp : decide ((bestTo st.is k).e < e) = false := decide_eq_false hle
              clear hpar hpe hk1
              go_wp2_with fail
              generalize w2.alloc (.cells (ChC e cq f l d) 45) = w3 at *
              go_quiet (fail)
              go_wp2_with fail
              go_roundw
              case rel => exact ⟨k + 1, by omega, by first | exact fun _ => trivial | exact fun _ => HO.out, by rw [HFN.out], by go_num, ⟨by rw [HB1.out]; exact HL3.out.lg, HL3.out.below.trans ((below_drewN w3 _).mono HL3.out.below.size)⟩⟩
              case measure => simp [intOf]; omega
        · rw [decide_eq_false hc]
          have HD := Lib.hid (hdIn_none HS.out hc)
          have HFN := Lib.hid (show foundTo st.is (k + 1) = foundTo st.is k by show (foundTo st.is k || (hdIn st.is k).isSome) = _; rw [HD.out]; simp)
          have HB1 := Lib.hid (best_none HD.out)
          clear hc
          go_wp2_with fail
          generalize w2.alloc (.cells (ChC e cq f l d) 45) = w3 at *
          go_quiet (fail)
          go_wp2_with fail
          go_roundw
          case rel => exact ⟨k + 1, by omega, by first | exact fun _ => trivial | exact fun _ => HO.out, by rw [HFN.out], by go_num, ⟨by rw [HB1.out]; exact HL3.out.lg, HL3.out.below.trans ((below_drewN w3 _).mono HL3.out.below.size)⟩⟩
          case measure => simp [intOf]; omega
    · obtain rfl : k = 2 := by omega
      have ho := HOF.out (by decide)
      have ht := top_good st.is
      have hlg := HL.out.lg
      rw [best_two] at hlg
      obtain ⟨t, htt⟩ : ∃ t, t = Lg.top st.is := ⟨_, rfl⟩
      rw [← htt] at ht hlg
      have HT := Lib.hid htt
      have HG := Lib.hid ht
      have hte := ht.2.2.1
      have ht0 : 0 ≤ t.e := by omega
      have HO := Lib.hid ho
      have HSC := Lib.hid (rlook_any B g w.heap.size st t wr ⟨b, lv, HRef.out.up HL.out.below⟩ hlg ho ht.2.2.2)
      clear ho ht hlg htt HOF
      go_wp2_with fail
      refine HSC.out.mono ?_
      rintro x w4 ⟨v, rfl, hrow, hl4, hc4⟩
      have hr4 : RefAt w4 B g st b lv := (HRef.out.up HL.out.below).kept hc4 (fun _ => rfl) (fun _ => rfl) (fun _ => rfl)
      have hch4 : Rch B b w w4 := (Rch.of_below HL.out.below).then_log hc4 (Nat.le_refl _)
      obtain ⟨⟨a0, a1, a2, a3, a4, a5⟩, y0, y1, y2, y3, y4, y5⟩ := six hl4
      have hbsz : b < wr.heap.size := Nat.lt_of_lt_of_le HRef.out.sec.lt HL.out.below.size
      by_cases hfull : t.e = 1099511627776
      · have HR50 := Lib.hid (show Lg.openR st = (50, st) by unfold Lg.openR; rw [if_neg (by rw [HO.out]; decide), ← HT.out, if_pos hfull])
        have HF := Lib.hid (And.intro hr4 hch4)
        clear hr4 hch4 hrow hl4 hc4
        go_wp2_with fail
        go_ret3
        exact ropen_bad HF.out.1 HF.out.2 HR50.out (by decide)
      · have hfb : (t.e == 1099511627776) = false := by rw [beq_eq_false_iff_ne]; exact hfull
        have hcs : Ch Tq w.heap.size w4 (w4.setCell ⟨w.heap.size, 1, none⟩ (.int .i64 (t.e + 1))) := Ch.set hl4 (Nat.le_refl _) rfl 1 _
        have hl5 : Blk (w4.setCell ⟨w.heap.size, 1, none⟩ (.int .i64 (t.e + 1))) w.heap.size 84 (LgC g ⟨t.e + 1, t.b, t.h⟩ (Lg.scan st.is t).2) := hl4.l1 _
        have hr5 : RefAt (w4.setCell ⟨w.heap.size, 1, none⟩ (.int .i64 (t.e + 1))) B g st b lv := hr4.kept hcs (fun _ => rfl) (fun _ => rfl) (fun _ => rfl)
        have hch5 := hch4.then_log hcs (Nat.le_refl _)
        have hrow5 := owns_ch hrow hcs (fun _ => rfl)
        have te1 : t.e + 1 ≤ 1099511627776 := by omega
        have HT1 := Lib.hid (show Lg.openTop st = ⟨t.e + 1, t.b, t.h⟩ by unfold Lg.openTop; rw [← HT.out])
        have HOR := Lib.hid (show Lg.openR st = Lg.wrb st [(Lg.hsec (⟨t.e + 1, t.b, t.h⟩ : Lg.Top).e, Lg.encs (Lg.hd ⟨t.e + 1, t.b, t.h⟩))] by
          unfold Lg.openR
          rw [if_neg (by rw [HO.out]; decide), ← HT.out, if_neg hfull, HT1.out])
        have HW := Lib.hid (rwh_any B g b w.heap.size st lv ⟨t.e + 1, t.b, t.h⟩ (Lg.scan st.is t).2 _ hr5 hl5 ⟨HG.out.1, by show t.b ≤ t.e + 1; have := HG.out.2.1; omega, te1, HG.out.2.2.2⟩ HM.out)
        have HF5 := Lib.hid (And.intro hch5 hrow5)
        clear hcs hl5 hr5 hch5 hrow5 hr4 hch4 hrow hl4 hc4
        go_wp2_with fail
        refine HW.out.mono ?_
        rintro e w6 ⟨rfl, ⟨lv6, hr6⟩, hch6, -⟩
        obtain ⟨r, hr⟩ : ∃ r, r = Lg.wrb st [(Lg.hsec (⟨t.e + 1, t.b, t.h⟩ : Lg.Top).e, Lg.encs (Lg.hd ⟨t.e + 1, t.b, t.h⟩))] := ⟨_, rfl⟩
        rw [← hr] at hr6 ⊢
        have HRR := Lib.hid (HOR.out.trans hr.symm)
        have HF := Lib.hid (And.intro (show ∃ lv, RefAt w6 B g r.2 b lv from ⟨lv6, hr6⟩) (And.intro (HF5.out.1.trans hch6) (Strs.of_row (owns_only HF5.out.2 hch6.only hbsz))))
        clear hr hr6 hch6 HW HOR
        by_cases hE : r.1 = 0
        · have HE := Lib.hid hE
          rw [hE]
          clear hE
          go_wp2_with fail
          go_ret3
          unfold RopenPost
          rw [HRR.out]
          refine ⟨HF.out.1, HF.out.2.1, .inl ⟨HE.out, _, _, rfl, ?_⟩⟩
          unfold Lg.openRecs
          rw [← HT.out]
          exact HF.out.2.2
        · have hEb : (r.1 != 0) = true := by rw [bne_iff_ne]; exact hE
          have HE := Lib.hid hE
          go_wp2_with fail
          go_ret3
          unfold RopenPost
          rw [HRR.out]
          exact ⟨HF.out.1, HF.out.2.1, .inr ⟨HE.out, _, rfl, Strs.of_row (l := []) (World.ownsRow_nil _ 0 _ _)⟩⟩

end Go.Proofs.YtgahcbhdnplnoaaDoor
