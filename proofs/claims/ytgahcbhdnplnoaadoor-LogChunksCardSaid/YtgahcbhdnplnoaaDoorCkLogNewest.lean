/- What newest comes to, the program's: the head that counts. -/
import Derived.Test.YtgahcbhdnplnoaaDoorCkLogHead
import Derived.Test.YtgahcbhdnplnoaaDoorCkDiskDsk
namespace Go.Proofs.YtgahcbhdnplnoaaDoor
open Go.RowKit

/-- The head that a sector holds. -/
def hdIn (f : Nat → ByteArray) (k : Nat) : Option Lg.Top := (Lg.head f k).map Lg.topOf

theorem hdIn_eq (f : Nat → ByteArray) (k : Nat) : hdIn f k = match topIn (f k).data.toList with | some t => if t.e % 2 = (k : Int) then some t else none | none => none := by
  by_cases hC : Cn.isC (f k).data.toList
  · have eD : Cn.decC (f k).data.toList = Cn.got (f k).data.toList := by unfold Cn.decC; rw [if_pos hC]
    have hd : hdIn f k = (if Lg.isHead (Cn.decC (f k).data.toList) k then some (Cn.decC (f k).data.toList) else none).map Lg.topOf := by
      unfold hdIn Lg.head Lg.chk
      rw [if_pos hC, ← eD]
    rw [hd]
    by_cases hH : (Cn.decC (f k).data.toList).f = true ∧ (Cn.decC (f k).data.toList).l = true ∧ ((Cn.decC (f k).data.toList).d = [48] ∨ (Cn.decC (f k).data.toList).d = [49]) ∧ (Cn.decC (f k).data.toList).q ≤ (Cn.decC (f k).data.toList).e
    · rw [topIn_yes hC rfl hH]
      show _ = if (Cn.decC (f k).data.toList).e % 2 = (k : Int) then some (Lg.topOf (Cn.decC (f k).data.toList)) else none
      by_cases hp : (Cn.decC (f k).data.toList).e % 2 = (k : Int)
      · rw [if_pos hp, if_pos ⟨hH.1, hH.2.1, hH.2.2.1, hH.2.2.2, hp⟩]; rfl
      · rw [if_neg hp, if_neg (fun h => hp h.2.2.2.2)]; rfl
    · rw [topIn_no rfl hH, if_neg (fun h => hH ⟨h.1, h.2.1, h.2.2.1, h.2.2.2.1⟩)]; rfl
  · have hd : hdIn f k = none := by
      unfold hdIn Lg.head Lg.chk
      rw [if_neg hC]; rfl
    rw [hd, topIn_not hC]

theorem hdIn_good {f : Nat → ByteArray} {k : Nat} {t : Lg.Top} (h : hdIn f k = some t) : 0 ≤ t.b ∧ t.b ≤ t.e ∧ t.e ≤ 1099511627776 ∧ t.h ≤ 1 ∧ t.e % 2 = (k : Int) := by
  unfold hdIn Lg.head at h
  cases hc : Lg.chk (f k) with
  | none => rw [hc] at h; cases h
  | some c =>
    rw [hc] at h
    have hok := Lg.chk_ok hc
    by_cases hH : Lg.isHead c k
    · change (if Lg.isHead c k then some c else none).map Lg.topOf = some t at h
      rw [if_pos hH] at h
      injection h with h
      subst h
      refine ⟨hok.2.2.1, hH.2.2.2.1, hok.2.1, ?_, hH.2.2.2.2⟩
      show (if c.d = [49] then 1 else 0) ≤ 1
      split <;> omega
    · change (if Lg.isHead c k then some c else none).map Lg.topOf = some t at h
      rw [if_neg hH] at h
      cases h

theorem topIn_good {s : List UInt8} {t : Lg.Top} (h : topIn s = some t) : 0 ≤ t.b ∧ t.b ≤ t.e ∧ t.e ≤ 1099511627776 ∧ t.h ≤ 1 := by
  unfold topIn at h
  split at h
  · rename_i hc
    injection h with h
    subst h
    have hok := (Cn.enc_dec _ (by unfold Cn.decE; rw [if_pos hc.1])).1
    refine ⟨hok.2.2.1, hc.2.2.2.2, hok.2.1, ?_⟩
    show (if (Cn.decC s).d = [49] then 1 else 0) ≤ 1
    split <;> omega
  · cases h

/-- The greatest one of the first k sectors. -/
def bestTo (f : Nat → ByteArray) : Nat → Lg.Top
  | 0 => ⟨0, 0, 0⟩
  | k + 1 => match hdIn f k with
    | some t => if (bestTo f k).e ≤ t.e then t else bestTo f k
    | none => bestTo f k

theorem best_none {f : Nat → ByteArray} {k : Nat} (h : hdIn f k = none) : bestTo f (k + 1) = bestTo f k := by
  show (match hdIn f k with | some t => if (bestTo f k).e ≤ t.e then t else bestTo f k | none => bestTo f k) = _
  rw [h]
theorem best_some {f : Nat → ByteArray} {k : Nat} {t : Lg.Top} (h : hdIn f k = some t) : bestTo f (k + 1) = if (bestTo f k).e ≤ t.e then t else bestTo f k := by
  show (match hdIn f k with | some t => if (bestTo f k).e ≤ t.e then t else bestTo f k | none => bestTo f k) = _
  rw [h]

theorem best_two (f : Nat → ByteArray) : bestTo f 2 = Lg.top f := by
  have ht : Lg.top f = match hdIn f 0 with | some a => (match hdIn f 1 with | some b => if a.e < b.e then b else a | none => a) | none => (match hdIn f 1 with | some b => b | none => ⟨0, 0, 0⟩) := by
    unfold Lg.top hdIn
    cases Lg.head f 0 with
    | none => cases Lg.head f 1 <;> rfl
    | some a => cases Lg.head f 1 <;> rfl
  rw [ht]
  cases h0 : hdIn f 0 with
  | none =>
    have e1 : bestTo f 1 = ⟨0, 0, 0⟩ := best_none h0
    cases h1 : hdIn f 1 with
    | none => rw [best_none h1, e1]
    | some b =>
      have hb := hdIn_good h1
      rw [best_some h1, e1, if_pos (by show (0 : Int) ≤ b.e; omega)]
  | some a =>
    have ha := hdIn_good h0
    have e1 : bestTo f 1 = a := by rw [best_some h0, if_pos (by show (0 : Int) ≤ a.e; omega)]
    cases h1 : hdIn f 1 with
    | none => rw [best_none h1, e1]
    | some b =>
      have hb := hdIn_good h1
      rw [best_some h1, e1]
      show (if a.e ≤ b.e then b else a) = if a.e < b.e then b else a
      have hne : a.e ≠ b.e := fun e => by have := ha.2.2.2.2; have := hb.2.2.2.2; omega
      by_cases hlt : a.e < b.e
      · rw [if_pos hlt, if_pos (by omega)]
      · rw [if_neg hlt, if_neg (by omega)]

theorem best_good (f : Nat → ByteArray) (k : Nat) : 0 ≤ (bestTo f k).b ∧ (bestTo f k).b ≤ (bestTo f k).e ∧ (bestTo f k).e ≤ 1099511627776 ∧ (bestTo f k).h ≤ 1 := by
  induction k with
  | zero => exact ⟨Int.le_refl _, Int.le_refl _, by show (0 : Int) ≤ _; decide, Nat.zero_le _⟩
  | succ k ih =>
    cases h : hdIn f k with
    | none => rw [best_none h]; exact ih
    | some t =>
      have := hdIn_good h
      rw [best_some h]
      split
      · exact ⟨this.1, this.2.1, this.2.2.1, this.2.2.2.1⟩
      · exact ih
theorem top_good (f : Nat → ByteArray) : 0 ≤ (Lg.top f).b ∧ (Lg.top f).b ≤ (Lg.top f).e ∧ (Lg.top f).e ≤ 1099511627776 ∧ (Lg.top f).h ≤ 1 := by rw [← best_two]; exact best_good f 2

def NewestPost (st : Dk.St) (w : World) (x : Ending) (w' : World) : Prop :=
  x = .returned (.tuple #[HdV (if st.off then ⟨0, 0, 0⟩ else Lg.top st.is), .int .i64 (if st.off then 33 else 0)]) ∧ Below w.heap.size w w'

/-- What newest's loop knows. -/
structure NewLoop (f : Nat → ByteArray) (w : World) (k : Nat) (wr : World) : Prop where
  res : Blk wr w.heap.size 63 #[.int .i64 0, .int .i64 0, .int .i64 0]
  best : Blk wr (w.heap.size + 1) 63 (HdC (bestTo f k))
  below : Below w.heap.size w wr

theorem NewLoop.up {f : Nat → ByteArray} {w wr w1 : World} {k : Nat} (h : NewLoop f w k wr) (hb : Below wr.heap.size wr w1) : NewLoop f w k w1 :=
  ⟨h.res.older hb h.res.lt, h.best.older hb h.best.lt, h.below.trans (hb.mono h.below.size)⟩
theorem NewLoop.keep {f : Nat → ByteArray} {w wr : World} {k : Nat} (h : NewLoop f w k wr) (he : bestTo f (k + 1) = bestTo f k) : NewLoop f w (k + 1) wr := ⟨h.res, he ▸ h.best, h.below⟩
theorem NewLoop.turn {f : Nat → ByteArray} {w wr : World} {k : Nat} {t : Lg.Top} (h : NewLoop f w k wr) (he : bestTo f (k + 1) = t) :
    NewLoop f w (k + 1) (((wr.setCell ⟨w.heap.size + 1, 0, none⟩ (.int .i64 t.e)).setCell ⟨w.heap.size + 1, 1, none⟩ (.int .i64 t.b)).setCell ⟨w.heap.size + 1, 2, none⟩ (.int .i64 (t.h : Int))) :=
  ⟨(((h.res.apart (by show w.heap.size ≠ w.heap.size + 1; omega) _).apart (by show w.heap.size ≠ w.heap.size + 1; omega) _).apart (by show w.heap.size ≠ w.heap.size + 1; omega) _),
   by rw [he]; exact h.best.h3 _ _ _, gr_to_below (gr_h3 (gr_of_below h.below none) (Nat.le_succ _) _ _ _)⟩

theorem read_off {st : Dk.St} {i : Int} (h : st.off = true) : st.read i = ByteArray.empty ∧ st.reach i = 33 := by
  have e : st.reach i = 33 := by unfold Dk.St.reach; rw [if_pos h]
  exact ⟨by unfold Dk.St.read; rw [if_neg (by rw [e]; decide)], e⟩
theorem read_on {st : Dk.St} {i : Nat} (h : st.off = false) (hi : i < 256) : st.read (i : Int) = st.is i ∧ st.reach (i : Int) = 0 := by
  have e : st.reach (i : Int) = 0 := by unfold Dk.St.reach; rw [if_neg (by rw [h]; decide), if_neg (by omega)]
  exact ⟨by unfold Dk.St.read; rw [if_pos e]; rfl, e⟩

set_option maxRecDepth 20000 in
set_option maxHeartbeats 1000000 in
theorem newest_any (B g : Nat) (st : Dk.St) (w : World) (h : Dsk w B g st) :
    Calls Tryd.prog 29 #[.pointer (some ⟨g, 0, none⟩)] w (NewestPost st w) := by
  have hin := Lib.hid h.inv.texts
  have HR := Lib.hid (fun (i : Int) (W : World) (hb : Below w.heap.size w W) => dread_any B g st i W (h.kept (T := fun _ => false) (B' := 0) (Ch.of_below hb) (fun _ => rfl) (fun _ _ => rfl) (fun _ => rfl)))
  have h0 : NewLoop st.is w 0 ((w.alloc (.cells #[.int .i64 0, .int .i64 0, .int .i64 0] 63)).alloc (.cells #[.int .i64 0, .int .i64 0, .int .i64 0] 63)) := by
    have n1 := Blk.new w 63 #[.int .i64 0, .int .i64 0, .int .i64 0]
    have n2 := Blk.new (w.alloc (.cells #[.int .i64 0, .int .i64 0, .int .i64 0] 63)) 63 #[.int .i64 0, .int .i64 0, .int .i64 0]
    have e1 : (w.alloc (.cells #[.int .i64 0, .int .i64 0, .int .i64 0] 63)).heap.size = w.heap.size + 1 := by simp
    rw [e1] at n2
    exact ⟨n1.alloc _, n2, ((Below.refl _ _).alloc (Nat.le_refl _) _).alloc (by rw [e1]; omega) _⟩
  clear h
  go_enter Tryd.func29, Tryd.ntmps29
  go_wp2_with fail
  go_loopw [10] (fun v wr => ∃ k : Nat, k ≤ 2 ∧ (0 < k → st.off = false) ∧ v = .int .i64 (k : Int) ∧ NewLoop st.is w k wr) (fun v _ => 2 - (intOf v).toNat)
  case atStart => exact ⟨0, by omega, fun h => absurd h (Nat.lt_irrefl _), rfl, h0⟩
  case round =>
    obtain ⟨k, hk, hoff, rfl, hL⟩ := hrel
    have HOF := Lib.hid hoff
    clear hoff
    clear h0
    have HL := Lib.hid hL
    by_cases hlt : k < 2
    · cases ho : st.off with
      | true =>
        obtain ⟨⟨y0, y1, y2⟩, z0, z1, z2⟩ := three hL.res
        clear hL
        obtain ⟨r1, r2⟩ := read_off (i := (k : Int)) ho
        have HO := Lib.hid ho
        go_wp2_with fail
        refine (HR.out (k : Int) wr HL.out.below).mono ?_
        rintro e w2 ⟨rfl, rfl⟩
        rw [r1, r2]
        clear r1 r2 ho
        go_wp2_with fail
        refine bodyPost_ret (results_head rfl _ _ w.heap.size _ _ _ rfl (HL.out.res.h3 _ _ _)) rfl ⟨by rw [HO.out]; rfl, gr_to_below (gr_h3 (gr_of_below HL.out.below none) (Nat.le_refl _) _ _ _)⟩
      | false =>
        clear hL
        have HO := Lib.hid ho
        obtain ⟨r1, r2⟩ := read_on ho (i := k) (by omega)
        have hs : (st.is k).size ≤ 1048576 := Nat.le_trans (hin.out k) (by decide)
        go_wp2_with fail
        refine (HR.out (k : Int) wr HL.out.below).mono ?_
        rintro e w2 ⟨rfl, rfl⟩
        rw [r1, r2]
        clear r1 r2
        go_wp2_with fail
        refine (headof_any (st.is k) wr hs).mono ?_
        rintro e w2 ⟨rfl, hb2⟩
        have heq := hdIn_eq st.is k
        have hbest := (best_good st.is k)
        have hbe := hbest.2.1
        have hL2 := HL.out.up hb2
        cases ht : topIn (st.is k).data.toList with
        | none =>
          rw [ht] at heq
          have HN := Lib.hid (((hL2.up ((Below.refl _ _).alloc (Nat.le_refl _) (.cells #[.int .i64 0, .int .i64 0, .int .i64 0] 63)))).keep (best_none heq))
          clear hL2 heq ht hbest hbe hb2 HL
          go_wp2_with fail
          go_roundw
          case rel => exact ⟨k + 1, by omega, by first | exact fun _ => trivial | exact fun _ => HO.out, by go_num, HN.out⟩
          case measure => simp [intOf]; omega
        | some t =>
          rw [ht] at heq
          obtain ⟨t0, t1, t2, t3⟩ := topIn_good ht
          obtain ⟨te, tb, th⟩ := t
          have te0 : 0 ≤ te := by simp only at t0 t1; omega
          have te1 : te ≤ 1099511627776 := t2
          have hL3 := hL2.up ((Below.refl _ _).alloc (Nat.le_refl _) (.cells #[.int .i64 te, .int .i64 tb, .int .i64 (th : Int)] 63))
          have hn := Blk.new w2 63 #[.int .i64 te, .int .i64 tb, .int .i64 (th : Int)]
          obtain ⟨⟨n0, n1, n2⟩, -⟩ := three hn
          obtain ⟨⟨b0, b1, b2⟩, z0, z1, z2⟩ := three hL3.best
          have HL3 := Lib.hid hL3
          have HHe := Lib.hid heq
          have hsz : w2.heap.size ≠ w.heap.size + 1 := fun e => by have := hL2.best.lt; omega
          clear hL2 hL3 hn heq ht t0 t1 t2 t3 hb2 HL hs HR hbest
          by_cases hp : te % 2 = (k : Int)
          · have hpb : (te % 2 == (k : Int)) = true := by rw [beq_iff_eq]; exact hp
            have HP := Lib.hid (show hdIn st.is k = some ⟨te, tb, th⟩ by rw [HHe.out]; exact if_pos hp)
            by_cases hle : (bestTo st.is k).e ≤ te
            · have HN := Lib.hid (HL3.out.turn (t := ⟨te, tb, th⟩) (by rw [best_some HP.out, if_pos hle]))
              clear HL3 HHe HP
              generalize (bestTo st.is k).e = be at *
              go_wp2_with fail
              go_roundw
              case rel => exact ⟨k + 1, by omega, by first | exact fun _ => trivial | exact fun _ => HO.out, by go_num, HN.out⟩
              case measure => simp [intOf]; omega
            · have HN := Lib.hid (HL3.out.keep (by rw [best_some HP.out, if_neg hle]))
              clear HL3 HHe HP
              generalize (bestTo st.is k).e = be at *
              go_wp2_with fail
              go_roundw
              case rel => exact ⟨k + 1, by omega, by first | exact fun _ => trivial | exact fun _ => HO.out, by go_num, HN.out⟩
              case measure => simp [intOf]; omega
          · have hpb : (te % 2 == (k : Int)) = false := by rw [beq_eq_false_iff_ne]; exact hp
            have HN := Lib.hid (HL3.out.keep (best_none (HHe.out.trans (if_neg hp))))
            clear HL3 HHe hbe
            generalize (bestTo st.is k).e = be at *
            go_wp2_with fail
            go_roundw
            case rel => exact ⟨k + 1, by omega, by first | exact fun _ => trivial | exact fun _ => HO.out, by go_num, HN.out⟩
            case measure => simp [intOf]; omega
    · obtain rfl : k = 2 := by omega
      obtain ⟨⟨c0, c1, c2⟩, -⟩ := three hL.best
      obtain ⟨⟨y0, y1, y2⟩, z0, z1, z2⟩ := three hL.res
      clear hL
      rw [best_two] at c0 c1 c2
      go_wp2_with fail
      refine bodyPost_ret (results_head rfl _ _ w.heap.size _ _ _ rfl (HL.out.res.h3 _ _ _)) rfl ⟨?_, gr_to_below (gr_h3 (gr_of_below HL.out.below none) (Nat.le_refl _) _ _ _)⟩
      have e0 := HOF.out (by decide)
      rw [e0]
      rfl

end Go.Proofs.YtgahcbhdnplnoaaDoor
