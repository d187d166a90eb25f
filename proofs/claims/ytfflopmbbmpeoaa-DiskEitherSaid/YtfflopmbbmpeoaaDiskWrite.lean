/- What Write, Barrier and New come to, the program's. -/
import Derived.Test.YtfflopmbbmpeoaaDiskCall
import Derived.Test.YtfflopmbbmpeoaaDiskPut
namespace Go.Proofs.Ytfflopmbbmpeoaa
open Go.RowKit

def WritePost (B g : Nat) (st : Dk.St) (i : Int) (s : ByteArray) (w : World) (e : Ending) (w' : World) : Prop :=
  e = .returned (.int .i64 (st.writeE i s)) ∧ Dsk w' B g (st.write i s) ∧ Ch Td B w w'

theorem write_bars {st : Dk.St} {i : Int} {s : ByteArray} (h : st.bars i s ≠ 0) : st.writeE i s = st.bars i s ∧ st.write i s = st := by
  unfold Dk.St.writeE Dk.St.write
  rw [if_pos h, if_pos h]
  exact ⟨rfl, rfl⟩
theorem write_cut {st : Dk.St} {i : Int} {s : ByteArray} (h : st.bars i s = 0) (hd : st.due = 33) : st.writeE i s = 33 ∧ st.write i s = (st.tick.put i.toNat s).die := by
  unfold Dk.St.writeE Dk.St.write
  rw [if_neg (by simp [h]), if_neg (by simp [h]), if_pos hd]
  exact ⟨hd, rfl⟩
theorem write_fail {st : Dk.St} {i : Int} {s : ByteArray} (h : st.bars i s = 0) (hd : st.due = 32) : st.writeE i s = 32 ∧ st.write i s = st.tick := by
  unfold Dk.St.writeE Dk.St.write
  rw [if_neg (by simp [h]), if_neg (by simp [h]), if_neg (by rw [hd]; decide), if_pos hd]
  exact ⟨hd, rfl⟩
theorem write_ok {st : Dk.St} {i : Int} {s : ByteArray} (h : st.bars i s = 0) (hd : st.due = 0) : st.writeE i s = 0 ∧ st.write i s = st.tick.put i.toNat s := by
  unfold Dk.St.writeE Dk.St.write
  rw [if_neg (by simp [h]), if_neg (by simp [h]), if_neg (by rw [hd]; decide), if_neg (by rw [hd]; decide)]
  exact ⟨hd, rfl⟩
theorem due_three (st : Dk.St) : st.due = 33 ∨ st.due = 32 ∨ st.due = 0 := by
  unfold Dk.St.due
  split
  · exact .inl rfl
  · split
    · exact .inr (.inl rfl)
    · exact .inr (.inr rfl)

set_option maxRecDepth 20000 in
set_option maxHeartbeats 400000 in
theorem write_any (B g : Nat) (st : Dk.St) (i : Int) (s : ByteArray) (w : World) (h : Dsk w B g st) (hm : st.many ≤ 1073741824) :
    Calls Try.prog 13 #[.pointer (some ⟨g, 0, none⟩), .int .i64 i, .string s] w (WritePost B g st i s w) := by
  have HR := Lib.hid (reach_any B g st i w h)
  by_cases hr : st.reach i = 0
  · by_cases hs : 128 < s.size
    · have hb : st.bars i s = 31 := by unfold Dk.St.bars; rw [if_neg (by simp [hr]), if_pos hs]
      have HB := Lib.hid (write_bars (st := st) (i := i) (s := s) (by rw [hb]; decide))
      have HD := Lib.hid h
      have HBB := Lib.hid hb
      have HRR := Lib.hid hr
      clear h hb hr
      go_enter Try.func13, Try.ntmps13
      go_wp2_with fail
      refine HR.out.mono ?_
      rintro e w1 ⟨rfl, rfl⟩
      rw [HRR.out]
      go_wp2_with fail
      go_ret
      exact ⟨by rw [HB.out.1, HBB.out]; rfl, by rw [HB.out.2]; exact HD.out, Ch.refl _ _ _⟩
    · have hb : st.bars i s = 0 := by unfold Dk.St.bars; rw [if_neg (by simp [hr]), if_neg hs]
      obtain ⟨-, h0, h1, h2⟩ := Dk.bars_ok hb
      obtain ⟨k, rfl⟩ : ∃ k : Nat, i = (k : Int) := ⟨i.toNat, by omega⟩
      have hk : k < 256 := by omega
      obtain ⟨m, lv, tc, tf, n, h, hn⟩ := h
      have HC := Lib.hid (call_any B g st m lv tc tf n w h (by omega))
      have hfew := h.inv.few
      have hf1 : st.tick.loose.length < st.tick.many := by show st.loose.length < st.many + 1; omega
      have hm1 : st.tick.many ≤ 1099511627776 := by show st.many + 1 ≤ 1099511627776; omega
      have hm2 : (st.tick.put k s).many ≤ 1099511627776 := hm1
      have hn1 : n ≤ 1099511627776 := by omega
      have HN := Lib.hid hn
      have HRR := Lib.hid hr
      clear h hr hfew hm hn
      rcases due_three st with hd | hd | hd
      · have HB := Lib.hid (write_cut hb hd)
        have HDU := Lib.hid hd
        clear hb hd
        go_enter Try.func13, Try.ntmps13
        go_wp2_with fail
        refine HR.out.mono ?_
        rintro e w1 ⟨rfl, rfl⟩
        rw [HRR.out]
        go_wp2_with fail
        refine HC.out.mono ?_
        rintro e w1 ⟨rfl, h1, hc1⟩
        rw [HDU.out]
        go_wp2_with fail
        refine (put_any B g _ m lv _ _ n k s w1 h1 hk (by omega) hf1 hm1 hn1).mono ?_
        rintro e w2 ⟨rfl, ⟨lv2, h2⟩, hc2⟩
        go_wp2_with fail
        refine (dark_any B g _ m lv2 _ _ (n + 1) w2 h2 hm2).mono ?_
        rintro e w3 ⟨rfl, ⟨lv3, h3⟩, hc3⟩
        go_wp2_with fail
        go_ret
        exact ⟨by rw [HB.out.1]; rfl, by rw [HB.out.2]; exact ⟨m, lv3, _, _, n + 1, h3, Nat.succ_le_succ HN.out⟩, (hc1.trans hc2).trans hc3⟩
      · have HB := Lib.hid (write_fail hb hd)
        have HDU := Lib.hid hd
        clear hb hd
        go_enter Try.func13, Try.ntmps13
        go_wp2_with fail
        refine HR.out.mono ?_
        rintro e w1 ⟨rfl, rfl⟩
        rw [HRR.out]
        go_wp2_with fail
        refine HC.out.mono ?_
        rintro e w1 ⟨rfl, h1, hc1⟩
        rw [HDU.out]
        go_wp2_with fail
        go_ret
        exact ⟨by rw [HB.out.1]; rfl, by rw [HB.out.2]; exact ⟨m, lv, _, _, n, h1, Nat.le_succ_of_le HN.out⟩, hc1⟩
      · have HB := Lib.hid (write_ok hb hd)
        have HDU := Lib.hid hd
        clear hb hd
        go_enter Try.func13, Try.ntmps13
        go_wp2_with fail
        refine HR.out.mono ?_
        rintro e w1 ⟨rfl, rfl⟩
        rw [HRR.out]
        go_wp2_with fail
        refine HC.out.mono ?_
        rintro e w1 ⟨rfl, h1, hc1⟩
        rw [HDU.out]
        go_wp2_with fail
        refine (put_any B g _ m lv _ _ n k s w1 h1 hk (by omega) hf1 hm1 hn1).mono ?_
        rintro e w2 ⟨rfl, ⟨lv2, h2⟩, hc2⟩
        go_wp2_with fail
        go_ret
        exact ⟨by rw [HB.out.1]; rfl, by rw [HB.out.2]; exact ⟨m, lv2, _, _, n + 1, h2, Nat.succ_le_succ HN.out⟩, hc1.trans hc2⟩
  · have hb : st.bars i s = st.reach i := by unfold Dk.St.bars; rw [if_pos hr]
    have HB := Lib.hid (write_bars (st := st) (i := i) (s := s) (by rw [hb]; exact hr))
    rw [hb] at HB
    have HD := Lib.hid h
    clear h hb
    have HRR := Lib.hid hr
    clear hr
    generalize st.reach i = x at *
    have hx := HRR.out
    go_enter Try.func13, Try.ntmps13
    go_wp2_with fail
    refine HR.out.mono ?_
    rintro e w1 ⟨rfl, rfl⟩
    go_wp2_with fail
    go_ret
    exact ⟨by rw [HB.out.1]; rfl, by rw [HB.out.2]; exact HD.out, Ch.refl _ _ _⟩

def BarrierPost (B g : Nat) (st : Dk.St) (w : World) (e : Ending) (w' : World) : Prop :=
  e = .returned (.int .i64 st.barrierE) ∧ Dsk w' B g st.barrier ∧ Ch Td B w w'

theorem barrier_off {st : Dk.St} (h : st.off = true) : st.barrierE = 33 ∧ st.barrier = st := by
  unfold Dk.St.barrierE Dk.St.barrier
  rw [if_pos h, if_pos h]
  exact ⟨rfl, rfl⟩
theorem barrier_cut {st : Dk.St} (h : st.off = false) (hd : st.due = 33) : st.barrierE = 33 ∧ st.barrier = st.tick.die := by
  unfold Dk.St.barrierE Dk.St.barrier
  rw [if_neg (by simp [h]), if_neg (by simp [h]), if_pos hd]
  exact ⟨hd, rfl⟩
theorem barrier_fail {st : Dk.St} (h : st.off = false) (hd : st.due = 32) : st.barrierE = 32 ∧ st.barrier = st.tick := by
  unfold Dk.St.barrierE Dk.St.barrier
  rw [if_neg (by simp [h]), if_neg (by simp [h]), if_neg (by rw [hd]; decide), if_pos hd]
  exact ⟨hd, rfl⟩
theorem barrier_ok {st : Dk.St} (h : st.off = false) (hd : st.due = 0) : st.barrierE = 0 ∧ st.barrier = st.tick.fasten := by
  unfold Dk.St.barrierE Dk.St.barrier
  rw [if_neg (by simp [h]), if_neg (by simp [h]), if_neg (by rw [hd]; decide), if_neg (by rw [hd]; decide)]
  exact ⟨hd, rfl⟩

set_option maxRecDepth 20000 in
set_option maxHeartbeats 400000 in
theorem barrier_any (B g : Nat) (st : Dk.St) (w : World) (h : Dsk w B g st) (hm : st.many ≤ 1073741824) :
    Calls Try.prog 15 #[.pointer (some ⟨g, 0, none⟩)] w (BarrierPost B g st w) := by
  obtain ⟨m, lv, tc, tf, n, h, hn⟩ := h
  obtain ⟨-, -, c2, -⟩ := dk_cells h.blk
  cases ho : st.off with
  | true =>
    simp only [rawOf, ho] at c2
    have HB := Lib.hid (barrier_off ho)
    have HD := Lib.hid h; have HN := Lib.hid hn
    clear h hn ho
    go_enter Try.func15, Try.ntmps15
    go_wp2_with fail
    go_ret
    exact ⟨by rw [HB.out.1]; rfl, by rw [HB.out.2]; exact ⟨m, lv, tc, tf, n, HD.out, HN.out⟩, Ch.refl _ _ _⟩
  | false =>
    simp only [rawOf, ho] at c2
    have HC := Lib.hid (call_any B g st m lv tc tf n w h (by omega))
    have hm1 : st.tick.many ≤ 1099511627776 := by show st.many + 1 ≤ 1099511627776; omega
    have HN := Lib.hid hn
    clear h hn hm
    rcases due_three st with hd | hd | hd
    · have HB := Lib.hid (barrier_cut ho hd)
      have HDU := Lib.hid hd
      clear hd ho
      go_enter Try.func15, Try.ntmps15
      go_wp2_with fail
      refine HC.out.mono ?_
      rintro e w1 ⟨rfl, h1, hc1⟩
      rw [HDU.out]
      go_wp2_with fail
      refine (dark_any B g _ m lv _ _ n w1 h1 hm1).mono ?_
      rintro e w3 ⟨rfl, ⟨lv3, h3⟩, hc3⟩
      go_wp2_with fail
      go_ret
      exact ⟨by rw [HB.out.1]; rfl, by rw [HB.out.2]; exact ⟨m, lv3, _, _, n, h3, Nat.le_succ_of_le HN.out⟩, hc1.trans hc3⟩
    · have HB := Lib.hid (barrier_fail ho hd)
      have HDU := Lib.hid hd
      clear hd ho
      go_enter Try.func15, Try.ntmps15
      go_wp2_with fail
      refine HC.out.mono ?_
      rintro e w1 ⟨rfl, h1, hc1⟩
      rw [HDU.out]
      go_wp2_with fail
      go_ret
      exact ⟨by rw [HB.out.1]; rfl, by rw [HB.out.2]; exact ⟨m, lv, _, _, n, h1, Nat.le_succ_of_le HN.out⟩, hc1⟩
    · have HB := Lib.hid (barrier_ok ho hd)
      have HDU := Lib.hid hd
      clear hd ho
      go_enter Try.func15, Try.ntmps15
      go_wp2_with fail
      refine HC.out.mono ?_
      rintro e w1 ⟨rfl, h1, hc1⟩
      rw [HDU.out]
      go_wp2_with fail
      refine (fasten_any B g _ m lv _ _ n w1 h1 hm1).mono ?_
      rintro e w3 ⟨rfl, ⟨lv3, h3⟩, hc3⟩
      go_wp2_with fail
      go_ret
      exact ⟨by rw [HB.out.1]; rfl, by rw [HB.out.2]; exact ⟨m, lv3, _, _, n, h3, Nat.le_succ_of_le HN.out⟩, hc1.trans hc3⟩

end Go.Proofs.Ytfflopmbbmpeoaa
