/- What Write, Barrier and New come to, the program's. -/
import Derived.Test.YtgahcbhdnplnoaaDoorCkDiskCall
import Derived.Test.YtgahcbhdnplnoaaDoorCkDiskPut
namespace Go.Proofs.YtgahcbhdnplnoaaDoor
open Go.RowKit

/-- A disk, with blocks of numbers that are none of its own. -/
def DskP (P : Nat → Prop) (w : World) (B g : Nat) (st : Dk.St) : Prop := ∃ m lv tc tf n, DskAt w B g st m lv tc tf n ∧ n ≤ st.many ∧ ∀ k, P k → k < w.heap.size ∧ lv.ownBlock ≠ some k
/-- These are as they were. -/
def SameI (P : Nat → Prop) (w w' : World) : Prop := ∀ k, P k → ∀ cs z, w.heap[k]? = some (.cells cs 3 z) → w'.heap[k]? = some (.cells cs 3 z)

theorem DskP.dsk {P : Nat → Prop} {w : World} {B g : Nat} {st : Dk.St} (h : DskP P w B g st) : Dsk w B g st := by
  obtain ⟨m, lv, tc, tf, n, h, hn, _⟩ := h
  exact ⟨m, lv, tc, tf, n, h, hn⟩
theorem Dsk.free {w : World} {B g : Nat} {st : Dk.St} (h : Dsk w B g st) : DskP (fun _ => False) w B g st := by
  obtain ⟨m, lv, tc, tf, n, h, hn⟩ := h
  exact ⟨m, lv, tc, tf, n, h, hn, fun _ hk => hk.elim⟩
theorem SameI.refl (P : Nat → Prop) (w : World) : SameI P w w := fun _ _ _ _ h => h
theorem SameI.trans {P : Nat → Prop} {a b c : World} (h : SameI P a b) (k : SameI P b c) : SameI P a c := fun i hi cs z ho => k i hi cs z (h i hi cs z ho)
theorem SameI.blk {P : Nat → Prop} {w w' : World} {k : Nat} {cs : Array Value} (h : SameI P w w') (hk : P k) (hb : Blk w k 3 cs) : Blk w' k 3 cs := h k hk cs _ hb
/-- Blocks that aren't the disk's, of what is new. -/
theorem DskP.with_new {P : Nat → Prop} {w w' : World} {B g : Nat} {st : Dk.St} (h : DskP P w B g st) (hb : Below w.heap.size w w') : DskP (fun k => P k ∨ w.heap.size ≤ k ∧ k < w'.heap.size) w' B g st := by
  obtain ⟨m, lv, tc, tf, n, h, hn, hp⟩ := h
  have hc : Ch (fun _ => false) 0 w w' := Ch.of_below hb
  refine ⟨m, lv, tc, tf, n, h.kept hc (fun _ => rfl) (fun _ _ => rfl) (fun _ => rfl), hn, fun k hk => ?_⟩
  rcases hk with hk | ⟨h1, h2⟩
  · exact ⟨Nat.lt_of_lt_of_le (hp k hk).1 hb.size, (hp k hk).2⟩
  · refine ⟨h2, fun e => ?_⟩
    rcases h.row.2 with ⟨rfl, _⟩ | ⟨b, cap, cur, rfl, _, hh, _⟩
    · cases e
    · simp [Value.ownBlock] at e
      have := lt_of_at hh
      omega
theorem DskP.kept {P : Nat → Prop} {w w' : World} {B g : Nat} {st : Dk.St} {T : Obj → Bool} {B' : Nat} (h : DskP P w B g st) (hc : Ch T B' w w') (h1 : ∀ cs, T (.cells cs 61 (0, 0)) = false) (h2 : ∀ es c, T (.map es c) = false) (h3 : ∀ cs, T (.cells cs 3 (0, 0)) = false) : DskP P w' B g st := by
  obtain ⟨m, lv, tc, tf, n, h, hn, hp⟩ := h
  exact ⟨m, lv, tc, tf, n, h.kept hc h1 h2 h3, hn, fun k hk => ⟨Nat.lt_of_lt_of_le (hp k hk).1 hc.size, (hp k hk).2⟩⟩
theorem DskP.less {P R : Nat → Prop} {w : World} {B g : Nat} {st : Dk.St} (h : DskP P w B g st) (hr : ∀ k, R k → P k) : DskP R w B g st := by
  obtain ⟨m, lv, tc, tf, n, h, hn, hp⟩ := h
  exact ⟨m, lv, tc, tf, n, h, hn, fun k hk => hp k (hr k hk)⟩

/-- What a call leaves of the disk: where its row of loose sectors is, too. -/
def AtPost (B g : Nat) (E : Int) (st' : Dk.St) (lv : Value) (w : World) (e : Ending) (w' : World) : Prop :=
  e = .returned (.int .i64 E) ∧ (∃ m lv' tc tf n, DskAt w' B g st' m lv' tc tf n ∧ n ≤ st'.many ∧ Lvs w lv w' lv') ∧ Ch Td B w w'
def InPost (P : Nat → Prop) (B g : Nat) (E : Int) (st' : Dk.St) (w : World) (e : Ending) (w' : World) : Prop :=
  e = .returned (.int .i64 E) ∧ DskP P w' B g st' ∧ SameI P w w' ∧ Ch Td B w w'
theorem AtPost.into {P : Nat → Prop} {B g : Nat} {E : Int} {st' : Dk.St} {lv : Value} {w w' : World} {e : Ending} (h : AtPost B g E st' lv w e w') (hp : ∀ k, P k → k < w.heap.size ∧ lv.ownBlock ≠ some k) : InPost P B g E st' w e w' := by
  obtain ⟨he, ⟨m, lv', tc, tf, n, h1, h2, h3⟩, hc⟩ := h
  refine ⟨he, ⟨m, lv', tc, tf, n, h1, h2, fun k hk => ⟨Nat.lt_of_lt_of_le (hp k hk).1 hc.size, fun e => ?_⟩⟩, fun k hk cs z ho => h3.block k cs z (hp k hk).2 ho, hc⟩
  rcases h3.own k e with h4 | h4
  · exact (hp k hk).2 h4
  · have := (hp k hk).1
    omega

def WritePost (B g : Nat) (st : Dk.St) (i : Int) (s : ByteArray) (w : World) (e : Ending) (w' : World) : Prop :=
  e = .returned (.int .i64 (st.writeE i s)) ∧ Dsk w' B g (st.write i s) ∧ Ch Td B w w'

theorem write_bars {st : Dk.St} {i : Int} {s : ByteArray} (h : st.bars i s ≠ 0) : st.writeE i s = st.bars i s ∧ st.write i s = st := by
  unfold Dk.St.writeE Dk.St.write
  rw [if_pos h, if_pos h]
  exact ⟨rfl, rfl⟩
theorem write_cut {st : Dk.St} {i : Int} {s : ByteArray} (h : st.bars i s = 0) (hd : st.due = 33) : st.writeE i s = 33 ∧ st.write i s = (st.tick.put i.toNat s).die := by
  unfold Dk.St.writeE Dk.St.write
  rw [if_neg (by simp [h]), if_neg (by simp [h]), if_pos hd]
  exact ⟨hd, rfl⟩
theorem write_fail {st : Dk.St} {i : Int} {s : ByteArray} (h : st.bars i s = 0) (hd : st.due = 32) : st.writeE i s = 32 ∧ st.write i s = st.tick := by
  unfold Dk.St.writeE Dk.St.write
  rw [if_neg (by simp [h]), if_neg (by simp [h]), if_neg (by rw [hd]; decide), if_pos hd]
  exact ⟨hd, rfl⟩
theorem write_ok {st : Dk.St} {i : Int} {s : ByteArray} (h : st.bars i s = 0) (hd : st.due = 0) : st.writeE i s = 0 ∧ st.write i s = st.tick.put i.toNat s := by
  unfold Dk.St.writeE Dk.St.write
  rw [if_neg (by simp [h]), if_neg (by simp [h]), if_neg (by rw [hd]; decide), if_neg (by rw [hd]; decide)]
  exact ⟨hd, rfl⟩
theorem due_three (st : Dk.St) : st.due = 33 ∨ st.due = 32 ∨ st.due = 0 := by
  unfold Dk.St.due
  split
  · exact .inl rfl
  · split
    · exact .inr (.inl rfl)
    · exact .inr (.inr rfl)

set_option maxRecDepth 20000 in
set_option maxHeartbeats 400000 in
theorem write_at (B g : Nat) (st : Dk.St) (m : Nat) (lv : Value) (tc tf : Int) (n : Nat) (i : Int) (s : ByteArray) (w : World) (h : DskAt w B g st m lv tc tf n) (hn : n ≤ st.many) (hm : st.many ≤ 1073741824) :
    Calls Tryd.prog 23 #[.pointer (some ⟨g, 0, none⟩), .int .i64 i, .string s] w (AtPost B g (st.writeE i s) (st.write i s) lv w) := by
  have HR := Lib.hid (reach_any B g st i w ⟨m, lv, tc, tf, n, h, hn⟩)
  have HN0 := Lib.hid hn
  by_cases hr : st.reach i = 0
  · by_cases hs : 128 < s.size
    · have hb : st.bars i s = 31 := by unfold Dk.St.bars; rw [if_neg (by simp [hr]), if_pos hs]
      have HB := Lib.hid (write_bars (st := st) (i := i) (s := s) (by rw [hb]; decide))
      have HD := Lib.hid h
      have HBB := Lib.hid hb
      have HRR := Lib.hid hr
      clear h hb hr hn
      go_enter Tryd.func23, Tryd.ntmps23
      go_wp2_with fail
      refine HR.out.mono ?_
      rintro e w1 ⟨rfl, rfl⟩
      rw [HRR.out]
      go_wp2_with fail
      go_ret
      exact ⟨by rw [HB.out.1, HBB.out]; rfl, by rw [HB.out.2]; exact ⟨m, lv, tc, tf, n, HD.out, HN0.out, Lvs.refl _ _⟩, Ch.refl _ _ _⟩
    · have hb : st.bars i s = 0 := by unfold Dk.St.bars; rw [if_neg (by simp [hr]), if_neg hs]
      obtain ⟨-, h0, h1, h2⟩ := Dk.bars_ok hb
      obtain ⟨k, rfl⟩ : ∃ k : Nat, i = (k : Int) := ⟨i.toNat, by omega⟩
      have hk : k < 256 := by omega
      have HC := Lib.hid (call_any B g st m lv tc tf n w h (by omega))
      have hfew := h.inv.few
      have hf1 : st.tick.loose.length < st.tick.many := by show st.loose.length < st.many + 1; omega
      have hm1 : st.tick.many ≤ 1099511627776 := by show st.many + 1 ≤ 1099511627776; omega
      have hm2 : (st.tick.put k s).many ≤ 1099511627776 := hm1
      have hn1 : n ≤ 1099511627776 := by omega
      have HN := Lib.hid hn
      have HRR := Lib.hid hr
      clear h hr hfew hm hn
      rcases due_three st with hd | hd | hd
      · have HB := Lib.hid (write_cut hb hd)
        have HDU := Lib.hid hd
        clear hb hd
        go_enter Tryd.func23, Tryd.ntmps23
        go_wp2_with fail
        refine HR.out.mono ?_
        rintro e w1 ⟨rfl, rfl⟩
        rw [HRR.out]
        go_wp2_with fail
        refine HC.out.mono ?_
        rintro e w1 ⟨rfl, h1, hc1⟩
        rw [HDU.out]
        go_wp2_with fail
        refine (dput_any B g _ m lv _ _ n k s w1 h1 hk (by omega) hf1 hm1 hn1).mono ?_
        rintro e w2 ⟨rfl, ⟨lv2, h2, l2⟩, hc2⟩
        go_wp2_with fail
        refine (dark_any B g _ m lv2 _ _ (n + 1) w2 h2 hm2).mono ?_
        rintro e w3 ⟨rfl, ⟨lv3, o3, h3⟩, hc3⟩
        go_wp2_with fail
        go_ret
        exact ⟨by rw [HB.out.1]; rfl, by rw [HB.out.2]; exact ⟨m, lv3, _, _, n + 1, h3, Nat.succ_le_succ HN.out, ((Lvs.of_ch hc1 td0_int rfl).trans l2).trans (Lvs.of_ch hc3 td0_int o3)⟩, (hc1.d.trans hc2).trans hc3.d⟩
      · have HB := Lib.hid (write_fail hb hd)
        have HDU := Lib.hid hd
        clear hb hd
        go_enter Tryd.func23, Tryd.ntmps23
        go_wp2_with fail
        refine HR.out.mono ?_
        rintro e w1 ⟨rfl, rfl⟩
        rw [HRR.out]
        go_wp2_with fail
        refine HC.out.mono ?_
        rintro e w1 ⟨rfl, h1, hc1⟩
        rw [HDU.out]
        go_wp2_with fail
        go_ret
        exact ⟨by rw [HB.out.1]; rfl, by rw [HB.out.2]; exact ⟨m, lv, _, _, n, h1, Nat.le_succ_of_le HN.out, Lvs.of_ch hc1 td0_int rfl⟩, hc1.d⟩
      · have HB := Lib.hid (write_ok hb hd)
        have HDU := Lib.hid hd
        clear hb hd
        go_enter Tryd.func23, Tryd.ntmps23
        go_wp2_with fail
        refine HR.out.mono ?_
        rintro e w1 ⟨rfl, rfl⟩
        rw [HRR.out]
        go_wp2_with fail
        refine HC.out.mono ?_
        rintro e w1 ⟨rfl, h1, hc1⟩
        rw [HDU.out]
        go_wp2_with fail
        refine (dput_any B g _ m lv _ _ n k s w1 h1 hk (by omega) hf1 hm1 hn1).mono ?_
        rintro e w2 ⟨rfl, ⟨lv2, h2, l2⟩, hc2⟩
        go_wp2_with fail
        go_ret
        exact ⟨by rw [HB.out.1]; rfl, by rw [HB.out.2]; exact ⟨m, lv2, _, _, n + 1, h2, Nat.succ_le_succ HN.out, (Lvs.of_ch hc1 td0_int rfl).trans l2⟩, hc1.d.trans hc2⟩
  · have hb : st.bars i s = st.reach i := by unfold Dk.St.bars; rw [if_pos hr]
    have HB := Lib.hid (write_bars (st := st) (i := i) (s := s) (by rw [hb]; exact hr))
    rw [hb] at HB
    have HD := Lib.hid h
    clear h hb hn
    have HRR := Lib.hid hr
    clear hr
    generalize st.reach i = x at *
    have hx := HRR.out
    go_enter Tryd.func23, Tryd.ntmps23
    go_wp2_with fail
    refine HR.out.mono ?_
    rintro e w1 ⟨rfl, rfl⟩
    go_wp2_with fail
    go_ret
    exact ⟨by rw [HB.out.1]; rfl, by rw [HB.out.2]; exact ⟨m, lv, tc, tf, n, HD.out, HN0.out, Lvs.refl _ _⟩, Ch.refl _ _ _⟩

theorem write_in (P : Nat → Prop) (B g : Nat) (st : Dk.St) (i : Int) (s : ByteArray) (w : World) (h : DskP P w B g st) (hm : st.many ≤ 1073741824) :
    Calls Tryd.prog 23 #[.pointer (some ⟨g, 0, none⟩), .int .i64 i, .string s] w (InPost P B g (st.writeE i s) (st.write i s) w) := by
  obtain ⟨m, lv, tc, tf, n, h, hn, hp⟩ := h
  exact (write_at B g st m lv tc tf n i s w h hn hm).mono fun _ _ h => h.into hp
theorem write_any (B g : Nat) (st : Dk.St) (i : Int) (s : ByteArray) (w : World) (h : Dsk w B g st) (hm : st.many ≤ 1073741824) :
    Calls Tryd.prog 23 #[.pointer (some ⟨g, 0, none⟩), .int .i64 i, .string s] w (WritePost B g st i s w) :=
  (write_in _ B g st i s w h.free hm).mono fun _ _ h => ⟨h.1, h.2.1.dsk, h.2.2.2⟩

def BarrierPost (B g : Nat) (st : Dk.St) (w : World) (e : Ending) (w' : World) : Prop :=
  e = .returned (.int .i64 st.barrierE) ∧ Dsk w' B g st.barrier ∧ Ch Td B w w'

theorem barrier_off {st : Dk.St} (h : st.off = true) : st.barrierE = 33 ∧ st.barrier = st := by
  unfold Dk.St.barrierE Dk.St.barrier
  rw [if_pos h, if_pos h]
  exact ⟨rfl, rfl⟩
theorem barrier_cut {st : Dk.St} (h : st.off = false) (hd : st.due = 33) : st.barrierE = 33 ∧ st.barrier = st.tick.die := by
  unfold Dk.St.barrierE Dk.St.barrier
  rw [if_neg (by simp [h]), if_neg (by simp [h]), if_pos hd]
  exact ⟨hd, rfl⟩
theorem barrier_fail {st : Dk.St} (h : st.off = false) (hd : st.due = 32) : st.barrierE = 32 ∧ st.barrier = st.tick := by
  unfold Dk.St.barrierE Dk.St.barrier
  rw [if_neg (by simp [h]), if_neg (by simp [h]), if_neg (by rw [hd]; decide), if_pos hd]
  exact ⟨hd, rfl⟩
theorem barrier_ok {st : Dk.St} (h : st.off = false) (hd : st.due = 0) : st.barrierE = 0 ∧ st.barrier = st.tick.fasten := by
  unfold Dk.St.barrierE Dk.St.barrier
  rw [if_neg (by simp [h]), if_neg (by simp [h]), if_neg (by rw [hd]; decide), if_neg (by rw [hd]; decide)]
  exact ⟨hd, rfl⟩

set_option maxRecDepth 20000 in
set_option maxHeartbeats 400000 in
theorem barrier_at (B g : Nat) (st : Dk.St) (m : Nat) (lv : Value) (tc tf : Int) (n : Nat) (w : World) (h : DskAt w B g st m lv tc tf n) (hn : n ≤ st.many) (hm : st.many ≤ 1073741824) :
    Calls Tryd.prog 20 #[.pointer (some ⟨g, 0, none⟩)] w (AtPost B g st.barrierE st.barrier lv w) := by
  obtain ⟨-, -, c2, -⟩ := dk_cells h.blk
  cases ho : st.off with
  | true =>
    simp only [rawOf, ho] at c2
    have HB := Lib.hid (barrier_off ho)
    have HD := Lib.hid h; have HN := Lib.hid hn
    clear h hn ho
    go_enter Tryd.func20, Tryd.ntmps20
    go_wp2_with fail
    go_ret
    exact ⟨by rw [HB.out.1]; rfl, by rw [HB.out.2]; exact ⟨m, lv, tc, tf, n, HD.out, HN.out, Lvs.refl _ _⟩, Ch.refl _ _ _⟩
  | false =>
    simp only [rawOf, ho] at c2
    have HC := Lib.hid (call_any B g st m lv tc tf n w h (by omega))
    have hm1 : st.tick.many ≤ 1099511627776 := by show st.many + 1 ≤ 1099511627776; omega
    have HN := Lib.hid hn
    clear h hn hm
    rcases due_three st with hd | hd | hd
    · have HB := Lib.hid (barrier_cut ho hd)
      have HDU := Lib.hid hd
      clear hd ho
      go_enter Tryd.func20, Tryd.ntmps20
      go_wp2_with fail
      refine HC.out.mono ?_
      rintro e w1 ⟨rfl, h1, hc1⟩
      rw [HDU.out]
      go_wp2_with fail
      refine (dark_any B g _ m lv _ _ n w1 h1 hm1).mono ?_
      rintro e w3 ⟨rfl, ⟨lv3, o3, h3⟩, hc3⟩
      go_wp2_with fail
      go_ret
      exact ⟨by rw [HB.out.1]; rfl, by rw [HB.out.2]; exact ⟨m, lv3, _, _, n, h3, Nat.le_succ_of_le HN.out, (Lvs.of_ch hc1 td0_int rfl).trans (Lvs.of_ch hc3 td0_int o3)⟩, (hc1.trans hc3).d⟩
    · have HB := Lib.hid (barrier_fail ho hd)
      have HDU := Lib.hid hd
      clear hd ho
      go_enter Tryd.func20, Tryd.ntmps20
      go_wp2_with fail
      refine HC.out.mono ?_
      rintro e w1 ⟨rfl, h1, hc1⟩
      rw [HDU.out]
      go_wp2_with fail
      go_ret
      exact ⟨by rw [HB.out.1]; rfl, by rw [HB.out.2]; exact ⟨m, lv, _, _, n, h1, Nat.le_succ_of_le HN.out, Lvs.of_ch hc1 td0_int rfl⟩, hc1.d⟩
    · have HB := Lib.hid (barrier_ok ho hd)
      have HDU := Lib.hid hd
      clear hd ho
      go_enter Tryd.func20, Tryd.ntmps20
      go_wp2_with fail
      refine HC.out.mono ?_
      rintro e w1 ⟨rfl, h1, hc1⟩
      rw [HDU.out]
      go_wp2_with fail
      refine (fasten_any B g _ m lv _ _ n w1 h1 hm1).mono ?_
      rintro e w3 ⟨rfl, ⟨lv3, o3, h3⟩, hc3⟩
      go_wp2_with fail
      go_ret
      exact ⟨by rw [HB.out.1]; rfl, by rw [HB.out.2]; exact ⟨m, lv3, _, _, n, h3, Nat.le_succ_of_le HN.out, (Lvs.of_ch hc1 td0_int rfl).trans (Lvs.of_ch hc3 td0_int o3)⟩, (hc1.trans hc3).d⟩

theorem barrier_in (P : Nat → Prop) (B g : Nat) (st : Dk.St) (w : World) (h : DskP P w B g st) (hm : st.many ≤ 1073741824) :
    Calls Tryd.prog 20 #[.pointer (some ⟨g, 0, none⟩)] w (InPost P B g st.barrierE st.barrier w) := by
  obtain ⟨m, lv, tc, tf, n, h, hn, hp⟩ := h
  exact (barrier_at B g st m lv tc tf n w h hn hm).mono fun _ _ h => h.into hp
theorem barrier_any (B g : Nat) (st : Dk.St) (w : World) (h : Dsk w B g st) (hm : st.many ≤ 1073741824) :
    Calls Tryd.prog 20 #[.pointer (some ⟨g, 0, none⟩)] w (BarrierPost B g st w) :=
  (barrier_in _ B g st w h.free hm).mono fun _ _ h => ⟨h.1, h.2.1.dsk, h.2.2.2⟩

end Go.Proofs.YtgahcbhdnplnoaaDoor
