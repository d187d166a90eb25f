/- What Write, Barrier and New come to, the document's. -/
import Derived.Test.YtgahcbhdnplnoaaDoorCkDiskRdie
import Derived.Test.YtgahcbhdnplnoaaDoorCkDiskRcall
import Derived.Test.YtgahcbhdnplnoaaDoorCkDiskWrite
namespace Go.Proofs.YtgahcbhdnplnoaaDoor
open Go.RowKit

def RwritePost (B g : Nat) (st : Dk.St) (i : Int) (s : ByteArray) (w : World) (e : Ending) (w' : World) : Prop :=
  e = .returned (.int .i64 (st.writeE i s)) ∧ Ref w' B g (st.write i s) ∧ Ch Tr B w w'

def RwriteAt (B g b : Nat) (st : Dk.St) (i : Int) (s : ByteArray) (w : World) (e : Ending) (w' : World) : Prop :=
  e = .returned (.int .i64 (st.writeE i s)) ∧ (∃ lv, RefAt w' B g (st.write i s) b lv) ∧ Rch B b w w'

/-- What call tells, as two bools. -/
theorem due_bools {st : Dk.St} {x : Int} (h : st.due = x) : (x = 33 → ((st.cuts : Int) == 1) = true) ∧ (x = 32 → ((st.cuts : Int) == 1) = false ∧ ((st.fails : Int) == 1) = true) ∧ (x = 0 → ((st.cuts : Int) == 1) = false ∧ ((st.fails : Int) == 1) = false) := by
  subst h
  refine ⟨fun e => ?_, fun e => ?_, fun e => ?_⟩
  · have := Dk.due_cut e
    simp; omega
  · have := Dk.due_fail e
    simp; omega
  · have := Dk.due_ok (st := st) (by rw [e]; decide) (by rw [e]; decide)
    simp; omega

theorem bars_reach {st : Dk.St} {i x : Int} (s : ByteArray) (h : st.reach i = x) (hx : x ≠ 0) : st.bars i s = x := by
  unfold Dk.St.bars
  rw [h, if_pos hx]

set_option maxRecDepth 20000 in
set_option maxHeartbeats 400000 in
theorem rwrite_at (B g : Nat) (st : Dk.St) (b : Nat) (lv : Value) (i : Int) (s : ByteArray) (w : World) (h : RefAt w B g st b lv) (hm : st.many ≤ 1073741824) :
    Calls Tryd.prog 24 #[.pointer (some ⟨g, 0, none⟩), .int .i64 i, .string s] w (RwriteAt B g b st i s w) := by
  obtain ⟨-, -, c0, -⟩ := h.cells
  by_cases hb : st.bars i s = 0
  · obtain ⟨ho, h0, h1, h2⟩ := Dk.bars_ok hb
    obtain ⟨k, rfl⟩ : ∃ k : Nat, i = (k : Int) := ⟨i.toNat, by omega⟩
    have hk : k < 256 := by omega
    have HC := Lib.hid (rcall_any B g st b lv w h (by omega))
    have hf1 : st.tick.loose.length < st.tick.many := by have := h.inv.few; show st.loose.length < st.many + 1; omega
    have hm1 : st.tick.many ≤ 1099511627776 := by show st.many + 1 ≤ 1099511627776; omega
    have hm2 : (st.tick.put k s).many ≤ 1099511627776 := hm1
    rw [ho] at c0
    clear h hm ho
    rcases due_three st with hd | hd | hd
    · have HB := Lib.hid (write_cut hb hd)
      have t1 := (due_bools hd).1 rfl
      clear hb hd
      go_enter Tryd.func24, Tryd.ntmps24
      go_wp2_with fail
      refine HC.out.mono ?_
      rintro e w1 ⟨rfl, h1, hc1⟩
      go_wp2_with fail
      refine (rput_any B g _ b lv k s w1 h1 hk (by omega) hf1 hm1).mono ?_
      rintro e w2 ⟨rfl, ⟨lv2, h2⟩, hc2⟩
      go_wp2_with fail
      refine (rdie_any B g _ b lv2 w2 h2 hm2).mono ?_
      rintro e w3 ⟨rfl, ⟨lv3, h3⟩, hc3⟩
      go_wp2_with fail
      go_ret
      exact ⟨by rw [HB.out.1]; rfl, by rw [HB.out.2]; exact ⟨lv3, h3⟩, (hc1.trans hc2).trans hc3⟩
    · have HB := Lib.hid (write_fail hb hd)
      obtain ⟨t1, t2⟩ := (due_bools hd).2.1 rfl
      clear hb hd
      go_enter Tryd.func24, Tryd.ntmps24
      go_wp2_with fail
      refine HC.out.mono ?_
      rintro e w1 ⟨rfl, h1, hc1⟩
      go_wp2_with fail
      go_ret
      exact ⟨by rw [HB.out.1]; rfl, by rw [HB.out.2]; exact ⟨lv, h1⟩, hc1⟩
    · have HB := Lib.hid (write_ok hb hd)
      obtain ⟨t1, t2⟩ := (due_bools hd).2.2 rfl
      clear hb hd
      go_enter Tryd.func24, Tryd.ntmps24
      go_wp2_with fail
      refine HC.out.mono ?_
      rintro e w1 ⟨rfl, h1, hc1⟩
      go_wp2_with fail
      refine (rput_any B g _ b lv k s w1 h1 hk (by omega) hf1 hm1).mono ?_
      rintro e w2 ⟨rfl, ⟨lv2, h2⟩, hc2⟩
      go_wp2_with fail
      go_ret
      exact ⟨by rw [HB.out.1]; rfl, by rw [HB.out.2]; exact ⟨lv2, h2⟩, hc1.trans hc2⟩
  · have HB := Lib.hid (write_bars hb)
    have HD := Lib.hid h
    have HX : ∀ x, st.bars i s = x → st.writeE i s = x := fun x e => by rw [HB.out.1, e]
    have HY := Lib.hid HX
    have HBB := Lib.hid hb
    clear h hb HX
    cases ho : st.off with
    | true =>
      have e := HY.out 33 (bars_reach s (by unfold Dk.St.reach; rw [if_pos ho]) (by decide))
      have HE := Lib.hid e
      rw [ho] at c0
      clear ho e
      go_enter Tryd.func24, Tryd.ntmps24
      go_wp2_with fail
      go_ret
      exact ⟨by rw [HE.out]; rfl, by rw [HB.out.2]; exact ⟨lv, HD.out⟩, Rch.refl _ _ _⟩
    | false =>
      rw [ho] at c0
      by_cases h1 : i < 0
      · have e := HY.out 30 (bars_reach s (by unfold Dk.St.reach; rw [if_neg (by simp [ho]), if_pos (.inl h1)]) (by decide))
        have HE := Lib.hid e
        clear ho e
        go_enter Tryd.func24, Tryd.ntmps24
        go_wp2_with fail
        go_ret
        exact ⟨by rw [HE.out]; rfl, by rw [HB.out.2]; exact ⟨lv, HD.out⟩, Rch.refl _ _ _⟩
      · by_cases h2 : 256 ≤ i
        · have e := HY.out 30 (bars_reach s (by unfold Dk.St.reach; rw [if_neg (by simp [ho]), if_pos (.inr h2)]) (by decide))
          have HE := Lib.hid e
          clear ho e
          go_enter Tryd.func24, Tryd.ntmps24
          go_wp2_with fail
          go_ret
          exact ⟨by rw [HE.out]; rfl, by rw [HB.out.2]; exact ⟨lv, HD.out⟩, Rch.refl _ _ _⟩
        · have h3 : 128 < s.size := by
            rcases Nat.lt_or_ge 128 s.size with h | h
            · exact h
            · exfalso
              exact HBB.out (Dk.bars_mk ho (by omega) (by omega) h)
          have e := HY.out 31 (by unfold Dk.St.bars; rw [Dk.reach_mk ho (by omega) (by omega), if_neg (by simp), if_pos h3])
          have HE := Lib.hid e
          clear ho e
          go_enter Tryd.func24, Tryd.ntmps24
          go_wp2_with fail
          go_ret
          exact ⟨by rw [HE.out]; rfl, by rw [HB.out.2]; exact ⟨lv, HD.out⟩, Rch.refl _ _ _⟩

theorem rwrite_any (B g : Nat) (st : Dk.St) (i : Int) (s : ByteArray) (w : World) (h : Ref w B g st) (hm : st.many ≤ 1073741824) :
    Calls Tryd.prog 24 #[.pointer (some ⟨g, 0, none⟩), .int .i64 i, .string s] w (RwritePost B g st i s w) := by
  obtain ⟨b, lv, h⟩ := h
  refine (rwrite_at B g st b lv i s w h hm).mono ?_
  rintro e w' ⟨h1, ⟨lv', h2⟩, h3⟩
  exact ⟨h1, ⟨b, lv', h2⟩, h3.ch⟩

def RbarrierPost (B g : Nat) (st : Dk.St) (w : World) (e : Ending) (w' : World) : Prop :=
  e = .returned (.int .i64 st.barrierE) ∧ Ref w' B g st.barrier ∧ Ch Tr B w w'

def RbarrierAt (B g b : Nat) (st : Dk.St) (w : World) (e : Ending) (w' : World) : Prop :=
  e = .returned (.int .i64 st.barrierE) ∧ (∃ lv, RefAt w' B g st.barrier b lv) ∧ Rch B b w w'

theorem ref_fasten {w : World} {B g b : Nat} {st : Dk.St} {lv : Value} (h : RefAt w B g st b lv) :
    RefAt (w.setCell ⟨g, 1, none⟩ (.slice none 0 0)) B g st.fasten b (.slice none 0 0) ∧ Rch B b w (w.setCell ⟨g, 1, none⟩ (.slice none 0 0)) := by
  have s1 := Lib.grownBy_setCell w g 1 (.slice none 0 0)
  exact ⟨{ blk := h.blk.set 1 (.slice none 0 0), sec := h.sec.grown s1 (by intro e; injection e with e; exact h.gb e.symm), row := World.ownsRow_nil _ _ _ _, atg := h.atg, atb := h.atb, cuts := h.cuts, fails := h.fails, keep := h.keep, inv := h.inv.fasten },
    Ch.set h.blk h.atg rfl 1 _, Only.set h.blk (by decide) 1 _⟩

set_option maxRecDepth 20000 in
set_option maxHeartbeats 400000 in
theorem rbarrier_at (B g : Nat) (st : Dk.St) (b : Nat) (lv : Value) (w : World) (h : RefAt w B g st b lv) (hm : st.many ≤ 1073741824) :
    Calls Tryd.prog 63 #[.pointer (some ⟨g, 0, none⟩)] w (RbarrierAt B g b st w) := by
  obtain ⟨-, -, c2, -⟩ := h.cells
  cases ho : st.off with
  | true =>
    rw [ho] at c2
    have HB := Lib.hid (barrier_off ho)
    have HD := Lib.hid h
    clear h ho
    go_enter Tryd.func63, Tryd.ntmps63
    go_wp2_with fail
    go_ret
    exact ⟨by rw [HB.out.1]; rfl, by rw [HB.out.2]; exact ⟨lv, HD.out⟩, Rch.refl _ _ _⟩
  | false =>
    rw [ho] at c2
    have HC := Lib.hid (rcall_any B g st b lv w h (by omega))
    have hm1 : st.tick.many ≤ 1099511627776 := by show st.many + 1 ≤ 1099511627776; omega
    clear h hm
    rcases due_three st with hd | hd | hd
    · have HB := Lib.hid (barrier_cut ho hd)
      have t1 := (due_bools hd).1 rfl
      clear hd ho
      go_enter Tryd.func63, Tryd.ntmps63
      go_wp2_with fail
      refine HC.out.mono ?_
      rintro e w1 ⟨rfl, h1, hc1⟩
      go_wp2_with fail
      refine (rdie_any B g _ b lv w1 h1 hm1).mono ?_
      rintro e w3 ⟨rfl, ⟨lv3, h3⟩, hc3⟩
      go_wp2_with fail
      go_ret
      exact ⟨by rw [HB.out.1]; rfl, by rw [HB.out.2]; exact ⟨lv3, h3⟩, hc1.trans hc3⟩
    · have HB := Lib.hid (barrier_fail ho hd)
      obtain ⟨t1, t2⟩ := (due_bools hd).2.1 rfl
      clear hd ho
      go_enter Tryd.func63, Tryd.ntmps63
      go_wp2_with fail
      refine HC.out.mono ?_
      rintro e w1 ⟨rfl, h1, hc1⟩
      go_wp2_with fail
      go_ret
      exact ⟨by rw [HB.out.1]; rfl, by rw [HB.out.2]; exact ⟨lv, h1⟩, hc1⟩
    · have HB := Lib.hid (barrier_ok ho hd)
      obtain ⟨t1, t2⟩ := (due_bools hd).2.2 rfl
      clear hd ho
      go_enter Tryd.func63, Tryd.ntmps63
      go_wp2_with fail
      refine HC.out.mono ?_
      rintro e w1 ⟨rfl, h1, hc1⟩
      obtain ⟨-, d1, -⟩ := h1.cells
      have f1 := h1.blk.frozen 1
      have HE := Lib.hid (ref_fasten h1)
      clear h1
      go_wp2_with fail
      go_ret
      exact ⟨by rw [HB.out.1]; rfl, by rw [HB.out.2]; exact ⟨_, HE.out.1⟩, hc1.trans HE.out.2⟩

theorem rbarrier_any (B g : Nat) (st : Dk.St) (w : World) (h : Ref w B g st) (hm : st.many ≤ 1073741824) :
    Calls Tryd.prog 63 #[.pointer (some ⟨g, 0, none⟩)] w (RbarrierPost B g st w) := by
  obtain ⟨b, lv, h⟩ := h
  refine (rbarrier_at B g st b lv w h hm).mono ?_
  rintro e w' ⟨h1, ⟨lv', h2⟩, h3⟩
  exact ⟨h1, ⟨b, lv', h2⟩, h3.ch⟩

/-! ### New -/
theorem make_256 (w : World) : (Instr.makeSlice 22 (.int .i64 256) (.int .i64 256)).run Tryd.prog w = .ok (.slice (some ⟨w.heap.size, 0, none⟩) 256 256) (w.alloc (.cells (sect fun _ => ByteArray.empty).toArray 9)) := by kernel_rfl

theorem wpList_make_256 (w : World) {ops : Array Oper} {rest : List Oper} {o : Oper} {a : Act} {Q : Exit → Act → World → Prop}
    (hg : o.guard = none) (x y : Operand) (hop : o.op = Op.makeSlice 22 x y) (hx : a.eval x = .int .i64 256) (hy : a.eval y = .int .i64 256)
    (hK : wpList Tryd.prog ops Q rest (a.put o.dst (.slice (some ⟨w.heap.size, 0, none⟩) 256 256)) (w.alloc (.cells (sect fun _ => ByteArray.empty).toArray 9))) :
    wpList Tryd.prog ops Q (o :: rest) a w := by
  refine wpList_plain hg fun K' hK' => ?_
  have hrun := make_256 w
  unfold Oper.wp
  simp [execOp, hop, hx, hy, hrun, Result.andThen]
  exact hK' _ _ hK

theorem rnew_end (w : World) : (∃ lv, RefAt ((w.alloc (.cells (sect fun _ => ByteArray.empty).toArray 9)).alloc (.cells (stCells w.heap.size (.slice none 0 0) Dk.St.new) 76)) w.heap.size (w.heap.size + 1) Dk.St.new w.heap.size lv) ∧
    Ch Tr w.heap.size w ((w.alloc (.cells (sect fun _ => ByteArray.empty).toArray 9)).alloc (.cells (stCells w.heap.size (.slice none 0 0) Dk.St.new) 76)) := by
  have hz : (w.alloc (.cells (sect fun _ => ByteArray.empty).toArray 9)).heap.size = w.heap.size + 1 := by simp
  have hb := Blk.new (w.alloc (.cells (sect fun _ => ByteArray.empty).toArray 9)) 76 (stCells w.heap.size (.slice none 0 0) Dk.St.new)
  rw [hz] at hb
  exact ⟨⟨.slice none 0 0, { blk := hb, sec := (Blk.new w _ _).alloc _, row := World.ownsRow_nil _ _ _ _, atg := Nat.le_succ _, atb := Nat.le_refl _, cuts := by decide, fails := by decide, keep := by decide, inv := Dk.Inv.new }⟩, ((Ch.refl _ _ _).alloc _).alloc _⟩

set_option maxRecDepth 20000 in
set_option maxHeartbeats 400000 in
theorem rnew_at (w : World) :
    Calls Tryd.prog 21 #[] w fun e w' => e = .returned (.pointer (some ⟨w.heap.size + 1, 0, none⟩)) ∧ (∃ lv, RefAt w' w.heap.size (w.heap.size + 1) Dk.St.new w.heap.size lv) ∧ Ch Tr w.heap.size w w' := by
  have HE := Lib.hid (rnew_end w)
  go_enter Tryd.func21, Tryd.ntmps21
  go_wp2_with (refine wpList_make_256 _ rfl _ _ rfl rfl rfl ?_)
  go_ret
  exact ⟨rfl, HE.out.1, HE.out.2⟩
theorem rnew_any (w : World) :
    Calls Tryd.prog 21 #[] w fun e w' => e = .returned (.pointer (some ⟨w.heap.size + 1, 0, none⟩)) ∧ Ref w' w.heap.size (w.heap.size + 1) Dk.St.new ∧ Ch Tr w.heap.size w w' := by
  refine (rnew_at w).mono ?_
  rintro e w' ⟨h1, ⟨lv, h2⟩, h3⟩
  exact ⟨h1, ⟨_, lv, h2⟩, h3⟩

end Go.Proofs.YtgahcbhdnplnoaaDoor
