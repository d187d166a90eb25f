/- What the document's call comes to. -/
import Derived.Test.YtgahcbhdnplnoaaDoorCkDiskRef
namespace Go.Proofs.YtgahcbhdnplnoaaDoor
open Go.RowKit

def RcallPost (B g : Nat) (st : Dk.St) (b : Nat) (lv : Value) (w : World) (e : Ending) (w' : World) : Prop :=
  e = .returned (.tuple #[.bool ((st.cuts : Int) == 1), .bool ((st.fails : Int) == 1)]) ∧ RefAt w' B g st.tick b lv ∧ Rch B b w w'

theorem RefAt.to {w : World} {B g b : Nat} {st st' : Dk.St} {lv : Value} (h : RefAt w B g st b lv) (e : st = st') : RefAt w B g st' b lv := e ▸ h

theorem rc1 {w : World} {B g b : Nat} {st : Dk.St} {lv : Value} (h : RefAt w B g st b lv) :
    RefAt (w.setCell ⟨g, 6, none⟩ (.int .i64 ((st.many : Int) + 1))) B g { st with many := st.many + 1 } b lv ∧ Rch B b w (w.setCell ⟨g, 6, none⟩ (.int .i64 ((st.many : Int) + 1))) :=
  ⟨h.field (by show _ = refCells _ _ _ _ _ _ (st.many + 1); unfold stCells refCells; simp) rfl rfl h.cuts h.fails h.keep ⟨h.inv.nodup, h.inv.keys, h.inv.texts, Nat.le_succ_of_le h.inv.few⟩, h.chr 6 _⟩
theorem rc2 {w : World} {B g b : Nat} {st : Dk.St} {lv : Value} (h : RefAt w B g st b lv) (hc : 0 < st.cuts) :
    RefAt (w.setCell ⟨g, 3, none⟩ (.int .i64 ((st.cuts : Int) - 1))) B g { st with cuts := st.cuts - 1 } b lv ∧ Rch B b w (w.setCell ⟨g, 3, none⟩ (.int .i64 ((st.cuts : Int) - 1))) :=
  ⟨h.field (by rw [show (st.cuts : Int) - 1 = ((st.cuts - 1 : Nat) : Int) by omega]; rfl) rfl rfl (by have := h.cuts; show st.cuts - 1 ≤ _; omega) h.fails h.keep ⟨h.inv.nodup, h.inv.keys, h.inv.texts, h.inv.few⟩, h.chr 3 _⟩
theorem rc3 {w : World} {B g b : Nat} {st : Dk.St} {lv : Value} (h : RefAt w B g st b lv) (hc : 0 < st.fails) :
    RefAt (w.setCell ⟨g, 5, none⟩ (.int .i64 ((st.fails : Int) - 1))) B g { st with fails := st.fails - 1 } b lv ∧ Rch B b w (w.setCell ⟨g, 5, none⟩ (.int .i64 ((st.fails : Int) - 1))) :=
  ⟨h.field (by rw [show (st.fails : Int) - 1 = ((st.fails - 1 : Nat) : Int) by omega]; rfl) rfl rfl h.cuts (by have := h.fails; show st.fails - 1 ≤ _; omega) h.keep ⟨h.inv.nodup, h.inv.keys, h.inv.texts, h.inv.few⟩, h.chr 5 _⟩

theorem tick_of {st : Dk.St} {c f : Nat} (hc : c = st.cuts - 1) (hf : f = st.fails - 1) : ({ st with many := st.many + 1, cuts := c, fails := f } : Dk.St) = st.tick := by
  subst hc hf
  rfl

set_option maxRecDepth 20000 in
set_option maxHeartbeats 400000 in
theorem rcall_any (B g : Nat) (st : Dk.St) (b : Nat) (lv : Value) (w : World) (h : RefAt w B g st b lv) (hm : st.many ≤ 1099511627776) :
    Calls Tryd.prog 41 #[.pointer (some ⟨g, 0, none⟩)] w (RcallPost B g st b lv w) := by
  obtain ⟨-, -, -, c1, -, c2, c3⟩ := h.cells
  have f1 := h.blk.frozen 3
  have f2 := h.blk.frozen 5
  have f3 := h.blk.frozen 6
  have hcl := h.cuts
  have hfl := h.fails
  have R1 := rc1 h
  by_cases hc : 0 < st.cuts
  · have R2 := rc2 R1.1 hc
    by_cases hf : 0 < st.fails
    · have R3 := rc3 R2.1 hf
      have HR := Lib.hid (And.intro (R3.1.to (tick_of (st := st) rfl rfl)) ((R1.2.trans R2.2).trans R3.2))
      clear h R1 R2 R3
      go_enter Tryd.func41, Tryd.ntmps41
      go_wp2_with fail
      go_ret2
      exact ⟨rfl, HR.out⟩
    · have e : st.fails = 0 := by omega
      have HR := Lib.hid (And.intro (R2.1.to (tick_of (st := st) rfl (by rw [e]))) (R1.2.trans R2.2))
      clear h R1 R2 e
      go_enter Tryd.func41, Tryd.ntmps41
      go_wp2_with fail
      go_ret2
      exact ⟨rfl, HR.out⟩
  · have ec : st.cuts = 0 := by omega
    by_cases hf : 0 < st.fails
    · have R3 := rc3 R1.1 hf
      have HR := Lib.hid (And.intro (R3.1.to (tick_of (st := st) (by rw [ec]) rfl)) (R1.2.trans R3.2))
      clear h R1 R3 ec
      go_enter Tryd.func41, Tryd.ntmps41
      go_wp2_with fail
      go_ret2
      exact ⟨rfl, HR.out⟩
    · have e : st.fails = 0 := by omega
      have HR := Lib.hid (And.intro (R1.1.to (tick_of (st := st) (by rw [ec]) (by rw [e]))) R1.2)
      clear h R1 e ec
      go_enter Tryd.func41, Tryd.ntmps41
      go_wp2_with fail
      go_ret2
      exact ⟨rfl, HR.out⟩

end Go.Proofs.YtgahcbhdnplnoaaDoor
