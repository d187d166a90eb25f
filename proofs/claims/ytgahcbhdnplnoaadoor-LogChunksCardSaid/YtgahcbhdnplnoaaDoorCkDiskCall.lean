/- What call comes to: a call is counted, and it is told what is to come of it. -/
import Derived.Test.YtgahcbhdnplnoaaDoorCkDiskFasten
import Derived.Deep.RegionWith
namespace Go.Proofs.YtgahcbhdnplnoaaDoor
open Go.RowKit

theorem dec_nat {n : Int} {k : Nat} (h : n.toNat = k) : (decide (n = 1)) = decide (k = 1) := by
  by_cases e : k = 1
  · rw [decide_eq_true e, decide_eq_true (by omega)]
  · rw [decide_eq_false e, decide_eq_false (by omega)]

/-- What a number is behind due. -/
def less (n : Int) : Int := if n < 1 then n else n - 1
theorem less_nat {n : Int} {k : Nat} (h : n.toNat = k) : (less n).toNat = k - 1 := by unfold less; split <;> omega
theorem less_in {n : Int} (h : -9223372036854775808 ≤ n ∧ n ≤ 9223372036854775807) : -9223372036854775808 ≤ less n ∧ less n ≤ 9223372036854775807 := by unfold less; split <;> omega

/-- due, of the calls until the power goes. -/
theorem due_cut {B g m n : Nat} {st : Dk.St} {lv : Value} {tc tf : Int} {w : World} (h : DskAt w B g st m lv tc tf n) :
    Calls Tryd.prog 59 #[.pointer (some ⟨g, 260, none⟩)] w fun e w' => e = .returned (.bool (decide (st.cuts = 1))) ∧ DskAt w' B g { st with cuts := st.cuts - 1 } m lv (less tc) tf n ∧ Ch Td0 B w w' := by
  obtain ⟨-, -, -, -, c, -⟩ := dk_cells h.blk
  refine (due_any ⟨g, 260, none⟩ tc w c (dk_frozen h.blk 260) h.tcle).mono ?_
  rintro e w' ⟨rfl, rfl⟩
  have hi : Dk.Inv { st with cuts := st.cuts - 1 } := ⟨h.inv.nodup, h.inv.keys, h.inv.texts, h.inv.few⟩
  refine ⟨by rw [dec_nat h.cuts], ?_⟩
  by_cases hn : tc < 1
  · rw [if_pos hn, show less tc = tc from if_pos hn]
    exact ⟨{ h with cuts := by show tc.toNat = st.cuts - 1; have := h.cuts; omega, inv := hi }, Ch.refl _ _ _⟩
  · rw [if_neg hn, show less tc = tc - 1 from if_neg hn]
    have hl := less_in h.tcle
    rw [show less tc = tc - 1 from if_neg hn] at hl
    exact ⟨h.field (dk_set_tc h.blk (tc - 1)) rfl (Nat.le_refl _) (by show (tc - 1).toNat = st.cuts - 1; have := h.cuts; omega) hl h.fails h.tfle h.keep hi, h.ch _ _⟩

/-- due, of the calls until one fails. -/
theorem due_fail {B g m n : Nat} {st : Dk.St} {lv : Value} {tc tf : Int} {w : World} (h : DskAt w B g st m lv tc tf n) :
    Calls Tryd.prog 59 #[.pointer (some ⟨g, 261, none⟩)] w fun e w' => e = .returned (.bool (decide (st.fails = 1))) ∧ DskAt w' B g { st with fails := st.fails - 1 } m lv tc (less tf) n ∧ Ch Td0 B w w' := by
  obtain ⟨-, -, -, -, -, c, -⟩ := dk_cells h.blk
  refine (due_any ⟨g, 261, none⟩ tf w c (dk_frozen h.blk 261) h.tfle).mono ?_
  rintro e w' ⟨rfl, rfl⟩
  have hi : Dk.Inv { st with fails := st.fails - 1 } := ⟨h.inv.nodup, h.inv.keys, h.inv.texts, h.inv.few⟩
  refine ⟨by rw [dec_nat h.fails], ?_⟩
  by_cases hn : tf < 1
  · rw [if_pos hn, show less tf = tf from if_pos hn]
    exact ⟨{ h with fails := by show tf.toNat = st.fails - 1; have := h.fails; omega, inv := hi }, Ch.refl _ _ _⟩
  · rw [if_neg hn, show less tf = tf - 1 from if_neg hn]
    have hl := less_in h.tfle
    rw [show less tf = tf - 1 from if_neg hn] at hl
    exact ⟨h.field (dk_set_tf h.blk (tf - 1)) rfl (Nat.le_refl _) h.cuts h.tcle (by show (tf - 1).toNat = st.fails - 1; have := h.fails; omega) hl h.keep hi, h.ch _ _⟩

def CallPost (B g : Nat) (st : Dk.St) (m : Nat) (lv : Value) (tc tf : Int) (n : Nat) (w : World) (e : Ending) (w' : World) : Prop :=
  e = .returned (.int .i64 st.due) ∧ DskAt w' B g st.tick m lv (less tc) (less tf) n ∧ Ch Td0 B w w'

set_option maxHeartbeats 400000 in
theorem call_any (B g : Nat) (st : Dk.St) (m : Nat) (lv : Value) (tc tf : Int) (n : Nat) (w : World) (h : DskAt w B g st m lv tc tf n) (hm : st.many ≤ 1099511627776) :
    Calls Tryd.prog 35 #[.pointer (some ⟨g, 0, none⟩)] w (CallPost B g st m lv tc tf n w) := by
  obtain ⟨-, -, -, c0, -⟩ := dk_cells h.blk
  have f0 := dk_frozen h.blk 259
  simp only [rawOf] at c0
  have hi1 : Dk.Inv { st with many := st.many + 1 } := ⟨h.inv.nodup, h.inv.keys, h.inv.texts, Nat.le_succ_of_le h.inv.few⟩
  have R1 : DskAt (w.setCell ⟨g, 259, none⟩ (.int .i64 ((st.many : Int) + 1))) B g { st with many := st.many + 1 } m lv tc tf n :=
    h.field (by have := dk_set_many h.blk ((st.many : Int) + 1); exact this) rfl (Nat.le_refl _) h.cuts h.tcle h.fails h.tfle h.keep hi1
  have R2 := h.ch 259 (.int .i64 ((st.many : Int) + 1))
  clear h hi1
  have HR1 := Lib.hid R1
  have HR2 := Lib.hid R2
  clear R1 R2
  go_enter Tryd.func35, Tryd.ntmps35
  go_wp2_with fail
  generalize w.setCell ⟨g, 259, none⟩ (.int .i64 ((st.many : Int) + 1)) = w1 at *
  have h1 := HR1.out
  go_region_with (first
    | (go_at_call 59; (with_reducible refine (due_cut h1.drew).mono ?_); rintro e w2 ⟨rfl, h2, hc2⟩)
    | (go_at_call 59; (with_reducible refine (due_fail h2).mono ?_); rintro e w3 ⟨rfl, h3, hc3⟩))
  have HF := Lib.hid (And.intro h3 (((HR2.out.drew).trans hc2).trans hc3))
  clear h1 h2 h3 hc2 hc3
  by_cases hc : st.cuts = 1
  · have hd := Lib.hid (show st.due = 33 from if_pos hc)
    go_wp2_with fail
    go_ret
    exact ⟨by rw [hd.out]; rfl, HF.out⟩
  · by_cases hf : st.fails = 1
    · have hd := Lib.hid (show st.due = 32 by unfold Dk.St.due; rw [if_neg hc, if_pos hf])
      go_wp2_with fail
      go_ret
      exact ⟨by rw [hd.out]; rfl, HF.out⟩
    · have hd := Lib.hid (show st.due = 0 by unfold Dk.St.due; rw [if_neg hc, if_neg hf])
      go_wp2_with fail
      go_ret
      exact ⟨by rw [hd.out]; rfl, HF.out⟩

end Go.Proofs.YtgahcbhdnplnoaaDoor
