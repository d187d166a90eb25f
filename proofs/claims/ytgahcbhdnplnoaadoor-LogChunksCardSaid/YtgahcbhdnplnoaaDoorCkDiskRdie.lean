/- What the document's die comes to: loose sectors that are not kept become what lasted. -/
import Derived.Test.YtgahcbhdnplnoaaDoorCkDiskRput
namespace Go.Proofs.YtgahcbhdnplnoaaDoor
open Go.RowKit

def RdieLoop (w : World) (B g : Nat) (st : Dk.St) (b : Nat) (lv v2 v3 : Value) (wr : World) : Prop :=
  ∃ j kk : Nat, j ≤ st.loose.length ∧ v3 = .int .i64 (j : Int) ∧ v2 = .int .u64 (kk : Int) ∧ kk < 18446744073709551616 ∧ (j % 64 ≠ 0 → kk = st.keep / 2 ^ (j % 64)) ∧ RefAt wr B g (stTo st j) b lv ∧ Rch B b w wr

theorem half_next {keep j kk : Nat} (h : kk = keep / 2 ^ (j % 64)) (hn : (j + 1) % 64 ≠ 0) : kk / 2 = keep / 2 ^ ((j + 1) % 64) := by
  rw [show (j + 1) % 64 = j % 64 + 1 by omega, Nat.pow_succ, ← Nat.div_div_eq_div_mul, h]

theorem rdie_back {w : World} {B g b k : Nat} {st : Dk.St} {lv : Value} {p : Nat × ByteArray} (h : RefAt w B g (stTo st k) b lv) (hp : st.loose[k]? = some p) (h256 : p.1 < 256) (hb : Dk.bit st.keep k = false) (hi : Dk.Inv st) :
    RefAt (w.drew.setCell ⟨b, p.1, none⟩ (.string p.2)) B g (stTo st (k + 1)) b lv ∧ Rch B b w (w.drew.setCell ⟨b, p.1, none⟩ (.string p.2)) := by
  have e : stTo st (k + 1) = { stTo st k with is := Dk.up (stTo st k).is p.1 p.2 } := by
    unfold stTo
    rw [Dk.dieTo_back hp hb]
  have h2 := stTo_inv hi (k + 1)
  rw [e] at h2 ⊢
  have h3 := h.drew.put_sec h256 p.2 h2
  exact ⟨h3.1, ((Rch.refl _ _ _).drew).trans h3.2⟩

theorem rdie_end {w : World} {B g b : Nat} {st : Dk.St} {lv : Value} (h : RefAt w B g (stTo st st.loose.length) b lv) (hi : Dk.Inv st) :
    RefAt ((w.setCell ⟨g, 1, none⟩ (.slice none 0 0)).setCell ⟨g, 2, none⟩ (.bool true)) B g st.die b (.slice none 0 0) ∧ Rch B b w ((w.setCell ⟨g, 1, none⟩ (.slice none 0 0)).setCell ⟨g, 2, none⟩ (.bool true)) := by
  have s1 := Lib.grownBy_setCell w g 1 (.slice none 0 0)
  have s2 := Lib.grownBy_setCell (w.setCell ⟨g, 1, none⟩ (.slice none 0 0)) g 2 (.bool true)
  have b1 := h.blk.set 1 (.slice none 0 0)
  have b2 := b1.set 2 (.bool true)
  have n1 : some b ≠ some g := by intro e; injection e with e; exact h.gb e.symm
  exact ⟨{ blk := b2, sec := (h.sec.grown s1 n1).grown s2 n1, row := World.ownsRow_nil _ _ _ _, atg := h.atg, atb := h.atb, cuts := h.cuts, fails := h.fails, keep := h.keep, inv := hi.die },
    (show Rch B b w _ from ⟨Ch.set h.blk h.atg rfl 1 _, Only.set h.blk (by decide) 1 _⟩).trans ⟨Ch.set b1 h.atg rfl 2 _, Only.set b1 (by decide) 2 _⟩⟩

set_option maxRecDepth 20000 in
set_option maxHeartbeats 800000 in
theorem rdie_any (B g : Nat) (st : Dk.St) (b : Nat) (lv : Value) (w : World) (h : RefAt w B g st b lv) (hm : st.many ≤ 1099511627776) :
    Calls Tryd.prog 43 #[.pointer (some ⟨g, 0, none⟩)] w fun e w' => e = .returned (.tuple #[]) ∧ (∃ lv', RefAt w' B g st.die b lv') ∧ Rch B b w w' := by
  have hky := Lib.hid h.inv.keys
  have hfew : st.loose.length ≤ 1099511627776 := Nat.le_trans h.inv.few hm
  have hst : RefAt w B g (stTo st 0) b lv := h
  obtain ⟨A, cap, rfl, -⟩ := loose_cells h.row
  obtain ⟨-, -, -, -, c4, -⟩ := h.cells
  have HK := Lib.hid h.keep
  have HI := Lib.hid h.inv
  clear h hm
  go_enter Tryd.func43, Tryd.ntmps43
  go_wp2_with fail
  go_loopw [2, 3] (RdieLoop w B g st b (.slice A st.loose.length cap)) (fun _ v _ => st.loose.length - (intOf v).toNat)
  case atStart => exact ⟨0, st.keep, Nat.zero_le _, rfl, rfl, HK.out, fun hn => absurd rfl hn, hst, Rch.refl _ _ _⟩
  case round =>
    obtain ⟨j, kk, hj, rfl, rfl, hkk, hkeq, hR, hch⟩ := hrel
    obtain ⟨c0, c1, c2, -, c5, -⟩ := hR.cells
    have hq1 : (stTo st j).keep = st.keep := rfl
    have hq2 : (stTo st j).off = st.off := rfl
    rw [hq1] at c5
    clear hq1 hq2 c4 hst
    by_cases hlt : j < st.loose.length
    · obtain ⟨p, hp⟩ : ∃ p, st.loose[j]? = some p := ⟨_, List.getElem?_eq_getElem hlt⟩
      have hp256 := (hky.out p (List.mem_of_getElem? hp)).1
      have hpi : (p.1 : Int) < 256 := by omega
      obtain ⟨A', cap', e, hrow⟩ := loose_cells hR.row
      obtain ⟨lb, cur, e2, hb, d0, d1⟩ := hrow j p hp
      subst e2
      injection e with e3 e4 e5
      subst e3 e5
      clear e4 hrow hb
      have f0 := hR.sec.frozen p.1
      have s0 := hR.sector hp256
      have hkeep := HK.out
      have hkq : ∀ kx : Nat, kx = st.keep / 2 ^ (j % 64) → kx < 18446744073709551616 := fun kx e => by
        have := Nat.div_le_self st.keep (2 ^ (j % 64)); omega
      have hnext : ∀ kx : Nat, kx = st.keep / 2 ^ (j % 64) → (j + 1) % 64 ≠ 0 → kx / 2 = st.keep / 2 ^ ((j + 1) % 64) := fun kx e hn => half_next e hn
      have HN := Lib.hid hnext
      have HP := Lib.hid hp
      have HR := Lib.hid hR
      have HQ := Lib.hid hkeq
      have HQ0 := Lib.hid hkeq
      clear hnext hp hR hkq hkeq
      by_cases h64 : j % 64 = 0
      · have t64 : ((j : Int) % 64 == 0) = true := by simp; omega
        have hpw : st.keep = st.keep / 2 ^ (j % 64) := by rw [h64]; simp
        have HPW := Lib.hid hpw
        clear hpw
        cases hbit : Dk.bit st.keep j with
        | true =>
          have tb : ((st.keep : Int) % 2 == 0) = false := by
            have := of_decide_eq_true hbit
            rw [h64] at this
            simp at this ⊢; omega
          have HE := Lib.hid (stTo_keep hbit)
          clear hbit h64
          go_wp2_with fail
          go_roundw
          case rel => exact ⟨j + 1, st.keep / 2, by omega, by go_num, by go_num, by omega, HN.out _ HPW.out, by rw [HE.out]; exact HR.out, hch⟩
          case measure => simp [intOf]; omega
        | false =>
          have tb : ((st.keep : Int) % 2 == 0) = true := by
            have := of_decide_eq_false hbit
            rw [h64] at this
            simp at this ⊢; omega
          have HE := Lib.hid (rdie_back HR.out HP.out hp256 hbit HI.out)
          clear hbit h64
          go_wp2_with fail
          go_region
          all_goals
            go_wp2_with fail
            go_roundw
            case rel => exact ⟨j + 1, st.keep / 2, by omega, by go_num, by go_num, by omega, HN.out _ HPW.out, HE.out.1, hch.trans HE.out.2⟩
            case measure => simp [intOf]; omega
      · have t64 : ((j : Int) % 64 == 0) = false := by simp; omega
        have hpw := HQ0.out h64
        have HPW := Lib.hid hpw
        cases hbit : Dk.bit st.keep j with
        | true =>
          have tb : ((kk : Int) % 2 == 0) = false := by
            have := of_decide_eq_true hbit
            rw [← hpw] at this
            simp; omega
          have HE := Lib.hid (stTo_keep hbit)
          clear hbit h64 hpw
          go_wp2_with fail
          go_roundw
          case rel => exact ⟨j + 1, kk / 2, by omega, by go_num, by go_num, by omega, HN.out _ HPW.out, by rw [HE.out]; exact HR.out, hch⟩
          case measure => simp [intOf]; omega
        | false =>
          have tb : ((kk : Int) % 2 == 0) = true := by
            have := of_decide_eq_false hbit
            rw [← hpw] at this
            simp; omega
          have HE := Lib.hid (rdie_back HR.out HP.out hp256 hbit HI.out)
          clear hbit h64 hpw
          go_wp2_with fail
          go_region
          all_goals
            go_wp2_with fail
            go_roundw
            case rel => exact ⟨j + 1, kk / 2, by omega, by go_num, by go_num, by omega, HN.out _ HPW.out, HE.out.1, hch.trans HE.out.2⟩
            case measure => simp [intOf]; omega
    · obtain rfl : j = st.loose.length := by omega
      have HE := Lib.hid (rdie_end hR HI.out)
      have f1 := hR.blk.frozen 1
      have f2 := hR.blk.frozen 2
      clear hR hkeq
      go_wp2_with fail
      go_end0
      exact ⟨rfl, ⟨_, HE.out.1⟩, hch.trans HE.out.2⟩

end Go.Proofs.YtgahcbhdnplnoaaDoor
