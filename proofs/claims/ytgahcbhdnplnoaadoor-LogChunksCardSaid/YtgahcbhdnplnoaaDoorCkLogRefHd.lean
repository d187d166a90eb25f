/- What the document's writeHead comes to. -/
import Derived.Test.YtgahcbhdnplnoaaDoorCkLogRefLook
import Derived.Test.YtgahcbhdnplnoaaDoorCkChunkRefEncode
import Derived.Test.YtgahcbhdnplnoaaDoorCkLogFuncs
import Derived.Test.YtgahcbhdnplnoaaDoorCkDiskRwrite
namespace Go.Proofs.YtgahcbhdnplnoaaDoor
open Go.RowKit

theorem wrb_ok {st : Dk.St} {i : Nat} {s : ByteArray} (h : st.writeE (i : Int) s = 0) : Lg.wrb st [(i, s)] = ((st.write (i : Int) s).barrierE, (st.write (i : Int) s).barrier) := by
  have e : Lg.wr st [(i, s)] = (0, st.write (i : Int) s) := if_pos h
  unfold Lg.wrb
  rw [e]
  rfl
theorem wrb_no {st : Dk.St} {i : Nat} {s : ByteArray} (h : ¬ st.writeE (i : Int) s = 0) : Lg.wrb st [(i, s)] = (st.writeE (i : Int) s, st.write (i : Int) s) := by
  have e : Lg.wr st [(i, s)] = (st.writeE (i : Int) s, st.write (i : Int) s) := if_neg h
  unfold Lg.wrb
  rw [e]
  exact if_neg h

theorem RefAt.up {w w' : World} {B g b : Nat} {st : Dk.St} {lv : Value} (h : RefAt w B g st b lv) (hb : Below w.heap.size w w') : RefAt w' B g st b lv :=
  h.kept (T := fun _ => false) (B' := 0) (Ch.of_below hb) (fun _ => rfl) (fun _ => rfl) (fun _ => rfl)
theorem Rch.of_below {B b : Nat} {w w' : World} (h : Below w.heap.size w w') : Rch B b w w' := ⟨Ch.of_below h, Only.of_below h⟩

def RwhPost (B g b q : Nat) (st : Dk.St) (t : Lg.Top) (nx : Nat) (w : World) (e : Ending) (w' : World) : Prop :=
  e = .returned (.int .i64 (Lg.wrb st [(Lg.hsec t.e, Lg.encs (Lg.hd t))]).1) ∧ (∃ lv, RefAt w' B g (Lg.wrb st [(Lg.hsec t.e, Lg.encs (Lg.hd t))]).2 b lv) ∧ Rch B b w w' ∧ Blk w' q 84 (LgC g t nx)

theorem two_log {W : World} {q g nx : Nat} {t : Lg.Top} (h : Blk W q 84 (LgC g t nx)) :
    W.cell? ⟨q, 0, none⟩ = some (.pointer (some ⟨g, 0, none⟩)) ∧ W.cell? ⟨q, 1, none⟩ = some (.int .i64 t.e) ∧ W.cell? ⟨q, 2, none⟩ = some (.int .i64 t.b) := by
  obtain ⟨⟨a0, a1, a2, -⟩, -⟩ := six h
  exact ⟨a0, a1, a2⟩

set_option maxRecDepth 20000 in
set_option maxHeartbeats 2000000 in
theorem rwh_any (B g b q : Nat) (st : Dk.St) (lv : Value) (t : Lg.Top) (nx : Nat) (w : World) (hr : RefAt w B g st b lv) (hl : Blk w q 84 (LgC g t nx)) (ht : 0 ≤ t.b ∧ t.b ≤ t.e ∧ t.e ≤ 1099511627776 ∧ t.h ≤ 1) (hm : st.many ≤ 1000000) :
    Calls Tryd.prog 47 #[.pointer (some ⟨q, 0, none⟩)] w (RwhPost B g b q st t nx w) := by
  obtain ⟨s, hs⟩ : ∃ s : ByteArray, s = hafB t.h := ⟨_, rfl⟩
  have hsl : s.data.toList = if t.h = 1 then [49] else [48] := by rw [hs]; exact hafB_list t.h
  have hok := Lg.hd_ok t ht.1 ht.2.1 ht.2.2.1
  have hchu : (⟨t.e, t.b, true, true, s.data.toList⟩ : Cn.Chu) = Lg.hd t := by rw [hsl]; rfl
  have HE := Lib.hid (fun W => encode_ref t.e t.b true true s W)
  rw [hchu, encs_data _ hok] at HE
  have he0 : 0 ≤ t.e := by omega
  obtain ⟨z, hz⟩ : ∃ z, z = Lg.hsec t.e := ⟨_, rfl⟩
  have hzz : t.e % 2 = (z : Int) := by rw [hz]; unfold Lg.hsec; omega
  have HZ := Lib.hid hz
  have HTM := Lib.hid (show t.e.tmod 2 = (z : Int) by rw [Int.tmod_eq_emod_of_nonneg he0]; exact hzz)
  have HR := Lib.hid hr
  have HL := Lib.hid hl
  have HM := Lib.hid hm
  obtain ⟨a0, a1, a2⟩ := two_log hl
  obtain ⟨⟨-, -, -, a3, -, -⟩, -⟩ := six hl
  have HS := Lib.hid hs
  obtain ⟨S, hS⟩ : ∃ S, S = Lg.encs (Lg.hd t) := ⟨_, rfl⟩
  rw [← hS] at HE
  have HSS := Lib.hid hS
  clear hr hl hm hsl hok hchu hz hS
  rcases (show t.h = 0 ∨ t.h = 1 by omega) with hh | hh
  all_goals
    rw [hh] at a3 hs
    have hs2 : s = _ := hs
    unfold hafB at hs2
    first | simp only [if_false, Nat.zero_ne_one] at hs2 | simp only [if_true] at hs2
    subst hs2
    clear hs
    go_enter Tryd.func47, Tryd.ntmps47
    go_wp2_with fail
    go_region_held3 (fun W => W.cell? ⟨q, 0, none⟩ = some (.pointer (some ⟨g, 0, none⟩)) ∧ W.cell? ⟨q, 1, none⟩ = some (.int .i64 t.e) ∧ W.cell? ⟨q, 2, none⟩ = some (.int .i64 t.b)) (first | assumption | exact ⟨a0, a1, a2⟩ | go_keep)
      (first
        | (go_at_call 60; refine (HE.out _).mono ?_; rintro x w2 ⟨rfl, hb2⟩; have l2 := HL.out.drew.older hb2 HL.out.drew.lt; have s2 := two_log l2))
    obtain ⟨b0, b1, b2⟩ := s2
    have hr2 := HR.out.drew.up hb2
    have hch2 : Rch B b w w2 := (Rch.refl B b w).drew.trans (Rch.of_below hb2)
    rename_i hheld
    clear hheld HE a0 a1 a2 a3 hb2
    by_cases hE : st.writeE (z : Int) S = 0
    · have HE0 := Lib.hid hE
      go_wp2_with fail
      go_region_held3 (fun W => W.cell? ⟨q, 0, none⟩ = some (.pointer (some ⟨g, 0, none⟩)) ∧ W.cell? ⟨q, 1, none⟩ = some (.int .i64 t.e)) (first | assumption | exact ⟨b0, b1⟩ | go_keep)
        (first
          | (go_at_call 24; rw [HTM.out]; (with_reducible refine (rwrite_at B g st b lv (z : Int) S _ hr2.drew (by have := HM.out; omega)).mono ?_); rintro x w3 ⟨rfl, ⟨lv3, hr3⟩, hc3⟩; rw [hE]; have l3 := hc3.ch.blk l2.drew rfl; have s3 := And.intro (two_log l3).1 (two_log l3).2.1))
      all_goals
        obtain ⟨e0, e1, -⟩ := two_log l3
        have HF := Lib.hid (And.intro hr3 (And.intro (hch2.drew.trans hc3) l3))
        clear hr2 hch2 hr3 hc3 l3 s3 l2
        rename_i hheld
        clear hheld b0 b1 b2
        clear hE
        go_wp2_with fail
        refine (rbarrier_at B g _ b lv3 w3 HF.out.1 (by have := HM.out; have := Dk.many_write st (z : Int) S; omega)).mono ?_
        rintro x w4 ⟨rfl, ⟨lv4, hr4⟩, hc4⟩
        go_wp2_with fail
        go_ret
        unfold RwhPost
        rw [← HSS.out, ← HZ.out, wrb_ok HE0.out]
        exact ⟨rfl, ⟨lv4, hr4⟩, HF.out.2.1.trans hc4, hc4.ch.blk HF.out.2.2 rfl⟩
    · have HE0 := Lib.hid hE
      go_wp2_with fail
      go_region_held3 (fun W => W.cell? ⟨q, 0, none⟩ = some (.pointer (some ⟨g, 0, none⟩)) ∧ W.cell? ⟨q, 1, none⟩ = some (.int .i64 t.e)) (first | assumption | exact ⟨b0, b1⟩ | go_keep)
        (first
          | (go_at_call 24; rw [HTM.out]; (with_reducible refine (rwrite_at B g st b lv (z : Int) S _ hr2.drew (by have := HM.out; omega)).mono ?_); rintro x w3 ⟨rfl, ⟨lv3, hr3⟩, hc3⟩; have l3 := hc3.ch.blk l2.drew rfl; have s3 := And.intro (two_log l3).1 (two_log l3).2.1))
      all_goals
        obtain ⟨e0, e1, -⟩ := two_log l3
        have HF := Lib.hid (And.intro hr3 (And.intro (hch2.drew.trans hc3) l3))
        clear hr2 hch2 hr3 hc3 l3 s3 l2
        rename_i hheld
        clear hheld b0 b1 b2
        have hEb : (st.writeE (z : Int) S != 0) = true := by rw [bne_iff_ne]; exact hE
        have HWN := Lib.hid (wrb_no HE0.out)
        generalize st.writeE (z : Int) S = E at *
        go_wp2_with fail
        go_ret
        unfold RwhPost
        rw [← HSS.out, ← HZ.out, HWN.out]
        exact ⟨rfl, ⟨lv3, HF.out.1⟩, HF.out.2⟩

end Go.Proofs.YtgahcbhdnplnoaaDoor
