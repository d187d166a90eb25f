/- What Open comes to, the program's. -/
import Derived.Test.YtgahcbhdnplnoaaDoorCkLogRenewC
import Derived.Test.YtgahcbhdnplnoaaDoorCkLogLook
namespace Go.Proofs.YtgahcbhdnplnoaaDoor
open Go.RowKit

def OpenPost (B g : Nat) (st : Dk.St) (w : World) (e : Ending) (w' : World) : Prop :=
  Dsk w' B g (Lg.openR st).2 ∧ Ch Td B w w' ∧
  (((Lg.openR st).1 = 0 ∧ ∃ q v, e = .returned (.tuple #[.pointer (some ⟨q, 0, none⟩), v, .int .i64 0]) ∧ Lgw w' B q g (Lg.openLog st) ∧ RowS w' w.heap.size v (mks (Lg.openRecs st))) ∨
   ((Lg.openR st).1 ≠ 0 ∧ ∃ v, e = .returned (.tuple #[.pointer none, v, .int .i64 (Lg.openR st).1]) ∧ RowS w' w.heap.size v []))

theorem none_row (w : World) (base : Nat) : RowS w base (.slice none 0 0) [] := World.ownsRow_nil _ _ _ _

theorem open_bad {B g : Nat} {st : Dk.St} {w w' : World} {E : Int} (h : Dsk w B g st) (hb : Below w.heap.size w w') (hr : Lg.openR st = (E, st)) (hE : E ≠ 0) :
    OpenPost B g st w (.returned (.tuple #[.pointer none, .slice none 0 0, .int .i64 E])) w' := by
  unfold OpenPost
  rw [hr]
  exact ⟨h.below hb, Ch.of_below hb, .inr ⟨hE, _, rfl, none_row _ _⟩⟩

theorem RowS.lower {w : World} {b b' : Nat} {v : Value} {l : List ByteArray} (h : RowS w b v l) (hb : b' ≤ b) : RowS w b' v l :=
  ⟨h.1, h.2.imp id fun ⟨g, cap, cur, e, h1, rest⟩ => ⟨g, cap, cur, e, Nat.le_trans hb h1, rest⟩⟩

/-- The world in which the log has been made. -/
theorem open_made {w w3 : World} {k g nx : Nat} {t : Lg.Top} (hH : Blk w3 k 63 (HdC t)) (hb : Below w.heap.size w w3) (hk : w.heap.size ≤ k) :
    let W := (w3.setCell ⟨k, 0, none⟩ (.int .i64 (t.e + 1))).alloc (.cells #[.pointer (some ⟨g, 0, none⟩), .int .i64 (t.e + 1), .int .i64 t.b, .int .i64 (t.h : Int), .int .i64 (nx : Int), .int .i64 0] 69)
    Blk W k 63 (HdC ⟨t.e + 1, t.b, t.h⟩) ∧ Blk W w3.heap.size 69 #[.pointer (some ⟨g, 0, none⟩), .int .i64 (t.e + 1), .int .i64 t.b, .int .i64 (t.h : Int), .int .i64 (nx : Int), .int .i64 0] ∧ Below w.heap.size w W ∧
      (∀ b v l, RowS w3 b v l → RowS W b v l) := by
  have hs : (w3.setCell ⟨k, 0, none⟩ (.int .i64 (t.e + 1))).heap.size = w3.heap.size := by simp [World.setCell]
  have h1 := hH.h0 (.int .i64 (t.e + 1))
  have n := Blk.new (w3.setCell ⟨k, 0, none⟩ (.int .i64 (t.e + 1))) 69 #[.pointer (some ⟨g, 0, none⟩), .int .i64 (t.e + 1), .int .i64 t.b, .int .i64 (t.h : Int), .int .i64 (nx : Int), .int .i64 0]
  rw [hs] at n
  have hb2 := gr_to_below (gr_set_new (gr_of_below hb none) hk 0 (.int .i64 (t.e + 1)))
  refine ⟨h1.alloc _, n, hb2.alloc hb2.size _, fun b v l hr => ?_⟩
  have hc : Ch (fun o => match o with | .cells _ t _ => t == 63 | _ => false) 0 w3 (w3.setCell ⟨k, 0, none⟩ (.int .i64 (t.e + 1))) := Ch.set hH (Nat.zero_le _) rfl 0 _
  exact World.ownsRow.alloc (owns_ch hr hc (fun _ => rfl)) _

set_option maxRecDepth 20000 in
set_option maxHeartbeats 2000000 in
theorem open_any (B g : Nat) (st : Dk.St) (w : World) (h : Dsk w B g st) (hm : st.many ≤ 1000000) : Calls Tryd.prog 11 #[.pointer (some ⟨g, 0, none⟩)] w (OpenPost B g st w) := by
  have hmf : ∀ (fn : Fn) (first cap : Array Value) (w : World), (Instr.makeFunc fn first cap).run Tryd.prog w = .ok (.func fn first cap) w := fun _ _ _ _ => rfl
  have HN := Lib.hid (newest_any B g st w h)
  have HD := Lib.hid h
  have HM := Lib.hid hm
  clear h hm
  cases ho : st.off with
  | true =>
    have HR := Lib.hid (show Lg.openR st = (33, st) by unfold Lg.openR; rw [if_pos ho])
    have HO := Lib.hid ho
    clear ho
    go_enter Tryd.func11, Tryd.ntmps11
    go_wp2_with fail
    refine HN.out.mono ?_
    rintro e w1 ⟨rfl, hb1⟩
    rw [HO.out]
    simp only [if_true]
    have HB := Lib.hid ((hb1.alloc hb1.size (.cells #[.int .i64 0, .int .i64 0, .int .i64 0] 63)))
    clear hb1
    go_wp2_with fail
    go_ret3
    exact open_bad HD.out HB.out HR.out (by decide)
  | false =>
    have HO := Lib.hid ho
    have ht := top_good st.is
    obtain ⟨t, htt⟩ : ∃ t, t = Lg.top st.is := ⟨_, rfl⟩
    rw [← htt] at ht
    have HT := Lib.hid htt
    have HG := Lib.hid ht
    have hte := ht.2.2.1
    have ht0 : 0 ≤ t.e := by omega
    clear ho ht htt
    go_enter Tryd.func11, Tryd.ntmps11
    go_wp2_with fail
    refine HN.out.mono ?_
    rintro e w1 ⟨rfl, hb1⟩
    rw [HO.out, ← HT.out]
    simp only [Bool.false_eq_true, if_false]
    have HW1 := Lib.hid hb1.size
    have hb2 := hb1.alloc hb1.size (.cells (HdC t) 63)
    have hH := Blk.new w1 63 (HdC t)
    obtain ⟨⟨c0, c1, c2⟩, -⟩ := three hH
    have HB2 := Lib.hid hb2
    have HH := Lib.hid hH
    clear hb1 hb2 hH HN
    go_wp2_with fail
    generalize w1.alloc (.cells (HdC t) 63) = w2 at *
    refine (look_any B g st t w2 (HD.out.below HB2.out) HO.out HG.out.2.2.2).mono ?_
    rintro e w3 ⟨v, rfl, hrow, hb3, hn127⟩
    have hH3 := HH.out.older hb3 HH.out.lt
    have hw3 := HB2.out.trans (hb3.mono HB2.out.size)
    obtain ⟨⟨d0, d1, d2⟩, z0, z1, z2⟩ := three hH3
    obtain ⟨nx, hnx⟩ : ∃ nx, nx = (Lg.scan st.is t).2 := ⟨_, rfl⟩
    rw [← hnx] at hn127 ⊢
    have HNX := Lib.hid hnx
    have HH3 := Lib.hid hH3
    have HW3 := Lib.hid hw3
    have HROW := Lib.hid hrow
    clear c0 c1 c2 hrow hb3 hH3 hw3 hnx
    by_cases hfull : t.e = 1099511627776
    · have HR := Lib.hid (show Lg.openR st = (50, st) by unfold Lg.openR; rw [if_neg (by rw [HO.out]; decide), ← HT.out, if_pos hfull])
      go_wp2_with fail
      go_ret3
      exact open_bad HD.out HW3.out HR.out (by decide)
    · have hfb : (t.e == 1099511627776) = false := by rw [beq_eq_false_iff_ne]; exact hfull
      have hap : w1.heap.size ≠ w3.heap.size := fun e => by have := HH3.out.lt; omega
      have HK := Lib.hid (show w.heap.size ≤ w1.heap.size from HW1.out)
      obtain ⟨m1, m2, m3, m4⟩ := open_made (g := g) (nx := nx) HH3.out HW3.out HK.out
      have HT1 := Lib.hid (show Lg.openTop st = ⟨t.e + 1, t.b, t.h⟩ by unfold Lg.openTop; rw [← HT.out])
      have te1 : t.e + 1 ≤ 1099511627776 := by omega
      have HR := Lib.hid (show Lg.openR st = clR st (headCl ⟨t.e + 1, t.b, t.h⟩) by
        unfold Lg.openR headCl
        rw [if_neg (by rw [HO.out]; decide), ← HT.out, if_neg hfull, clR_head, HT1.out])
      have HM4 := Lib.hid m4
      obtain ⟨⟨k0, k1, k2⟩, -⟩ := three m1
      simp only at k0 k1 k2
      go_wp2_with fail
      generalize hw4 : (w3.setCell ⟨w1.heap.size, 0, none⟩ (.int .i64 (t.e + 1))).alloc (.cells #[.pointer (some ⟨g, 0, none⟩), .int .i64 (t.e + 1), .int .i64 t.b, .int .i64 (t.h : Int), .int .i64 (nx : Int), .int .i64 0] 69) = w4 at *
      have HMM := Lib.hid (And.intro m2 m3)
      have HM4' := Lib.hid (show RowS w4 w2.heap.size v (mks (Lg.scan st.is t).1) from HM4.out _ _ _ HROW.out)
      clear m1 m2 m3 m4 HM4 hw4 hap d0 d1 d2 z0 z1 z2 k0 k1 k2
      refine (puthead_any (fun _ => False) w3.heap.size g ⟨t.e + 1, t.b, t.h⟩ w4 (by show (0 : Int) ≤ t.e + 1; omega) HG.out.2.2.2).mono ?_
      rintro x w5 ⟨u, rfl, hu, hb5⟩
      have hu2 := hu
      obtain ⟨ca, cb, cn, cs5, rfl, -⟩ := hu2
      have HU := Lib.hid hu
      have HB5 := Lib.hid hb5
      clear hu hb5
      go_wp2_with fail
      have hrow6 := head_row (g := g) HU.out
      have hb6 := HB5.out.alloc HB5.out.size (.cells #[.func (.func 67) #[] #[.pointer (some ⟨ca, 0, none⟩), .pointer (some ⟨cb, 0, none⟩), .pointer (some ⟨cn, 0, none⟩)], .func (.func 20) #[.pointer (some ⟨g, 0, none⟩)] #[]] 39)
      have hb56 := (Below.refl w5.heap.size w5).alloc (Nat.le_refl _) (.cells #[.func (.func 67) #[] #[.pointer (some ⟨ca, 0, none⟩), .pointer (some ⟨cb, 0, none⟩), .pointer (some ⟨cn, 0, none⟩)], .func (.func 20) #[.pointer (some ⟨g, 0, none⟩)] #[]] 39)
      have hd4 : Dsk w4 B g st := HD.out.below HMM.out.2
      have hd6 := (hd4.free.with_new HB5.out).kept (T := fun _ => false) (B' := 0) (Ch.of_below hb56) (fun _ => rfl) (fun _ _ => rfl) (fun _ => rfl)
      have hB : B ≤ w3.heap.size := by
        obtain ⟨m, lv, tc, tf, n, hat, _⟩ := HD.out
        have h1 := hat.atg
        have h2 := hat.blk.lt
        have h3 := HW3.out.size
        omega
      have hq6 := HMM.out.1.older hb6 HMM.out.1.lt
      refine (do_any _ B w5.heap.size w3.heap.size g st (headCl ⟨t.e + 1, t.b, t.h⟩) _ _ _ _ _ _ _ hd6 (by have := HM.out; show st.many + 2 ≤ 1073741824; omega) hq6 hB hrow6 (headCl_fit HG.out.1 (by show t.b ≤ t.e + 1; have := HG.out.2.1; omega) te1)).mono ?_
      rintro e w7 hpost
      have he := hpost.ret
      subst he
      obtain ⟨W, hcW, hW⟩ := hpost.last
      have hb46 : Below w.heap.size w _ := HMM.out.2.trans (hb6.mono HMM.out.2.size)
      have hctd : Ch Td B w w7 := by
        rw [hW]
        exact ((Ch.of_below hb46).trans hcW).set_new HW3.out.size _ _
      have hrow7 : RowS w7 w.heap.size v (mks (Lg.scan st.is t).1) := RowS.lower (owns_ch (owns_below HM4'.out hb6) hpost.ch (fun _ => rfl)) HB2.out.size
      obtain ⟨r, hr⟩ : ∃ r, r = clR st (headCl ⟨t.e + 1, t.b, t.h⟩) := ⟨_, rfl⟩
      have HRR := Lib.hid (HR.out.trans hr.symm)
      rw [← hr] at hpost ⊢
      have HF := Lib.hid (And.intro hpost.disk.dsk (And.intro hctd (And.intro hrow7 (And.intro hpost.log hB))))
      clear hpost hctd hrow7 hW hcW hb46 hq6 hd6 hd4 hb56 hb6 hrow6 hr HR hB W
      by_cases hE : r.1 = 0
      · have HE := Lib.hid hE
        rw [hE]
        clear hE
        go_wp2_with fail
        go_ret3
        unfold OpenPost
        rw [HRR.out]
        refine ⟨HF.out.1, HF.out.2.1, .inl ⟨HE.out, _, _, rfl, ⟨?_, HF.out.2.2.2.2, ?_⟩, ?_⟩⟩
        · have := HF.out.2.2.2.1
          unfold Lg.openLog
          rw [HT1.out, ← HT.out, ← HNX.out]
          rw [HE.out] at this
          exact this
        · unfold Lg.openLog
          rw [HT1.out, ← HT.out, ← HNX.out]
          exact ⟨HG.out.1, by show t.b ≤ t.e + 1; have := HG.out.2.1; omega, te1, HG.out.2.2.2, hn127⟩
        · unfold Lg.openRecs
          rw [← HT.out]
          exact HF.out.2.2.1
      · have hEb : (r.1 != 0) = true := by rw [bne_iff_ne]; exact hE
        have HE := Lib.hid hE
        go_wp2_with fail
        go_ret3
        unfold OpenPost
        rw [HRR.out]
        exact ⟨HF.out.1, HF.out.2.1, .inr ⟨HE.out, _, rfl, none_row _ _⟩⟩

end Go.Proofs.YtgahcbhdnplnoaaDoor
