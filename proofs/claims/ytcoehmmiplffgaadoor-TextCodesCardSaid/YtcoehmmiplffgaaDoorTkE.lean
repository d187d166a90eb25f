/- Several texts in one: IrRefOneW, IrShape, IrShaped, IrCheck, IrRefCheck, LiftShaped, TextLaid, TextRdyOf, TextAll. -/
import Derived.Test.YtcoehmmiplffgaaDoorTkD
import Derived.Test.YtcoehmmiplffgaaDoorIrAt
import Derived.Deep.Cut
import Derived.IntWalk
import Derived.Handed
import Derived.WalkKit
import Derived.ProofKit
import Derived.Test.YtcoehmmiplffgaaDoorTextPrint
import Derived.Lib.LaidTab
import Derived.MakeChecks
import Derived.Test.YtcoehmmiplffgaaDoorIrRead
import Derived.Test.YtcoehmmiplffgaaDoorTextRdy
import Derived.Stop.LaidErr
/- One: the document's. -/
namespace Go.Proofs.YtcoehmmiplffgaaDoor
open Go.ChangeShapes Go.WideShapes Go.RowKit Go.Deep

/-- What One comes to. -/
def OnePost (w : World) (r : Int) (e : Ending) (w' : World) : Prop := e = .returned (.int .i64 r) ∧ Below w.heap.size w w'

set_option maxRecDepth 20000 in
set_option maxHeartbeats 3200000 in
theorem rone_any (x : Ir.In) (sl : Value) (regs nb : Int) (l : Bool) (w : World) (hx : InR w (InsC x sl).toList x) (hlen : x.args.length ≤ 1048000) :
    Calls Tryd.prog 29 #[InsV x sl, .int .i64 regs, .int .i64 nb, .bool l] w (OnePost w (Ir.one regs nb x l)) := by
  have hop := hx
  obtain ⟨_, hs, ⟨B, cbp, hsl, -⟩, hop, -⟩ := hop
  simp at hs
  subst hs
  subst hsl
  have hb1 : Below w.heap.size w (w.alloc (.cells (InsC x (.slice B x.args.length cbp)) 46)) := (Below.refl _ _).alloc (Nat.le_refl _) _
  have hB1 : Box1 w w.heap.size x (.slice B x.args.length cbp) (w.alloc (.cells (InsC x (.slice B x.args.length cbp)) 46)) := ⟨Blk.new _ _ _, hx.below hb1, hb1⟩
  have HL := Lib.hid hlen
  have hl' : (x.args.length : Int) ≤ 1048000 := by omega
  clear hb1 hx hlen
  go_enter Tryd.func29, Tryd.ntmps29
  go_upto_region 1 with fail
  generalize w.alloc (.cells (InsC x (.slice B x.args.length cbp)) 46) = w1 at *
  obtain ⟨i0, i1, i2, i3, i4, i5⟩ := hB1.cells
  by_cases ho : 1 ≤ x.op ∧ x.op ≤ 14
  · have HO := Lib.hid ho
    obtain ⟨ho1, ho2⟩ := ho
    cases hlast : (Ir.last x.op == l) with
    | false =>
      have HE := Lib.hid (one_last (regs := regs) (nb := nb) hlast)
      go_wp2_with (go_at_call 44; (with_reducible refine (rlast_any _ _).mono ?_); rintro e w' ⟨rfl, rfl⟩)
      go_ret
      exact ⟨ret_e HE.out.symm, hB1.below⟩
    | true =>
      cases hfit : Ir.fits x with
      | false =>
        have HE := Lib.hid (one_fit (regs := regs) (nb := nb) (l := l) hfit)
        have HF := Lib.hid hfit
        clear hfit
        go_wp2_with (first
          | (go_at_call 44; (with_reducible refine (rlast_any _ _).mono ?_); rintro e w' ⟨rfl, rfl⟩)
          | (go_at_call 45; (with_reducible refine (bare_box hB1 HO.out HF.out).mono ?_); rintro e w2 ⟨rfl, hB2⟩))
        go_ret
        exact ⟨ret_e HE.out.symm, hB2.below⟩
      | true =>
        have HT1 := Lib.hid (one_t1 (regs := regs) (nb := nb) hfit hlast)
        have HF := Lib.hid hfit
        clear hfit
        go_upto_region 3 with (first
          | (go_at_call 44; (with_reducible refine (rlast_any _ _).mono ?_); rintro e w' ⟨rfl, rfl⟩)
          | (go_at_call 45; (with_reducible refine (bare_box hB1 HO.out HF.out).mono ?_); rintro e w2 ⟨rfl, hB2⟩; clear i0 i1 i2 i3 i4 i5; obtain ⟨i0, i1, i2, i3, i4, i5⟩ := hB2.cells))
        clear hlast HF hB1
        by_cases hA : Ir.fd x.op = 1 ∧ ¬ x.d = -1 ∧ (x.d < 0 ∨ regs ≤ x.d)
        · obtain ⟨hA1, hA2, hA3⟩ := hA
          have HE := Lib.hid (HT1.out.trans (t1_no (regsB_d hA1 hA3)))
          have HD := Lib.hid (dest_d hA1)
          have e1 : (x.d != -1) = true := by simp [hA2]
          have hcase : x.d < 0 ∨ (0 ≤ x.d ∧ regs ≤ x.d) := by omega
          clear hA1 hA2 hA3 HT1
          rcases hcase with h | ⟨h, h'⟩
          all_goals
            go_wp2_with (go_at_call 46; (with_reducible refine (rdef_box (by assumption) HD.out).mono ?_); rintro e w3 ⟨rfl, hB3⟩; obtain ⟨i0, i1, i2, i3, i4, i5⟩ := hB3.cells)
            go_ret
            exact ⟨ret_e HE.out.symm, hB3.below⟩
        · have HUL := Lib.hid (uses_len x HL.out)
          by_cases h1 : Ir.fd x.op = 1
          · by_cases h2 : x.d = -1
            · have HD := Lib.hid ((dest_d h1).trans h2)
              have HE := Lib.hid (HT1.out.trans (t1_no (regsB_d (x := x) (regs := regs) h1 (.inl (by omega)))))
              have k := fd_one.1 h1
              have e2 : (x.op != 9) = true := by simp; omega
              have e3 : (x.op != 10) = true := by simp; omega
              have HLA := Lib.hid (show Ir.last x.op = false from decide_eq_false (by omega))
              cases hw : Ir.within (Ir.uses x) regs with
              | false =>
                have HWU := Lib.hid hw
                clear hw k h1 h2 hA HT1
                go_wp2_with (first | (go_at_call 46; (with_reducible refine (rdef_box (by assumption) HD.out).mono ?_); rintro e w3 ⟨rfl, hB3⟩; obtain ⟨i0, i1, i2, i3, i4, i5⟩ := hB3.cells) | (go_at_call 48; (with_reducible refine (ruses_box (by assumption) HL.out).mono ?_); rintro e w4 ⟨v4, rfl, hB4, hN4⟩; obtain ⟨i0, i1, i2, i3, i4, i5⟩ := hB4.cells) | (go_at_call 47; (with_reducible refine (within_box (by assumption) HUL.out HWU.out).mono ?_); rintro e w5 ⟨rfl, rfl⟩))
                go_ret
                exact ⟨ret_e HE.out.symm, hB4.below⟩
              | true =>
                have HWU := Lib.hid hw
                clear hw k h1 h2 hA HT1
                go_wp2_with (first | (go_at_call 46; (with_reducible refine (rdef_box (by assumption) HD.out).mono ?_); rintro e w3 ⟨rfl, hB3⟩; obtain ⟨i0, i1, i2, i3, i4, i5⟩ := hB3.cells) | (go_at_call 48; (with_reducible refine (ruses_box (by assumption) HL.out).mono ?_); rintro e w4 ⟨v4, rfl, hB4, hN4⟩; obtain ⟨i0, i1, i2, i3, i4, i5⟩ := hB4.cells) | (go_at_call 47; (with_reducible refine (within_box (by assumption) HUL.out HWU.out).mono ?_); rintro e w5 ⟨rfl, rfl⟩) | (go_at_call 44; (with_reducible refine (rlast_any _ _).mono ?_); rintro e w' ⟨rfl, rfl⟩; rw [HLA.out]))
                go_ret
                exact ⟨ret_e HE.out.symm, Box1.below (by assumption)⟩
            · have HD := Lib.hid (dest_d h1)
              have e1 : (x.d != -1) = true := by simp [h2]
              have e2 : (x.d == -1) = false := by simp [h2]
              have z1 : 0 ≤ x.d := by omega
              have z2 : x.d < regs := by omega
              cases hw : Ir.within (Ir.uses x) regs with
              | false =>
                have HWU := Lib.hid hw
                have HE := Lib.hid (HT1.out.trans (t1_no (regsB_no hw)))
                clear hw h1 h2 hA HT1
                go_wp2_with (first | (go_at_call 46; (with_reducible refine (rdef_box (by assumption) HD.out).mono ?_); rintro e w3 ⟨rfl, hB3⟩; obtain ⟨i0, i1, i2, i3, i4, i5⟩ := hB3.cells) | (go_at_call 48; (with_reducible refine (ruses_box (by assumption) HL.out).mono ?_); rintro e w4 ⟨v4, rfl, hB4, hN4⟩; obtain ⟨i0, i1, i2, i3, i4, i5⟩ := hB4.cells) | (go_at_call 47; (with_reducible refine (within_box (by assumption) HUL.out HWU.out).mono ?_); rintro e w5 ⟨rfl, rfl⟩))
                go_ret
                exact ⟨ret_e HE.out.symm, hB4.below⟩
              | true =>
                have HWU := Lib.hid hw
                have HT2 := Lib.hid (HT1.out.trans (t1_yes (regsB_yes (fun _ => by omega) hw)))
                clear hw h1 h2 hA HT1
                go_upto_region 7 with (first | (go_at_call 46; (with_reducible refine (rdef_box (by assumption) HD.out).mono ?_); rintro e w3 ⟨rfl, hB3⟩; obtain ⟨i0, i1, i2, i3, i4, i5⟩ := hB3.cells) | (go_at_call 48; (with_reducible refine (ruses_box (by assumption) HL.out).mono ?_); rintro e w4 ⟨v4, rfl, hB4, hN4⟩; obtain ⟨i0, i1, i2, i3, i4, i5⟩ := hB4.cells) | (go_at_call 47; (with_reducible refine (within_box (by assumption) HUL.out HWU.out).mono ?_); rintro e w5 ⟨rfl, rfl⟩))
                by_cases hnum : Ir.fa x.op = 2 ∧ (x.a < 0 ∨ 65536 ≤ x.a)
                · have HE := Lib.hid (HT2.out.trans (t2_no hnum))
                  have e7 : (x.op == 1) = true := by simp [fa_two.1 hnum.1]
                  have hcase : x.a < 0 ∨ (0 ≤ x.a ∧ 65536 ≤ x.a) := by omega
                  clear hnum HT2
                  rcases hcase with h | ⟨h, h'⟩
                  all_goals
                    go_wp2_with fail
                    go_ret
                    exact ⟨ret_e HE.out.symm, Box1.below (by assumption)⟩
                · have HT3 := Lib.hid (HT2.out.trans (t2_yes hnum))
                  have hcase : (x.op == 1) = false ∨ ((x.op == 1) = true ∧ 0 ≤ x.a ∧ x.a < 65536) := by
                    by_cases h1 : x.op = 1
                    · have := fa_two.2 h1
                      exact .inr ⟨by simp [h1], by omega, by omega⟩
                    · exact .inl (by simp [h1])
                  clear hnum HT2
                  have HTL := Lib.hid (targets_len x)
                  cases htg : Ir.within (Ir.targets x) nb with
                  | false =>
                    have HWT := Lib.hid htg
                    have HE := Lib.hid (HT3.out.trans (t3_no htg))
                    clear htg HT3
                    rcases hcase with h | ⟨h, h', h''⟩
                    all_goals
                      go_wp2_with (first | (go_at_call 49; (with_reducible refine (rtargets_box (by assumption)).mono ?_); rintro e w6 ⟨v6, rfl, hB6, hN6⟩; obtain ⟨i0, i1, i2, i3, i4, i5⟩ := hB6.cells) | (go_at_call 47; (with_reducible refine (within_box (by assumption) HTL.out HWT.out).mono ?_); rintro e w7 ⟨rfl, rfl⟩))
                      go_ret
                      exact ⟨ret_e HE.out.symm, hB6.below⟩
                  | true =>
                    have HWT := Lib.hid htg
                    have HT4 := Lib.hid (HT3.out.trans (t3_yes htg))
                    clear htg HT3
                    cases hfc : Ir.fc x.op with
                    | false =>
                      have HE := Lib.hid (HT4.out.trans (t4_call hfc))
                      have e8 : (x.op == 11) = false := by
                        rw [eq_dec]; exact hfc
                      clear hfc HT4
                      rcases hcase with h | ⟨h, h', h''⟩
                      all_goals
                        go_wp2_with (first | (go_at_call 49; (with_reducible refine (rtargets_box (by assumption)).mono ?_); rintro e w6 ⟨v6, rfl, hB6, hN6⟩; obtain ⟨i0, i1, i2, i3, i4, i5⟩ := hB6.cells) | (go_at_call 47; (with_reducible refine (within_box (by assumption) HTL.out HWT.out).mono ?_); rintro e w7 ⟨rfl, rfl⟩))
                        go_ret
                        exact ⟨ret_e HE.out.symm, hB6.below⟩
                    | true =>
                      have e8 : (x.op == 11) = true := by
                        rw [eq_dec]; exact hfc
                      cases hnm : Ir.nm x.name with
                      | false =>
                        have HE := Lib.hid (HT4.out.trans (t4_no hfc hnm))
                        have HM := Lib.hid hnm
                        clear hfc HT4 hnm
                        rcases hcase with h | ⟨h, h', h''⟩
                        all_goals
                          go_wp2_with (first | (go_at_call 49; (with_reducible refine (rtargets_box (by assumption)).mono ?_); rintro e w6 ⟨v6, rfl, hB6, hN6⟩; obtain ⟨i0, i1, i2, i3, i4, i5⟩ := hB6.cells) | (go_at_call 47; (with_reducible refine (within_box (by assumption) HTL.out HWT.out).mono ?_); rintro e w7 ⟨rfl, rfl⟩) | (go_at_call 27; (with_reducible refine (rname_any _ _).mono ?_); rintro e w' ⟨rfl, rfl⟩; rw [HM.out]))
                          go_ret
                          exact ⟨ret_e HE.out.symm, hB6.below⟩
                      | true =>
                        have HM := Lib.hid hnm
                        by_cases hmany : 4 < x.args.length
                        · have HE := Lib.hid (HT4.out.trans (t4_many hfc hnm hmany))
                          have hm4 : (4 : Int) < (x.args.length : Int) := by omega
                          clear hfc HT4 hnm hmany
                          rcases hcase with h | ⟨h, h', h''⟩
                          all_goals
                            go_wp2_with (first | (go_at_call 49; (with_reducible refine (rtargets_box (by assumption)).mono ?_); rintro e w6 ⟨v6, rfl, hB6, hN6⟩; obtain ⟨i0, i1, i2, i3, i4, i5⟩ := hB6.cells) | (go_at_call 47; (with_reducible refine (within_box (by assumption) HTL.out HWT.out).mono ?_); rintro e w7 ⟨rfl, rfl⟩) | (go_at_call 27; (with_reducible refine (rname_any _ _).mono ?_); rintro e w' ⟨rfl, rfl⟩; rw [HM.out]))
                            go_ret
                            exact ⟨ret_e HE.out.symm, hB6.below⟩
                        · have HE := Lib.hid (HT4.out.trans (t4_yes hfc hnm hmany))
                          have hm4 : (x.args.length : Int) ≤ 4 := by omega
                          clear hfc HT4 hnm hmany
                          rcases hcase with h | ⟨h, h', h''⟩
                          all_goals
                            go_wp2_with (first | (go_at_call 49; (with_reducible refine (rtargets_box (by assumption)).mono ?_); rintro e w6 ⟨v6, rfl, hB6, hN6⟩; obtain ⟨i0, i1, i2, i3, i4, i5⟩ := hB6.cells) | (go_at_call 47; (with_reducible refine (within_box (by assumption) HTL.out HWT.out).mono ?_); rintro e w7 ⟨rfl, rfl⟩) | (go_at_call 27; (with_reducible refine (rname_any _ _).mono ?_); rintro e w' ⟨rfl, rfl⟩; rw [HM.out]))
                            go_ret
                            exact ⟨ret_e HE.out.symm, hB6.below⟩
          · have HD := Lib.hid (dest_no h1)
            cases hw : Ir.within (Ir.uses x) regs with
            | false =>
              have HWU := Lib.hid hw
              have HE := Lib.hid (HT1.out.trans (t1_no (regsB_no hw)))
              clear hw h1 hA HT1
              go_wp2_with (first | (go_at_call 46; (with_reducible refine (rdef_box (by assumption) HD.out).mono ?_); rintro e w3 ⟨rfl, hB3⟩; obtain ⟨i0, i1, i2, i3, i4, i5⟩ := hB3.cells) | (go_at_call 48; (with_reducible refine (ruses_box (by assumption) HL.out).mono ?_); rintro e w4 ⟨v4, rfl, hB4, hN4⟩; obtain ⟨i0, i1, i2, i3, i4, i5⟩ := hB4.cells) | (go_at_call 47; (with_reducible refine (within_box (by assumption) HUL.out HWU.out).mono ?_); rintro e w5 ⟨rfl, rfl⟩))
              go_ret
              exact ⟨ret_e HE.out.symm, hB4.below⟩
            | true =>
              have HWU := Lib.hid hw
              have HT2 := Lib.hid (HT1.out.trans (t1_yes (regsB_yes (fun h => absurd h h1) hw)))
              have k : (x.op = 9) ∨ (x.op = 10) ∨ (¬ x.op = 9 ∧ ¬ x.op = 10 ∧ (x.op = 12 ∨ x.op = 13 ∨ x.op = 14)) := by
                have := mt fd_one.2 h1
                omega
              have hcase : ((x.op != 9) = false) ∨ ((x.op != 9) = true ∧ (x.op != 10) = false) ∨ ((x.op != 9) = true ∧ (x.op != 10) = true ∧ Ir.last x.op = true) := by
                rcases k with k | k | ⟨k1, k2, k3⟩
                · exact .inl (by simp [k])
                · exact .inr (.inl ⟨by simp [k], by simp [k]⟩)
                · exact .inr (.inr ⟨by simp [k1], by simp [k2], decide_eq_true k3⟩)
              clear hw h1 hA HT1 k
              rcases hcase with e2 | ⟨e2, e3⟩ | ⟨e2, e3, hla⟩
              · go_upto_region 7 with (first | (go_at_call 46; (with_reducible refine (rdef_box (by assumption) HD.out).mono ?_); rintro e w3 ⟨rfl, hB3⟩; obtain ⟨i0, i1, i2, i3, i4, i5⟩ := hB3.cells) | (go_at_call 48; (with_reducible refine (ruses_box (by assumption) HL.out).mono ?_); rintro e w4 ⟨v4, rfl, hB4, hN4⟩; obtain ⟨i0, i1, i2, i3, i4, i5⟩ := hB4.cells) | (go_at_call 47; (with_reducible refine (within_box (by assumption) HUL.out HWU.out).mono ?_); rintro e w5 ⟨rfl, rfl⟩))
                by_cases hnum : Ir.fa x.op = 2 ∧ (x.a < 0 ∨ 65536 ≤ x.a)
                · have HE := Lib.hid (HT2.out.trans (t2_no hnum))
                  have e7 : (x.op == 1) = true := by simp [fa_two.1 hnum.1]
                  have hcase : x.a < 0 ∨ (0 ≤ x.a ∧ 65536 ≤ x.a) := by omega
                  clear hnum HT2
                  rcases hcase with h | ⟨h, h'⟩
                  all_goals
                    go_wp2_with fail
                    go_ret
                    exact ⟨ret_e HE.out.symm, Box1.below (by assumption)⟩
                · have HT3 := Lib.hid (HT2.out.trans (t2_yes hnum))
                  have hcase : (x.op == 1) = false ∨ ((x.op == 1) = true ∧ 0 ≤ x.a ∧ x.a < 65536) := by
                    by_cases h1 : x.op = 1
                    · have := fa_two.2 h1
                      exact .inr ⟨by simp [h1], by omega, by omega⟩
                    · exact .inl (by simp [h1])
                  clear hnum HT2
                  have HTL := Lib.hid (targets_len x)
                  cases htg : Ir.within (Ir.targets x) nb with
                  | false =>
                    have HWT := Lib.hid htg
                    have HE := Lib.hid (HT3.out.trans (t3_no htg))
                    clear htg HT3
                    rcases hcase with h | ⟨h, h', h''⟩
                    all_goals
                      go_wp2_with (first | (go_at_call 49; (with_reducible refine (rtargets_box (by assumption)).mono ?_); rintro e w6 ⟨v6, rfl, hB6, hN6⟩; obtain ⟨i0, i1, i2, i3, i4, i5⟩ := hB6.cells) | (go_at_call 47; (with_reducible refine (within_box (by assumption) HTL.out HWT.out).mono ?_); rintro e w7 ⟨rfl, rfl⟩))
                      go_ret
                      exact ⟨ret_e HE.out.symm, hB6.below⟩
                  | true =>
                    have HWT := Lib.hid htg
                    have HT4 := Lib.hid (HT3.out.trans (t3_yes htg))
                    clear htg HT3
                    cases hfc : Ir.fc x.op with
                    | false =>
                      have HE := Lib.hid (HT4.out.trans (t4_call hfc))
                      have e8 : (x.op == 11) = false := by
                        rw [eq_dec]; exact hfc
                      clear hfc HT4
                      rcases hcase with h | ⟨h, h', h''⟩
                      all_goals
                        go_wp2_with (first | (go_at_call 49; (with_reducible refine (rtargets_box (by assumption)).mono ?_); rintro e w6 ⟨v6, rfl, hB6, hN6⟩; obtain ⟨i0, i1, i2, i3, i4, i5⟩ := hB6.cells) | (go_at_call 47; (with_reducible refine (within_box (by assumption) HTL.out HWT.out).mono ?_); rintro e w7 ⟨rfl, rfl⟩))
                        go_ret
                        exact ⟨ret_e HE.out.symm, hB6.below⟩
                    | true =>
                      have e8 : (x.op == 11) = true := by
                        rw [eq_dec]; exact hfc
                      cases hnm : Ir.nm x.name with
                      | false =>
                        have HE := Lib.hid (HT4.out.trans (t4_no hfc hnm))
                        have HM := Lib.hid hnm
                        clear hfc HT4 hnm
                        rcases hcase with h | ⟨h, h', h''⟩
                        all_goals
                          go_wp2_with (first | (go_at_call 49; (with_reducible refine (rtargets_box (by assumption)).mono ?_); rintro e w6 ⟨v6, rfl, hB6, hN6⟩; obtain ⟨i0, i1, i2, i3, i4, i5⟩ := hB6.cells) | (go_at_call 47; (with_reducible refine (within_box (by assumption) HTL.out HWT.out).mono ?_); rintro e w7 ⟨rfl, rfl⟩) | (go_at_call 27; (with_reducible refine (rname_any _ _).mono ?_); rintro e w' ⟨rfl, rfl⟩; rw [HM.out]))
                          go_ret
                          exact ⟨ret_e HE.out.symm, hB6.below⟩
                      | true =>
                        have HM := Lib.hid hnm
                        by_cases hmany : 4 < x.args.length
                        · have HE := Lib.hid (HT4.out.trans (t4_many hfc hnm hmany))
                          have hm4 : (4 : Int) < (x.args.length : Int) := by omega
                          clear hfc HT4 hnm hmany
                          rcases hcase with h | ⟨h, h', h''⟩
                          all_goals
                            go_wp2_with (first | (go_at_call 49; (with_reducible refine (rtargets_box (by assumption)).mono ?_); rintro e w6 ⟨v6, rfl, hB6, hN6⟩; obtain ⟨i0, i1, i2, i3, i4, i5⟩ := hB6.cells) | (go_at_call 47; (with_reducible refine (within_box (by assumption) HTL.out HWT.out).mono ?_); rintro e w7 ⟨rfl, rfl⟩) | (go_at_call 27; (with_reducible refine (rname_any _ _).mono ?_); rintro e w' ⟨rfl, rfl⟩; rw [HM.out]))
                            go_ret
                            exact ⟨ret_e HE.out.symm, hB6.below⟩
                        · have HE := Lib.hid (HT4.out.trans (t4_yes hfc hnm hmany))
                          have hm4 : (x.args.length : Int) ≤ 4 := by omega
                          clear hfc HT4 hnm hmany
                          rcases hcase with h | ⟨h, h', h''⟩
                          all_goals
                            go_wp2_with (first | (go_at_call 49; (with_reducible refine (rtargets_box (by assumption)).mono ?_); rintro e w6 ⟨v6, rfl, hB6, hN6⟩; obtain ⟨i0, i1, i2, i3, i4, i5⟩ := hB6.cells) | (go_at_call 47; (with_reducible refine (within_box (by assumption) HTL.out HWT.out).mono ?_); rintro e w7 ⟨rfl, rfl⟩) | (go_at_call 27; (with_reducible refine (rname_any _ _).mono ?_); rintro e w' ⟨rfl, rfl⟩; rw [HM.out]))
                            go_ret
                            exact ⟨ret_e HE.out.symm, hB6.below⟩
              · go_upto_region 7 with (first | (go_at_call 46; (with_reducible refine (rdef_box (by assumption) HD.out).mono ?_); rintro e w3 ⟨rfl, hB3⟩; obtain ⟨i0, i1, i2, i3, i4, i5⟩ := hB3.cells) | (go_at_call 48; (with_reducible refine (ruses_box (by assumption) HL.out).mono ?_); rintro e w4 ⟨v4, rfl, hB4, hN4⟩; obtain ⟨i0, i1, i2, i3, i4, i5⟩ := hB4.cells) | (go_at_call 47; (with_reducible refine (within_box (by assumption) HUL.out HWU.out).mono ?_); rintro e w5 ⟨rfl, rfl⟩))
                by_cases hnum : Ir.fa x.op = 2 ∧ (x.a < 0 ∨ 65536 ≤ x.a)
                · have HE := Lib.hid (HT2.out.trans (t2_no hnum))
                  have e7 : (x.op == 1) = true := by simp [fa_two.1 hnum.1]
                  have hcase : x.a < 0 ∨ (0 ≤ x.a ∧ 65536 ≤ x.a) := by omega
                  clear hnum HT2
                  rcases hcase with h | ⟨h, h'⟩
                  all_goals
                    go_wp2_with fail
                    go_ret
                    exact ⟨ret_e HE.out.symm, Box1.below (by assumption)⟩
                · have HT3 := Lib.hid (HT2.out.trans (t2_yes hnum))
                  have hcase : (x.op == 1) = false ∨ ((x.op == 1) = true ∧ 0 ≤ x.a ∧ x.a < 65536) := by
                    by_cases h1 : x.op = 1
                    · have := fa_two.2 h1
                      exact .inr ⟨by simp [h1], by omega, by omega⟩
                    · exact .inl (by simp [h1])
                  clear hnum HT2
                  have HTL := Lib.hid (targets_len x)
                  cases htg : Ir.within (Ir.targets x) nb with
                  | false =>
                    have HWT := Lib.hid htg
                    have HE := Lib.hid (HT3.out.trans (t3_no htg))
                    clear htg HT3
                    rcases hcase with h | ⟨h, h', h''⟩
                    all_goals
                      go_wp2_with (first | (go_at_call 49; (with_reducible refine (rtargets_box (by assumption)).mono ?_); rintro e w6 ⟨v6, rfl, hB6, hN6⟩; obtain ⟨i0, i1, i2, i3, i4, i5⟩ := hB6.cells) | (go_at_call 47; (with_reducible refine (within_box (by assumption) HTL.out HWT.out).mono ?_); rintro e w7 ⟨rfl, rfl⟩))
                      go_ret
                      exact ⟨ret_e HE.out.symm, hB6.below⟩
                  | true =>
                    have HWT := Lib.hid htg
                    have HT4 := Lib.hid (HT3.out.trans (t3_yes htg))
                    clear htg HT3
                    cases hfc : Ir.fc x.op with
                    | false =>
                      have HE := Lib.hid (HT4.out.trans (t4_call hfc))
                      have e8 : (x.op == 11) = false := by
                        rw [eq_dec]; exact hfc
                      clear hfc HT4
                      rcases hcase with h | ⟨h, h', h''⟩
                      all_goals
                        go_wp2_with (first | (go_at_call 49; (with_reducible refine (rtargets_box (by assumption)).mono ?_); rintro e w6 ⟨v6, rfl, hB6, hN6⟩; obtain ⟨i0, i1, i2, i3, i4, i5⟩ := hB6.cells) | (go_at_call 47; (with_reducible refine (within_box (by assumption) HTL.out HWT.out).mono ?_); rintro e w7 ⟨rfl, rfl⟩))
                        go_ret
                        exact ⟨ret_e HE.out.symm, hB6.below⟩
                    | true =>
                      have e8 : (x.op == 11) = true := by
                        rw [eq_dec]; exact hfc
                      cases hnm : Ir.nm x.name with
                      | false =>
                        have HE := Lib.hid (HT4.out.trans (t4_no hfc hnm))
                        have HM := Lib.hid hnm
                        clear hfc HT4 hnm
                        rcases hcase with h | ⟨h, h', h''⟩
                        all_goals
                          go_wp2_with (first | (go_at_call 49; (with_reducible refine (rtargets_box (by assumption)).mono ?_); rintro e w6 ⟨v6, rfl, hB6, hN6⟩; obtain ⟨i0, i1, i2, i3, i4, i5⟩ := hB6.cells) | (go_at_call 47; (with_reducible refine (within_box (by assumption) HTL.out HWT.out).mono ?_); rintro e w7 ⟨rfl, rfl⟩) | (go_at_call 27; (with_reducible refine (rname_any _ _).mono ?_); rintro e w' ⟨rfl, rfl⟩; rw [HM.out]))
                          go_ret
                          exact ⟨ret_e HE.out.symm, hB6.below⟩
                      | true =>
                        have HM := Lib.hid hnm
                        by_cases hmany : 4 < x.args.length
                        · have HE := Lib.hid (HT4.out.trans (t4_many hfc hnm hmany))
                          have hm4 : (4 : Int) < (x.args.length : Int) := by omega
                          clear hfc HT4 hnm hmany
                          rcases hcase with h | ⟨h, h', h''⟩
                          all_goals
                            go_wp2_with (first | (go_at_call 49; (with_reducible refine (rtargets_box (by assumption)).mono ?_); rintro e w6 ⟨v6, rfl, hB6, hN6⟩; obtain ⟨i0, i1, i2, i3, i4, i5⟩ := hB6.cells) | (go_at_call 47; (with_reducible refine (within_box (by assumption) HTL.out HWT.out).mono ?_); rintro e w7 ⟨rfl, rfl⟩) | (go_at_call 27; (with_reducible refine (rname_any _ _).mono ?_); rintro e w' ⟨rfl, rfl⟩; rw [HM.out]))
                            go_ret
                            exact ⟨ret_e HE.out.symm, hB6.below⟩
                        · have HE := Lib.hid (HT4.out.trans (t4_yes hfc hnm hmany))
                          have hm4 : (x.args.length : Int) ≤ 4 := by omega
                          clear hfc HT4 hnm hmany
                          rcases hcase with h | ⟨h, h', h''⟩
                          all_goals
                            go_wp2_with (first | (go_at_call 49; (with_reducible refine (rtargets_box (by assumption)).mono ?_); rintro e w6 ⟨v6, rfl, hB6, hN6⟩; obtain ⟨i0, i1, i2, i3, i4, i5⟩ := hB6.cells) | (go_at_call 47; (with_reducible refine (within_box (by assumption) HTL.out HWT.out).mono ?_); rintro e w7 ⟨rfl, rfl⟩) | (go_at_call 27; (with_reducible refine (rname_any _ _).mono ?_); rintro e w' ⟨rfl, rfl⟩; rw [HM.out]))
                            go_ret
                            exact ⟨ret_e HE.out.symm, hB6.below⟩
              · have HLA := Lib.hid hla
                clear hla
                go_upto_region 7 with (first | (go_at_call 46; (with_reducible refine (rdef_box (by assumption) HD.out).mono ?_); rintro e w3 ⟨rfl, hB3⟩; obtain ⟨i0, i1, i2, i3, i4, i5⟩ := hB3.cells) | (go_at_call 48; (with_reducible refine (ruses_box (by assumption) HL.out).mono ?_); rintro e w4 ⟨v4, rfl, hB4, hN4⟩; obtain ⟨i0, i1, i2, i3, i4, i5⟩ := hB4.cells) | (go_at_call 47; (with_reducible refine (within_box (by assumption) HUL.out HWU.out).mono ?_); rintro e w5 ⟨rfl, rfl⟩) | (go_at_call 44; (with_reducible refine (rlast_any _ _).mono ?_); rintro e w' ⟨rfl, rfl⟩; rw [HLA.out]))
                by_cases hnum : Ir.fa x.op = 2 ∧ (x.a < 0 ∨ 65536 ≤ x.a)
                · have HE := Lib.hid (HT2.out.trans (t2_no hnum))
                  have e7 : (x.op == 1) = true := by simp [fa_two.1 hnum.1]
                  have hcase : x.a < 0 ∨ (0 ≤ x.a ∧ 65536 ≤ x.a) := by omega
                  clear hnum HT2
                  rcases hcase with h | ⟨h, h'⟩
                  all_goals
                    go_wp2_with fail
                    go_ret
                    exact ⟨ret_e HE.out.symm, Box1.below (by assumption)⟩
                · have HT3 := Lib.hid (HT2.out.trans (t2_yes hnum))
                  have hcase : (x.op == 1) = false ∨ ((x.op == 1) = true ∧ 0 ≤ x.a ∧ x.a < 65536) := by
                    by_cases h1 : x.op = 1
                    · have := fa_two.2 h1
                      exact .inr ⟨by simp [h1], by omega, by omega⟩
                    · exact .inl (by simp [h1])
                  clear hnum HT2
                  have HTL := Lib.hid (targets_len x)
                  cases htg : Ir.within (Ir.targets x) nb with
                  | false =>
                    have HWT := Lib.hid htg
                    have HE := Lib.hid (HT3.out.trans (t3_no htg))
                    clear htg HT3
                    rcases hcase with h | ⟨h, h', h''⟩
                    all_goals
                      go_wp2_with (first | (go_at_call 49; (with_reducible refine (rtargets_box (by assumption)).mono ?_); rintro e w6 ⟨v6, rfl, hB6, hN6⟩; obtain ⟨i0, i1, i2, i3, i4, i5⟩ := hB6.cells) | (go_at_call 47; (with_reducible refine (within_box (by assumption) HTL.out HWT.out).mono ?_); rintro e w7 ⟨rfl, rfl⟩))
                      go_ret
                      exact ⟨ret_e HE.out.symm, hB6.below⟩
                  | true =>
                    have HWT := Lib.hid htg
                    have HT4 := Lib.hid (HT3.out.trans (t3_yes htg))
                    clear htg HT3
                    cases hfc : Ir.fc x.op with
                    | false =>
                      have HE := Lib.hid (HT4.out.trans (t4_call hfc))
                      have e8 : (x.op == 11) = false := by
                        rw [eq_dec]; exact hfc
                      clear hfc HT4
                      rcases hcase with h | ⟨h, h', h''⟩
                      all_goals
                        go_wp2_with (first | (go_at_call 49; (with_reducible refine (rtargets_box (by assumption)).mono ?_); rintro e w6 ⟨v6, rfl, hB6, hN6⟩; obtain ⟨i0, i1, i2, i3, i4, i5⟩ := hB6.cells) | (go_at_call 47; (with_reducible refine (within_box (by assumption) HTL.out HWT.out).mono ?_); rintro e w7 ⟨rfl, rfl⟩))
                        go_ret
                        exact ⟨ret_e HE.out.symm, hB6.below⟩
                    | true =>
                      have e8 : (x.op == 11) = true := by
                        rw [eq_dec]; exact hfc
                      cases hnm : Ir.nm x.name with
                      | false =>
                        have HE := Lib.hid (HT4.out.trans (t4_no hfc hnm))
                        have HM := Lib.hid hnm
                        clear hfc HT4 hnm
                        rcases hcase with h | ⟨h, h', h''⟩
                        all_goals
                          go_wp2_with (first | (go_at_call 49; (with_reducible refine (rtargets_box (by assumption)).mono ?_); rintro e w6 ⟨v6, rfl, hB6, hN6⟩; obtain ⟨i0, i1, i2, i3, i4, i5⟩ := hB6.cells) | (go_at_call 47; (with_reducible refine (within_box (by assumption) HTL.out HWT.out).mono ?_); rintro e w7 ⟨rfl, rfl⟩) | (go_at_call 27; (with_reducible refine (rname_any _ _).mono ?_); rintro e w' ⟨rfl, rfl⟩; rw [HM.out]))
                          go_ret
                          exact ⟨ret_e HE.out.symm, hB6.below⟩
                      | true =>
                        have HM := Lib.hid hnm
                        by_cases hmany : 4 < x.args.length
                        · have HE := Lib.hid (HT4.out.trans (t4_many hfc hnm hmany))
                          have hm4 : (4 : Int) < (x.args.length : Int) := by omega
                          clear hfc HT4 hnm hmany
                          rcases hcase with h | ⟨h, h', h''⟩
                          all_goals
                            go_wp2_with (first | (go_at_call 49; (with_reducible refine (rtargets_box (by assumption)).mono ?_); rintro e w6 ⟨v6, rfl, hB6, hN6⟩; obtain ⟨i0, i1, i2, i3, i4, i5⟩ := hB6.cells) | (go_at_call 47; (with_reducible refine (within_box (by assumption) HTL.out HWT.out).mono ?_); rintro e w7 ⟨rfl, rfl⟩) | (go_at_call 27; (with_reducible refine (rname_any _ _).mono ?_); rintro e w' ⟨rfl, rfl⟩; rw [HM.out]))
                            go_ret
                            exact ⟨ret_e HE.out.symm, hB6.below⟩
                        · have HE := Lib.hid (HT4.out.trans (t4_yes hfc hnm hmany))
                          have hm4 : (x.args.length : Int) ≤ 4 := by omega
                          clear hfc HT4 hnm hmany
                          rcases hcase with h | ⟨h, h', h''⟩
                          all_goals
                            go_wp2_with (first | (go_at_call 49; (with_reducible refine (rtargets_box (by assumption)).mono ?_); rintro e w6 ⟨v6, rfl, hB6, hN6⟩; obtain ⟨i0, i1, i2, i3, i4, i5⟩ := hB6.cells) | (go_at_call 47; (with_reducible refine (within_box (by assumption) HTL.out HWT.out).mono ?_); rintro e w7 ⟨rfl, rfl⟩) | (go_at_call 27; (with_reducible refine (rname_any _ _).mono ?_); rintro e w' ⟨rfl, rfl⟩; rw [HM.out]))
                            go_ret
                            exact ⟨ret_e HE.out.symm, hB6.below⟩
  · have HE := Lib.hid (one_fit (regs := regs) (nb := nb) (l := l) (show Ir.fits x = false by unfold Ir.fits; rw [decide_eq_false (by omega)]; rfl))
    have hcase : x.op < 1 ∨ (1 ≤ x.op ∧ 14 < x.op) := by omega
    clear ho
    rcases hcase with h | ⟨h, h'⟩
    all_goals
      go_wp2_with fail
      go_ret
      exact ⟨ret_e HE.out.symm, hB1.below⟩
end Go.Proofs.YtcoehmmiplffgaaDoor

/- Which functions have a shape that may be: the program's shaped, the document's Shape, the law's heavy. -/
namespace Go.Proofs.YtcoehmmiplffgaaDoor
open Go.ChangeShapes Go.WideShapes Go.RowKit Go.Deep

/-! ### heavy -/
def okIn (x : Ir.In) : Prop := x.args.length ≤ 100 ∧ x.name.size ≤ 1024
/-- Not heavier than the law's bound. -/
structure Light (bs : List (List Ir.In)) : Prop where
  blocks : bs.length ≤ 100
  count : Ir.count bs ≤ 500
  ins : ∀ b, b ∈ bs → ∀ x, x ∈ b → okIn x

def msum : List (List Ir.In) → Nat
  | [] => 0
  | b :: l => min b.length 1048576 + msum l
theorem msum_append : ∀ a b : List (List Ir.In), msum (a ++ b) = msum a + msum b
  | [], b => by simp [msum]
  | x :: a, b => by
    show _ + msum (a ++ b) = _ + msum a + msum b
    rw [msum_append a b]
    omega
theorem msum_up {bs : List (List Ir.In)} {k : Nat} {b : List Ir.In} (h : bs[k]? = some b) : msum (bs.take (k + 1)) = msum (bs.take k) + min b.length 1048576 := by
  obtain ⟨h1, rfl⟩ := List.getElem?_eq_some_iff.1 h
  rw [List.take_succ_eq_append_getElem h1, msum_append]
  show _ + (_ + 0) = _
  omega
theorem msum_small : ∀ bs : List (List Ir.In), msum bs ≤ 500 → Ir.count bs = msum bs ∧ ∀ b, b ∈ bs → b.length ≤ 500
  | [], _ => ⟨rfl, fun _ h => by cases h⟩
  | b :: l, h => by
    have h' : min b.length 1048576 + msum l ≤ 500 := h
    obtain ⟨h1, h2⟩ := msum_small l (by omega)
    refine ⟨by show b.length + Ir.count l = min b.length 1048576 + msum l; omega, fun c hc => ?_⟩
    rcases List.mem_cons.1 hc with rfl | hc
    · omega
    · exact h2 c hc

/-- The instructions of a block that the law looks at. -/
def seen (b : List Ir.In) (k : Nat) : Prop := ∀ m, m < k → m ≤ 500 → ∀ x, b[m]? = some x → okIn x

def HeavyPost (bs : List (List Ir.In)) (w : World) (e : Ending) (w' : World) : Prop := ∃ h : Bool, e = .returned (.bool h) ∧ w = w' ∧ (h = false → Light bs)

theorem light_of {bs : List (List Ir.In)} (hl : bs.length ≤ 100) (hm : msum bs ≤ 500) (hs : ∀ (j : Nat) (b : List Ir.In), bs[j]? = some b → seen b 501) : Light bs := by
  obtain ⟨h1, h2⟩ := msum_small bs hm
  refine ⟨hl, by omega, fun b hb x hx => ?_⟩
  obtain ⟨j, hj, rfl⟩ := List.mem_iff_getElem.1 hb
  obtain ⟨k, hk, rfl⟩ := List.mem_iff_getElem.1 hx
  have := h2 _ hb
  exact hs j _ (List.getElem?_eq_getElem hj) k (by omega) (by omega) _ (List.getElem?_eq_getElem hk)

end Go.Proofs.YtcoehmmiplffgaaDoor

/- shaped, Shape. -/
namespace Go.Proofs.YtcoehmmiplffgaaDoor
open Go.ChangeShapes Go.WideShapes Go.RowKit Go.Deep

theorem shape_range {p r : Int} {bs : List (List Ir.In)} (h : ¬ (0 ≤ p ∧ p ≤ 4 ∧ p ≤ r ∧ r ≤ 64 ∧ 1 ≤ bs.length ∧ bs.length ≤ 32)) : Ir.shape p r bs = false := by unfold Ir.shape; rw [decide_eq_false h]; rfl
theorem shape_empty {p r : Int} {bs : List (List Ir.In)} {b : List Ir.In} {k : Nat} (h : bs[k]? = some b) (h0 : b.length = 0) : Ir.shape p r bs = false := by
  unfold Ir.shape
  have : (bs.all fun b => decide (1 ≤ b.length)) = false := by
    rw [List.all_eq_false]
    exact ⟨b, List.mem_of_getElem? h, by simp [h0]⟩
  rw [this, Bool.and_false]
  rfl
theorem shape_end {p r : Int} {bs : List (List Ir.In)} (h : 0 ≤ p ∧ p ≤ 4 ∧ p ≤ r ∧ r ≤ 64 ∧ 1 ≤ bs.length ∧ bs.length ≤ 32) (hall : ∀ (j : Nat) (b : List Ir.In), bs[j]? = some b → 1 ≤ b.length) : Ir.shape p r bs = decide (Ir.count bs ≤ 200) := by
  unfold Ir.shape
  have : (bs.all fun b => decide (1 ≤ b.length)) = true := by
    rw [List.all_eq_true]
    intro b hb
    obtain ⟨j, hj, rfl⟩ := List.mem_iff_getElem.1 hb
    exact decide_eq_true (hall j _ (List.getElem?_eq_getElem hj))
  rw [decide_eq_true h, this]
  rfl
theorem shape_many {p r : Int} {bs : List (List Ir.In)} (h : 200 < Ir.count bs) : Ir.shape p r bs = false := by
  unfold Ir.shape
  rw [decide_eq_false (p := Ir.count bs ≤ 200) (by omega), Bool.and_false]
theorem count_ge {bs : List (List Ir.In)} {k : Nat} {b : List Ir.In} (h : bs[k]? = some b) : b.length ≤ Ir.count bs := by
  have h1 := Ir.count_up h
  have h2 := Ir.count_take bs (k + 1)
  omega

/-- What stands wrong with the numbers of a shape. -/
theorem shape_ways (p r : Int) (n : Nat) : (0 ≤ p ∧ p ≤ 4 ∧ p ≤ r ∧ r ≤ 64 ∧ 1 ≤ n ∧ n ≤ 32) ∨ (¬ (0 ≤ p ∧ p ≤ 4 ∧ p ≤ r ∧ r ≤ 64 ∧ 1 ≤ n ∧ n ≤ 32) ∧
    ((p < 0) ∨ (0 ≤ p ∧ 4 < p) ∨ (0 ≤ p ∧ p ≤ 4 ∧ r < p) ∨ (0 ≤ p ∧ p ≤ 4 ∧ p ≤ r ∧ 64 < r) ∨ (0 ≤ p ∧ p ≤ 4 ∧ p ≤ r ∧ r ≤ 64 ∧ (n : Int) < 1) ∨ (0 ≤ p ∧ p ≤ 4 ∧ p ≤ r ∧ r ≤ 64 ∧ 1 ≤ (n : Int) ∧ 32 < (n : Int)))) := by omega

/-- A function's box: its cells, and what its blocks read as. -/
structure BoxF (w0 : World) (bf : Nat) (f : Ir.Fu) (A : Option Addr) (cap : Nat) (w : World) : Prop where
  fn : Blk w bf 24 #[.string f.name, .int .i64 f.params, .int .i64 f.regs, .slice A f.blocks.length cap]
  blks : Blks w (.slice A f.blocks.length cap) f.blocks
  below : Below w0.heap.size w0 w
theorem BoxF.to {w0 w w' : World} {bf : Nat} {f : Ir.Fu} {A : Option Addr} {cap : Nat} (h : BoxF w0 bf f A cap w) (hb : Below w.heap.size w w') : BoxF w0 bf f A cap w' :=
  ⟨h.fn.older hb h.fn.lt, h.blks.below hb, h.below.trans (hb.mono h.below.size)⟩
theorem BoxF.cells {w0 w : World} {bf : Nat} {f : Ir.Fu} {A : Option Addr} {cap : Nat} (h : BoxF w0 bf f A cap w) :
    w.cell? ⟨bf, 0, none⟩ = some (.string f.name) ∧ w.cell? ⟨bf, 1, none⟩ = some (.int .i64 f.params) ∧ w.cell? ⟨bf, 2, none⟩ = some (.int .i64 f.regs) ∧ w.cell? ⟨bf, 3, none⟩ = some (.slice A f.blocks.length cap) :=
  ⟨h.fn.cell 0, h.fn.cell 1, h.fn.cell 2, h.fn.cell 3⟩
theorem BoxF.new {w : World} {f : Ir.Fu} {A : Option Addr} {cap : Nat} (h : Blks w (.slice A f.blocks.length cap) f.blocks) :
    BoxF w w.heap.size f A cap (w.alloc (.cells #[.string f.name, .int .i64 f.params, .int .i64 f.regs, .slice A f.blocks.length cap] 24)) := by
  have hb : Below w.heap.size w (w.alloc (.cells #[.string f.name, .int .i64 f.params, .int .i64 f.regs, .slice A f.blocks.length cap] 24)) := (Below.refl _ _).alloc (Nat.le_refl _) _
  exact ⟨Blk.new _ _ _, h.below hb, hb⟩

set_option maxRecDepth 20000 in
set_option maxHeartbeats 1600000 in
theorem rshape_any (f : Ir.Fu) (A : Option Addr) (cap : Nat) (w : World) (hv : Blks w (.slice A f.blocks.length cap) f.blocks) (hL : Light f.blocks) :
    Calls Tryd.prog 28 #[.int .i64 f.params, .int .i64 f.regs, .slice A f.blocks.length cap] w fun e w' => e = .returned (.bool (Ir.shape f.params f.regs f.blocks)) ∧ w = w' := by
  have HV := Lib.hid hv
  have HC := Lib.hid hL.count
  have hb1 : (f.blocks.length : Int) ≤ 100 := by have := hL.blocks; omega
  clear hL hv
  have hw := shape_ways f.params f.regs f.blocks.length
  go_enter Tryd.func28, Tryd.ntmps28
  go_upto_region 1 with fail
  rcases hw with hok | ⟨hno, hcase⟩
  · have HOK := Lib.hid hok
    obtain ⟨z1, z2, z3, z4, z5, z6⟩ := hok
    have z5' : (1 : Int) ≤ (f.blocks.length : Int) := by omega
    have z6' : (f.blocks.length : Int) ≤ 32 := by omega
    clear z5 z6
    go_wp2_with fail
    go_loop [7, 8] (fun n i => ∃ k : Nat, k ≤ f.blocks.length ∧ i = .int .i64 (k : Int) ∧ n = .int .i64 ((Ir.count (f.blocks.take k) : Nat) : Int) ∧ ∀ (j : Nat) (b : List Ir.In), j < k → f.blocks[j]? = some b → 1 ≤ b.length) (fun _ i => f.blocks.length - (intOf i).toNat)
    case atStart => exact ⟨0, Nat.zero_le _, rfl, rfl, fun j b h => absurd h (Nat.not_lt_zero _)⟩
    case round =>
      obtain ⟨k, hk, rfl, rfl, hall⟩ := hrel
      have HA := Lib.hid hall
      clear hall
      have hcle := Ir.count_take f.blocks k
      obtain ⟨n0, hn0⟩ : ∃ n0, n0 = Ir.count (f.blocks.take k) := ⟨_, rfl⟩
      rw [← hn0] at hcle ⊢
      have HN := Lib.hid hn0
      have hcn : (n0 : Int) ≤ 500 := by have := HC.out; omega
      clear hn0 hcle
      by_cases hlt : k < f.blocks.length
      · have hki : (k : Int) < (f.blocks.length : Int) := by omega
        obtain ⟨b, hb⟩ : ∃ b, f.blocks[k]? = some b := ⟨_, List.getElem?_eq_getElem hlt⟩
        obtain ⟨bl, off, B, cbp, rfl, l1, d1, -⟩ := HV.out.at hb
        have hble := count_ge hb
        have hbi : (b.length : Int) ≤ 500 := by have := HC.out; omega
        have HU := Lib.hid (Ir.count_up hb)
        have HBK := Lib.hid hb
        by_cases hz : b.length = 0
        · have HE := Lib.hid (shape_empty (p := f.params) (r := f.regs) hb hz)
          have hz' : ((b.length : Int) == 0) = true := by simp [hz]
          clear hb hz hble
          go_wp2_with fail
          go_ret
          exact ⟨retb HE.out.symm, rfl⟩
        · by_cases hm : 200 < b.length
          · have HE := Lib.hid (shape_many (p := f.params) (r := f.regs) (Nat.lt_of_lt_of_le hm hble))
            have hz' : ((b.length : Int) == 0) = false := beq_eq_false_iff_ne.2 (by omega)
            have hm' : (200 : Int) < (b.length : Int) := by omega
            clear hb hz hble hm
            go_wp2_with fail
            go_ret
            exact ⟨retb HE.out.symm, rfl⟩
          · have HZ := Lib.hid hz
            have hz' : ((b.length : Int) == 0) = false := beq_eq_false_iff_ne.2 (by omega)
            have hm' : (b.length : Int) ≤ 200 := by omega
            clear hb hz hble hm
            go_wp2_with fail
            go_round
            case rel => exact ⟨k + 1, by omega, by go_num, congrArg (Value.int .i64) (by have := HU.out; have := HN.out; omega), fun j c hj hc => by
              rcases Nat.lt_succ_iff_lt_or_eq.1 hj with h | rfl
              · exact HA.out j c h hc
              · rw [HBK.out] at hc
                injection hc with hc
                subst hc
                have := HZ.out
                omega⟩
            case measure => simp [intOf]; omega
      · have HE := Lib.hid (shape_end HOK.out (fun j b hb => HA.out j b (by have := (List.getElem?_eq_some_iff.1 hb).1; omega) hb))
        have HN2 := Lib.hid (show n0 = Ir.count f.blocks by have := HN.out; rwa [List.take_of_length_le (by omega)] at this)
        go_wp2_with fail
        go_ret
        exact ⟨by rw [HE.out, ← HN2.out]; first | rfl | exact retb (decide_eq_decide.2 (by omega)), rfl⟩
  · have HE := Lib.hid (shape_range hno)
    clear hno
    rcases hcase with h | ⟨h1, h2⟩ | ⟨h1, h2, h3⟩ | ⟨h1, h2, h3, h4⟩ | ⟨h1, h2, h3, h4, h5⟩ | ⟨h1, h2, h3, h4, h5, h6⟩
    all_goals
      go_wp2_with fail
      go_ret
      exact ⟨retb HE.out.symm, rfl⟩
end Go.Proofs.YtcoehmmiplffgaaDoor

/- Check: the program's. -/
namespace Go.Proofs.YtcoehmmiplffgaaDoor
open Go.ChangeShapes Go.WideShapes Go.RowKit Go.Deep

theorem check_name {f : Ir.Fu} (h : Ir.nm f.name = false) : Ir.check f = 70 := by unfold Ir.check; rw [h]; rfl
theorem check_shape {f : Ir.Fu} (h : Ir.nm f.name = true) (h' : Ir.shape f.params f.regs f.blocks = false) : Ir.check f = 71 := by unfold Ir.check; rw [h, h']; rfl
theorem check_blocks {f : Ir.Fu} (h : Ir.nm f.name = true) (h' : Ir.shape f.params f.regs f.blocks = true) : Ir.check f = Ir.chkBs f.regs (f.blocks.length : Int) f.blocks := by unfold Ir.check; rw [h, h']; rfl

/-- An instruction is its block's last one. -/
theorem at_end {n k : Nat} (h : k < n) : ((k : Int) == (n : Int) - 1) = decide (n - (k + 1) = 0) := by
  rw [Bool.eq_iff_iff]
  simp
  omega

theorem light_args {bs : List (List Ir.In)} (hL : Light bs) {k m : Nat} {b : List Ir.In} {x : Ir.In} (hb : bs[k]? = some b) (hx : b[m]? = some x) : x.args.length ≤ 100 :=
  (hL.ins b (List.mem_of_getElem? hb) x (List.mem_of_getElem? hx)).1

end Go.Proofs.YtcoehmmiplffgaaDoor

/- Check: the document's. -/
namespace Go.Proofs.YtcoehmmiplffgaaDoor
open Go.ChangeShapes Go.WideShapes Go.RowKit Go.Deep

set_option maxRecDepth 20000 in
set_option maxHeartbeats 3200000 in
theorem rcheck_any (f : Ir.Fu) (A : Option Addr) (cap : Nat) (w : World) (hv : Blks w (.slice A f.blocks.length cap) f.blocks) (hL : Light f.blocks) :
    Calls Tryd.prog 15 #[FuV f (.slice A f.blocks.length cap)] w fun e w' => e = .returned (.int .i64 (Ir.check f)) ∧ Below w.heap.size w w' := by
  have hB := BoxF.new hv
  obtain ⟨c0, c1, c2, c3⟩ := hB.cells
  have HB := Lib.hid hB
  have HL := Lib.hid hL
  have hb1 : (f.blocks.length : Int) ≤ 100 := by have := hL.blocks; omega
  clear hB hL hv
  go_enter Tryd.func15, Tryd.ntmps15
  go_upto_region 1 with fail
  generalize w.alloc (.cells #[.string f.name, .int .i64 f.params, .int .i64 f.regs, .slice A f.blocks.length cap] 24) = w1 at *
  cases hnm : Ir.nm f.name with
  | false =>
    have HE := Lib.hid (check_name hnm)
    have HM := Lib.hid hnm
    clear hnm
    go_wp2_with (go_at_call 27; (with_reducible refine (rname_any _ _).mono ?_); rintro e w' ⟨rfl, rfl⟩; rw [HM.out])
    go_ret
    exact ⟨ret_e HE.out.symm, HB.out.below⟩
  | true =>
    have HM := Lib.hid hnm
    clear hnm
    go_upto_region 3 with (go_at_call 27; (with_reducible refine (rname_any _ _).mono ?_); rintro e w' ⟨rfl, rfl⟩; rw [HM.out])
    go_wp2_with fail
    refine (rshape_any f A cap w1 HB.out.blks HL.out).mono ?_
    rintro e w2 ⟨rfl, rfl⟩
    have HB2 := Lib.hid HB.out
    cases hsh : Ir.shape f.params f.regs f.blocks with
    | false =>
      have HE := Lib.hid (check_shape HM.out hsh)
      clear hsh
      go_wp2_with fail
      go_ret
      exact ⟨ret_e HE.out.symm, HB2.out.below⟩
    | true =>
      have HE := Lib.hid (check_blocks HM.out hsh)
      clear hsh HM
      go_wp2_with fail
      go_loopw [3] (fun i wr => ∃ k : Nat, k ≤ f.blocks.length ∧ i = .int .i64 (k : Int) ∧ BoxF w w.heap.size f A cap wr ∧ Ir.check f = Ir.chkBs f.regs (f.blocks.length : Int) (f.blocks.drop k)) (fun i _ => f.blocks.length - (intOf i).toNat)
      case atStart => exact ⟨0, Nat.zero_le _, rfl, HB2.out, HE.out⟩
      case round =>
        obtain ⟨k, hk, rfl, hB, hE⟩ := hrel
        clear c0 c1 c2 c3 HB2 HE
        have HB3 := Lib.hid hB
        have HE3 := Lib.hid hE
        obtain ⟨c0, c1, c2, c3⟩ := hB.cells
        clear hB hE
        by_cases hlt : k < f.blocks.length
        · have hki : (k : Int) < (f.blocks.length : Int) := by omega
          obtain ⟨b, hb⟩ : ∃ b, f.blocks[k]? = some b := ⟨_, List.getElem?_eq_getElem hlt⟩
          obtain ⟨bl, off, B, cbp, rfl, l1, -, -⟩ := HB3.out.blks.at hb
          have HBK := Lib.hid hb
          have hbi : (b.length : Int) ≤ 500 := by have := HL.out.count; have := count_ge hb; omega
          clear hb
          go_wp2_with fail
          clear c0 c1 c2 c3
          go_loopw [4] (fun i wr => ∃ m : Nat, m ≤ b.length ∧ i = .int .i64 (m : Int) ∧ BoxF w w.heap.size f (some ⟨bl, off, none⟩) cap wr ∧ Ir.chkB f.regs (f.blocks.length : Int) b = Ir.chkB f.regs (f.blocks.length : Int) (b.drop m)) (fun i _ => b.length - (intOf i).toNat)
          case atStart => exact ⟨0, Nat.zero_le _, rfl, HB3.out, rfl⟩
          case round =>
            obtain ⟨m, hm, rfl, hB, hE⟩ := hrel
            have HB4 := Lib.hid hB
            have HE4 := Lib.hid hE
            clear hB hE HB3
            obtain ⟨bl', off', C, ccp, e1, l1', d1, hI⟩ := HB4.out.blks.at HBK.out
            obtain ⟨rfl, rfl⟩ : bl = bl' ∧ off = off' := by simpa using e1
            have HI := Lib.hid hI
            obtain ⟨c0, c1, c2, c3⟩ := HB4.out.cells
            clear e1 hI
            by_cases hlt2 : m < b.length
            · have hmi : (m : Int) < (b.length : Int) := by omega
              obtain ⟨x, hx⟩ : ∃ x, b[m]? = some x := ⟨_, List.getElem?_eq_getElem hlt2⟩
              obtain ⟨bx, ox, D, ccp2, rfl, l2, ⟨x0, x1, x2, x3, x4, x5⟩, hin⟩ := HI.out.at hx
              have HIN := Lib.hid (hin.below (Below.refl _ _).drew)
              have HBD := Lib.hid (HB4.out.to (Below.refl _ _).drew)
              have HAT := Lib.hid (Ir.chkB_at (regs := f.regs) (nb := (f.blocks.length : Int)) hx)
              have HAR := Lib.hid (light_args HL.out HBK.out hx)
              have HEN := Lib.hid (at_end hlt2)
              have HWR := Lib.hid (IntWalk.i64_in ((b.length : Int) - 1) (by omega))
              clear hin hx
              go_upto_region 11 with fail
              have HON := Lib.hid (fun (l : Bool) => rone_any x (.slice D x.args.length ccp2) f.regs (f.blocks.length : Int) l wr.drew HIN.out (by have := HAR.out; omega))
              go_region_held3 (fun W => W.cell? ⟨w.heap.size, 2, none⟩ = some (.int .i64 f.regs) ∧ W.cell? ⟨w.heap.size, 3, none⟩ = some (.slice (some ⟨bl, off, none⟩) f.blocks.length cap) ∧ W.cell? ⟨bl, off + k, none⟩ = some (.slice (some ⟨bx, ox, none⟩) b.length ccp) ∧
                  W.cell? ⟨bx, ox + m * 6, none⟩ = some (.int .i64 x.op) ∧ W.cell? ⟨bx, ox + m * 6 + 1, none⟩ = some (.int .i64 x.d) ∧ W.cell? ⟨bx, ox + m * 6 + 2, none⟩ = some (.int .i64 x.a) ∧
                  W.cell? ⟨bx, ox + m * 6 + 3, none⟩ = some (.int .i64 x.b) ∧ W.cell? ⟨bx, ox + m * 6 + 4, none⟩ = some (.string x.name) ∧ W.cell? ⟨bx, ox + m * 6 + 5, none⟩ = some (.slice D x.args.length ccp2)) (first | assumption | exact ⟨c2, c3, d1, x0, x1, x2, x3, x4, x5⟩ | go_keep)
                (first | (go_at_call 29; (with_reducible refine (HON.out _).mono ?_); rintro e w6 ⟨rfl, hb6⟩; have HB6 := Lib.hid (HBD.out.to hb6); have g6 := (show w6.cell? ⟨w.heap.size, 2, none⟩ = some (.int .i64 f.regs) ∧ w6.cell? ⟨w.heap.size, 3, none⟩ = some (.slice (some ⟨bl, off, none⟩) f.blocks.length cap) ∧ w6.cell? ⟨bl, off + k, none⟩ = some (.slice (some ⟨bx, ox, none⟩) b.length ccp) ∧ w6.cell? ⟨bx, ox + m * 6, none⟩ = some (.int .i64 x.op) ∧ w6.cell? ⟨bx, ox + m * 6 + 1, none⟩ = some (.int .i64 x.d) ∧ w6.cell? ⟨bx, ox + m * 6 + 2, none⟩ = some (.int .i64 x.a) ∧ w6.cell? ⟨bx, ox + m * 6 + 3, none⟩ = some (.int .i64 x.b) ∧ w6.cell? ⟨bx, ox + m * 6 + 4, none⟩ = some (.string x.name) ∧ w6.cell? ⟨bx, ox + m * 6 + 5, none⟩ = some (.slice D x.args.length ccp2) from ⟨HB6.out.cells.2.2.1, HB6.out.cells.2.2.2, (hb6.cell (p := ⟨bl, _, none⟩) l1').trans d1, (hb6.cell (p := ⟨bx, _, none⟩) l2).trans x0, (hb6.cell (p := ⟨bx, _, none⟩) l2).trans x1, (hb6.cell (p := ⟨bx, _, none⟩) l2).trans x2, (hb6.cell (p := ⟨bx, _, none⟩) l2).trans x3, (hb6.cell (p := ⟨bx, _, none⟩) l2).trans x4, (hb6.cell (p := ⟨bx, _, none⟩) l2).trans x5⟩); clear hb6))
              clear g6
              rw [HWR.out, HEN.out]
              by_cases h0 : Ir.one f.regs (f.blocks.length : Int) x (decide (b.length - (m + 1) = 0)) = 0
              · have HN := Lib.hid (HE4.out.trans (HAT.out.trans (if_pos h0)))
                rw [h0]
                clear h0 HAT HE4 HB4 HI
                go_wp2_with fail
                go_roundw
                case rel => exact ⟨m + 1, by omega, by go_num, HB6.out, HN.out⟩
                case measure => simp [intOf]; omega
              · have hcb := HE4.out.trans (HAT.out.trans (if_neg h0))
                have HN := Lib.hid ((HE3.out.trans ((Ir.chkBs_at HBK.out).trans (if_neg (by rw [hcb]; exact h0)))).trans hcb)
                clear hcb HAT HE4
                generalize Ir.one f.regs (f.blocks.length : Int) x (decide (b.length - (m + 1) = 0)) = e0 at *
                have h0' : (e0 != 0) = true := by simp [h0]
                clear h0
                go_wp2_with fail
                go_ret
                exact ⟨ret_e HN.out.symm, HB6.out.below⟩
            · have HN := Lib.hid (show Ir.chkB f.regs (f.blocks.length : Int) b = 0 by have := HE4.out; rwa [List.drop_of_length_le (by omega)] at this)
              have HN2 := Lib.hid (HE3.out.trans ((Ir.chkBs_at HBK.out).trans (if_pos HN.out)))
              go_wp2_with fail
              go_roundw
              case rel => exact ⟨k + 1, by omega, by go_num, HB4.out, HN2.out⟩
              case measure => simp [intOf]; omega
        · have HE9 := Lib.hid (show Ir.check f = 0 by have := HE3.out; rwa [List.drop_of_length_le (by omega)] at this)
          go_wp2_with fail
          go_ret
          exact ⟨ret_e HE9.out.symm, HB3.out.below⟩
end Go.Proofs.YtcoehmmiplffgaaDoor

/- A law's frame with both: what the listed variables read as, and the world's shape. -/
namespace Go.Proofs.YtcoehmmiplffgaaDoor
open Go.ChangeShapes Go.WideShapes Go.RowKit
variable {H : Type} {enc : TypeId × Value → H}

theorem returns_both {a : Assume} {C : Checked} {os : Os} {f : FuncId} {fn : Func} {s : ChangeSpec} {conds : List PathCond} {apart fresh handsOn again : Bool} {X : World → Array Value → Prop}
    (hX : ∀ (w w' : World) (args : Array Value), w.heap = w'.heap → X w args → X w' args)
    (own : ownKnob C.prog.godebug = none) (started : os.Started) (noInit : C.prog.inits.idxOf? f = none) (hfn : C.prog.funcs[f]? = some fn)
    (witness : ∃ (w : World) (tape : Tape) (i : Input), w.os = os ∧ (w.forCall tape i).Shaped C.prog ∧ i.vars = [] ∧ Input.okWide C.prog (w.forCall tape i) .any w.heap.size f i ∧
      ((s.pre enc C.prog fn conds apart (w.forCall tape i).memory i.args ∧ X (w.forCall tape i).memory i.args) ∧ sizedMet enc C.prog fn (OpenSpec.ofChange s) apart (w.forCall tape i).memory i.args) ∧ a.holds C.prog (lone (Frame.enter C.prog f i.args .normal) [] (w.forCall tape i)))
    (walk : ∀ (W : World) (base : Nat) (args : Array Value) (ds gs : List (DataW H)) (before : List MemPlace),
      (∀ (j : Nat) t v, fn.params[j]? = some t → args[j]? = some v → Value.okWide C.prog W .any base t v) →
      DataW.Whole enc C.prog fn.params.toList s.vars apart W args.toList ds gs before → X W args → W.ShapedOpen C.prog →
      Calls C.prog f args W fun e W' => ∃ v, e = .returned v ∧ s.post enc C.prog fn apart fresh handsOn again W args v W') :
    ReturnsInHanded a C os f .any (fun w args => (s.pre enc C.prog fn conds apart w args ∧ X w args) ∧ sizedMet enc C.prog fn (OpenSpec.ofChange s) apart w args) (s.post enc C.prog fn apart fresh handsOn again) := by
  refine returnsInHanded_of_calls own started noInit witness fun w tape i _ hsh _ hok hpre _ => ?_
  obtain ⟨-, -, -, fn', hfn', -, -, -, -, hval⟩ := hok
  obtain rfl : fn' = fn := Option.some.inj (hfn'.symm.trans hfn)
  obtain ⟨⟨⟨ds, gs, before, hw, -⟩, hx⟩, -⟩ := hpre
  refine (walk (w.forCall tape i) w.heap.size i.args ds gs before hval (DataW.Whole.of_heap (w' := w.forCall tape i) (by rfl) hw) (hX _ _ _ (by rfl) hx) hsh).mono fun e W' h => ?_
  obtain ⟨v, rfl, hp⟩ := h
  exact ChangeSpec.post_blind hp
end Go.Proofs.YtcoehmmiplffgaaDoor

/- What the listed variables read as gives the walks their tables. -/
namespace Go.Proofs.YtcoehmmiplffgaaDoor
open Go.ChangeShapes Go.WideShapes Go.RowKit Go.Deep Go.Joins

theorem laid_mem {P : Program} {w : World} : ∀ {laid : List (String × DataW Unit)} {ps : List MemPlace}, DataW.LaidVars P w laid ps → ∀ n d, (n, d) ∈ laid →
    ∃ g t cs fuel p, P.globalNamed n = some g ∧ (P.globals[g]?).map (·.type) = some t ∧ w.var? P n = some cs ∧ DataW.trod (fun _ => ()) P w 0 (fun _ => true) false fuel t cs.toList = some (d, p)
  | [], _, _, n, d, hm => by cases hm
  | (n0, d0) :: r, ps, h, n, d, hm => by
    obtain ⟨g, t, cs, fuel, p, q, hg, ht, hv, hd, hr, _⟩ := h
    rcases List.mem_cons.1 hm with e | hm
    · injection e with e1 e2
      subst e1 e2
      exact ⟨g, t, cs, fuel, p, hg, ht, hv, hd⟩
    · exact laid_mem hr n d hm

theorem var_heap {P : Program} {w : World} {n : String} {cs : Array Value} {g : Nat} (hg : P.globalNamed n = some g) (hv : w.var? P n = some cs) : ∃ t fr, w.heap[g]? = some (.cells cs t fr) := by
  unfold World.var? at hv
  rw [hg] at hv
  simp only [Option.bind_some] at hv
  split at hv
  · rename_i cs' t fr h
    injection hv with hv
    subst hv
    exact ⟨t, fr, h⟩
  · cases hv
theorem heap_lt {w : World} {g : Nat} {o : Obj} (h : w.heap[g]? = some o) : g < w.heap.size := (Array.getElem?_eq_some_iff.1 h).1

theorem tPow : (Tryd.prog.globals[2]?).map (·.type) = some 147 := by kernel_rfl
theorem pow_datum : Rows.laid_internal_strconv_uint64pow10 = (Lib.tabData .u64 Lib.pow10Tab : DataW Unit) := by kernel_rfl
theorem cells_u64 : Tryd.prog.cellsOf 132 = 1 := by kernel_rfl
theorem cells_pow : Tryd.prog.cellsOf 147 = 20 := by kernel_rfl

theorem gRows : Tryd.prog.globalNamed "cubby/text.rows" = some 0 := by kernel_rfl
theorem tRows : (Tryd.prog.globals[0]?).map (·.type) = some 116 := by kernel_rfl
theorem rows_cells : Tryd.prog.cellsOf 116 = 85 := by kernel_rfl
theorem kind_cells : Tryd.prog.cellsOf 50 = 1 := by kernel_rfl
theorem bool_cells8 : Tryd.prog.cellsOf 4 = 1 := by kernel_rfl

def rowDt (r : Rw) : DataW Unit := .agg [.lit (.int .i64 r.op), .lit (.string r.w), .lit (.string r.f), .lit (.bool r.a), .lit (.int .i64 r.o)]
theorem rows_datum : Rows.laid_cubby_text_rows = .agg (rowL.map rowDt) := by kernel_rfl

theorem trod_struct5 {H : Type} {enc : TypeId × Value → H} {w : World} {P : Program} {base : Nat} {spare : Nat → Bool} {held : Bool} {t : TypeId} {f0 f1 f2 f3 f4 : Field} {fuel : Nat} {cs : List Value} {x : DataW H × List MemPlace} (ht : P.underlying t = some (.struct #[f0, f1, f2, f3, f4])) (h : DataW.trod enc P w base spare held fuel t cs = some x) :
    ∃ y0 y1 y2 y3 y4 n, x = (.agg [y0.1, y1.1, y2.1, y3.1, y4.1], y0.2 ++ (y1.2 ++ (y2.2 ++ (y3.2 ++ y4.2)))) ∧ cs.length = P.cellsOf t ∧ DataW.trod enc P w base spare held n f0.type ((cs.drop f0.offset).take (P.cellsOf f0.type)) = some y0 ∧
      DataW.trod enc P w base spare held n f1.type ((cs.drop f1.offset).take (P.cellsOf f1.type)) = some y1 ∧ DataW.trod enc P w base spare held n f2.type ((cs.drop f2.offset).take (P.cellsOf f2.type)) = some y2 ∧
      DataW.trod enc P w base spare held n f3.type ((cs.drop f3.offset).take (P.cellsOf f3.type)) = some y3 ∧ DataW.trod enc P w base spare held n f4.type ((cs.drop f4.offset).take (P.cellsOf f4.type)) = some y4 := by
  obtain ⟨xs, n, _, rfl, hl, hlen, hf⟩ := DataW.trod_struct ht h
  match xs, hlen with
  | [y0, y1, y2, y3, y4], _ => exact ⟨y0, y1, y2, y3, y4, n, by simp, hl, by simpa using hf 0 f0 rfl, by simpa using hf 1 f1 rfl, by simpa using hf 2 f2 rfl, by simpa using hf 3 f3 rfl, by simpa using hf 4 f4 rfl⟩

set_option maxRecDepth 20000 in
theorem open_trow {w : World} {fuel : Nat} {cs : List Value} {x : DataW Unit × List MemPlace} {r : Rw} (h : DataW.trod (fun _ => ()) Tryd.prog w 0 (fun _ => true) false fuel 108 cs = some x) (hx : x.1 = rowDt r) : cs = r.arr.toList := by
  obtain ⟨y0, y1, y2, y3, y4, m, rfl, hl, t0, t1, t2, t3, t4⟩ := trod_struct5 Tryd.underlying108 h
  rw [row_cells] at hl
  match cs, hl with
  | [c0, c1, c2, c3, c4], _ =>
    simp only [int_cells, string_cells, bool_cells8, kind_cells] at t0 t1 t2 t3 t4
    simp at t0 t1 t2 t3 t4
    obtain ⟨a0, e0, f0, _⟩ := DataW.trod_int Tryd.underlying3 t0
    obtain ⟨a1, e1, f1, _⟩ := DataW.trod_string Tryd.underlying9 t1
    obtain ⟨a2, e2, f2, _⟩ := DataW.trod_string Tryd.underlying9 t2
    obtain ⟨a3, e3, f3⟩ := DataW.trod_bool Tryd.underlying4 t3
    obtain ⟨a4, e4, f4, _⟩ := DataW.trod_int Tryd.underlying50 t4
    rw [f0, f1, f2, f3, f4] at hx
    simp [rowDt] at hx
    obtain ⟨h0, h1, h2, h3, h4⟩ := hx
    simp at e0 e1 e2 e3 e4
    rw [e0, e1, e2, e3, e4, h0, h3, h4]
    have k1 : a1 = ⟨r.w.toArray⟩ := by rw [← Tx.mkB_list a1, ← h1]; simp [Tx.mkB]
    have k2 : a2 = ⟨r.f.toArray⟩ := by rw [← Tx.mkB_list a2, ← h2]; simp [Tx.mkB]
    rw [k1, k2]

theorem rws_of {W : World} {fuel : Nat} {cs : Array Value} {p : List MemPlace} (hv : W.var? Tryd.prog "cubby/text.rows" = some cs) (hd : DataW.trod (fun _ => ()) Tryd.prog W 0 (fun _ => true) false fuel 116 cs.toList = some (Rows.laid_cubby_text_rows, p)) : Rws W := by
  rw [rows_datum] at hd
  obtain ⟨xs, m, _, hx, hl, hn, hel⟩ := DataW.trod_array Tryd.underlying116 hd
  rw [row_cells] at hel
  rw [rows_cells] at hl
  simp only [Prod.mk.injEq, DataW.agg.injEq] at hx
  have key : ∀ i : Nat, i < 17 → ∀ r, rowL[i]? = some r → (cs.toList.drop (i * 5)).take 5 = r.arr.toList := by
    intro i hi r hr
    have h1 := hel i hi
    rw [List.getElem?_eq_getElem (by omega)] at h1
    refine open_trow h1 ?_
    have h2 : (xs.map (·.1))[i]? = some (rowDt r) := by rw [← hx.1, List.getElem?_map, hr]; rfl
    rw [List.getElem?_map, List.getElem?_eq_getElem (by omega)] at h2
    simpa using h2
  have hc : cs = rowC := by
    apply Array.ext_getElem?
    intro j
    by_cases hj : j < 85
    · obtain ⟨i, k, hi, hk, rfl⟩ : ∃ i k, i < 17 ∧ k < 5 ∧ j = i * 5 + k := ⟨j / 5, j % 5, by omega, by omega, by omega⟩
      obtain ⟨r, hr⟩ := row_lt hi
      have h1 := congrArg (·[k]?) (key i hi r hr)
      simp only [List.getElem?_take_of_lt hk, List.getElem?_drop, Array.getElem?_toList] at h1
      rw [h1]
      rcases cases17 hi with rfl | rfl | rfl | rfl | rfl | rfl | rfl | rfl | rfl | rfl | rfl | rfl | rfl | rfl | rfl | rfl | rfl <;>
        (injection hr with hr; subst hr; rcases (by omega : k = 0 ∨ k = 1 ∨ k = 2 ∨ k = 3 ∨ k = 4) with rfl | rfl | rfl | rfl | rfl <;> rfl)
    · rw [Array.getElem?_eq_none (by simp at hl; omega), Array.getElem?_eq_none (by show rowC.size ≤ j; have : rowC.size = 85 := rfl; omega)]
  subst hc
  exact var_heap gRows hv

theorem prworld_of_laid {W : World} {laid : List (String × DataW Unit)} (hp : (laid.all fun x => x.2.handleName?.isNone) = true) (h : laidMetH Tryd.prog laid W)
    (m1 : ("internal/strconv.uint64pow10", Rows.laid_internal_strconv_uint64pow10) ∈ laid) (m2 : ("cubby/text.rows", Rows.laid_cubby_text_rows) ∈ laid) : PrWorld W := by
  rw [MakeChecks.laidMetH_plain _ _ _ hp] at h
  obtain ⟨ps, hl, _⟩ := h
  obtain ⟨g1, t1, cs1, fuel1, p1, hg1, ht1, hv1, hd1⟩ := laid_mem hl _ _ m1
  obtain ⟨g2, t2, cs2, fuel2, p2, hg2, ht2, hv2, hd2⟩ := laid_mem hl _ _ m2
  obtain rfl := Option.some.inj (gPow.symm.trans hg1)
  obtain rfl := Option.some.inj (tPow.symm.trans ht1)
  obtain rfl := Option.some.inj (gRows.symm.trans hg2)
  obtain rfl := Option.some.inj (tRows.symm.trans ht2)
  rw [pow_datum] at hd1
  have e1 := Lib.cells_of_tab Tryd.underlying147 Tryd.underlying132 cells_u64 cells_pow hd1
  obtain ⟨_, _, k1⟩ := var_heap gPow hv1
  obtain ⟨_, _, k2⟩ := var_heap gRows hv2
  refine ⟨?_, rws_of hv2 hd2, heap_lt k1, heap_lt k2⟩
  unfold Pow Lib.TabIs
  rw [hv1, ← e1]
end Go.Proofs.YtcoehmmiplffgaaDoor

/- What the listed variables read as, and the world's shape, make ready for reading. -/
namespace Go.Proofs.YtcoehmmiplffgaaDoor
open Go.ChangeShapes Go.WideShapes Go.RowKit Go.Deep Go.Joins

theorem tRng : (Tryd.prog.globals[6]?).map (·.type) = some 99 := by kernel_rfl
theorem tSyn : (Tryd.prog.globals[5]?).map (·.type) = some 99 := by kernel_rfl
theorem cells_errs : Tryd.prog.cellsOf 164 = 1 := by kernel_rfl
theorem cells_str1 : Tryd.prog.cellsOf 9 = 1 := by kernel_rfl
theorem err_star : "*" ++ "errors.errorString" = "*errors.errorString" := by decide
theorem row_errs (u : TypeId) (h : Tryd.prog.typeName? 3 u = some "*errors.errorString") : u = 162 :=
  typeName_ptr_named (nm := "errors.errorString") (by rw [err_star]; kernel_rfl) (by kernel_rfl) (by decide) u (by rw [err_star]; exact h)

theorem rdy_of {W : World} {a b c : DataW Unit} {n0 n1 : String} {r : List (String × DataW Unit)}
    (h : laidMet Tryd.prog ((n0, a) :: (n1, b) :: ("internal/strconv.uint64pow10", Rows.laid_internal_strconv_uint64pow10) :: ("unicode/utf8.acceptRanges", c) :: ("strconv.ErrRange", Rows.laid_strconv_ErrRange) :: ("strconv.ErrSyntax", Rows.laid_strconv_ErrSyntax) :: ("cubby/text.rows", Rows.laid_cubby_text_rows) :: r) W)
    (hs : W.ShapedOpen Tryd.prog) (hpr : PrWorld W) : Rdy W := by
  obtain ⟨a1, s1, v1, -⟩ := laid_sentinel h.tail.tail.tail.tail gRng tRng Tryd.underlying99 row_errs Tryd.underlying162 Tryd.underlying164 rfl rfl Tryd.underlying9 cells_errs cells_str1
  obtain ⟨a2, s2, v2, -⟩ := laid_sentinel h.tail.tail.tail.tail.tail gSyn tSyn Tryd.underlying99 row_errs Tryd.underlying162 Tryd.underlying164 rfl rfl Tryd.underlying9 cells_errs cells_str1
  obtain ⟨m, hm⟩ := laysM145.s1_3 W hs
  obtain ⟨_, _, k1⟩ := var_heap gRng v1
  obtain ⟨_, _, k2⟩ := var_heap gSyn v2
  exact ⟨hpr.pow, hpr.rws, ⟨_, _, v2⟩, ⟨_, _, v1⟩, ⟨m, hm⟩, hpr.low.1, hpr.low.2, heap_lt k2, heap_lt k1, World.block_lt_of_cell? W _ hm⟩
end Go.Proofs.YtcoehmmiplffgaaDoor

/- All that the six laws of reading want. -/
namespace Go.Proofs.YtcoehmmiplffgaaDoor
end Go.Proofs.YtcoehmmiplffgaaDoor
