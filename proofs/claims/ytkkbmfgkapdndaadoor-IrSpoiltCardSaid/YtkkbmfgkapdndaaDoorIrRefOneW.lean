/- One: the document's. -/
import Derived.Test.YtkkbmfgkapdndaaDoorIrRefOne
namespace Go.Proofs.YtkkbmfgkapdndaaDoor
open Go.ChangeShapes Go.WideShapes Go.RowKit Go.Deep

/-- What One comes to. -/
def OnePost (w : World) (r : Int) (e : Ending) (w' : World) : Prop := e = .returned (.int .i64 r) ∧ Below w.heap.size w w'

set_option maxRecDepth 20000 in
set_option maxHeartbeats 3200000 in
theorem rone_any (x : Ir.In) (sl : Value) (regs nb : Int) (l : Bool) (w : World) (hx : InR w (InsC x sl).toList x) (hlen : x.args.length ≤ 1048000) :
    Calls Tryd.prog 26 #[InsV x sl, .int .i64 regs, .int .i64 nb, .bool l] w (OnePost w (Ir.one regs nb x l)) := by
  have hop := hx
  obtain ⟨_, hs, ⟨B, cbp, hsl, -⟩, hop, -⟩ := hop
  simp at hs
  subst hs
  subst hsl
  have hb1 : Below w.heap.size w (w.alloc (.cells (InsC x (.slice B x.args.length cbp)) 32)) := (Below.refl _ _).alloc (Nat.le_refl _) _
  have hB1 : Box1 w w.heap.size x (.slice B x.args.length cbp) (w.alloc (.cells (InsC x (.slice B x.args.length cbp)) 32)) := ⟨Blk.new _ _ _, hx.below hb1, hb1⟩
  have HL := Lib.hid hlen
  have hl' : (x.args.length : Int) ≤ 1048000 := by omega
  clear hb1 hx hlen
  go_enter Tryd.func26, Tryd.ntmps26
  go_upto_region 1 with fail
  generalize w.alloc (.cells (InsC x (.slice B x.args.length cbp)) 32) = w1 at *
  obtain ⟨i0, i1, i2, i3, i4, i5⟩ := hB1.cells
  by_cases ho : 1 ≤ x.op ∧ x.op ≤ 14
  · have HO := Lib.hid ho
    obtain ⟨ho1, ho2⟩ := ho
    cases hlast : (Ir.last x.op == l) with
    | false =>
      have HE := Lib.hid (one_last (regs := regs) (nb := nb) hlast)
      go_wp2_with (go_at_call 18; (with_reducible refine (rlast_any _ _).mono ?_); rintro e w' ⟨rfl, rfl⟩)
      go_ret
      exact ⟨ret_e HE.out.symm, hB1.below⟩
    | true =>
      cases hfit : Ir.fits x with
      | false =>
        have HE := Lib.hid (one_fit (regs := regs) (nb := nb) (l := l) hfit)
        have HF := Lib.hid hfit
        clear hfit
        go_wp2_with (first
          | (go_at_call 18; (with_reducible refine (rlast_any _ _).mono ?_); rintro e w' ⟨rfl, rfl⟩)
          | (go_at_call 34; (with_reducible refine (bare_box hB1 HO.out HF.out).mono ?_); rintro e w2 ⟨rfl, hB2⟩))
        go_ret
        exact ⟨ret_e HE.out.symm, hB2.below⟩
      | true =>
        have HT1 := Lib.hid (one_t1 (regs := regs) (nb := nb) hfit hlast)
        have HF := Lib.hid hfit
        clear hfit
        go_upto_region 3 with (first
          | (go_at_call 18; (with_reducible refine (rlast_any _ _).mono ?_); rintro e w' ⟨rfl, rfl⟩)
          | (go_at_call 34; (with_reducible refine (bare_box hB1 HO.out HF.out).mono ?_); rintro e w2 ⟨rfl, hB2⟩; clear i0 i1 i2 i3 i4 i5; obtain ⟨i0, i1, i2, i3, i4, i5⟩ := hB2.cells))
        clear hlast HF hB1
        by_cases hA : Ir.fd x.op = 1 ∧ ¬ x.d = -1 ∧ (x.d < 0 ∨ regs ≤ x.d)
        · obtain ⟨hA1, hA2, hA3⟩ := hA
          have HE := Lib.hid (HT1.out.trans (t1_no (regsB_d hA1 hA3)))
          have HD := Lib.hid (dest_d hA1)
          have e1 : (x.d != -1) = true := by simp [hA2]
          have hcase : x.d < 0 ∨ (0 ≤ x.d ∧ regs ≤ x.d) := by omega
          clear hA1 hA2 hA3 HT1
          rcases hcase with h | ⟨h, h'⟩
          all_goals
            go_wp2_with (go_at_call 16; (with_reducible refine (rdef_box (by assumption) HD.out).mono ?_); rintro e w3 ⟨rfl, hB3⟩; obtain ⟨i0, i1, i2, i3, i4, i5⟩ := hB3.cells)
            go_ret
            exact ⟨ret_e HE.out.symm, hB3.below⟩
        · have HUL := Lib.hid (uses_len x HL.out)
          by_cases h1 : Ir.fd x.op = 1
          · by_cases h2 : x.d = -1
            · have HD := Lib.hid ((dest_d h1).trans h2)
              have HE := Lib.hid (HT1.out.trans (t1_no (regsB_d (x := x) (regs := regs) h1 (.inl (by omega)))))
              have k := fd_one.1 h1
              have e2 : (x.op != 9) = true := by simp; omega
              have e3 : (x.op != 10) = true := by simp; omega
              have HLA := Lib.hid (show Ir.last x.op = false from decide_eq_false (by omega))
              cases hw : Ir.within (Ir.uses x) regs with
              | false =>
                have HWU := Lib.hid hw
                clear hw k h1 h2 hA HT1
                go_wp2_with (first | (go_at_call 16; (with_reducible refine (rdef_box (by assumption) HD.out).mono ?_); rintro e w3 ⟨rfl, hB3⟩; obtain ⟨i0, i1, i2, i3, i4, i5⟩ := hB3.cells) | (go_at_call 15; (with_reducible refine (ruses_box (by assumption) HL.out).mono ?_); rintro e w4 ⟨v4, rfl, hB4, hN4⟩; obtain ⟨i0, i1, i2, i3, i4, i5⟩ := hB4.cells) | (go_at_call 35; (with_reducible refine (within_box (by assumption) HUL.out HWU.out).mono ?_); rintro e w5 ⟨rfl, rfl⟩))
                go_ret
                exact ⟨ret_e HE.out.symm, hB4.below⟩
              | true =>
                have HWU := Lib.hid hw
                clear hw k h1 h2 hA HT1
                go_wp2_with (first | (go_at_call 16; (with_reducible refine (rdef_box (by assumption) HD.out).mono ?_); rintro e w3 ⟨rfl, hB3⟩; obtain ⟨i0, i1, i2, i3, i4, i5⟩ := hB3.cells) | (go_at_call 15; (with_reducible refine (ruses_box (by assumption) HL.out).mono ?_); rintro e w4 ⟨v4, rfl, hB4, hN4⟩; obtain ⟨i0, i1, i2, i3, i4, i5⟩ := hB4.cells) | (go_at_call 35; (with_reducible refine (within_box (by assumption) HUL.out HWU.out).mono ?_); rintro e w5 ⟨rfl, rfl⟩) | (go_at_call 18; (with_reducible refine (rlast_any _ _).mono ?_); rintro e w' ⟨rfl, rfl⟩; rw [HLA.out]))
                go_ret
                exact ⟨ret_e HE.out.symm, Box1.below (by assumption)⟩
            · have HD := Lib.hid (dest_d h1)
              have e1 : (x.d != -1) = true := by simp [h2]
              have e2 : (x.d == -1) = false := by simp [h2]
              have z1 : 0 ≤ x.d := by omega
              have z2 : x.d < regs := by omega
              cases hw : Ir.within (Ir.uses x) regs with
              | false =>
                have HWU := Lib.hid hw
                have HE := Lib.hid (HT1.out.trans (t1_no (regsB_no hw)))
                clear hw h1 h2 hA HT1
                go_wp2_with (first | (go_at_call 16; (with_reducible refine (rdef_box (by assumption) HD.out).mono ?_); rintro e w3 ⟨rfl, hB3⟩; obtain ⟨i0, i1, i2, i3, i4, i5⟩ := hB3.cells) | (go_at_call 15; (with_reducible refine (ruses_box (by assumption) HL.out).mono ?_); rintro e w4 ⟨v4, rfl, hB4, hN4⟩; obtain ⟨i0, i1, i2, i3, i4, i5⟩ := hB4.cells) | (go_at_call 35; (with_reducible refine (within_box (by assumption) HUL.out HWU.out).mono ?_); rintro e w5 ⟨rfl, rfl⟩))
                go_ret
                exact ⟨ret_e HE.out.symm, hB4.below⟩
              | true =>
                have HWU := Lib.hid hw
                have HT2 := Lib.hid (HT1.out.trans (t1_yes (regsB_yes (fun _ => by omega) hw)))
                clear hw h1 h2 hA HT1
                go_upto_region 7 with (first | (go_at_call 16; (with_reducible refine (rdef_box (by assumption) HD.out).mono ?_); rintro e w3 ⟨rfl, hB3⟩; obtain ⟨i0, i1, i2, i3, i4, i5⟩ := hB3.cells) | (go_at_call 15; (with_reducible refine (ruses_box (by assumption) HL.out).mono ?_); rintro e w4 ⟨v4, rfl, hB4, hN4⟩; obtain ⟨i0, i1, i2, i3, i4, i5⟩ := hB4.cells) | (go_at_call 35; (with_reducible refine (within_box (by assumption) HUL.out HWU.out).mono ?_); rintro e w5 ⟨rfl, rfl⟩))
                by_cases hnum : Ir.fa x.op = 2 ∧ (x.a < 0 ∨ 65536 ≤ x.a)
                · have HE := Lib.hid (HT2.out.trans (t2_no hnum))
                  have e7 : (x.op == 1) = true := by simp [fa_two.1 hnum.1]
                  have hcase : x.a < 0 ∨ (0 ≤ x.a ∧ 65536 ≤ x.a) := by omega
                  clear hnum HT2
                  rcases hcase with h | ⟨h, h'⟩
                  all_goals
                    go_wp2_with fail
                    go_ret
                    exact ⟨ret_e HE.out.symm, Box1.below (by assumption)⟩
                · have HT3 := Lib.hid (HT2.out.trans (t2_yes hnum))
                  have hcase : (x.op == 1) = false ∨ ((x.op == 1) = true ∧ 0 ≤ x.a ∧ x.a < 65536) := by
                    by_cases h1 : x.op = 1
                    · have := fa_two.2 h1
                      exact .inr ⟨by simp [h1], by omega, by omega⟩
                    · exact .inl (by simp [h1])
                  clear hnum HT2
                  have HTL := Lib.hid (targets_len x)
                  cases htg : Ir.within (Ir.targets x) nb with
                  | false =>
                    have HWT := Lib.hid htg
                    have HE := Lib.hid (HT3.out.trans (t3_no htg))
                    clear htg HT3
                    rcases hcase with h | ⟨h, h', h''⟩
                    all_goals
                      go_wp2_with (first | (go_at_call 17; (with_reducible refine (rtargets_box (by assumption)).mono ?_); rintro e w6 ⟨v6, rfl, hB6, hN6⟩; obtain ⟨i0, i1, i2, i3, i4, i5⟩ := hB6.cells) | (go_at_call 35; (with_reducible refine (within_box (by assumption) HTL.out HWT.out).mono ?_); rintro e w7 ⟨rfl, rfl⟩))
                      go_ret
                      exact ⟨ret_e HE.out.symm, hB6.below⟩
                  | true =>
                    have HWT := Lib.hid htg
                    have HT4 := Lib.hid (HT3.out.trans (t3_yes htg))
                    clear htg HT3
                    cases hfc : Ir.fc x.op with
                    | false =>
                      have HE := Lib.hid (HT4.out.trans (t4_call hfc))
                      have e8 : (x.op == 11) = false := by
                        rw [eq_dec]; exact hfc
                      clear hfc HT4
                      rcases hcase with h | ⟨h, h', h''⟩
                      all_goals
                        go_wp2_with (first | (go_at_call 17; (with_reducible refine (rtargets_box (by assumption)).mono ?_); rintro e w6 ⟨v6, rfl, hB6, hN6⟩; obtain ⟨i0, i1, i2, i3, i4, i5⟩ := hB6.cells) | (go_at_call 35; (with_reducible refine (within_box (by assumption) HTL.out HWT.out).mono ?_); rintro e w7 ⟨rfl, rfl⟩))
                        go_ret
                        exact ⟨ret_e HE.out.symm, hB6.below⟩
                    | true =>
                      have e8 : (x.op == 11) = true := by
                        rw [eq_dec]; exact hfc
                      cases hnm : Ir.nm x.name with
                      | false =>
                        have HE := Lib.hid (HT4.out.trans (t4_no hfc hnm))
                        have HM := Lib.hid hnm
                        clear hfc HT4 hnm
                        rcases hcase with h | ⟨h, h', h''⟩
                        all_goals
                          go_wp2_with (first | (go_at_call 17; (with_reducible refine (rtargets_box (by assumption)).mono ?_); rintro e w6 ⟨v6, rfl, hB6, hN6⟩; obtain ⟨i0, i1, i2, i3, i4, i5⟩ := hB6.cells) | (go_at_call 35; (with_reducible refine (within_box (by assumption) HTL.out HWT.out).mono ?_); rintro e w7 ⟨rfl, rfl⟩) | (go_at_call 24; (with_reducible refine (rname_any _ _).mono ?_); rintro e w' ⟨rfl, rfl⟩; rw [HM.out]))
                          go_ret
                          exact ⟨ret_e HE.out.symm, hB6.below⟩
                      | true =>
                        have HM := Lib.hid hnm
                        by_cases hmany : 4 < x.args.length
                        · have HE := Lib.hid (HT4.out.trans (t4_many hfc hnm hmany))
                          have hm4 : (4 : Int) < (x.args.length : Int) := by omega
                          clear hfc HT4 hnm hmany
                          rcases hcase with h | ⟨h, h', h''⟩
                          all_goals
                            go_wp2_with (first | (go_at_call 17; (with_reducible refine (rtargets_box (by assumption)).mono ?_); rintro e w6 ⟨v6, rfl, hB6, hN6⟩; obtain ⟨i0, i1, i2, i3, i4, i5⟩ := hB6.cells) | (go_at_call 35; (with_reducible refine (within_box (by assumption) HTL.out HWT.out).mono ?_); rintro e w7 ⟨rfl, rfl⟩) | (go_at_call 24; (with_reducible refine (rname_any _ _).mono ?_); rintro e w' ⟨rfl, rfl⟩; rw [HM.out]))
                            go_ret
                            exact ⟨ret_e HE.out.symm, hB6.below⟩
                        · have HE := Lib.hid (HT4.out.trans (t4_yes hfc hnm hmany))
                          have hm4 : (x.args.length : Int) ≤ 4 := by omega
                          clear hfc HT4 hnm hmany
                          rcases hcase with h | ⟨h, h', h''⟩
                          all_goals
                            go_wp2_with (first | (go_at_call 17; (with_reducible refine (rtargets_box (by assumption)).mono ?_); rintro e w6 ⟨v6, rfl, hB6, hN6⟩; obtain ⟨i0, i1, i2, i3, i4, i5⟩ := hB6.cells) | (go_at_call 35; (with_reducible refine (within_box (by assumption) HTL.out HWT.out).mono ?_); rintro e w7 ⟨rfl, rfl⟩) | (go_at_call 24; (with_reducible refine (rname_any _ _).mono ?_); rintro e w' ⟨rfl, rfl⟩; rw [HM.out]))
                            go_ret
                            exact ⟨ret_e HE.out.symm, hB6.below⟩
          · have HD := Lib.hid (dest_no h1)
            cases hw : Ir.within (Ir.uses x) regs with
            | false =>
              have HWU := Lib.hid hw
              have HE := Lib.hid (HT1.out.trans (t1_no (regsB_no hw)))
              clear hw h1 hA HT1
              go_wp2_with (first | (go_at_call 16; (with_reducible refine (rdef_box (by assumption) HD.out).mono ?_); rintro e w3 ⟨rfl, hB3⟩; obtain ⟨i0, i1, i2, i3, i4, i5⟩ := hB3.cells) | (go_at_call 15; (with_reducible refine (ruses_box (by assumption) HL.out).mono ?_); rintro e w4 ⟨v4, rfl, hB4, hN4⟩; obtain ⟨i0, i1, i2, i3, i4, i5⟩ := hB4.cells) | (go_at_call 35; (with_reducible refine (within_box (by assumption) HUL.out HWU.out).mono ?_); rintro e w5 ⟨rfl, rfl⟩))
              go_ret
              exact ⟨ret_e HE.out.symm, hB4.below⟩
            | true =>
              have HWU := Lib.hid hw
              have HT2 := Lib.hid (HT1.out.trans (t1_yes (regsB_yes (fun h => absurd h h1) hw)))
              have k : (x.op = 9) ∨ (x.op = 10) ∨ (¬ x.op = 9 ∧ ¬ x.op = 10 ∧ (x.op = 12 ∨ x.op = 13 ∨ x.op = 14)) := by
                have := mt fd_one.2 h1
                omega
              have hcase : ((x.op != 9) = false) ∨ ((x.op != 9) = true ∧ (x.op != 10) = false) ∨ ((x.op != 9) = true ∧ (x.op != 10) = true ∧ Ir.last x.op = true) := by
                rcases k with k | k | ⟨k1, k2, k3⟩
                · exact .inl (by simp [k])
                · exact .inr (.inl ⟨by simp [k], by simp [k]⟩)
                · exact .inr (.inr ⟨by simp [k1], by simp [k2], decide_eq_true k3⟩)
              clear hw h1 hA HT1 k
              rcases hcase with e2 | ⟨e2, e3⟩ | ⟨e2, e3, hla⟩
              · go_upto_region 7 with (first | (go_at_call 16; (with_reducible refine (rdef_box (by assumption) HD.out).mono ?_); rintro e w3 ⟨rfl, hB3⟩; obtain ⟨i0, i1, i2, i3, i4, i5⟩ := hB3.cells) | (go_at_call 15; (with_reducible refine (ruses_box (by assumption) HL.out).mono ?_); rintro e w4 ⟨v4, rfl, hB4, hN4⟩; obtain ⟨i0, i1, i2, i3, i4, i5⟩ := hB4.cells) | (go_at_call 35; (with_reducible refine (within_box (by assumption) HUL.out HWU.out).mono ?_); rintro e w5 ⟨rfl, rfl⟩))
                by_cases hnum : Ir.fa x.op = 2 ∧ (x.a < 0 ∨ 65536 ≤ x.a)
                · have HE := Lib.hid (HT2.out.trans (t2_no hnum))
                  have e7 : (x.op == 1) = true := by simp [fa_two.1 hnum.1]
                  have hcase : x.a < 0 ∨ (0 ≤ x.a ∧ 65536 ≤ x.a) := by omega
                  clear hnum HT2
                  rcases hcase with h | ⟨h, h'⟩
                  all_goals
                    go_wp2_with fail
                    go_ret
                    exact ⟨ret_e HE.out.symm, Box1.below (by assumption)⟩
                · have HT3 := Lib.hid (HT2.out.trans (t2_yes hnum))
                  have hcase : (x.op == 1) = false ∨ ((x.op == 1) = true ∧ 0 ≤ x.a ∧ x.a < 65536) := by
                    by_cases h1 : x.op = 1
                    · have := fa_two.2 h1
                      exact .inr ⟨by simp [h1], by omega, by omega⟩
                    · exact .inl (by simp [h1])
                  clear hnum HT2
                  have HTL := Lib.hid (targets_len x)
                  cases htg : Ir.within (Ir.targets x) nb with
                  | false =>
                    have HWT := Lib.hid htg
                    have HE := Lib.hid (HT3.out.trans (t3_no htg))
                    clear htg HT3
                    rcases hcase with h | ⟨h, h', h''⟩
                    all_goals
                      go_wp2_with (first | (go_at_call 17; (with_reducible refine (rtargets_box (by assumption)).mono ?_); rintro e w6 ⟨v6, rfl, hB6, hN6⟩; obtain ⟨i0, i1, i2, i3, i4, i5⟩ := hB6.cells) | (go_at_call 35; (with_reducible refine (within_box (by assumption) HTL.out HWT.out).mono ?_); rintro e w7 ⟨rfl, rfl⟩))
                      go_ret
                      exact ⟨ret_e HE.out.symm, hB6.below⟩
                  | true =>
                    have HWT := Lib.hid htg
                    have HT4 := Lib.hid (HT3.out.trans (t3_yes htg))
                    clear htg HT3
                    cases hfc : Ir.fc x.op with
                    | false =>
                      have HE := Lib.hid (HT4.out.trans (t4_call hfc))
                      have e8 : (x.op == 11) = false := by
                        rw [eq_dec]; exact hfc
                      clear hfc HT4
                      rcases hcase with h | ⟨h, h', h''⟩
                      all_goals
                        go_wp2_with (first | (go_at_call 17; (with_reducible refine (rtargets_box (by assumption)).mono ?_); rintro e w6 ⟨v6, rfl, hB6, hN6⟩; obtain ⟨i0, i1, i2, i3, i4, i5⟩ := hB6.cells) | (go_at_call 35; (with_reducible refine (within_box (by assumption) HTL.out HWT.out).mono ?_); rintro e w7 ⟨rfl, rfl⟩))
                        go_ret
                        exact ⟨ret_e HE.out.symm, hB6.below⟩
                    | true =>
                      have e8 : (x.op == 11) = true := by
                        rw [eq_dec]; exact hfc
                      cases hnm : Ir.nm x.name with
                      | false =>
                        have HE := Lib.hid (HT4.out.trans (t4_no hfc hnm))
                        have HM := Lib.hid hnm
                        clear hfc HT4 hnm
                        rcases hcase with h | ⟨h, h', h''⟩
                        all_goals
                          go_wp2_with (first | (go_at_call 17; (with_reducible refine (rtargets_box (by assumption)).mono ?_); rintro e w6 ⟨v6, rfl, hB6, hN6⟩; obtain ⟨i0, i1, i2, i3, i4, i5⟩ := hB6.cells) | (go_at_call 35; (with_reducible refine (within_box (by assumption) HTL.out HWT.out).mono ?_); rintro e w7 ⟨rfl, rfl⟩) | (go_at_call 24; (with_reducible refine (rname_any _ _).mono ?_); rintro e w' ⟨rfl, rfl⟩; rw [HM.out]))
                          go_ret
                          exact ⟨ret_e HE.out.symm, hB6.below⟩
                      | true =>
                        have HM := Lib.hid hnm
                        by_cases hmany : 4 < x.args.length
                        · have HE := Lib.hid (HT4.out.trans (t4_many hfc hnm hmany))
                          have hm4 : (4 : Int) < (x.args.length : Int) := by omega
                          clear hfc HT4 hnm hmany
                          rcases hcase with h | ⟨h, h', h''⟩
                          all_goals
                            go_wp2_with (first | (go_at_call 17; (with_reducible refine (rtargets_box (by assumption)).mono ?_); rintro e w6 ⟨v6, rfl, hB6, hN6⟩; obtain ⟨i0, i1, i2, i3, i4, i5⟩ := hB6.cells) | (go_at_call 35; (with_reducible refine (within_box (by assumption) HTL.out HWT.out).mono ?_); rintro e w7 ⟨rfl, rfl⟩) | (go_at_call 24; (with_reducible refine (rname_any _ _).mono ?_); rintro e w' ⟨rfl, rfl⟩; rw [HM.out]))
                            go_ret
                            exact ⟨ret_e HE.out.symm, hB6.below⟩
                        · have HE := Lib.hid (HT4.out.trans (t4_yes hfc hnm hmany))
                          have hm4 : (x.args.length : Int) ≤ 4 := by omega
                          clear hfc HT4 hnm hmany
                          rcases hcase with h | ⟨h, h', h''⟩
                          all_goals
                            go_wp2_with (first | (go_at_call 17; (with_reducible refine (rtargets_box (by assumption)).mono ?_); rintro e w6 ⟨v6, rfl, hB6, hN6⟩; obtain ⟨i0, i1, i2, i3, i4, i5⟩ := hB6.cells) | (go_at_call 35; (with_reducible refine (within_box (by assumption) HTL.out HWT.out).mono ?_); rintro e w7 ⟨rfl, rfl⟩) | (go_at_call 24; (with_reducible refine (rname_any _ _).mono ?_); rintro e w' ⟨rfl, rfl⟩; rw [HM.out]))
                            go_ret
                            exact ⟨ret_e HE.out.symm, hB6.below⟩
              · go_upto_region 7 with (first | (go_at_call 16; (with_reducible refine (rdef_box (by assumption) HD.out).mono ?_); rintro e w3 ⟨rfl, hB3⟩; obtain ⟨i0, i1, i2, i3, i4, i5⟩ := hB3.cells) | (go_at_call 15; (with_reducible refine (ruses_box (by assumption) HL.out).mono ?_); rintro e w4 ⟨v4, rfl, hB4, hN4⟩; obtain ⟨i0, i1, i2, i3, i4, i5⟩ := hB4.cells) | (go_at_call 35; (with_reducible refine (within_box (by assumption) HUL.out HWU.out).mono ?_); rintro e w5 ⟨rfl, rfl⟩))
                by_cases hnum : Ir.fa x.op = 2 ∧ (x.a < 0 ∨ 65536 ≤ x.a)
                · have HE := Lib.hid (HT2.out.trans (t2_no hnum))
                  have e7 : (x.op == 1) = true := by simp [fa_two.1 hnum.1]
                  have hcase : x.a < 0 ∨ (0 ≤ x.a ∧ 65536 ≤ x.a) := by omega
                  clear hnum HT2
                  rcases hcase with h | ⟨h, h'⟩
                  all_goals
                    go_wp2_with fail
                    go_ret
                    exact ⟨ret_e HE.out.symm, Box1.below (by assumption)⟩
                · have HT3 := Lib.hid (HT2.out.trans (t2_yes hnum))
                  have hcase : (x.op == 1) = false ∨ ((x.op == 1) = true ∧ 0 ≤ x.a ∧ x.a < 65536) := by
                    by_cases h1 : x.op = 1
                    · have := fa_two.2 h1
                      exact .inr ⟨by simp [h1], by omega, by omega⟩
                    · exact .inl (by simp [h1])
                  clear hnum HT2
                  have HTL := Lib.hid (targets_len x)
                  cases htg : Ir.within (Ir.targets x) nb with
                  | false =>
                    have HWT := Lib.hid htg
                    have HE := Lib.hid (HT3.out.trans (t3_no htg))
                    clear htg HT3
                    rcases hcase with h | ⟨h, h', h''⟩
                    all_goals
                      go_wp2_with (first | (go_at_call 17; (with_reducible refine (rtargets_box (by assumption)).mono ?_); rintro e w6 ⟨v6, rfl, hB6, hN6⟩; obtain ⟨i0, i1, i2, i3, i4, i5⟩ := hB6.cells) | (go_at_call 35; (with_reducible refine (within_box (by assumption) HTL.out HWT.out).mono ?_); rintro e w7 ⟨rfl, rfl⟩))
                      go_ret
                      exact ⟨ret_e HE.out.symm, hB6.below⟩
                  | true =>
                    have HWT := Lib.hid htg
                    have HT4 := Lib.hid (HT3.out.trans (t3_yes htg))
                    clear htg HT3
                    cases hfc : Ir.fc x.op with
                    | false =>
                      have HE := Lib.hid (HT4.out.trans (t4_call hfc))
                      have e8 : (x.op == 11) = false := by
                        rw [eq_dec]; exact hfc
                      clear hfc HT4
                      rcases hcase with h | ⟨h, h', h''⟩
                      all_goals
                        go_wp2_with (first | (go_at_call 17; (with_reducible refine (rtargets_box (by assumption)).mono ?_); rintro e w6 ⟨v6, rfl, hB6, hN6⟩; obtain ⟨i0, i1, i2, i3, i4, i5⟩ := hB6.cells) | (go_at_call 35; (with_reducible refine (within_box (by assumption) HTL.out HWT.out).mono ?_); rintro e w7 ⟨rfl, rfl⟩))
                        go_ret
                        exact ⟨ret_e HE.out.symm, hB6.below⟩
                    | true =>
                      have e8 : (x.op == 11) = true := by
                        rw [eq_dec]; exact hfc
                      cases hnm : Ir.nm x.name with
                      | false =>
                        have HE := Lib.hid (HT4.out.trans (t4_no hfc hnm))
                        have HM := Lib.hid hnm
                        clear hfc HT4 hnm
                        rcases hcase with h | ⟨h, h', h''⟩
                        all_goals
                          go_wp2_with (first | (go_at_call 17; (with_reducible refine (rtargets_box (by assumption)).mono ?_); rintro e w6 ⟨v6, rfl, hB6, hN6⟩; obtain ⟨i0, i1, i2, i3, i4, i5⟩ := hB6.cells) | (go_at_call 35; (with_reducible refine (within_box (by assumption) HTL.out HWT.out).mono ?_); rintro e w7 ⟨rfl, rfl⟩) | (go_at_call 24; (with_reducible refine (rname_any _ _).mono ?_); rintro e w' ⟨rfl, rfl⟩; rw [HM.out]))
                          go_ret
                          exact ⟨ret_e HE.out.symm, hB6.below⟩
                      | true =>
                        have HM := Lib.hid hnm
                        by_cases hmany : 4 < x.args.length
                        · have HE := Lib.hid (HT4.out.trans (t4_many hfc hnm hmany))
                          have hm4 : (4 : Int) < (x.args.length : Int) := by omega
                          clear hfc HT4 hnm hmany
                          rcases hcase with h | ⟨h, h', h''⟩
                          all_goals
                            go_wp2_with (first | (go_at_call 17; (with_reducible refine (rtargets_box (by assumption)).mono ?_); rintro e w6 ⟨v6, rfl, hB6, hN6⟩; obtain ⟨i0, i1, i2, i3, i4, i5⟩ := hB6.cells) | (go_at_call 35; (with_reducible refine (within_box (by assumption) HTL.out HWT.out).mono ?_); rintro e w7 ⟨rfl, rfl⟩) | (go_at_call 24; (with_reducible refine (rname_any _ _).mono ?_); rintro e w' ⟨rfl, rfl⟩; rw [HM.out]))
                            go_ret
                            exact ⟨ret_e HE.out.symm, hB6.below⟩
                        · have HE := Lib.hid (HT4.out.trans (t4_yes hfc hnm hmany))
                          have hm4 : (x.args.length : Int) ≤ 4 := by omega
                          clear hfc HT4 hnm hmany
                          rcases hcase with h | ⟨h, h', h''⟩
                          all_goals
                            go_wp2_with (first | (go_at_call 17; (with_reducible refine (rtargets_box (by assumption)).mono ?_); rintro e w6 ⟨v6, rfl, hB6, hN6⟩; obtain ⟨i0, i1, i2, i3, i4, i5⟩ := hB6.cells) | (go_at_call 35; (with_reducible refine (within_box (by assumption) HTL.out HWT.out).mono ?_); rintro e w7 ⟨rfl, rfl⟩) | (go_at_call 24; (with_reducible refine (rname_any _ _).mono ?_); rintro e w' ⟨rfl, rfl⟩; rw [HM.out]))
                            go_ret
                            exact ⟨ret_e HE.out.symm, hB6.below⟩
              · have HLA := Lib.hid hla
                clear hla
                go_upto_region 7 with (first | (go_at_call 16; (with_reducible refine (rdef_box (by assumption) HD.out).mono ?_); rintro e w3 ⟨rfl, hB3⟩; obtain ⟨i0, i1, i2, i3, i4, i5⟩ := hB3.cells) | (go_at_call 15; (with_reducible refine (ruses_box (by assumption) HL.out).mono ?_); rintro e w4 ⟨v4, rfl, hB4, hN4⟩; obtain ⟨i0, i1, i2, i3, i4, i5⟩ := hB4.cells) | (go_at_call 35; (with_reducible refine (within_box (by assumption) HUL.out HWU.out).mono ?_); rintro e w5 ⟨rfl, rfl⟩) | (go_at_call 18; (with_reducible refine (rlast_any _ _).mono ?_); rintro e w' ⟨rfl, rfl⟩; rw [HLA.out]))
                by_cases hnum : Ir.fa x.op = 2 ∧ (x.a < 0 ∨ 65536 ≤ x.a)
                · have HE := Lib.hid (HT2.out.trans (t2_no hnum))
                  have e7 : (x.op == 1) = true := by simp [fa_two.1 hnum.1]
                  have hcase : x.a < 0 ∨ (0 ≤ x.a ∧ 65536 ≤ x.a) := by omega
                  clear hnum HT2
                  rcases hcase with h | ⟨h, h'⟩
                  all_goals
                    go_wp2_with fail
                    go_ret
                    exact ⟨ret_e HE.out.symm, Box1.below (by assumption)⟩
                · have HT3 := Lib.hid (HT2.out.trans (t2_yes hnum))
                  have hcase : (x.op == 1) = false ∨ ((x.op == 1) = true ∧ 0 ≤ x.a ∧ x.a < 65536) := by
                    by_cases h1 : x.op = 1
                    · have := fa_two.2 h1
                      exact .inr ⟨by simp [h1], by omega, by omega⟩
                    · exact .inl (by simp [h1])
                  clear hnum HT2
                  have HTL := Lib.hid (targets_len x)
                  cases htg : Ir.within (Ir.targets x) nb with
                  | false =>
                    have HWT := Lib.hid htg
                    have HE := Lib.hid (HT3.out.trans (t3_no htg))
                    clear htg HT3
                    rcases hcase with h | ⟨h, h', h''⟩
                    all_goals
                      go_wp2_with (first | (go_at_call 17; (with_reducible refine (rtargets_box (by assumption)).mono ?_); rintro e w6 ⟨v6, rfl, hB6, hN6⟩; obtain ⟨i0, i1, i2, i3, i4, i5⟩ := hB6.cells) | (go_at_call 35; (with_reducible refine (within_box (by assumption) HTL.out HWT.out).mono ?_); rintro e w7 ⟨rfl, rfl⟩))
                      go_ret
                      exact ⟨ret_e HE.out.symm, hB6.below⟩
                  | true =>
                    have HWT := Lib.hid htg
                    have HT4 := Lib.hid (HT3.out.trans (t3_yes htg))
                    clear htg HT3
                    cases hfc : Ir.fc x.op with
                    | false =>
                      have HE := Lib.hid (HT4.out.trans (t4_call hfc))
                      have e8 : (x.op == 11) = false := by
                        rw [eq_dec]; exact hfc
                      clear hfc HT4
                      rcases hcase with h | ⟨h, h', h''⟩
                      all_goals
                        go_wp2_with (first | (go_at_call 17; (with_reducible refine (rtargets_box (by assumption)).mono ?_); rintro e w6 ⟨v6, rfl, hB6, hN6⟩; obtain ⟨i0, i1, i2, i3, i4, i5⟩ := hB6.cells) | (go_at_call 35; (with_reducible refine (within_box (by assumption) HTL.out HWT.out).mono ?_); rintro e w7 ⟨rfl, rfl⟩))
                        go_ret
                        exact ⟨ret_e HE.out.symm, hB6.below⟩
                    | true =>
                      have e8 : (x.op == 11) = true := by
                        rw [eq_dec]; exact hfc
                      cases hnm : Ir.nm x.name with
                      | false =>
                        have HE := Lib.hid (HT4.out.trans (t4_no hfc hnm))
                        have HM := Lib.hid hnm
                        clear hfc HT4 hnm
                        rcases hcase with h | ⟨h, h', h''⟩
                        all_goals
                          go_wp2_with (first | (go_at_call 17; (with_reducible refine (rtargets_box (by assumption)).mono ?_); rintro e w6 ⟨v6, rfl, hB6, hN6⟩; obtain ⟨i0, i1, i2, i3, i4, i5⟩ := hB6.cells) | (go_at_call 35; (with_reducible refine (within_box (by assumption) HTL.out HWT.out).mono ?_); rintro e w7 ⟨rfl, rfl⟩) | (go_at_call 24; (with_reducible refine (rname_any _ _).mono ?_); rintro e w' ⟨rfl, rfl⟩; rw [HM.out]))
                          go_ret
                          exact ⟨ret_e HE.out.symm, hB6.below⟩
                      | true =>
                        have HM := Lib.hid hnm
                        by_cases hmany : 4 < x.args.length
                        · have HE := Lib.hid (HT4.out.trans (t4_many hfc hnm hmany))
                          have hm4 : (4 : Int) < (x.args.length : Int) := by omega
                          clear hfc HT4 hnm hmany
                          rcases hcase with h | ⟨h, h', h''⟩
                          all_goals
                            go_wp2_with (first | (go_at_call 17; (with_reducible refine (rtargets_box (by assumption)).mono ?_); rintro e w6 ⟨v6, rfl, hB6, hN6⟩; obtain ⟨i0, i1, i2, i3, i4, i5⟩ := hB6.cells) | (go_at_call 35; (with_reducible refine (within_box (by assumption) HTL.out HWT.out).mono ?_); rintro e w7 ⟨rfl, rfl⟩) | (go_at_call 24; (with_reducible refine (rname_any _ _).mono ?_); rintro e w' ⟨rfl, rfl⟩; rw [HM.out]))
                            go_ret
                            exact ⟨ret_e HE.out.symm, hB6.below⟩
                        · have HE := Lib.hid (HT4.out.trans (t4_yes hfc hnm hmany))
                          have hm4 : (x.args.length : Int) ≤ 4 := by omega
                          clear hfc HT4 hnm hmany
                          rcases hcase with h | ⟨h, h', h''⟩
                          all_goals
                            go_wp2_with (first | (go_at_call 17; (with_reducible refine (rtargets_box (by assumption)).mono ?_); rintro e w6 ⟨v6, rfl, hB6, hN6⟩; obtain ⟨i0, i1, i2, i3, i4, i5⟩ := hB6.cells) | (go_at_call 35; (with_reducible refine (within_box (by assumption) HTL.out HWT.out).mono ?_); rintro e w7 ⟨rfl, rfl⟩) | (go_at_call 24; (with_reducible refine (rname_any _ _).mono ?_); rintro e w' ⟨rfl, rfl⟩; rw [HM.out]))
                            go_ret
                            exact ⟨ret_e HE.out.symm, hB6.below⟩
  · have HE := Lib.hid (one_fit (regs := regs) (nb := nb) (l := l) (show Ir.fits x = false by unfold Ir.fits; rw [decide_eq_false (by omega)]; rfl))
    have hcase : x.op < 1 ∨ (1 ≤ x.op ∧ 14 < x.op) := by omega
    clear ho
    rcases hcase with h | ⟨h, h'⟩
    all_goals
      go_wp2_with fail
      go_ret
      exact ⟨ret_e HE.out.symm, hB1.below⟩
end Go.Proofs.YtkkbmfgkapdndaaDoor
