/- The walk of IrSpoilt: true of any function. -/
import Derived.Test.YtkkbmfgkapdndaaDoorIrSpoiltP
import Derived.Deep.RegionLaw
import Derived.StillTailTactics
namespace Go.Proofs.YtkkbmfgkapdndaaDoor
open Go.ChangeShapes Go.WideShapes Go.RowKit Go.Deep

set_option maxRecDepth 20000 in
set_option maxHeartbeats 3200000 in
theorem spoilt_walk (f : Ir.Fu) (bv : Value) (a1 a2 : Int) (w : World) (hv : Blks w bv f.blocks) (_hp : -9223372036854775808 ≤ f.params ∧ f.params ≤ 9223372036854775807) (_hr : -9223372036854775808 ≤ f.regs ∧ f.regs ≤ 9223372036854775807)
    (ha1 : 0 ≤ a1 ∧ a1 ≤ 255) (ha2 : 0 ≤ a2 ∧ a2 ≤ 255) (ht : Tbl w) :
    Calls Tryd.prog 6 #[FuV f bv, .int .u8 a1, .int .u8 a2] w fun e w' => e = .returned (.bool true) ∧ Below w.heap.size w w' := by
  obtain ⟨A, cap, rfl⟩ := hv.form
  have hB := BoxF.new hv
  obtain ⟨c0, c1, c2, c3⟩ := hB.cells
  have HB := Lib.hid hB
  have HT := Lib.hid ht
  have HA := Lib.hid (And.intro ha1 ha2)
  clear hB hv ht _hp _hr ha1 ha2
  go_enter Tryd.func6, Tryd.ntmps6
  go_upto_region 1 with fail
  generalize w.alloc (.cells #[.string f.name, .int .i64 f.params, .int .i64 f.regs, .slice A f.blocks.length cap] 24) = w1 at *
  go_wp2_with fail
  refine (heavy_any _ f.blocks w1 HB.out.blks).mono ?_
  rintro e w2 ⟨h, rfl, rfl, hl⟩
  cases h with
  | true =>
    go_wp2_with fail
    go_ret
    exact ⟨rfl, HB.out.below⟩
  | false =>
    have HL := Lib.hid (hl rfl)
    clear hl
    by_cases hn : 1024 < f.name.size
    · have hn' : (1024 : Int) < (f.name.size : Int) := by omega
      clear hn
      go_wp2_with fail
      go_ret
      exact ⟨rfl, HB.out.below⟩
    · have hn' : (f.name.size : Int) ≤ 1024 := by omega
      clear hn
      go_upto_region 3 with fail
      clear hn'
      go_wp2_with fail
      refine (check_any f A cap w1 (HT.out.below HB.out.below) HB.out.blks HL.out).mono ?_
      rintro e w2 ⟨rfl, hb2⟩
      have HB2 := Lib.hid (HB.out.to hb2)
      clear hb2 c0 c1 c2 c3 HB
      obtain ⟨c0, c1, c2, c3⟩ := HB2.out.cells
      obtain ⟨C, hC⟩ : ∃ C, C = Ir.check f := ⟨_, rfl⟩
      rw [← hC]
      have HC := Lib.hid hC
      have hne : (C != C) = false := bne_self_eq_false C
      clear hC
      go_wp2_with fail
      refine (rcheck_any f A cap w2 HB2.out.blks HL.out).mono ?_
      rintro e w3 ⟨rfl, hb3⟩
      have HB3 := Lib.hid (HB2.out.to hb3)
      clear hb3 c0 c1 c2 c3 HB2
      obtain ⟨c0, c1, c2, c3⟩ := HB3.out.cells
      rw [← HC.out]
      by_cases h0 : C = 0
      · have HM := Lib.hid (may_of (HC.out.symm.trans h0))
        subst h0
        obtain ⟨k, hk, hrem⟩ := rest_in a1 f.blocks.length HA.out.1.1 (by have := HM.out.nums.1; omega)
        obtain ⟨b, hb⟩ : ∃ b, f.blocks[k]? = some b := ⟨_, List.getElem?_eq_getElem hk⟩
        obtain ⟨m, hm, hrem2⟩ := rest_in a2 b.length HA.out.2.1 (HM.out.nums.2.1 b (List.mem_of_getElem? hb))
        obtain ⟨x, hx⟩ : ∃ x, b[m]? = some x := ⟨_, List.getElem?_eq_getElem hm⟩
        have hbi : (b.length : Int) ≤ 500 := by have := HL.out.count; have := count_ge hb; omega
        obtain ⟨bl, off, B, cbp, rfl, l1, d1, hI⟩ := HB3.out.blks.at hb
        have HB := Lib.hid hb
        have HX := Lib.hid hx
        have hbl : (f.blocks.length : Int) ≤ 100 := by have := HL.out.blocks; omega
        have hki : (k : Int) < (f.blocks.length : Int) := by omega
        have hmi : (m : Int) < (b.length : Int) := by omega
        have hlz : ¬ (f.blocks.length : Int) = 0 := by omega
        have hmz : ¬ (b.length : Int) = 0 := by omega
        have hcv1 := wrap_byte HA.out.1
        have hcv2 := wrap_byte HA.out.2
        clear hI hb hx hk hm
        go_upto_region 10 with fail
        go_upto_region 11 with fail
        have HN0 := Lib.hid (Cop.nil (w3 := w3) (f := f))
        have HK := Lib.hid (And.intro c0 (And.intro c1 (And.intro c2 c3)))
        clear c0 c1 c2 c3 d1 hrem hrem2 hcv1 hcv2 hne
        generalize w3.alloc (.cells #[.string f.name, .int .i64 f.params, .int .i64 f.regs, .slice none 0 0] 24) = w4 at *
        go_wp2_with fail
        go_loopw [11] (fun i wr => ∃ (n : Nat) (gv : Value) (ws : List Value), n ≤ f.blocks.length ∧ i = .int .i64 (n : Int) ∧ Cop w3 f gv ws (f.blocks.take n) wr) (fun i _ => f.blocks.length - (intOf i).toNat)
        case atStart => exact ⟨0, _, [], Nat.zero_le _, rfl, HN0.out⟩
        case round =>
          obtain ⟨n, gv, ws, hn, rfl, hcop⟩ := hrel
          have HC4 := Lib.hid hcop
          clear hcop HN0
          have hLT := HB3.out.fn.lt
          have c3 := (HC4.out.below.cell (p := ⟨w.heap.size, 3, none⟩) hLT).trans HK.out.2.2.2
          have c2 := (HC4.out.below.cell (p := ⟨w.heap.size, 2, none⟩) hLT).trans HK.out.2.2.1
          by_cases hlt : n < f.blocks.length
          · have hni : (n : Int) < (f.blocks.length : Int) := by omega
            obtain ⟨b', hb'⟩ : ∃ b', f.blocks[n]? = some b' := ⟨_, List.getElem?_eq_getElem hlt⟩
            obtain ⟨bl', off', B', cbp', e0, l1', d1', hI'⟩ := HB3.out.blks.at hb'
            injection e0 with e0
            injection e0 with e1 e2
            subst e1 e2
            obtain ⟨bb, bo, fl, -, rfl, lb, hfl, hat⟩ := flat_of hI' (HM.out.nums.2.1 b' (List.mem_of_getElem? hb'))
            have HTK := Lib.hid (show f.blocks.take (n + 1) = f.blocks.take n ++ [b'] by
              obtain ⟨h1, rfl⟩ := List.getElem?_eq_some_iff.1 hb'
              exact List.take_succ_eq_append_getElem h1)
            have HBN := Lib.hid hb'
            have HBL := Lib.hid (show b'.length ≤ 1048576 ∧ f.blocks.length ≤ 1048576 from ⟨by have := HL.out.count; have := count_ge hb'; omega, by have := HL.out.blocks; omega⟩)
            have hba : Below wr.heap.size wr (wr.alloc (.cells #[] 32)) := (Below.refl _ _).alloc (Nat.le_refl _) _
            have HCA := Lib.hid (HC4.out.quiet hba)
            have HRA := Lib.hid (ins_none wr wr.heap.size (Nat.le_refl _))
            have HFL := Lib.hid hfl
            have HAT := Lib.hid (fun (W : World) (hW : Below w3.heap.size w3 W) j u (hu : fl[j]? = some u) => (hW.cell (p := ⟨bb, bo + j, none⟩) lb).trans (hat j u hu))
            have g3 := HCA.out.own.cell 3
            have e3 := (HCA.out.below.cell (p := ⟨w.heap.size, 3, none⟩) hLT).trans HK.out.2.2.2
            have d3 := (HCA.out.below.cell (p := ⟨bl, off + n, none⟩) l1').trans d1'
            have HBA := Lib.hid hba
            clear hI' hb' hfl hat hba d1'
            go_upto_region 15 with fail
            have HWL := Lib.hid (show (f.blocks.take n).length + 1 ≤ 1048576 ∧ w3.heap.size + 1 ≤ wr.heap.size by have := HBL.out; have := HC4.out.own.lt; rw [List.length_take]; omega)
            have HLN := Lib.hid (show (f.blocks.take n).length = n by rw [List.length_take]; omega)
            have HPB := Lib.hid (HM.out.nums.2.1 b' (List.mem_of_getElem? HBN.out))
            go_region_law (first
              | (refine step_append_ins (by rfl) (.tmp 64) (.tmp 69) (by rfl) HRA.out HFL.out.1 (HAT.out _ HCA.out.below.drew) HFL.out.2.1 HBL.out.1 (by simp) (by rfl) (by rfl) ?_; intro v7 w7 hown7 hgrow7; obtain ⟨g7, cap7, cur7, rfl, -⟩ := own_some hown7 HPB.out; have HOWN7 := Lib.hid hown7; have HB7 := Lib.hid (below_first (gr_trans (gr_drew (gr_refl _ _)) hgrow7) (fun k e => by simp [Value.ownBlock] at e; omega)); have HC7 := Lib.hid (HC4.out.quiet HB7.out); have HC7A := Lib.hid (HC7.out.quiet ((Below.refl _ _).alloc (Nat.le_refl _) (.cells #[.slice (some ⟨g7, 0, none⟩) b'.length cap7] 28))); have HC7N := Lib.hid ((Blk.new w7 28 #[.slice (some ⟨g7, 0, none⟩) b'.length cap7]).cell 0); have g7c := HC7.out.own.cell 3; have g7d := HC7A.out.own.cell 3; clear hown7 hgrow7)
              | (refine step_append_blk (by rfl) (.tmp 63) (.tmp 71) (by rfl) HC7A.out.outer HC7N.out rfl (by have := HWL.out.1; omega) (HC7A.out.own.lt) (by rfl) (by rfl) ?_; intro v8 w8 hown8 hgrow8; obtain ⟨g8, cap8, cur8, rfl, -⟩ := own_some hown8 (Nat.succ_pos _); have HOWN8 := Lib.hid hown8; have HG8 := Lib.hid hgrow8; obtain ⟨k8, f8⟩ := HC7.out.kept hgrow8; clear hown8 hgrow8))
            all_goals
              have hup := HC4.out.up HOWN7.out HFL.out HB7.out HOWN8.out HG8.out
              rw [HLN.out] at hup
              have HUP := Lib.hid hup
              clear hup
              go_wp2_with fail
              go_roundw
              case rel => exact ⟨n + 1, _, _, by omega, by go_num, by rw [HTK.out]; exact HUP.out⟩
              case measure => simp [intOf]; omega
          · have hcop := HC4.out
            rw [List.take_of_length_le (by omega)] at hcop
            obtain ⟨go, ocap, gi, icap, sl, cur, rfl, hws, ho, hgi, hB, ⟨y0, y1, y2, y3, y4, y5⟩, hin⟩ := hcop.spot HB.out HX.out
            obtain ⟨D, ccp, rfl⟩ := inr_form hin
            have HGO := Lib.hid (And.intro (World.block_lt_of_cell? wr ⟨go, k, none⟩ ho) ho)
            have g3 := hcop.own.cell 3
            have z0 := (hB.cell (m * 6)).trans y0
            have z1 := (hB.cell (m * 6 + 1)).trans y1
            have z2 := (hB.cell (m * 6 + 2)).trans y2
            have z3 := (hB.cell (m * 6 + 3)).trans y3
            have z4 := (hB.cell (m * 6 + 4)).trans y4
            have z5 := (hB.cell (m * 6 + 5)).trans y5
            have HY := Lib.hid (And.intro y0 (And.intro y1 (And.intro y2 (And.intro y3 (And.intro y4 y5)))))
            have HCP := Lib.hid hcop
            have HBI := Lib.hid hB
            have HIN := Lib.hid hin
            have HWS := Lib.hid hws
            have HML := Lib.hid (show m < b.length by omega)
            have HNE := Lib.hid (show gi ≠ w3.heap.size ∧ gi ≠ go ∧ gi ≠ wr.heap.size from ⟨by omega, by
              rintro rfl
              obtain ⟨-, c, hc⟩ := own_block hcop.outer (g := gi) rfl
              have := hB.symm.trans hc
              injection this with this
              injection this with _ this
              exact absurd this (by decide), by have := hB.lt; omega⟩)
            have HONE := Lib.hid (one_turned (HM.out.ins b (List.mem_of_getElem? HB.out) m x HX.out))
            have hregs : 0 ≤ f.regs ∧ f.regs ≤ 64 := by have := HM.out.nums.1; omega
            have HW10 := Lib.hid (show Below wr.heap.size wr (wr.alloc (.cells (InsC x (.slice D x.args.length ccp)) 32)) from (Below.refl _ _).alloc (Nat.le_refl _) _)
            have HX10 := Lib.hid (Blk.new wr 32 (InsC x (.slice D x.args.length ccp)))
            clear hcop hB y0 y1 y2 y3 y4 y5 hin hws HC4
            go_upto_region 18 with fail
            clear z0 z1 z2 z3 z4 z5 g3 ho c2 c3
            have c3 := (HW10.out.cell (p := ⟨w.heap.size, 3, none⟩) (Nat.lt_of_lt_of_le hLT HCP.out.below.size)).trans ((HCP.out.below.cell (p := ⟨w.heap.size, 3, none⟩) hLT).trans HK.out.2.2.2)
            have c2 := (HW10.out.cell (p := ⟨w.heap.size, 2, none⟩) (Nat.lt_of_lt_of_le hLT HCP.out.below.size)).trans ((HCP.out.below.cell (p := ⟨w.heap.size, 2, none⟩) hLT).trans HK.out.2.2.1)
            generalize wr.alloc (.cells (InsC x (.slice D x.args.length ccp)) 32) = w10 at *
            obtain ⟨x0, x1, x2, x3, x4, x5⟩ := six_cells HX10.out
            have f1 := HX10.out.frozen 1
            have f2 := HX10.out.frozen 2
            by_cases h12 : x.op = 12
            · have e12 : (x.op == 12) = true := by simp [h12]
              have hb11 : Below wr.heap.size wr (w10.setCell ⟨wr.heap.size, 2, none⟩ (.int .i64 (f.blocks.length : Int))) := gr_to_below (gr_set_new (gr_of_below HW10.out none) (Nat.le_refl _) _ _)
              have HX11 := Lib.hid (show Blk (w10.setCell ⟨wr.heap.size, 2, none⟩ (.int .i64 (f.blocks.length : Int))) wr.heap.size 32 (InsC { x with a := (f.blocks.length : Int) } (.slice D x.args.length ccp)) by simpa using HX10.out.set 2 (.int .i64 (f.blocks.length : Int)))
              have HE := Lib.hid (check_spoilt HC.out.symm HB.out HML.out (k := m) (x := { x with a := (f.blocks.length : Int) }) (e := 74) (by decide) (HONE.out.1 h12))
              have HLT := Lib.hid (light_turn (k := m) (x := { x with a := (f.blocks.length : Int) }) HL.out HB.out (HL.out.ins b (List.mem_of_getElem? HB.out) x (List.mem_of_getElem? HX.out)))
              have HIN2 := Lib.hid (show InR w3 (InsC { x with a := (f.blocks.length : Int) } (.slice D x.args.length ccp)).toList { x with a := (f.blocks.length : Int) } by
                obtain ⟨sl', q1, q2, q3, q4, q5, q6⟩ := HIN.out
                simp at q1
                subst q1
                exact ⟨_, rfl, q2, q3, by first | exact q4 | (show -9223372036854775808 ≤ f.regs ∧ f.regs ≤ 9223372036854775807; omega), by first | exact q5 | (show -9223372036854775808 ≤ (f.blocks.length : Int) ∧ (f.blocks.length : Int) ≤ 9223372036854775807; omega) | (show -9223372036854775808 ≤ f.regs ∧ f.regs ≤ 9223372036854775807; omega), q6⟩)
              have HW11 := Lib.hid hb11
              clear hb11
              go_upto_region 27 with fail
              clear x0 x1 x2 x3 x4 x5 HX10 HW10 c2 c3 f1 f2
              generalize w10.setCell ⟨wr.heap.size, 2, none⟩ (.int .i64 (f.blocks.length : Int)) = w11 at *
              have HCP11 := Lib.hid (HCP.out.quiet HW11.out)
              have g3 := HCP11.out.own.cell 3
              have ho := (HW11.out.cell (p := ⟨go, k, none⟩) HGO.out.1).trans HGO.out.2
              have HBI11 := Lib.hid (HBI.out.older HW11.out HBI.out.lt)
              obtain ⟨y0, y1, y2, y3, y4, y5⟩ := HY.out
              obtain ⟨p, hp⟩ : ∃ p, m * 6 = p := ⟨_, rfl⟩
              rw [hp] at y0 y1 y2 y3 y4 y5
              have z0 := (HBI11.out.cell p).trans y0
              have z1 := (HBI11.out.cell (p + 1)).trans y1
              have z2 := (HBI11.out.cell (p + 2)).trans y2
              have z3 := (HBI11.out.cell (p + 3)).trans y3
              have z4 := (HBI11.out.cell (p + 4)).trans y4
              have z5 := (HBI11.out.cell (p + 5)).trans y5
              have f0 := HBI11.out.frozen p
              have f1 := HBI11.out.frozen (p + 1)
              have f2 := HBI11.out.frozen (p + 2)
              have f3 := HBI11.out.frozen (p + 3)
              have f4 := HBI11.out.frozen (p + 4)
              have f5 := HBI11.out.frozen (p + 5)
              obtain ⟨n1, n2, n3⟩ := HNE.out
              obtain ⟨x0, x1, x2, x3, x4, x5⟩ := six_cells HX11.out
              have HSZ := Lib.hid (show p + 6 ≤ cur.size by
                have := (Array.getElem?_eq_some_iff.1 y5).1
                omega)
              clear y0 y1 y2 y3 y4 y5
              go_still_tail 8, (by kernel_rfl)
              refine wpList_store_ins rfl (.tmp 106) (.tmp 105) rfl (gi := gi) (p := p) (x := { x with a := (f.blocks.length : Int) }) rfl (by first | rfl | (show _ = Value.agg _; rw [h12]; rfl)) HBI11.out.drew HSZ.out ?_
              intro w12 hoth hkeep hnew
              have HD12 := Lib.hid (HCP11.out.done HB.out HML.out HWS.out hoth.1 hoth.2.1 hoth.2.2 (fun o ho => hkeep o (by omega)) (fun j u hu => by rw [hp]; exact hnew j u hu) HIN2.out)
              obtain ⟨v0, v1, v2, v3⟩ := (show w12.cell? ⟨w3.heap.size, 0, none⟩ = some (.string f.name) ∧ w12.cell? ⟨w3.heap.size, 1, none⟩ = some (.int .i64 f.params) ∧ w12.cell? ⟨w3.heap.size, 2, none⟩ = some (.int .i64 f.regs) ∧ w12.cell? ⟨w3.heap.size, 3, none⟩ = some (.slice (some ⟨go, 0, none⟩) f.blocks.length ocap) from by
                have hm : Blk w12 w3.heap.size 24 #[.string f.name, .int .i64 f.params, .int .i64 f.regs, .slice (some ⟨go, 0, none⟩) f.blocks.length ocap] := HCP11.out.own.move (hoth.2.1 _ (fun e => HNE.out.1 e.symm))
                exact ⟨hm.cell 0, hm.cell 1, hm.cell 2, hm.cell 3⟩)
              clear hoth hkeep hnew g3 ho z0 z1 z2 z3 z4 z5 f0 f1 f2 f3 f4 f5 x0 x1 x2 x3 x4 x5 n1 n2 n3 hp
              go_wp2_with fail
              refine (check_turn (HT.out.below (HB3.out.below.trans (HD12.out.2.mono HB3.out.below.size))) HD12.out.1 HLT.out HE.out).mono ?_
              rintro e w13 ⟨rfl, hb13⟩
              go_wp2_with fail
              go_ret
              exact ⟨rfl, (HB3.out.below.trans (HD12.out.2.mono HB3.out.below.size)).trans (hb13.mono (HB3.out.below.trans (HD12.out.2.mono HB3.out.below.size)).size)⟩
            · have e12 : (x.op == 12) = false := by simp [h12]
              by_cases h11 : x.op = 11
              · have e11 : (x.op == 11) = true := by simp [h11]
                have hb11 : Below wr.heap.size wr (w10.setCell ⟨wr.heap.size, 1, none⟩ (.int .i64 f.regs)) := gr_to_below (gr_set_new (gr_of_below HW10.out none) (Nat.le_refl _) _ _)
                have HX11 := Lib.hid (show Blk (w10.setCell ⟨wr.heap.size, 1, none⟩ (.int .i64 f.regs)) wr.heap.size 32 (InsC { x with d := f.regs } (.slice D x.args.length ccp)) by simpa using HX10.out.set 1 (.int .i64 f.regs))
                have HE := Lib.hid (check_spoilt HC.out.symm HB.out HML.out (k := m) (x := { x with d := f.regs }) (e := 73) (by decide) (HONE.out.2.1 (Or.inl h11)))
                have HLT := Lib.hid (light_turn (k := m) (x := { x with d := f.regs }) HL.out HB.out (HL.out.ins b (List.mem_of_getElem? HB.out) x (List.mem_of_getElem? HX.out)))
                have HIN2 := Lib.hid (show InR w3 (InsC { x with d := f.regs } (.slice D x.args.length ccp)).toList { x with d := f.regs } by
                  obtain ⟨sl', q1, q2, q3, q4, q5, q6⟩ := HIN.out
                  simp at q1
                  subst q1
                  exact ⟨_, rfl, q2, q3, by first | exact q4 | (show -9223372036854775808 ≤ f.regs ∧ f.regs ≤ 9223372036854775807; omega), by first | exact q5 | (show -9223372036854775808 ≤ (f.blocks.length : Int) ∧ (f.blocks.length : Int) ≤ 9223372036854775807; omega) | (show -9223372036854775808 ≤ f.regs ∧ f.regs ≤ 9223372036854775807; omega), q6⟩)
                have HW11 := Lib.hid hb11
                clear hb11
                go_upto_region 27 with fail
                clear x0 x1 x2 x3 x4 x5 HX10 HW10 c2 c3 f1 f2
                generalize w10.setCell ⟨wr.heap.size, 1, none⟩ (.int .i64 f.regs) = w11 at *
                have HCP11 := Lib.hid (HCP.out.quiet HW11.out)
                have g3 := HCP11.out.own.cell 3
                have ho := (HW11.out.cell (p := ⟨go, k, none⟩) HGO.out.1).trans HGO.out.2
                have HBI11 := Lib.hid (HBI.out.older HW11.out HBI.out.lt)
                obtain ⟨y0, y1, y2, y3, y4, y5⟩ := HY.out
                obtain ⟨p, hp⟩ : ∃ p, m * 6 = p := ⟨_, rfl⟩
                rw [hp] at y0 y1 y2 y3 y4 y5
                have z0 := (HBI11.out.cell p).trans y0
                have z1 := (HBI11.out.cell (p + 1)).trans y1
                have z2 := (HBI11.out.cell (p + 2)).trans y2
                have z3 := (HBI11.out.cell (p + 3)).trans y3
                have z4 := (HBI11.out.cell (p + 4)).trans y4
                have z5 := (HBI11.out.cell (p + 5)).trans y5
                have f0 := HBI11.out.frozen p
                have f1 := HBI11.out.frozen (p + 1)
                have f2 := HBI11.out.frozen (p + 2)
                have f3 := HBI11.out.frozen (p + 3)
                have f4 := HBI11.out.frozen (p + 4)
                have f5 := HBI11.out.frozen (p + 5)
                obtain ⟨n1, n2, n3⟩ := HNE.out
                obtain ⟨x0, x1, x2, x3, x4, x5⟩ := six_cells HX11.out
                have HSZ := Lib.hid (show p + 6 ≤ cur.size by
                  have := (Array.getElem?_eq_some_iff.1 y5).1
                  omega)
                clear y0 y1 y2 y3 y4 y5
                go_still_tail 8, (by kernel_rfl)
                refine wpList_store_ins rfl (.tmp 106) (.tmp 105) rfl (gi := gi) (p := p) (x := { x with d := f.regs }) rfl (by first | rfl | (show _ = Value.agg _; rw [h11]; rfl)) HBI11.out.drew HSZ.out ?_
                intro w12 hoth hkeep hnew
                have HD12 := Lib.hid (HCP11.out.done HB.out HML.out HWS.out hoth.1 hoth.2.1 hoth.2.2 (fun o ho => hkeep o (by omega)) (fun j u hu => by rw [hp]; exact hnew j u hu) HIN2.out)
                obtain ⟨v0, v1, v2, v3⟩ := (show w12.cell? ⟨w3.heap.size, 0, none⟩ = some (.string f.name) ∧ w12.cell? ⟨w3.heap.size, 1, none⟩ = some (.int .i64 f.params) ∧ w12.cell? ⟨w3.heap.size, 2, none⟩ = some (.int .i64 f.regs) ∧ w12.cell? ⟨w3.heap.size, 3, none⟩ = some (.slice (some ⟨go, 0, none⟩) f.blocks.length ocap) from by
                  have hm : Blk w12 w3.heap.size 24 #[.string f.name, .int .i64 f.params, .int .i64 f.regs, .slice (some ⟨go, 0, none⟩) f.blocks.length ocap] := HCP11.out.own.move (hoth.2.1 _ (fun e => HNE.out.1 e.symm))
                  exact ⟨hm.cell 0, hm.cell 1, hm.cell 2, hm.cell 3⟩)
                clear hoth hkeep hnew g3 ho z0 z1 z2 z3 z4 z5 f0 f1 f2 f3 f4 f5 x0 x1 x2 x3 x4 x5 n1 n2 n3 hp
                go_wp2_with fail
                refine (check_turn (HT.out.below (HB3.out.below.trans (HD12.out.2.mono HB3.out.below.size))) HD12.out.1 HLT.out HE.out).mono ?_
                rintro e w13 ⟨rfl, hb13⟩
                go_wp2_with fail
                go_ret
                exact ⟨rfl, (HB3.out.below.trans (HD12.out.2.mono HB3.out.below.size)).trans (hb13.mono (HB3.out.below.trans (HD12.out.2.mono HB3.out.below.size)).size)⟩
              · have e11 : (x.op == 11) = false := by simp [h11]
                by_cases h1 : x.op = 1
                · have e1 : (x.op == 1) = true := by simp [h1]
                  have hb11 : Below wr.heap.size wr (w10.setCell ⟨wr.heap.size, 1, none⟩ (.int .i64 f.regs)) := gr_to_below (gr_set_new (gr_of_below HW10.out none) (Nat.le_refl _) _ _)
                  have HX11 := Lib.hid (show Blk (w10.setCell ⟨wr.heap.size, 1, none⟩ (.int .i64 f.regs)) wr.heap.size 32 (InsC { x with d := f.regs } (.slice D x.args.length ccp)) by simpa using HX10.out.set 1 (.int .i64 f.regs))
                  have HE := Lib.hid (check_spoilt HC.out.symm HB.out HML.out (k := m) (x := { x with d := f.regs }) (e := 73) (by decide) (HONE.out.2.1 (Or.inr h1)))
                  have HLT := Lib.hid (light_turn (k := m) (x := { x with d := f.regs }) HL.out HB.out (HL.out.ins b (List.mem_of_getElem? HB.out) x (List.mem_of_getElem? HX.out)))
                  have HIN2 := Lib.hid (show InR w3 (InsC { x with d := f.regs } (.slice D x.args.length ccp)).toList { x with d := f.regs } by
                    obtain ⟨sl', q1, q2, q3, q4, q5, q6⟩ := HIN.out
                    simp at q1
                    subst q1
                    exact ⟨_, rfl, q2, q3, by first | exact q4 | (show -9223372036854775808 ≤ f.regs ∧ f.regs ≤ 9223372036854775807; omega), by first | exact q5 | (show -9223372036854775808 ≤ (f.blocks.length : Int) ∧ (f.blocks.length : Int) ≤ 9223372036854775807; omega) | (show -9223372036854775808 ≤ f.regs ∧ f.regs ≤ 9223372036854775807; omega), q6⟩)
                  have HW11 := Lib.hid hb11
                  clear hb11
                  go_upto_region 27 with fail
                  clear x0 x1 x2 x3 x4 x5 HX10 HW10 c2 c3 f1 f2
                  generalize w10.setCell ⟨wr.heap.size, 1, none⟩ (.int .i64 f.regs) = w11 at *
                  have HCP11 := Lib.hid (HCP.out.quiet HW11.out)
                  have g3 := HCP11.out.own.cell 3
                  have ho := (HW11.out.cell (p := ⟨go, k, none⟩) HGO.out.1).trans HGO.out.2
                  have HBI11 := Lib.hid (HBI.out.older HW11.out HBI.out.lt)
                  obtain ⟨y0, y1, y2, y3, y4, y5⟩ := HY.out
                  obtain ⟨p, hp⟩ : ∃ p, m * 6 = p := ⟨_, rfl⟩
                  rw [hp] at y0 y1 y2 y3 y4 y5
                  have z0 := (HBI11.out.cell p).trans y0
                  have z1 := (HBI11.out.cell (p + 1)).trans y1
                  have z2 := (HBI11.out.cell (p + 2)).trans y2
                  have z3 := (HBI11.out.cell (p + 3)).trans y3
                  have z4 := (HBI11.out.cell (p + 4)).trans y4
                  have z5 := (HBI11.out.cell (p + 5)).trans y5
                  have f0 := HBI11.out.frozen p
                  have f1 := HBI11.out.frozen (p + 1)
                  have f2 := HBI11.out.frozen (p + 2)
                  have f3 := HBI11.out.frozen (p + 3)
                  have f4 := HBI11.out.frozen (p + 4)
                  have f5 := HBI11.out.frozen (p + 5)
                  obtain ⟨n1, n2, n3⟩ := HNE.out
                  obtain ⟨x0, x1, x2, x3, x4, x5⟩ := six_cells HX11.out
                  have HSZ := Lib.hid (show p + 6 ≤ cur.size by
                    have := (Array.getElem?_eq_some_iff.1 y5).1
                    omega)
                  clear y0 y1 y2 y3 y4 y5
                  go_still_tail 8, (by kernel_rfl)
                  refine wpList_store_ins rfl (.tmp 106) (.tmp 105) rfl (gi := gi) (p := p) (x := { x with d := f.regs }) rfl (by first | rfl | (show _ = Value.agg _; rw [h1]; rfl)) HBI11.out.drew HSZ.out ?_
                  intro w12 hoth hkeep hnew
                  have HD12 := Lib.hid (HCP11.out.done HB.out HML.out HWS.out hoth.1 hoth.2.1 hoth.2.2 (fun o ho => hkeep o (by omega)) (fun j u hu => by rw [hp]; exact hnew j u hu) HIN2.out)
                  obtain ⟨v0, v1, v2, v3⟩ := (show w12.cell? ⟨w3.heap.size, 0, none⟩ = some (.string f.name) ∧ w12.cell? ⟨w3.heap.size, 1, none⟩ = some (.int .i64 f.params) ∧ w12.cell? ⟨w3.heap.size, 2, none⟩ = some (.int .i64 f.regs) ∧ w12.cell? ⟨w3.heap.size, 3, none⟩ = some (.slice (some ⟨go, 0, none⟩) f.blocks.length ocap) from by
                    have hm : Blk w12 w3.heap.size 24 #[.string f.name, .int .i64 f.params, .int .i64 f.regs, .slice (some ⟨go, 0, none⟩) f.blocks.length ocap] := HCP11.out.own.move (hoth.2.1 _ (fun e => HNE.out.1 e.symm))
                    exact ⟨hm.cell 0, hm.cell 1, hm.cell 2, hm.cell 3⟩)
                  clear hoth hkeep hnew g3 ho z0 z1 z2 z3 z4 z5 f0 f1 f2 f3 f4 f5 x0 x1 x2 x3 x4 x5 n1 n2 n3 hp
                  go_wp2_with fail
                  refine (check_turn (HT.out.below (HB3.out.below.trans (HD12.out.2.mono HB3.out.below.size))) HD12.out.1 HLT.out HE.out).mono ?_
                  rintro e w13 ⟨rfl, hb13⟩
                  go_wp2_with fail
                  go_ret
                  exact ⟨rfl, (HB3.out.below.trans (HD12.out.2.mono HB3.out.below.size)).trans (hb13.mono (HB3.out.below.trans (HD12.out.2.mono HB3.out.below.size)).size)⟩
                · have e1 : (x.op == 1) = false := by simp [h1]
                  have hb11 : Below wr.heap.size wr (w10.setCell ⟨wr.heap.size, 2, none⟩ (.int .i64 f.regs)) := gr_to_below (gr_set_new (gr_of_below HW10.out none) (Nat.le_refl _) _ _)
                  have HX11 := Lib.hid (show Blk (w10.setCell ⟨wr.heap.size, 2, none⟩ (.int .i64 f.regs)) wr.heap.size 32 (InsC { x with a := f.regs } (.slice D x.args.length ccp)) by simpa using HX10.out.set 2 (.int .i64 f.regs))
                  have HE := Lib.hid (check_spoilt HC.out.symm HB.out HML.out (k := m) (x := { x with a := f.regs }) (e := 73) (by decide) (HONE.out.2.2 h12 (fun h => h.elim h11 h1)))
                  have HLT := Lib.hid (light_turn (k := m) (x := { x with a := f.regs }) HL.out HB.out (HL.out.ins b (List.mem_of_getElem? HB.out) x (List.mem_of_getElem? HX.out)))
                  have HIN2 := Lib.hid (show InR w3 (InsC { x with a := f.regs } (.slice D x.args.length ccp)).toList { x with a := f.regs } by
                    obtain ⟨sl', q1, q2, q3, q4, q5, q6⟩ := HIN.out
                    simp at q1
                    subst q1
                    exact ⟨_, rfl, q2, q3, by first | exact q4 | (show -9223372036854775808 ≤ f.regs ∧ f.regs ≤ 9223372036854775807; omega), by first | exact q5 | (show -9223372036854775808 ≤ (f.blocks.length : Int) ∧ (f.blocks.length : Int) ≤ 9223372036854775807; omega) | (show -9223372036854775808 ≤ f.regs ∧ f.regs ≤ 9223372036854775807; omega), q6⟩)
                  have HW11 := Lib.hid hb11
                  clear hb11
                  go_upto_region 27 with fail
                  clear x0 x1 x2 x3 x4 x5 HX10 HW10 c2 c3 f1 f2
                  generalize w10.setCell ⟨wr.heap.size, 2, none⟩ (.int .i64 f.regs) = w11 at *
                  have HCP11 := Lib.hid (HCP.out.quiet HW11.out)
                  have g3 := HCP11.out.own.cell 3
                  have ho := (HW11.out.cell (p := ⟨go, k, none⟩) HGO.out.1).trans HGO.out.2
                  have HBI11 := Lib.hid (HBI.out.older HW11.out HBI.out.lt)
                  obtain ⟨y0, y1, y2, y3, y4, y5⟩ := HY.out
                  obtain ⟨p, hp⟩ : ∃ p, m * 6 = p := ⟨_, rfl⟩
                  rw [hp] at y0 y1 y2 y3 y4 y5
                  have z0 := (HBI11.out.cell p).trans y0
                  have z1 := (HBI11.out.cell (p + 1)).trans y1
                  have z2 := (HBI11.out.cell (p + 2)).trans y2
                  have z3 := (HBI11.out.cell (p + 3)).trans y3
                  have z4 := (HBI11.out.cell (p + 4)).trans y4
                  have z5 := (HBI11.out.cell (p + 5)).trans y5
                  have f0 := HBI11.out.frozen p
                  have f1 := HBI11.out.frozen (p + 1)
                  have f2 := HBI11.out.frozen (p + 2)
                  have f3 := HBI11.out.frozen (p + 3)
                  have f4 := HBI11.out.frozen (p + 4)
                  have f5 := HBI11.out.frozen (p + 5)
                  obtain ⟨n1, n2, n3⟩ := HNE.out
                  obtain ⟨x0, x1, x2, x3, x4, x5⟩ := six_cells HX11.out
                  have HSZ := Lib.hid (show p + 6 ≤ cur.size by
                    have := (Array.getElem?_eq_some_iff.1 y5).1
                    omega)
                  clear y0 y1 y2 y3 y4 y5
                  go_still_tail 8, (by kernel_rfl)
                  refine wpList_store_ins rfl (.tmp 106) (.tmp 105) rfl (gi := gi) (p := p) (x := { x with a := f.regs }) rfl (by first | rfl | (show _ = Value.agg _; rw [h12]; rfl)) HBI11.out.drew HSZ.out ?_
                  intro w12 hoth hkeep hnew
                  have HD12 := Lib.hid (HCP11.out.done HB.out HML.out HWS.out hoth.1 hoth.2.1 hoth.2.2 (fun o ho => hkeep o (by omega)) (fun j u hu => by rw [hp]; exact hnew j u hu) HIN2.out)
                  obtain ⟨v0, v1, v2, v3⟩ := (show w12.cell? ⟨w3.heap.size, 0, none⟩ = some (.string f.name) ∧ w12.cell? ⟨w3.heap.size, 1, none⟩ = some (.int .i64 f.params) ∧ w12.cell? ⟨w3.heap.size, 2, none⟩ = some (.int .i64 f.regs) ∧ w12.cell? ⟨w3.heap.size, 3, none⟩ = some (.slice (some ⟨go, 0, none⟩) f.blocks.length ocap) from by
                    have hm : Blk w12 w3.heap.size 24 #[.string f.name, .int .i64 f.params, .int .i64 f.regs, .slice (some ⟨go, 0, none⟩) f.blocks.length ocap] := HCP11.out.own.move (hoth.2.1 _ (fun e => HNE.out.1 e.symm))
                    exact ⟨hm.cell 0, hm.cell 1, hm.cell 2, hm.cell 3⟩)
                  clear hoth hkeep hnew g3 ho z0 z1 z2 z3 z4 z5 f0 f1 f2 f3 f4 f5 x0 x1 x2 x3 x4 x5 n1 n2 n3 hp
                  go_wp2_with fail
                  refine (check_turn (HT.out.below (HB3.out.below.trans (HD12.out.2.mono HB3.out.below.size))) HD12.out.1 HLT.out HE.out).mono ?_
                  rintro e w13 ⟨rfl, hb13⟩
                  go_wp2_with fail
                  go_ret
                  exact ⟨rfl, (HB3.out.below.trans (HD12.out.2.mono HB3.out.below.size)).trans (hb13.mono (HB3.out.below.trans (HD12.out.2.mono HB3.out.below.size)).size)⟩
      · have h0' : (C != 0) = true := by simp [h0]
        clear h0
        go_wp2_with fail
        go_ret
        exact ⟨rfl, HB3.out.below⟩
end Go.Proofs.YtkkbmfgkapdndaaDoor
