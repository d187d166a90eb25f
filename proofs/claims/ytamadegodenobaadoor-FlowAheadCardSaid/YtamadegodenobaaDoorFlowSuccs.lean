/- Succs, Preds of the program. -/
import Derived.Test.YtamadegodenobaaDoorFlowBase
import Derived.Test.YtamadegodenobaaDoorFlowPlain
import Derived.Test.YtamadegodenobaaDoorIrRefUses
import Derived.RegionTactic
import Derived.StillTailTactics
namespace Go.Proofs.YtamadegodenobaaDoor
open Go.ChangeShapes Go.WideShapes Go.RowKit Go.Deep

theorem targets_two (x : Ir.In) : (Ir.targets x).length ≤ 2 := by
  rcases targets_ways x with ⟨-, -, -, -, h⟩ | ⟨-, -, -, -, h⟩ | ⟨-, -, -, -, h⟩ <;> rw [h] <;> simp
theorem succs_two (bs : List (List Ir.In)) (i : Int) : (Fl.succs bs i).length ≤ 2 := by
  refine Nat.le_trans Fl.len_pk ?_
  unfold Fl.tg
  split
  · exact targets_two _
  · exact Nat.zero_le _
theorem succs_in64 {bs : List (List Ir.In)} {w : World} {v : Value} (hv : Blks w v bs) (i : Int) : In64 (Fl.succs bs i) := fun n hn => by
  have h1 := blks_lt hv
  have h2 := (Fl.mem_succs.1 hn).1
  omega

set_option maxRecDepth 20000 in
set_option maxHeartbeats 3200000 in
theorem succs_any (bs : List (List Ir.In)) (v : Value) (i : Int) (w : World) (hv : Blks w v bs) (ht : Tbl w) :
    Calls Tryd.prog 12 #[v, .int .i64 i] w (ListPost (Fl.succs bs i) w) := by
  obtain ⟨A, cap, rfl⟩ := hv.form
  have HA := Lib.hid (fun (j : Int) (W : World) (hb : Below w.heap.size w W) => among_any (.slice A bs.length cap) bs j W (hv.below hb))
  have HA0 := Lib.hid (HA.out i w (Below.refl _ _))
  by_cases hin : 0 ≤ i ∧ i < (bs.length : Int)
  · obtain ⟨k, rfl⟩ : ∃ k : Nat, i = (k : Int) := ⟨i.toNat, by omega⟩
    have hk : k < bs.length := by omega
    obtain ⟨b, hb⟩ : ∃ b, bs[k]? = some b := ⟨_, List.getElem?_eq_getElem hk⟩
    obtain ⟨bl, off, B, cbp, rfl, l1, c1, hI⟩ := hv.at hb
    have hki : (k : Int) < (bs.length : Int) := hin.2
    have HM := Lib.hid (show true = amg bs.length (k : Int) by simp [amg]; omega)
    obtain ⟨g, hg⟩ : ∃ g, g = amg bs.length (k : Int) := ⟨_, rfl⟩
    rw [← hg] at HA0
    obtain rfl : g = true := hg.trans HM.out.symm
    by_cases hb0 : b.length = 0
    · have HE := Lib.hid (show Fl.succs bs k = [] by
        obtain rfl : b = [] := List.eq_nil_of_length_eq_zero hb0
        unfold Fl.succs
        rw [Fl.tg_empty hb]
        rfl)
      rw [hb0] at c1
      clear hb hI hb0 hv hin hg hk
      go_enter Tryd.func12, Tryd.ntmps12
      go_wp2_with (go_at_call 22; refine HA0.out.mono ?_; rintro e w2 ⟨rfl, rfl⟩)
      go_ret
      exact ⟨_, rfl, by rw [HE.out]; exact RowI.nil _ _, Below.refl _ _⟩
    · obtain ⟨m, hm⟩ : ∃ m, b.length = m + 1 := ⟨b.length - 1, by omega⟩
      obtain ⟨x, hx⟩ : ∃ x, b[m]? = some x := ⟨_, List.getElem?_eq_getElem (by omega)⟩
      obtain ⟨b2, o2, D, ccp, rfl, l2, ⟨x0, x1, x2, x3, x4, x5⟩, hin2⟩ := hI.at hx
      have HT := Lib.hid (show Fl.tg bs k = Ir.targets x from Fl.tg_last hb hm hx)
      have hlt := insl_lt hI
      have hne : ((b.length : Int) == 0) = false := by
        rw [beq_eq_false_iff_ne]
        omega
      have hmx : (m : Int) ≤ 9223372036854775806 := by omega
      have hmz : (0 : Int) ≤ (m : Int) := by omega
      have hbl : (b.length : Int) - 1 = (m : Int) := by omega
      have hb2 : (0 : Int) < (b.length : Int) := by omega
      have HIN := Lib.hid hin2
      have HV := Lib.hid (And.intro hv ht)
      have hmi : (m : Int) < (b.length : Int) := by omega
      clear hb hI hv hin hg hk hin2 hx hb0 hm ht
      go_enter Tryd.func12, Tryd.ntmps12
      go_upto_region 3 with (go_at_call 22; refine HA0.out.mono ?_; rintro e w2 ⟨rfl, rfl⟩)
      go_region
      have hb1 : Below w.heap.size w (w.alloc (.cells (InsC x (.slice D x.args.length ccp)) 36)).drew := ((Below.refl _ _).alloc (Nat.le_refl _) _).drew
      have hx1 : Blk (w.alloc (.cells (InsC x (.slice D x.args.length ccp)) 36)).drew w.heap.size 36 (InsC x (.slice D x.args.length ccp)) := (Blk.new w 36 (InsC x (.slice D x.args.length ccp))).older (Below.refl _ _).drew (Blk.new w 36 (InsC x (.slice D x.args.length ccp))).lt
      have HT1 := Lib.hid (targets_any x (.slice D x.args.length ccp) (w.alloc (.cells (InsC x (.slice D x.args.length ccp)) 36)).drew (HV.out.2.below hb1) (HIN.out.below hb1))
      have HB1 := Lib.hid hb1
      obtain ⟨y0, y1, y2, y3, y4, y5⟩ := six_cells hx1
      clear x0 x1 x2 x3 x4 x5 hx1 hb1 c1
      generalize (w.alloc (.cells #[.int .i64 x.op, .int .i64 x.d, .int .i64 x.a, .int .i64 x.b, .string x.name, .slice D x.args.length ccp] 36)).drew = w1 at *
      have HTL := Lib.hid (targets_two x)
      have HS := Lib.hid (show Fl.succs bs k = Fl.pk bs.length (Ir.targets x) by unfold Fl.succs; rw [HT.out])
      have HT64 := Lib.hid (targets_in64 HIN.out)
      generalize Ir.targets x = T at *
      go_wp2_with fail
      refine HT1.out.mono ?_
      rintro e w2 ⟨vt, rfl, hrow, hb2⟩
      have hnt := hrow.nums HT64.out
      obtain ⟨AT, ct, rfl, -⟩ := id hnt
      have HNT := Lib.hid hnt
      have HB2 := Lib.hid (HB1.out.trans (hb2.mono HB1.out.size))
      have htl : (T.length : Int) ≤ 2 := by have := HTL.out; omega
      clear hrow hnt hb2 y0 y1 y2 y3 y4 y5
      go_wp2_with fail
      go_loopw [36, 6] (fun j u wr => ∃ q : Nat, q ≤ T.length ∧ j = .int .i64 (q : Int) ∧ RowI wr w2.heap.size u (Fl.pk bs.length (T.take q)) ∧ Below w2.heap.size w2 wr) (fun j _ _ => T.length - (intOf j).toNat)
      case atStart => exact ⟨0, Nat.zero_le _, rfl, RowI.nil _ _, Below.refl _ _⟩
      case round =>
        obtain ⟨q, hq, rfl, hr, hbr⟩ := hrel
        have HR := Lib.hid hr
        have HBR := Lib.hid hbr
        clear hr hbr
        by_cases hlt : q < T.length
        · have hqi : (q : Int) < (T.length : Int) := by omega
          obtain ⟨t, ht⟩ : ∃ t, T[q]? = some t := ⟨_, List.getElem?_eq_getElem hlt⟩
          obtain ⟨b3, o3, rfl, l3, t1⟩ := (HNT.out.below HBR.out).at ht
          have HUP := Lib.hid (Fl.pk_up (n := bs.length) ht)
          have HA1 := Lib.hid (HA.out t wr (HB2.out.trans (HBR.out.mono HB2.out.size)))
          have H64 := Lib.hid (show In64 (Fl.pk bs.length (T.take q)) from fun n hn => HT64.out n (List.mem_of_mem_take (Fl.mem_pk.1 hn).2))
          have Ht64 := Lib.hid (show In64 [t] from fun n hn => by simp at hn; subst hn; exact HT64.out _ (List.mem_of_getElem? ht))
          have HL := Lib.hid (show (Fl.pk bs.length (T.take q)).length ≤ 2 from Nat.le_trans Fl.len_pk (by rw [List.length_take]; have := HTL.out; omega))
          have HC := Lib.hid (contains_any u6 (Fl.pk bs.length (T.take q)) t wr (HR.out.nums H64.out))
          clear ht
          by_cases ham : amg bs.length t = true
          · have hin : 0 ≤ t ∧ t < (bs.length : Int) := by simpa [amg] using ham
            rw [ham] at HA1
            by_cases hct : t ∈ Fl.pk bs.length (T.take q)
            · have HST := Lib.hid (show Fl.stp bs.length (Fl.pk bs.length (T.take q)) t = Fl.pk bs.length (T.take q) by unfold Fl.stp; rw [if_neg (fun h => h.2 hct)])
              have hd : decide (t ∈ Fl.pk bs.length (T.take q)) = true := by simpa using hct
              rw [hd] at HC
              clear ham hin hct hd
              go_wp2_with (first | (go_at_call 22; refine HA1.out.mono ?_; rintro e w5 ⟨rfl, rfl⟩) | (go_at_call 24; refine HC.out.mono ?_; rintro e w5 ⟨rfl, rfl⟩))
              go_roundw
              case rel => exact ⟨q + 1, by omega, by go_num, by rw [HUP.out, HST.out]; exact HR.out, HBR.out⟩
              case measure => simp [intOf]; omega
            · have HST := Lib.hid (show Fl.stp bs.length (Fl.pk bs.length (T.take q)) t = Fl.pk bs.length (T.take q) ++ [t] by unfold Fl.stp; rw [if_pos ⟨hin, hct⟩])
              have hd : decide (t ∈ Fl.pk bs.length (T.take q)) = false := by simpa using hct
              rw [hd] at HC
              clear ham hin hct hd
              go_wp2_with (first | (go_at_call 22; refine HA1.out.mono ?_; rintro e w5 ⟨rfl, rfl⟩) | (go_at_call 24; refine HC.out.mono ?_; rintro e w5 ⟨rfl, rfl⟩) | (at_builtin; refine wpList_append_nums rfl (.tmp 49) (.tmp 51) rfl (HR.out.alloc _) (nums_one wr t Ht64.out) (by have := HL.out; simp; omega) (by have := HBR.out.size; simp; omega) rfl rfl ?_; intro v6 w6 hr6 hg6; have HR6 := Lib.hid hr6; have HB6 := Lib.hid (below_row_first HBR.out HR.out hg6); clear hr6 hg6))
              go_roundw
              case rel => exact ⟨q + 1, by omega, by go_num, by rw [HUP.out, HST.out]; exact HR6.out, HB6.out⟩
              case measure => simp [intOf]; omega
          · have HST := Lib.hid (show Fl.stp bs.length (Fl.pk bs.length (T.take q)) t = Fl.pk bs.length (T.take q) by unfold Fl.stp; rw [if_neg (fun h => ham (by simpa [amg] using h.1))])
            rw [Bool.not_eq_true] at ham
            rw [ham] at HA1
            clear ham
            go_wp2_with (go_at_call 22; refine HA1.out.mono ?_; rintro e w5 ⟨rfl, rfl⟩)
            go_roundw
            case rel => exact ⟨q + 1, by omega, by go_num, by rw [HUP.out, HST.out]; exact HR.out, HBR.out⟩
            case measure => simp [intOf]; omega
        · obtain rfl : q = T.length := by omega
          have HE := Lib.hid (show RowI wr w2.heap.size u6 (Fl.succs bs k) by
            rw [HS.out]
            have := HR.out
            rw [List.take_of_length_le (Nat.le_refl _)] at this
            exact this)
          clear hq
          go_wp2_with fail
          go_ret
          exact ⟨_, rfl, HE.out.less HB2.out.size, HB2.out.trans (HBR.out.mono HB2.out.size)⟩
  · have HM := Lib.hid (show false = amg bs.length i by simp [amg]; omega)
    obtain ⟨g, hg⟩ : ∃ g, g = amg bs.length i := ⟨_, rfl⟩
    rw [← hg] at HA0
    obtain rfl : g = false := hg.trans HM.out.symm
    have HE := Lib.hid (show Fl.succs bs i = [] from Fl.succs_none hin)
    clear hv hin hg ht
    go_enter Tryd.func12, Tryd.ntmps12
    go_wp2_with (go_at_call 22; refine HA0.out.mono ?_; rintro e w2 ⟨rfl, rfl⟩)
    go_ret
    exact ⟨_, rfl, by rw [HE.out]; exact RowI.nil _ _, Below.refl _ _⟩
set_option maxRecDepth 20000 in
set_option maxHeartbeats 3200000 in
theorem preds_any (bs : List (List Ir.In)) (v : Value) (i : Int) (w : World) (hv : Blks w v bs) (ht : Tbl w) (hn : bs.length ≤ 1000000) :
    Calls Tryd.prog 13 #[v, .int .i64 i] w (ListPost (Fl.preds bs i) w) := by
  obtain ⟨A, cap, rfl⟩ := hv.form
  have HS := Lib.hid (fun (j : Int) (W : World) (hb : Below w.heap.size w W) => succs_any bs (.slice A bs.length cap) j W (hv.below hb) (ht.below hb))
  have H64 := Lib.hid (fun j => succs_in64 hv j)
  have hni : (bs.length : Int) ≤ 1000000 := by omega
  have HN := Lib.hid hn
  clear hv ht hn
  go_enter Tryd.func13, Tryd.ntmps13
  go_wp2_with fail
  go_loopw [9, 5] (fun j u wr => ∃ q : Nat, q ≤ bs.length ∧ j = .int .i64 (q : Int) ∧ RowI wr w.heap.size u (Fl.predsTo bs i q) ∧ Below w.heap.size w wr) (fun j _ _ => bs.length - (intOf j).toNat)
  case atStart => exact ⟨0, Nat.zero_le _, rfl, RowI.nil _ _, Below.refl _ _⟩
  case round =>
    obtain ⟨q, hq, rfl, hr, hbr⟩ := hrel
    have HR := Lib.hid hr
    have HBR := Lib.hid hbr
    clear hr hbr
    by_cases hlt : q < bs.length
    · have hqi : (q : Int) < (bs.length : Int) := by omega
      have HSQ := Lib.hid (HS.out q wr HBR.out)
      have HUP := Lib.hid (Fl.predsTo_up bs i q)
      have HL := Lib.hid (Fl.len_predsTo bs i q)
      have Hq64 := Lib.hid (show In64 [(q : Int)] from fun n hn => by simp at hn; subst hn; omega)
      go_wp2_with fail
      refine HSQ.out.mono ?_
      rintro e w5 ⟨vs, rfl, hrow, hb5⟩
      have HC := Lib.hid (contains_any vs (Fl.succs bs q) i w5 (hrow.nums (H64.out q)))
      have HB5 := Lib.hid (HBR.out.trans (hb5.mono HBR.out.size))
      have HR5 := Lib.hid (HR.out.below hb5)
      clear hrow hb5
      by_cases hm : i ∈ Fl.succs bs q
      · have HST := Lib.hid (show Fl.predsTo bs i (q + 1) = Fl.predsTo bs i q ++ [(q : Int)] by rw [HUP.out, if_pos hm])
        have hd : decide (i ∈ Fl.succs bs q) = true := by simpa using hm
        rw [hd] at HC
        clear hm hd
        go_wp2_with (first | (go_at_call 24; refine HC.out.mono ?_; rintro e w6 ⟨rfl, rfl⟩) | (at_builtin; refine wpList_append_nums rfl (.tmp 17) (.tmp 19) rfl (HR5.out.alloc _) (nums_one w5 q Hq64.out) (by have := HL.out; have := HN.out; simp; omega) (by have := HB5.out.size; simp; omega) rfl rfl ?_; intro v6 w6 hr6 hg6; have HR6 := Lib.hid hr6; have HB6 := Lib.hid (below_row_first HB5.out HR5.out hg6); clear hr6 hg6))
        go_roundw
        case rel => exact ⟨q + 1, by omega, by go_num, by rw [HST.out]; exact HR6.out, HB6.out⟩
        case measure => simp [intOf]; omega
      · have HST := Lib.hid (show Fl.predsTo bs i (q + 1) = Fl.predsTo bs i q by rw [HUP.out, if_neg hm])
        have hd : decide (i ∈ Fl.succs bs q) = false := by simpa using hm
        rw [hd] at HC
        clear hm hd
        go_wp2_with (go_at_call 24; refine HC.out.mono ?_; rintro e w6 ⟨rfl, rfl⟩)
        go_roundw
        case rel => exact ⟨q + 1, by omega, by go_num, by rw [HST.out]; exact HR5.out, HB5.out⟩
        case measure => simp [intOf]; omega
    · obtain rfl : q = bs.length := by omega
      have HE := Lib.hid (show RowI wr w.heap.size u5 (Fl.preds bs i) from HR.out)
      clear hq
      go_wp2_with fail
      go_ret
      exact ⟨_, rfl, HE.out, HBR.out⟩
end Go.Proofs.YtamadegodenobaaDoor
