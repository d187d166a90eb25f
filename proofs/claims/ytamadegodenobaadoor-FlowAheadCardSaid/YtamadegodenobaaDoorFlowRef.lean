/- Succs, Preds of the document. -/
import Derived.Test.YtamadegodenobaaDoorFlowSuccs
import Derived.IntWalk
namespace Go.Proofs.YtamadegodenobaaDoor
open Go.ChangeShapes Go.WideShapes Go.RowKit Go.Deep

/-- The row u lies apart from what lies at A. -/
def Off (A : Option Addr) (u : Value) (w : World) : Prop := ∀ a, A = some a → u.ownBlock ≠ some a.block ∧ a.block < w.heap.size
theorem off_next {A : Option Addr} {u v : Value} {w w' : World} {o : Obj} (h : Off A u w) (hv : v.ownBlock = u.ownBlock ∨ v.ownBlock = some (w.alloc o).heap.size) (hs : (w.alloc o).heap.size ≤ w'.heap.size) : Off A v w' := fun a e => by
  obtain ⟨h1, h2⟩ := h a e
  have hz : (w.alloc o).heap.size = w.heap.size + 1 := by simp
  refine ⟨fun e2 => ?_, by omega⟩
  rcases hv with hv | hv
  · exact h1 (hv.symm.trans e2)
  · rw [hv] at e2
    injection e2 with e2
    omega

set_option maxRecDepth 20000 in
set_option maxHeartbeats 3200000 in
theorem rsuccs_any (bs : List (List Ir.In)) (v : Value) (i : Int) (w : World) (hv : Blks w v bs) :
    Calls Tryd.prog 14 #[v, .int .i64 i] w (ListPost (Fl.succs bs i) w) := by
  obtain ⟨A, cap, rfl⟩ := hv.form
  have hb0 : Below w.heap.size w (w.alloc (.cells #[] 3)) := (Below.refl _ _).alloc (Nat.le_refl _) _
  have HB0 := Lib.hid hb0
  have HR0 := Lib.hid (row_none w w.heap.size (Nat.le_refl _))
  have HN := Lib.hid (blks_lt hv)
  by_cases hin : 0 ≤ i ∧ i < (bs.length : Int)
  · obtain ⟨k, rfl⟩ : ∃ k : Nat, i = (k : Int) := ⟨i.toNat, by omega⟩
    have hk : k < bs.length := by omega
    obtain ⟨b, hb⟩ : ∃ b, bs[k]? = some b := ⟨_, List.getElem?_eq_getElem hk⟩
    obtain ⟨bl, off, B, cbp, rfl, l1, c1, hI⟩ := (hv.below hb0).at hb
    have hki : (k : Int) < (bs.length : Int) := hin.2
    by_cases hz : b.length = 0
    · have HE := Lib.hid (show Fl.succs bs k = [] by
        obtain rfl : b = [] := List.eq_nil_of_length_eq_zero hz
        unfold Fl.succs
        rw [Fl.tg_empty hb]
        rfl)
      rw [hz] at c1
      clear hb hI hz hv hin hk hb0
      go_enter Tryd.func14, Tryd.ntmps14
      go_upto_region 2 with fail
      generalize w.alloc (.cells #[] 3) = w1 at *
      go_wp2_with fail
      go_ret
      exact ⟨_, rfl, by rw [HE.out]; exact HR0.out, HB0.out⟩
    · obtain ⟨m, hm⟩ : ∃ m, b.length = m + 1 := ⟨b.length - 1, by omega⟩
      obtain ⟨x, hx⟩ : ∃ x, b[m]? = some x := ⟨_, List.getElem?_eq_getElem (by omega)⟩
      obtain ⟨b2, o2, D, ccp, rfl, l2, ⟨x0, x1, x2, x3, x4, x5⟩, hin2⟩ := hI.at hx
      have HT := Lib.hid (show Fl.tg bs k = Ir.targets x from Fl.tg_last hb hm hx)
      have hlt := insl_lt hI
      have hne : ((b.length : Int) == 0) = false := by
        rw [beq_eq_false_iff_ne]
        omega
      have hmx : (m : Int) ≤ 9223372036854775806 := by omega
      have hmz : (0 : Int) ≤ (m : Int) := by omega
      have hbl : (b.length : Int) - 1 = (m : Int) := by omega
      have hmi : (m : Int) < (b.length : Int) := by omega
      have hwr : IntKind.i64.wrap (m : Int) = (m : Int) := IntWalk.i64_in _ (by omega)
      have HIN := Lib.hid hin2
      have HTL := Lib.hid (targets_two x)
      have HS := Lib.hid (show Fl.succs bs k = Fl.pk bs.length (Ir.targets x) by unfold Fl.succs; rw [HT.out])
      clear hb hI hv hin hk hin2 hx hz hm hb0
      go_enter Tryd.func14, Tryd.ntmps14
      go_upto_region 2 with fail
      have hz1 : (w.alloc (.cells #[] 3)).heap.size = w.heap.size + 1 := by simp
      generalize w.alloc (.cells #[] 3) = w1 at *
      go_upto_region 4 with fail
      have HT1 := Lib.hid (rtargets_any x (.slice D x.args.length ccp) w1.drew (HIN.out.below (Below.refl _ _).drew))
      have HT64 := Lib.hid (targets_in64 HIN.out)
      have HB1 := Lib.hid (HB0.out.drew)
      have HR1 := Lib.hid (HR0.out.below (Below.refl _ _).drew)
      generalize Ir.targets x = T at *
      go_still_tail 12, (by kernel_rfl)
      go_wp2_with fail
      refine HT1.out.mono ?_
      rintro e w3 ⟨vt, rfl, hrow, hb3⟩
      have hnt := hrow.nums HT64.out
      obtain ⟨AT, ct, rfl, -⟩ := id hnt
      have HNT := Lib.hid hnt
      have HB3 := Lib.hid (HB1.out.trans (hb3.mono HB1.out.size))
      have HR3 := Lib.hid (HR1.out.below hb3)
      have HOF := Lib.hid (show Off AT (.slice (some ⟨w.heap.size, 0, none⟩) 0 0) w3 from fun a e => by
        subst e
        obtain ⟨q1, q2⟩ := World.ownsRow.lt hrow a.block rfl
        have q3 : w1.heap.size ≤ a.block := q1
        refine ⟨fun e => ?_, q2⟩
        injection e with e
        have e : w.heap.size = a.block := e
        omega)
      have htl : (T.length : Int) ≤ 2 := by have := HTL.out; omega
      clear hrow hnt hb3 hz1 x0 x1 x2 x3 x4 x5 c1 HB0 HR0
      go_wp2_with fail
      go_loopw [7, 5] (fun j u wr => ∃ q : Nat, q ≤ T.length ∧ j = .int .i64 (q : Int) ∧ RowI wr w.heap.size u (Fl.pk bs.length (T.take q)) ∧ Below w.heap.size w wr ∧ Nums wr (.slice AT T.length ct) T ∧ Off AT u wr) (fun j _ _ => T.length - (intOf j).toNat)
      case atStart => exact ⟨0, Nat.zero_le _, rfl, HR3.out, HB3.out, HNT.out, HOF.out⟩
      case round =>
        obtain ⟨q, hq, rfl, hr, hbr, hnt⟩ := hrel
        have HR := Lib.hid hr
        have HBR := Lib.hid hbr
        have HNR := Lib.hid hnt
        clear hr hbr hnt
        by_cases hlt : q < T.length
        · have hqi : (q : Int) < (T.length : Int) := by omega
          obtain ⟨t, ht⟩ : ∃ t, T[q]? = some t := ⟨_, List.getElem?_eq_getElem hlt⟩
          obtain ⟨b3, o3, rfl, l3, t1⟩ := HNR.out.1.at ht
          have HUP := Lib.hid (Fl.pk_up (n := bs.length) ht)
          have H64 := Lib.hid (show In64 (Fl.pk bs.length (T.take q)) from fun n hn => HT64.out n (List.mem_of_mem_take (Fl.mem_pk.1 hn).2))
          have Ht64 := Lib.hid (show In64 [t] from fun n hn => by simp at hn; subst hn; exact HT64.out _ (List.mem_of_getElem? ht))
          have HL := Lib.hid (show (Fl.pk bs.length (T.take q)).length ≤ 2 from Nat.le_trans Fl.len_pk (by rw [List.length_take]; have := HTL.out; omega))
          have HC := Lib.hid (rhas_any u5 (Fl.pk bs.length (T.take q)) t wr (HR.out.nums H64.out))
          clear ht
          by_cases h0 : 0 ≤ t
          · by_cases h1 : t < (bs.length : Int)
            · by_cases hct : t ∈ Fl.pk bs.length (T.take q)
              · have HST := Lib.hid (show Fl.stp bs.length (Fl.pk bs.length (T.take q)) t = Fl.pk bs.length (T.take q) by unfold Fl.stp; rw [if_neg (fun h => h.2 hct)])
                have hd : decide (t ∈ Fl.pk bs.length (T.take q)) = true := by simpa using hct
                rw [hd] at HC
                clear hct hd
                go_wp2_with (go_at_call 26; refine HC.out.mono ?_; rintro e w5 ⟨rfl, rfl⟩)
                go_roundw
                case rel => exact ⟨q + 1, by omega, by go_num, by rw [HUP.out, HST.out]; exact HR.out, HBR.out, HNR.out⟩
                case measure => simp [intOf]; omega
              · have HST := Lib.hid (show Fl.stp bs.length (Fl.pk bs.length (T.take q)) t = Fl.pk bs.length (T.take q) ++ [t] by unfold Fl.stp; rw [if_pos ⟨⟨h0, h1⟩, hct⟩])
                have hd : decide (t ∈ Fl.pk bs.length (T.take q)) = false := by simpa using hct
                rw [hd] at HC
                clear hct hd
                go_wp2_with (first | (go_at_call 26; refine HC.out.mono ?_; rintro e w5 ⟨rfl, rfl⟩) | (at_builtin; refine wpList_append_nums2 rfl (.tmp 68) (.tmp 73) rfl (HR.out.alloc _) (nums_one wr t Ht64.out) (by have := HL.out; simp; omega) (by have := HBR.out.size; simp; omega) rfl rfl ?_; intro v6 w6 hr6 hg6 hv6; have HN6 := Lib.hid (nums_off (HNR.out.1.below ((Below.refl _ _).alloc (Nat.le_refl _) _)) hg6 (fun a e => (HNR.out.2 a e).1)); have HO6 := Lib.hid (off_next HNR.out.2 hv6 hg6.size); have HR6 := Lib.hid hr6; have HB6 := Lib.hid (below_row_first HBR.out HR.out hg6); clear hr6 hg6 hv6))
                go_roundw
                case rel => exact ⟨q + 1, by omega, by go_num, by rw [HUP.out, HST.out]; exact HR6.out, HB6.out, HN6.out, HO6.out⟩
                case measure => simp [intOf]; omega
            · have HST := Lib.hid (show Fl.stp bs.length (Fl.pk bs.length (T.take q)) t = Fl.pk bs.length (T.take q) by unfold Fl.stp; rw [if_neg (fun h => h1 h.1.2)])
              have h2 : (bs.length : Int) ≤ t := by omega
              clear h1
              go_wp2_with fail
              go_roundw
              case rel => exact ⟨q + 1, by omega, by go_num, by rw [HUP.out, HST.out]; exact HR.out, HBR.out, HNR.out⟩
              case measure => simp [intOf]; omega
          · have HST := Lib.hid (show Fl.stp bs.length (Fl.pk bs.length (T.take q)) t = Fl.pk bs.length (T.take q) by unfold Fl.stp; rw [if_neg (fun h => h0 h.1.1)])
            have h2 : t < 0 := by omega
            clear h0
            go_wp2_with fail
            go_roundw
            case rel => exact ⟨q + 1, by omega, by go_num, by rw [HUP.out, HST.out]; exact HR.out, HBR.out, HNR.out⟩
            case measure => simp [intOf]; omega
        · obtain rfl : q = T.length := by omega
          have HE := Lib.hid (show RowI wr w.heap.size u5 (Fl.succs bs k) by
            rw [HS.out]
            have := HR.out
            rw [List.take_of_length_le (Nat.le_refl _)] at this
            exact this)
          clear hq
          go_wp2_with fail
          go_ret
          exact ⟨_, rfl, HE.out, HBR.out⟩
  · have HE := Lib.hid (show Fl.succs bs i = [] from Fl.succs_none hin)
    clear hv hb0
    by_cases h0 : 0 ≤ i
    · have h1 : (bs.length : Int) ≤ i := by omega
      clear hin
      go_enter Tryd.func14, Tryd.ntmps14
      go_upto_region 2 with fail
      generalize w.alloc (.cells #[] 3) = w1 at *
      go_wp2_with fail
      go_ret
      exact ⟨_, rfl, by rw [HE.out]; exact HR0.out, HB0.out⟩
    · have h1 : i < 0 := by omega
      clear hin h0
      go_enter Tryd.func14, Tryd.ntmps14
      go_upto_region 2 with fail
      generalize w.alloc (.cells #[] 3) = w1 at *
      go_wp2_with fail
      go_ret
      exact ⟨_, rfl, by rw [HE.out]; exact HR0.out, HB0.out⟩
set_option maxRecDepth 20000 in
set_option maxHeartbeats 3200000 in
theorem rpreds_any (bs : List (List Ir.In)) (v : Value) (i : Int) (w : World) (hv : Blks w v bs) (hn : bs.length ≤ 1000000) :
    Calls Tryd.prog 18 #[v, .int .i64 i] w (ListPost (Fl.preds bs i) w) := by
  obtain ⟨A, cap, rfl⟩ := hv.form
  have hb0 : Below w.heap.size w (w.alloc (.cells #[] 3)) := (Below.refl _ _).alloc (Nat.le_refl _) _
  have HB0 := Lib.hid hb0
  have HR0 := Lib.hid (row_none w w.heap.size (Nat.le_refl _))
  have HS := Lib.hid (fun (j : Int) (W : World) (hb : Below w.heap.size w W) => rsuccs_any bs (.slice A bs.length cap) j W (hv.below hb))
  have H64 := Lib.hid (fun j => succs_in64 hv j)
  have hni : (bs.length : Int) ≤ 1000000 := by omega
  have HN := Lib.hid hn
  clear hv hn hb0
  go_enter Tryd.func18, Tryd.ntmps18
  go_upto_region 2 with fail
  generalize w.alloc (.cells #[] 3) = w1 at *
  go_wp2_with fail
  go_loopw [6, 5] (fun j u wr => ∃ q : Nat, q ≤ bs.length ∧ j = .int .i64 (q : Int) ∧ RowI wr w.heap.size u (Fl.predsTo bs i q) ∧ Below w.heap.size w wr) (fun j _ _ => bs.length - (intOf j).toNat)
  case atStart => exact ⟨0, Nat.zero_le _, rfl, HR0.out, HB0.out⟩
  case round =>
    obtain ⟨q, hq, rfl, hr, hbr⟩ := hrel
    have HR := Lib.hid hr
    have HBR := Lib.hid hbr
    clear hr hbr
    by_cases hlt : q < bs.length
    · have hqi : (q : Int) < (bs.length : Int) := by omega
      have HSQ := Lib.hid (HS.out q wr HBR.out)
      have HUP := Lib.hid (Fl.predsTo_up bs i q)
      have HL := Lib.hid (Fl.len_predsTo bs i q)
      have Hq64 := Lib.hid (show In64 [(q : Int)] from fun n hn => by simp at hn; subst hn; omega)
      go_wp2_with fail
      refine HSQ.out.mono ?_
      rintro e w5 ⟨vs, rfl, hrow, hb5⟩
      have HC := Lib.hid (rhas_any vs (Fl.succs bs q) i w5 (hrow.nums (H64.out q)))
      have HB5 := Lib.hid (HBR.out.trans (hb5.mono HBR.out.size))
      have HR5 := Lib.hid (HR.out.below hb5)
      clear hrow hb5
      by_cases hm : i ∈ Fl.succs bs q
      · have HST := Lib.hid (show Fl.predsTo bs i (q + 1) = Fl.predsTo bs i q ++ [(q : Int)] by rw [HUP.out, if_pos hm])
        have hd : decide (i ∈ Fl.succs bs q) = true := by simpa using hm
        rw [hd] at HC
        clear hm hd
        go_wp2_with (first | (go_at_call 26; refine HC.out.mono ?_; rintro e w6 ⟨rfl, rfl⟩) | (at_builtin; refine wpList_append_nums rfl (.tmp 19) (.tmp 21) rfl (HR5.out.alloc _) (nums_one w5 q Hq64.out) (by have := HL.out; have := HN.out; simp; omega) (by have := HB5.out.size; simp; omega) rfl rfl ?_; intro v6 w6 hr6 hg6; have HR6 := Lib.hid hr6; have HB6 := Lib.hid (below_row_first HB5.out HR5.out hg6); clear hr6 hg6))
        go_roundw
        case rel => exact ⟨q + 1, by omega, by go_num, by rw [HST.out]; exact HR6.out, HB6.out⟩
        case measure => simp [intOf]; omega
      · have HST := Lib.hid (show Fl.predsTo bs i (q + 1) = Fl.predsTo bs i q by rw [HUP.out, if_neg hm])
        have hd : decide (i ∈ Fl.succs bs q) = false := by simpa using hm
        rw [hd] at HC
        clear hm hd
        go_wp2_with (go_at_call 26; refine HC.out.mono ?_; rintro e w6 ⟨rfl, rfl⟩)
        go_roundw
        case rel => exact ⟨q + 1, by omega, by go_num, by rw [HST.out]; exact HR5.out, HB5.out⟩
        case measure => simp [intOf]; omega
    · obtain rfl : q = bs.length := by omega
      have HE := Lib.hid (show RowI wr w.heap.size u5 (Fl.preds bs i) from HR.out)
      clear hq
      go_wp2_with fail
      go_ret
      exact ⟨_, rfl, HE.out, HBR.out⟩
end Go.Proofs.YtamadegodenobaaDoor
