/- takeOne, walked. -/
import Derived.Test.YtimcepoleboldaaGreatDoorKeepTake
import Derived.Deep.RegionWith
namespace Go.Proofs.YtimcepoleboldaaGreatDoor
open Go.RowKit Go.Deep

set_option maxRecDepth 20000 in
set_option maxHeartbeats 2000000 in
theorem takeone_any [R : Rows] (tb mb n : Nat) (m : Kp.Mp) (x : Kp.Rc) (w : World) (h : Tab w tb mb n m) (hk : x.k = 1 ∨ x.k = 2) (hs : Kp.size m + x.key.size + x.val.size ≤ 2000000) (hm : m.length ≤ 1000000) (hn : n ≤ 1000000000) (hR : ∀ g, w.heap.size ≤ g → R.p g) :
    Calls Tryz.prog 62 #[.pointer (some ⟨tb, 0, none⟩), .agg #[.int .i64 x.k, .string x.key, .string x.val]] w (TakePost tb mb (n + 1) (Kp.taken m x) w) := by
  obtain ⟨G, D, h⟩ := h
  obtain ⟨d, hd⟩ : ∃ d, d = Plain.mix x.key.data.toList := ⟨_, rfl⟩
  have hd64 : d < 18446744073709551616 := by rw [hd]; exact Kp.mixB_lt x.key
  have hmx : ∀ W, Calls Tryz.prog 75 #[.string x.key] W fun e w' => e = .returned (.int .u64 (d : Int)) ∧ W = w' := fun W => by rw [hd]; exact mix_any x.key W (by unfold maxLen; omega)
  have HM := Lib.hid hmx
  have HRR := Lib.hid hR
  have hb1 : Below w.heap.size w (w.alloc (.cells (RcC x) 32)) := (Below.refl _ _).alloc (Nat.le_refl _) _
  have hs1 : (w.alloc (.cells (RcC x) 32)).heap.size = w.heap.size + 1 := by simp
  have h1 := h.below hb1
  have hbox := Blk.new w 32 (RcC x)
  have hlook := h1.map.look hd64
  have hin : TkAt w tb mb x ((G d).getD (.slice none 0 0)) (D d) (Kp.size m) 0 (.slice none 0 0) (w.alloc (.cells (RcC x) 32)) := ⟨h1.bucket d, RowP.nil _ _, by simpa [Kp.gone] using h1.blk, hbox, gr_of_below hb1 _⟩
  have hgl : Kp.gone (D d) x.key ≤ Kp.size m := by
    have := h.tabs.gone h.up x.key
    rw [hd]
    show Kp.gone (D (Kp.mixB x.key)) x.key ≤ _
    rw [this]
    have := Kp.size_del m x.key
    omega
  have HGL := Lib.hid hgl
  have hlen : (D d).length ≤ 1000000 := Nat.le_trans (h.tabs.len h.up d) hm
  have hvb : ∀ g, ((G d).getD (.slice none 0 0)).ownBlock = some g → g < w.heap.size := fun g hg => ((h.bucket d).lt hg).2
  obtain ⟨vb, hv⟩ : ∃ vb, vb = (G d).getD (.slice none 0 0) := ⟨_, rfl⟩
  rw [← hv] at hlook hvb hin
  obtain ⟨A, cap, hva, -⟩ := (h1.bucket d).recs
  rw [← hv, puts_length] at hva
  subst hva
  have HVB := Lib.hid hvb
  obtain ⟨l, hl⟩ : ∃ l, l = D d := ⟨_, rfl⟩
  rw [← hl] at hlook hin hlen HGL
  have HIN := Lib.hid hin
  have HL := Lib.hid hl
  have HT := Lib.hid h
  have HDD := Lib.hid hd
  have HS := Lib.hid hs
  have HK := Lib.hid hk
  have hleni : (l.length : Int) ≤ 1000000 := by omega
  obtain ⟨c0, c1, -, -⟩ := cells_two h1.blk
  have k0 : (w.alloc (.cells (RcC x) 32)).cell? ⟨w.heap.size, 0, none⟩ = some (.int .i64 x.k) := hbox.cell 0
  have k1 : (w.alloc (.cells (RcC x) 32)).cell? ⟨w.heap.size, 1, none⟩ = some (.string x.key) := hbox.cell 1
  have HW := Lib.hid (show w.heap.size ≠ tb from fun e => by have := h.blk.lt; omega)
  clear hR
  clear hv hl h hd hk hs hm hmx hbox h1 hin hgl hb1 hvb
  go_enter Tryz.func62, Tryz.ntmps62
  go_wp2_with fail
  refine (HM.out _).mono ?_
  rintro e w2 ⟨rfl, rfl⟩
  go_wp2_with fail
  clear c0 c1 k0 k1 hlook
  go_loopw [5, 18] (fun b i wr => ∃ j : Nat, j ≤ l.length ∧ i = .int .i64 (j : Int) ∧ TkAt w tb mb x (.slice A l.length cap) l (Kp.size m) j b wr) (fun _ i _ => l.length - (intOf i).toNat)
  case atStart => exact ⟨0, Nat.zero_le _, rfl, HIN.out⟩
  case round =>
    obtain ⟨j, hj, rfl, hR⟩ := hrel
    have hk1 : wr.cell? ⟨w.heap.size, 1, none⟩ = some (.string x.key) := hR.box.cell 1
    have hk0 := hR.box.lt
    have HR := Lib.hid hR
    by_cases hlt : j < l.length
    · obtain ⟨e, he⟩ : ∃ e, l[j]? = some e := ⟨_, List.getElem?_eq_getElem hlt⟩
      obtain ⟨A', cap', hv, hat⟩ := hR.old.recs
      injection hv with hv1 hv2 hv3
      subst hv1 hv3
      obtain ⟨-, b1, o1, rfl, l1, d0, d1, d2⟩ := hat j _ (puts_at he)
      simp only at d0 d1 d2
      have hji : (j : Int) < (l.length : Int) := by omega
      have HE := Lib.hid he
      clear he hat hR hv2
      by_cases hq : e.1 = x.key
      · have hey := key_eq hq
        have HQ := Lib.hid hq
        have hge := Kp.gone_take_le l (j + 1) x.key
        rw [Kp.gone_take HE.out, if_pos HQ.out] at hge
        have hgl := HGL.out
        have hsz := HS.out
        have hb3 : Below wr.heap.size wr (wr.alloc (.cells #[.int .i64 1, .string e.1, .string e.2] 32)) := (Below.refl _ _).alloc (Nat.le_refl _) _
        have H3 := HR.out.up hb3
        have n3 := Blk.new wr 32 #[.int .i64 1, .string e.1, .string e.2]
        have hlt3 := n3.lt
        have hlt4 := H3.tab.lt
        obtain ⟨g0, hg0⟩ : ∃ g0, g0 = Kp.gone (l.take j) x.key := ⟨_, rfl⟩
        have HG0 := Lib.hid hg0
        rw [← hg0] at hge
        obtain ⟨-, t1, -, f1⟩ := cells_two H3.tab
        rw [← hg0] at t1
        obtain ⟨r0, r1, r2⟩ := cells_three n3
        have HWR := Lib.hid (show wrap64 ((Kp.size m : Int) - (g0 : Int) - ((e.1.size : Int) + (e.2.size : Int))) = (Kp.size m : Int) - (g0 : Int) - ((e.1.size : Int) + (e.2.size : Int)) by unfold wrap64; omega)
        have HSZ := Lib.hid (show e.1.size ≤ 1000000000 ∧ e.2.size ≤ 1000000000 by omega)
        have H3' := Lib.hid H3
        have N3 := Lib.hid n3
        clear hq hge hgl hsz H3 n3 hg0
        go_wp2_with fail
        generalize wr.alloc (.cells #[.int .i64 1, .string e.1, .string e.2] 32) = w3 at *
        clear hk0 hk1 l1 hb3 d0 d1 d2
        go_region_with (first | (go_at_call 97; refine (size_any 1 e.1 e.2 _ HSZ.out.1 HSZ.out.2).mono ?_; rintro e' w4 ⟨rfl, rfl⟩) | fail)
        all_goals
          go_wp2_with fail
          go_roundw
          case rel => exact ⟨j + 1, by omega, by go_num, (H3'.out.skip HE.out HQ.out HW.out (by first | rw [HWR.out, HG0.out] | rw [HG0.out])).up ((Below.refl _ _).alloc (Nat.le_refl _) _).drew⟩
          case measure => simp [intOf]; omega
      · have hey : (e.1.toList == x.key.toList) = false := by
          rw [beq_eq_false_iff_ne]
          intro e'
          rw [Lib.toList_data, Lib.toList_data] at e'
          exact hq (Kp.data_inj e')
        have HQ := Lib.hid hq
        have hdl : (Kp.del (l.take j) x.key).length ≤ 1048576 := by
          have h1 := Kp.del_length (l.take j) x.key
          rw [List.length_take] at h1
          omega
        have HDL := Lib.hid hdl
        have HLT := Lib.hid (show w.heap.size + 1 ≤ wr.heap.size from hk0)
        clear hq hdl
        go_wp2_with (at_builtin; refine wpList_append_put rfl (.tmp 36) (.tmp 38) rfl (k := e.1) (v := e.2) (HR.out.row.below (((Below.refl _ _).alloc (Nat.le_refl _) _).alloc (by simp) _)) (boxed wr _ _ _ _ _).1 (boxed wr _ _ _ _ _).2.1 (boxed wr _ _ _ _ _).2.2 HDL.out (by have := HLT.out; simp; omega) rfl rfl ?_; intro v7 w7 hrow7 hgrow7; have HN := Lib.hid ((HR.out.up (((Below.refl _ _).alloc (Nat.le_refl _) _).alloc (by simp) _)).more HE.out HQ.out (HT.out.blk.lt) (by rw [← HL.out] at HVB; exact HVB.out) hrow7 hgrow7); clear hrow7 hgrow7)
        go_roundw
        case rel => exact ⟨j + 1, by omega, by go_num, HN.out⟩
        case measure => simp [intOf]; omega
    · obtain rfl : j = l.length := by omega
      obtain ⟨hb1, hb2⟩ := hR.whole
      have HB1 := Lib.hid hb1
      have hk2 : wr.cell? ⟨w.heap.size, 0, none⟩ = some (.int .i64 x.k) := hR.box.cell 0
      have hk3 : wr.cell? ⟨w.heap.size, 2, none⟩ = some (.string x.val) := hR.box.cell 2
      obtain ⟨t0, t1, -, f1⟩ := cells_two hb2
      have HB2 := Lib.hid hb2
      have hltb := hb2.lt
      clear hb1 hb2 hR hlt
      have hgl := HGL.out
      have hsz := HS.out
      have HSZ := Lib.hid (show x.key.size ≤ 1000000000 ∧ x.val.size ≤ 1000000000 by omega)
      rcases HK.out with h1 | h1
      · have hkb : (x.k == 1) = true := by rw [h1]; rfl
        have HX := Lib.hid h1
        have HWR := Lib.hid (show IntKind.i64.wrap ((Kp.size m : Int) - ((Kp.gone l x.key : Nat) : Int) + ((x.key.size : Int) + (x.val.size : Int))) = ((Kp.size m : Int) - ((Kp.gone l x.key : Nat) : Int) + ((x.key.size : Int) + (x.val.size : Int))) from (Go.IntWalk.i64_left _).trans (by unfold wrap64; omega))
        have HQ := Lib.hid (HR.out.more_bytes HW.out (IntKind.i64.wrap ((Kp.size m : Int) - ((Kp.gone l x.key : Nat) : Int) + ((x.key.size : Int) + (x.val.size : Int)))) (.cells #[.int .i64 x.k, .string x.key, .string x.val] 32))
        have hdl := Kp.del_length l x.key
        have HDL := Lib.hid (show (Kp.del l x.key).length ≤ 1048576 by omega)
        clear hgl hsz h1 hdl
        go_wp2_with fail
        go_region_with (first | (go_at_call 97; refine (size_any x.k x.key x.val _ HSZ.out.1 HSZ.out.2).mono ?_; rintro e' w4 ⟨rfl, rfl⟩) | fail)
        all_goals
          generalize ((wr.setCell ⟨tb, 1, none⟩ (.int .i64 (IntKind.i64.wrap ((Kp.size m : Int) - ((Kp.gone l x.key : Nat) : Int) + ((x.key.size : Int) + (x.val.size : Int)))))).alloc (.cells #[.int .i64 x.k, .string x.key, .string x.val] 32)).drew = w5 at *
          clear hk0 hk1 hk2 hk3 t0 t1 f1 hltb
          obtain ⟨r0, r1, r2⟩ := cells_three HQ.out.2.2.1
          go_wp2_with (at_builtin; refine wpList_append_put rfl (.tmp 53) (.tmp 55) rfl (k := x.key) (v := x.val) (HQ.out.1.below ((Below.refl _ _).alloc (Nat.le_refl _) _)) ((cells_three (Blk.new w5 _ _)).1.trans (congrArg (fun k => some (Value.int .i64 k)) HX.out)) (cells_three (Blk.new w5 _ _)).2.1 (cells_three (Blk.new w5 _ _)).2.2 HDL.out (by have := HQ.out.2.2.1.lt; simp; omega) rfl rfl ?_; intro v7 w7 hrow7 hgrow7; obtain ⟨A7, cap7, w8, hv7, t7, hrun7, e1, e2⟩ := put_tail HT.out HDD.out HX.out hn (by rw [← HL.out]; exact HQ.out.1) HQ.out.2.1 (by rw [← HL.out, HWR.out]) HQ.out.2.2.2 (by rw [← HL.out]; exact hrow7) hgrow7 HRR.out; rw [← HL.out] at hv7; subst hv7; have HE := Lib.hid (And.intro e1 e2); clear hrow7 hgrow7 e1 e2 r0 r1 r2; have hne : (((Kp.del l x.key).length : Int) + 1 == 0) = false := (by rw [beq_eq_false_iff_ne]; omega))
          go_end0
          exact ⟨rfl, HE.out⟩
      · have hkb : (x.k == 1) = false := by rw [h1]; rfl
        obtain ⟨A6, cap6, hv6⟩ := slice_of_row HB1.out
        subst hv6
        have HX := Lib.hid h1
        obtain ⟨T1, T2⟩ := del_tail HT.out HDD.out h1 hn (by rw [← HL.out]; exact HB1.out) (by rw [← HL.out]; exact HB2.out) HR.out.gr HRR.out
        rw [← HL.out] at T1 T2
        by_cases hemp : Kp.del l x.key = []
        · have hne : (((Kp.del l x.key).length : Int) == 0) = true := by rw [hemp]; rfl
          have HT1 := Lib.hid (T1 hemp)
          clear T1 T2 hgl hsz h1 hemp
          go_wp2_with (at_delete; refine wpList_delete_run _ rfl _ _ rfl HT1.out rfl rfl ?_; intro w8 h8)
          go_end0
          exact ⟨rfl, h8⟩
        · have hne : (((Kp.del l x.key).length : Int) == 0) = false := by
            rw [beq_eq_false_iff_ne]
            intro e
            exact hemp (List.length_eq_zero_iff.mp (by omega))
          obtain ⟨w8, hrun8, h8⟩ := T2 hemp
          have HE := Lib.hid h8
          clear T1 T2 hgl hsz h1 hemp h8
          go_wp2_with fail
          go_end0
          exact ⟨rfl, HE.out⟩
end Go.Proofs.YtimcepoleboldaaGreatDoor
