/- visit, Order of the document. -/
import Derived.Test.YtamadegodenobaaDoorFlowRef
import Derived.Test.YtamadegodenobaaDoorFlowDfs
namespace Go.Proofs.YtamadegodenobaaDoor
open Go.ChangeShapes Go.WideShapes Go.RowKit Go.Deep

theorem row_one (w : World) (base : Nat) (a : Int) (hb : base ≤ w.heap.size) : RowI (w.alloc (.cells #[.int .i64 a] 3)) base (.slice (some ⟨w.heap.size, 0, none⟩) 1 1) [a] :=
  World.ownsRow_lit (base := base) (e := 3) (size := 1) w #[.int .i64 a] 1 hb (by unfold maxLen; omega) rfl
theorem in64_rng {N : Nat} {l : List Int} (hN : N ≤ 1000000) (h : ∀ x ∈ l, 0 ≤ x ∧ x < (N : Int)) : In64 l := fun n hn => by
  have := h n hn
  omega
/-- What a visit comes to. -/
def VisPost (r : Fl.St) (w : World) (e : Ending) (w' : World) : Prop := ∃ u1 u2, e = .returned (.tuple #[u1, u2]) ∧ Nums w' u1 r.1 ∧ Nums w' u2 r.2.reverse ∧ Below w.heap.size w w'

set_option maxRecDepth 20000 in
set_option maxHeartbeats 3200000 in
theorem rvisit_any (bs : List (List Ir.In)) (v : Value) (hN : bs.length ≤ 1000000) : ∀ (n d : Nat) (i : Int) (s : Fl.St) (vm vp : Value) (w : World), Blks w v bs → Fl.Ok bs.length d s → Fl.um bs.length s.1 ≤ n → (0 ≤ i ∧ i < (bs.length : Int)) → i ∉ s.1 → Nums w vm s.1 → Nums w vp s.2.reverse →
    Calls Tryd.prog 27 #[v, .int .i64 i, vm, vp] w (VisPost (Fl.vis (Fl.succs bs) n i s) w)
  | 0, d, i, s, vm, vp, w, hv, ho, hu, h0, h1, hm, hp => by
    have := Fl.um_lt (N := bs.length) (m := s.1) (m' := s.1 ++ [i]) (fun x hx => List.mem_append_left _ hx) h0 h1 (by simp)
    omega
  | n + 1, d, i, s, vm, vp, w, hv, ho, hu, h0, h1, hm, hp => by
    obtain ⟨A, cap, rfl⟩ := hv.form
    have IH := Lib.hid (rvisit_any bs (.slice A bs.length cap) hN n)
    have HI64 := Lib.hid (show In64 [i] from in64_rng hN (fun x hx => by simp at hx; subst hx; exact h0))
    have HO1 := Lib.hid (ho.meet h0 h1)
    have HU1 := Lib.hid (show Fl.um bs.length (s.1 ++ [i]) ≤ n by
      have := Fl.um_lt (N := bs.length) (m := s.1) (m' := s.1 ++ [i]) (fun x hx => List.mem_append_left _ hx) h0 h1 (by simp)
      omega)
    have hb1 : Below w.heap.size w (w.alloc (.cells #[] 3)) := (Below.refl _ _).alloc (Nat.le_refl _) _
    have HR1 := Lib.hid (row_none w w.heap.size (Nat.le_refl _))
    have HM1 := Lib.hid (hm.below hb1)
    have HB1 := Lib.hid hb1
    have HP := Lib.hid hp
    have HLM := Lib.hid (show s.1.length + 1 ≤ 1000001 by have := ho.len; omega)
    have HSC := Lib.hid (fun (W : World) (hb : Below w.heap.size w W) => rsuccs_any bs (.slice A bs.length cap) i W (hv.below hb))
    have HV := Lib.hid (fun (W : World) (hb : Below w.heap.size w W) => hv.below hb)
    have HS64 := Lib.hid (succs_in64 hv i)
    have HSR := Lib.hid (fun t (ht : t ∈ Fl.succs bs i) => (Fl.mem_succs.1 ht).1)
    have HST := Lib.hid (succs_two bs i)
    have HVE := Lib.hid (show Fl.vis (Fl.succs bs) (n + 1) i s = ((Fl.each (Fl.vis (Fl.succs bs) n) (Fl.succs bs i) (s.1 ++ [i], s.2)).1, (Fl.each (Fl.vis (Fl.succs bs) n) (Fl.succs bs i) (s.1 ++ [i], s.2)).2 ++ [i]) from rfl)
    have HOV := Lib.hid (fun j (s' : Fl.St) (hj : 0 ≤ j ∧ j < (bs.length : Int)) (hn : j ∉ s'.1) (hs : Fl.Ok bs.length (d + 1) s') => Fl.ok_vis (S := Fl.succs bs) (fun i t ht => (Fl.mem_succs.1 ht).1) n (d + 1) j s' hj hn hs)
    have HSUB := Lib.hid (fun (l : List Int) (s' : Fl.St) x => Fl.sub_fold (Fl.sub_vis (S := Fl.succs bs) n) l s' x)
    generalize Fl.vis (Fl.succs bs) (n + 1) i s = R at *
    generalize Fl.vis (Fl.succs bs) n = f at *
    generalize Fl.succs bs i = T at *
    clear hb1 hm hp hv ho hu h0 h1
    go_enter Tryd.func27, Tryd.ntmps27
    go_upto_region 2 with fail
    generalize hw1 : w.alloc (.cells #[] 3) = w1 at *
    have hz1 : w.heap.size ≤ w1.heap.size := HB1.out.size
    clear hw1
    go_wp2_with (first
      | (at_builtin; refine wpList_append_nums rfl (.tmp 15) (.tmp 16) rfl HR1.out HM1.out (by have := HLM.out; simp; omega) hz1 rfl rfl ?_; intro v2 w2 hr2 hg2; have HR2 := Lib.hid hr2; have HB2 := Lib.hid (below_row HB1.out HR1.out hg2); clear hr2 hg2)
      | (at_builtin; refine wpList_append_nums rfl (.tmp 18) (.tmp 20) rfl (HR2.out.alloc _) (nums_one w2 i HI64.out) (by have := HLM.out; simp; omega) (by have := HB2.out.size; simp; omega) rfl rfl ?_; intro v3 w3 hr3 hg3; have HR3 := Lib.hid hr3; have HB3 := Lib.hid (below_row_first HB2.out HR2.out hg3); clear hr3 hg3)
      | (go_at_call 14; (with_reducible refine (HSC.out _ HB3.out).mono ?_); rintro e w4 ⟨vt, rfl, hr4, hb4⟩; obtain ⟨AT, ct, rfl, -⟩ := id (hr4.nums HS64.out); have HNT := Lib.hid (hr4.nums HS64.out); have HB4 := Lib.hid (HB3.out.trans (hb4.mono HB3.out.size)); have HM4 := Lib.hid (show Nums w4 v3 (s.1 ++ [i]) from RowI.nums (HR3.out.below hb4) (in64_rng hN HO1.out.rng)); clear hr4 hb4))
    have hti : (T.length : Int) ≤ 2 := by have := HST.out; omega
    have HP4 := Lib.hid (HP.out.below HB4.out)
    obtain ⟨s0, hs0⟩ : ∃ s0 : Fl.St, s0 = (s.1 ++ [i], s.2) := ⟨_, rfl⟩
    rw [← hs0] at HVE
    rw [show s.1 ++ [i] = s0.1 by rw [hs0]] at HU1 HM4
    rw [show s.2 = s0.2 by rw [hs0]] at HP4
    rw [← hs0] at HO1
    clear hs0 hz1 HR1 HM1 HB1 HR2 HB2 HR3 HB3 HP
    go_loopw [12, 2, 3] (fun j u1 u2 wr => ∃ q : Nat, q ≤ T.length ∧ j = .int .i64 (q : Int) ∧ Nums wr u1 (Fl.each f (T.take q) s0).1 ∧ Nums wr u2 (Fl.each f (T.take q) s0).2.reverse ∧ Below w4.heap.size w4 wr ∧ Fl.Ok bs.length (d + 1) (Fl.each f (T.take q) s0)) (fun j _ _ _ => T.length - (intOf j).toNat)
    case atStart => exact ⟨0, Nat.zero_le _, rfl, HM4.out, HP4.out, Below.refl _ _, HO1.out⟩
    case round =>
      obtain ⟨q, hq, rfl, hm, hp, hbr, hok⟩ := hrel
      have HM := Lib.hid hm
      have HP := Lib.hid hp
      have HBR := Lib.hid hbr
      have HOK := Lib.hid hok
      clear hm hp hbr hok
      by_cases hlt : q < T.length
      · have hqi : (q : Int) < (T.length : Int) := by omega
        obtain ⟨t, ht⟩ : ∃ t, T[q]? = some t := ⟨_, List.getElem?_eq_getElem hlt⟩
        obtain ⟨b3, o3, rfl, l3, t1⟩ := (HNT.out.below HBR.out).at ht
        have HUP := Lib.hid (Fl.each_up (f := f) (s := s0) ht)
        have HTR := Lib.hid (HSR.out t (List.mem_of_getElem? ht))
        have HUM := Lib.hid (Nat.le_trans (Fl.um_mono (N := bs.length) (m := s0.1) (m' := (Fl.each f (T.take q) s0).1) (fun x hx => HSUB.out _ _ x hx)) HU1.out)
        clear ht
        generalize Fl.each f (T.take q) s0 = sq at *
        have HC := Lib.hid (rhas_any u2 sq.1 t wr HM.out)
        by_cases hct : t ∈ sq.1
        · have HST2 := Lib.hid (show Fl.est f sq t = sq by unfold Fl.est; rw [if_pos hct])
          have hd : decide (t ∈ sq.1) = true := by simpa using hct
          rw [hd] at HC
          clear hct hd
          go_wp2_with (go_at_call 26; refine HC.out.mono ?_; rintro e w5 ⟨rfl, rfl⟩)
          go_roundw
          case rel => exact ⟨q + 1, by omega, by go_num, by rw [HUP.out, HST2.out]; exact HM.out, by rw [HUP.out, HST2.out]; exact HP.out, HBR.out, by rw [HUP.out, HST2.out]; exact HOK.out⟩
          case measure => simp [intOf]; omega
        · have HST2 := Lib.hid (show Fl.est f sq t = f t sq by unfold Fl.est; rw [if_neg hct])
          have hd : decide (t ∈ sq.1) = false := by simpa using hct
          rw [hd] at HC
          have HREC := Lib.hid (IH.out (d + 1) t sq u2 u3 wr (HV.out wr (HB4.out.trans (HBR.out.mono HB4.out.size))) HOK.out HUM.out HTR.out hct HM.out HP.out)
          have HOK2 := Lib.hid (HOV.out t sq HTR.out hct HOK.out)
          clear hct hd
          go_wp2_with (first
            | (go_at_call 26; refine HC.out.mono ?_; rintro e w5 ⟨rfl, rfl⟩)
            | (go_at_call 27; refine HREC.out.mono ?_; rintro e w6 ⟨x1, x2, rfl, hx1, hx2, hb6⟩; have HX1 := Lib.hid hx1; have HX2 := Lib.hid hx2; have HB6 := Lib.hid (HBR.out.trans (hb6.mono HBR.out.size)); clear hx1 hx2 hb6))
          go_roundw
          case rel => exact ⟨q + 1, by omega, by go_num, by rw [HUP.out, HST2.out]; exact HX1.out, by rw [HUP.out, HST2.out]; exact HX2.out, HB6.out, by rw [HUP.out, HST2.out]; exact HOK2.out⟩
          case measure => simp [intOf]; omega
      · obtain rfl : q = T.length := by omega
        have hall : T.take T.length = T := List.take_of_length_le (Nat.le_refl _)
        rw [hall] at HM HP HOK
        generalize Fl.each f T s0 = r at *
        have HLP := Lib.hid (show r.2.length + 1 ≤ 1000001 by have h1 := HOK.out.put; have h2 := HOK.out.len; omega)
        have HBW := Lib.hid (HB4.out.trans (HBR.out.mono HB4.out.size))
        have HLIT := Lib.hid (row_one wr wr.heap.size i (Nat.le_refl _))
        have HBA := Lib.hid (show Below wr.heap.size wr (wr.alloc (.cells #[.int .i64 i] 3)) from (Below.refl _ _).alloc (Nat.le_refl _) _)
        have HPA := Lib.hid (HP.out.below HBA.out)
        have hza : wr.heap.size ≤ (wr.alloc (.cells #[.int .i64 i] 3)).heap.size := HBA.out.size
        have HRG := Lib.hid (show In64 ([i] ++ r.2.reverse) from fun n hn => by
          rcases List.mem_append.1 hn with h | h
          · exact HI64.out n h
          · exact in64_rng hN HOK.out.rng n (HOK.out.sub n (List.mem_reverse.1 h)))
        clear hq hall
        go_upto_region 11 with fail
        generalize wr.alloc (.cells #[.int .i64 i] 3) = wa at *
        go_wp2_with (at_builtin; refine wpList_append_nums rfl (.tmp 52) (.tmp 53) rfl HLIT.out HPA.out (by have := HLP.out; simp; omega) hza rfl rfl ?_; intro v9 w9 hr9 hg9; have HR9 := Lib.hid (RowI.nums hr9 HRG.out); have HB9 := Lib.hid (below_row HBA.out HLIT.out hg9); clear hr9 hg9)
        go_ret2
        refine ⟨_, _, rfl, ?_, ?_, HBW.out.trans (HB9.out.mono HBW.out.size)⟩
        · rw [HVE.out]
          exact HM.out.below HB9.out
        · rw [HVE.out]
          show Nums w9 v9 (r.2 ++ [i]).reverse
          rw [List.reverse_append]
          exact HR9.out

set_option maxRecDepth 20000 in
set_option maxHeartbeats 1600000 in
theorem rorder_any (bs : List (List Ir.In)) (v : Value) (w : World) (hv : Blks w v bs) (hN : bs.length ≤ 1000000) :
    Calls Tryd.prog 17 #[v] w fun e w' => ∃ u, e = .returned u ∧ Nums w' u (if bs.length = 0 then [] else (Fl.post bs).reverse) ∧ Below w.heap.size w w' := by
  obtain ⟨A, cap, rfl⟩ := hv.form
  by_cases h0 : bs.length = 0
  · rw [if_pos h0]
    have h0e : ((bs.length : Int) == 0) = true := by simp [h0]
    clear hv h0
    go_enter Tryd.func17, Tryd.ntmps17
    go_wp2_with fail
    go_ret
    exact ⟨_, rfl, (RowI.nil w 0).nums (fun n hn => (nomatch hn)), Below.refl _ _⟩
  · rw [if_neg h0]
    have h0e : ((bs.length : Int) == 0) = false := by
      rw [beq_eq_false_iff_ne]
      omega
    have hnil : Nums w (.slice none 0 0) [] := (RowI.nil w 0).nums (fun n hn => (nomatch hn))
    have HVI := Lib.hid (rvisit_any bs (.slice A bs.length cap) hN bs.length 0 0 ([], []) (.slice none 0 0) (.slice none 0 0) w hv (Fl.ok_start _) (by rw [Fl.um_nil]; exact Nat.le_refl _) ⟨Int.le_refl _, by omega⟩ (fun h => (nomatch h)) hnil hnil)
    have HPO := Lib.hid (show Fl.post bs = (Fl.vis (Fl.succs bs) bs.length 0 ([], [])).2 from rfl)
    generalize Fl.vis (Fl.succs bs) bs.length 0 ([], []) = r at *
    generalize Fl.post bs = P at *
    clear hv h0 hnil
    go_enter Tryd.func17, Tryd.ntmps17
    go_wp2_with fail
    refine HVI.out.mono ?_
    rintro e w2 ⟨u1, u2, rfl, h1, h2, hb⟩
    have H2 := Lib.hid (And.intro h2 hb)
    clear h1 h2 hb
    go_wp2_with fail
    go_ret
    exact ⟨_, rfl, by rw [HPO.out]; exact H2.out.1, H2.out.2⟩
end Go.Proofs.YtamadegodenobaaDoor
