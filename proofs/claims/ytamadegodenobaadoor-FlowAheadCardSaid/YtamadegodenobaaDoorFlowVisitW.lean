/- The walk of the closure that calls itself. -/
import Derived.Test.YtamadegodenobaaDoorFlowVisit
import Derived.IntWalk
namespace Go.Proofs.YtamadegodenobaaDoor
open Go.ChangeShapes Go.WideShapes Go.RowKit Go.Deep

/-- What a visit comes to. -/
def VsPost (bs : List (List Ir.In)) (A : Option Addr) (cap : Nat) (w0 W : World) (u : Value) (r : Fl.St) (e : Ending) (W' : World) : Prop := e = .returned (.tuple #[]) ∧ ∃ u', Vs bs A cap w0 W' r u' ∧ Vch w0.heap.size u W W' u'

set_option maxRecDepth 20000 in
set_option maxHeartbeats 3200000 in
theorem visit_any (bs : List (List Ir.In)) (A : Option Addr) (cap : Nat) (w0 : World) (hv : Blks w0 (.slice A bs.length cap) bs) (ht : Tbl w0) (hN : bs.length ≤ 1000000) : ∀ (n d k : Nat) (s : Fl.St) (u : Value) (W : World), Vs bs A cap w0 W s u → Fl.Ok bs.length d s → Fl.um bs.length s.1 ≤ n → k < bs.length → (k : Int) ∉ s.1 →
    Calls Tryd.prog 20 #[.int .i64 (k : Int), .pointer (some ⟨w0.heap.size + 3, 0, none⟩), .pointer (some ⟨w0.heap.size, 0, none⟩), .pointer (some ⟨w0.heap.size + 4, 0, none⟩), .pointer (some ⟨w0.heap.size + 1, 0, none⟩)] W (VsPost bs A cap w0 W u (Fl.vis (Fl.succs bs) n (k : Int) s))
  | 0, d, k, s, u, W, hs, ho, hu, h0, h1 => by
    have := Fl.um_lt (N := bs.length) (m := s.1) (m' := s.1 ++ [(k : Int)]) (fun x hx => List.mem_append_left _ hx) ⟨by omega, by omega⟩ h1 (by simp)
    omega
  | n + 1, d, k, s, u, W, hs, ho, hu, h0, h1 => by
    have IH := Lib.hid (visit_any bs A cap w0 hv ht hN n)
    have h0' : 0 ≤ (k : Int) ∧ (k : Int) < (bs.length : Int) := ⟨by omega, by omega⟩
    have HI64 := Lib.hid (show In64 [(k : Int)] from fun x hx => by simp at hx; subst hx; omega)
    have HO1 := Lib.hid (ho.meet h0' h1)
    have HU1 := Lib.hid (show Fl.um bs.length (s.1 ++ [(k : Int)]) ≤ n by
      have := Fl.um_lt (N := bs.length) (m := s.1) (m' := s.1 ++ [(k : Int)]) (fun x hx => List.mem_append_left _ hx) h0' h1 (by simp)
      omega)
    have HSC := Lib.hid (fun (W' : World) (hb : Below w0.heap.size w0 W') => succs_any bs (.slice A bs.length cap) (k : Int) W' (hv.below hb) (ht.below hb))
    have HS64 := Lib.hid (succs_in64 hv (k : Int))
    have HSR := Lib.hid (fun t (ht : t ∈ Fl.succs bs (k : Int)) => (Fl.mem_succs.1 ht).1)
    have HST := Lib.hid (succs_two bs (k : Int))
    have HVE := Lib.hid (show Fl.vis (Fl.succs bs) (n + 1) (k : Int) s = ((Fl.each (Fl.vis (Fl.succs bs) n) (Fl.succs bs (k : Int)) (s.1 ++ [(k : Int)], s.2)).1, (Fl.each (Fl.vis (Fl.succs bs) n) (Fl.succs bs (k : Int)) (s.1 ++ [(k : Int)], s.2)).2 ++ [(k : Int)]) from rfl)
    have HOV := Lib.hid (fun j (s' : Fl.St) (hj : 0 ≤ j ∧ j < (bs.length : Int)) (hn : j ∉ s'.1) (hs : Fl.Ok bs.length (d + 1) s') => Fl.ok_vis (S := Fl.succs bs) (fun i t ht => (Fl.mem_succs.1 ht).1) n (d + 1) j s' hj hn hs)
    have HSUB := Lib.hid (fun (l : List Int) (s' : Fl.St) x => Fl.sub_fold (Fl.sub_vis (S := Fl.succs bs) n) l s' x)
    generalize Fl.vis (Fl.succs bs) (n + 1) (k : Int) s = R at *
    generalize Fl.vis (Fl.succs bs) n = f at *
    generalize Fl.succs bs (k : Int) = T at *
    have hki : (k : Int) < (bs.length : Int) := h0'.2
    have a0 : W.cell? ⟨w0.heap.size + 3, 0, none⟩ = some (.slice (some ⟨w0.heap.size + 2, 0, none⟩) bs.length bs.length) := hs.mv.cell 0
    obtain ⟨cs, m1, m2⟩ := id hs.mb
    have a1 : W.cell? ⟨w0.heap.size + 2, k, none⟩ = some (.bool (decide ((k : Int) ∈ s.1))) := (m1.cell k).trans (m2 k h0)
    have a2 := m1.frozen k
    have hs1 := hs.meet k
    have hc1 : Vch w0.heap.size u W (W.setCell ⟨w0.heap.size + 2, k, none⟩ (.bool true)) u := Vch.meet k _
    have HS1 := Lib.hid (And.intro hs1 hc1)
    have b0 : (W.setCell ⟨w0.heap.size + 2, k, none⟩ (.bool true)).cell? ⟨w0.heap.size, 0, none⟩ = some (.slice A bs.length cap) := hs1.bx.cell 0
    clear hs ho hu h0 h1 h0' m1 m2 hs1 hc1 hv ht
    go_enter Tryd.func20, Tryd.ntmps20
    go_upto_region 1 with fail
    generalize W.setCell ⟨w0.heap.size + 2, k, none⟩ (.bool true) = w1 at *
    clear a0 a1 a2
    go_wp2_with (go_at_call 12; (with_reducible refine (HSC.out _ HS1.out.1.old).mono ?_); rintro e w2 ⟨vt, rfl, hr2, hb2⟩; obtain ⟨AT, ct, rfl, -⟩ := id (hr2.nums HS64.out); have HNT := Lib.hid (hr2.nums HS64.out); have HRT := Lib.hid hr2; have HS2 := Lib.hid (And.intro (HS1.out.1.below hb2) (HS1.out.2.trans (Vch.below hb2))); clear hr2 hb2)
    have hti : (T.length : Int) ≤ 2 := by have := HST.out; omega
    have HTK := Lib.hid (fun (wr : World) (u' : Value) (hc : Vch w0.heap.size u w2 wr u') => nums_move HNT.out hc.size (fun a e hb => by
      subst e
      have q1 : w1.heap.size ≤ a.block := (World.ownsRow.lt HRT.out a.block rfl).1
      have q2 := HS1.out.1.vv.lt
      exact hc.blk a.block hb (by omega) (by omega) (fun e => by have := (HS1.out.1.own _ e).2; omega)))
    obtain ⟨s0, hs0⟩ : ∃ s0 : Fl.St, s0 = (s.1 ++ [(k : Int)], s.2) := ⟨_, rfl⟩
    rw [← hs0] at HVE HO1 HS2
    rw [show s.1 ++ [(k : Int)] = s0.1 by rw [hs0]] at HU1
    clear hs0 b0 HS1 HRT
    go_loopw [15] (fun j wr => ∃ q : Nat, q ≤ T.length ∧ j = .int .i64 (q : Int) ∧ Fl.Ok bs.length (d + 1) (Fl.each f (T.take q) s0) ∧ ∃ u', Vs bs A cap w0 wr (Fl.each f (T.take q) s0) u' ∧ Vch w0.heap.size u w2 wr u') (fun j _ => T.length - (intOf j).toNat)
    case atStart => exact ⟨0, Nat.zero_le _, rfl, HO1.out, u, HS2.out.1, Vch.refl _ _ _⟩
    case round =>
      obtain ⟨q, hq, rfl, hok, u', hvs, hch⟩ := hrel
      have HVS := Lib.hid (And.intro hvs hch)
      have HOK := Lib.hid hok
      clear hvs hch hok
      by_cases hlt : q < T.length
      · have hqi : (q : Int) < (T.length : Int) := by omega
        obtain ⟨t, htq⟩ : ∃ t, T[q]? = some t := ⟨_, List.getElem?_eq_getElem hlt⟩
        obtain ⟨b3, o3, rfl, l3, t1⟩ := (HTK.out wr u' HVS.out.2).at htq
        have htr := HSR.out t (List.mem_of_getElem? htq)
        obtain ⟨tk, rfl⟩ : ∃ tk : Nat, t = (tk : Int) := ⟨t.toNat, by omega⟩
        have htk : (tk : Int) < (bs.length : Int) := htr.2
        have htn : tk < bs.length := by omega
        have HUP := Lib.hid (Fl.each_up (f := f) (s := s0) htq)
        have HUM := Lib.hid (Nat.le_trans (Fl.um_mono (N := bs.length) (m := s0.1) (m' := (Fl.each f (T.take q) s0).1) (fun x hx => HSUB.out _ _ x hx)) HU1.out)
        generalize Fl.each f (T.take q) s0 = sq at *
        obtain ⟨cs2, m1, m2⟩ := id HVS.out.1.mb
        have c0 : wr.cell? ⟨w0.heap.size + 3, 0, none⟩ = some (.slice (some ⟨w0.heap.size + 2, 0, none⟩) bs.length bs.length) := HVS.out.1.mv.cell 0
        have c1 : wr.cell? ⟨w0.heap.size + 2, tk, none⟩ = some (.bool (decide ((tk : Int) ∈ sq.1))) := (m1.cell tk).trans (m2 tk htn)
        have c2 : wr.cell? ⟨w0.heap.size + 4, 0, none⟩ = some (.func (.func 20) #[] #[.pointer (some ⟨w0.heap.size + 3, 0, none⟩), .pointer (some ⟨w0.heap.size, 0, none⟩), .pointer (some ⟨w0.heap.size + 4, 0, none⟩), .pointer (some ⟨w0.heap.size + 1, 0, none⟩)]) := HVS.out.1.vv.cell 0
        by_cases hct : (tk : Int) ∈ sq.1
        · have HST2 := Lib.hid (show Fl.est f sq (tk : Int) = sq by unfold Fl.est; rw [if_pos hct])
          have hd : decide ((tk : Int) ∈ sq.1) = true := by simpa using hct
          rw [hd] at c1
          clear hct hd htq m1 m2 htr htn
          go_wp2_with fail
          go_roundw
          case rel => exact ⟨q + 1, by omega, by go_num, by rw [HUP.out, HST2.out]; exact HOK.out, u', by rw [HUP.out, HST2.out]; exact HVS.out.1, HVS.out.2⟩
          case measure => simp [intOf]; omega
        · have HST2 := Lib.hid (show Fl.est f sq (tk : Int) = f (tk : Int) sq by unfold Fl.est; rw [if_neg hct])
          have hd : decide ((tk : Int) ∈ sq.1) = false := by simpa using hct
          rw [hd] at c1
          have HREC := Lib.hid (IH.out (d + 1) tk sq u' wr HVS.out.1 HOK.out HUM.out htn hct)
          have HOK2 := Lib.hid (HOV.out (tk : Int) sq htr hct HOK.out)
          clear hct hd htq m1 m2 htr htn
          go_wp2_with (go_at_call 20; refine HREC.out.mono ?_; rintro e w6 ⟨rfl, u6, hvs6, hch6⟩; have HVS6 := Lib.hid (And.intro hvs6 (HVS.out.2.trans hch6)); clear hvs6 hch6)
          go_roundw
          case rel => exact ⟨q + 1, by omega, by go_num, by rw [HUP.out, HST2.out]; exact HOK2.out, u6, by rw [HUP.out, HST2.out]; exact HVS6.out.1, HVS6.out.2⟩
          case measure => simp [intOf]; omega
      · obtain rfl : q = T.length := by omega
        have hall : T.take T.length = T := List.take_of_length_le (Nat.le_refl _)
        rw [hall] at HVS HOK
        generalize Fl.each f T s0 = r at *
        have HLP := Lib.hid (show r.2.length + 1 ≤ 1000001 by have h1 := HOK.out.put; have h2 := HOK.out.len; omega)
        have c0 : wr.cell? ⟨w0.heap.size + 1, 0, none⟩ = some u' := HVS.out.1.ord.cell 0
        have hsz := HVS.out.1.vv.lt
        have HRG := Lib.hid (show In64 (r.2 ++ [(k : Int)]) from fun n hn => by
          rcases List.mem_append.1 hn with h | h
          · have := HOK.out.rng n (HOK.out.sub n h)
            omega
          · exact HI64.out n h)
        clear hq hall
        go_wp2_with (at_builtin; refine wpList_append_nums2 rfl (.tmp 28) (.tmp 30) rfl (HVS.out.1.row.alloc _) (nums_one wr (k : Int) HI64.out) (by have := HLP.out; simp; omega) (by simp; omega) rfl rfl ?_; intro v9 w9 hr9 hg9 hv9; obtain ⟨A9, c9, e9, -⟩ := id (hr9.nums HRG.out); rw [show (r.2 ++ [(k : Int)]).length = r.2.length + 1 by simp] at e9; subst e9; have ho9 := (HVS.out.1.ord.alloc _).grown hg9 (fun e => by have := HVS.out.1.own _ e.symm; omega); have f9 := ho9.frozen 0; have d9 : w9.cell? ⟨w0.heap.size + 1, 0, none⟩ = some u' := ho9.cell 0; have HV9 := Lib.hid (HVS.out.1.put hr9 hg9); have HC9 := Lib.hid (Vch.put (H := w0.heap.size) hg9 hv9); clear hr9 hg9 hv9 ho9)
        go_end0
        exact ⟨rfl, _, by rw [HVE.out]; exact HV9.out, HS2.out.2.trans (HVS.out.2.trans HC9.out)⟩
end Go.Proofs.YtamadegodenobaaDoor
