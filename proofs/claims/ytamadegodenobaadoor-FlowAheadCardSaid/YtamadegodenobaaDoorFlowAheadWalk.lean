/- The walk of FlowAhead: true of any pairs. -/
import Derived.Test.YtamadegodenobaaDoorFlowAheadIn
import Derived.Test.YtamadegodenobaaDoorFlowTop
import Derived.Test.YtamadegodenobaaDoorFlowOrder
import Derived.Test.YtamadegodenobaaDoorFlowRvisit
import Derived.Test.YtamadegodenobaaDoorFlowNextWalk
namespace Go.Proofs.YtamadegodenobaaDoor
open Go.ChangeShapes Go.WideShapes Go.RowKit Go.Deep

set_option maxRecDepth 20000 in
set_option maxHeartbeats 6400000 in
theorem ahead_walk (v : Value) (l : List (Int × Int)) (w : World) (hv : Tgs w v l) (ht : Tbl w) :
    Calls Tryd.prog 8 #[v] w fun e w' => e = .returned (.bool true) ∧ Below w.heap.size w w' := by
  obtain ⟨A, cap, rfl⟩ := hv.form
  by_cases hbig : 30 < l.length
  · have hbi : (30 : Int) < (l.length : Int) := by omega
    clear hbig hv ht
    go_enter Tryd.func8, Tryd.ntmps8
    go_wp2_with fail
    go_ret
    exact ⟨rfl, Below.refl _ _⟩
  · have hbi : (l.length : Int) ≤ 30 := by omega
    have HN := Lib.hid (show l.length ≤ 30 by omega)
    have HV := Lib.hid (fun (W : World) (hb : Below w.heap.size w W) => And.intro (hv.below hb) (ht.below hb))
    have HB1 := Lib.hid (show Below w.heap.size w (w.alloc (.cells #[] 37)) from (Below.refl _ _).alloc (Nat.le_refl _) _)
    have HK1 := Lib.hid (Bk.nil w)
    clear hbig hv ht
    go_enter Tryd.func8, Tryd.ntmps8
    go_upto_region 4 with fail
    generalize w.alloc (.cells #[] 37) = w1 at *
    go_wp2_with fail
    go_loopw [5, 3] (fun j u wr => ∃ (q : Nat) (bs : List (List Ir.In)), q ≤ l.length ∧ j = .int .i64 (q : Int) ∧ bs.length = q ∧ UpTo bs ∧ Bk w.heap.size wr u bs ∧ Below w.heap.size w wr) (fun j _ _ => l.length - (intOf j).toNat)
    case atStart => exact ⟨0, [], Nat.zero_le _, rfl, rfl, fun j b h => by simp at h, HK1.out, HB1.out⟩
    case round =>
      obtain ⟨q, bs, hq, rfl, hbl, hup, hbk, hbr⟩ := hrel
      have HUP := Lib.hid (And.intro hbl hup)
      have HBK := Lib.hid hbk
      have HBR := Lib.hid hbr
      clear hup hbk hbr hbl
      by_cases hlt : q < l.length
      · have hqi : (q : Int) < (l.length : Int) := by omega
        obtain ⟨p, hp⟩ : ∃ p, l[q]? = some p := ⟨_, List.getElem?_eq_getElem hlt⟩
        obtain ⟨bl, off, rfl, l1, c0, c1, hx, hy⟩ := (HV.out wr HBR.out).1.at hp
        obtain ⟨x, y⟩ := p
        obtain ⟨d, hd⟩ : ∃ d : Nat, d = l.length - q := ⟨_, rfl⟩
        have hdi : (l.length : Int) + 1 - (q : Int) - 1 = (d : Int) := by omega
        obtain ⟨k1, hk1, hm1⟩ := rest_mod x d hx.1 (by omega)
        obtain ⟨k2, hk2, hm2⟩ := rest_mod y d hy.1 (by omega)
        have hcv1 := byte_i64 hx
        have hcv2 := byte_i64 hy
        have hd0 : ¬ (d : Int) = 0 := by omega
        have hw1 : IntKind.i64.wrap (k1 : Int) = (k1 : Int) := IntWalk.i64_in _ (by have := HN.out; omega)
        have hw2 : IntKind.i64.wrap (k2 : Int) = (k2 : Int) := IntWalk.i64_in _ (by have := HN.out; omega)
        have hki1 : (k1 : Int) ≤ 30 := by have := HN.out; omega
        have hki2 : (k2 : Int) ≤ 30 := by have := HN.out; omega
        have HKK := Lib.hid (And.intro hk1 (And.intro hk2 hd))
        clear hp hx hy hk1 hk2 hd
        go_upto_region 10 with fail
        obtain ⟨ws, hrw, hbw⟩ := HBK.out
        have HWS := Lib.hid (And.intro hrw hbw)
        have HC := Lib.hid (show ((wr.alloc (.cells #[.int .i64 13, .int .i64 ((q : Int) + 1 + (k2 : Int)), .int .i64 0, .int .i64 ((q : Int) + 1 + (k1 : Int)), .string ⟨#[]⟩, .slice none 0 0] 36)).alloc (.cells #[.slice (some ⟨wr.heap.size, 0, none⟩) 1 1] 37)).cell? ⟨wr.heap.size + 1, 0, none⟩ = some (.slice (some ⟨wr.heap.size, 0, none⟩) 1 1) from by
          have h1 := (Blk.new (wr.alloc (.cells #[.int .i64 13, .int .i64 ((q : Int) + 1 + (k2 : Int)), .int .i64 0, .int .i64 ((q : Int) + 1 + (k1 : Int)), .string ⟨#[]⟩, .slice none 0 0] 36)) 37 #[.slice (some ⟨wr.heap.size, 0, none⟩) 1 1]).cell 0
          rw [show (wr.alloc (.cells #[.int .i64 13, .int .i64 ((q : Int) + 1 + (k2 : Int)), .int .i64 0, .int .i64 ((q : Int) + 1 + (k1 : Int)), .string ⟨#[]⟩, .slice none 0 0] 36)).heap.size = wr.heap.size + 1 by simp] at h1
          exact h1)
        have HQL := Lib.hid (And.intro hq hlt)
        clear hrw hbw c0 c1 hm1 hm2 hcv1 hcv2 hd0 hw1 hw2 hdi
        go_wp2_with (at_builtin; refine wpList_push_blk rfl (.tmp 54) (.tmp 59) rfl (g := wr.heap.size + 1) (base := w.heap.size) ((HWS.out.1.alloc _).alloc _) HC.out rfl (by have := HUP.out.1; have := HN.out; have := HQL.out; omega) (by have := HBR.out.size; simp; omega) rfl rfl ?_; intro v9 w9 hr9 hg9; have HK9 := Lib.hid (Bk.push (x := ⟨13, (q : Int) + 1 + (k2 : Int), 0, (q : Int) + 1 + (k1 : Int), ⟨#[]⟩, []⟩) ⟨rfl, by show (0 : Int) ≤ 13 ∧ (13 : Int) ≤ 100; omega, by show 0 ≤ (q : Int) + 1 + (k2 : Int) ∧ (q : Int) + 1 + (k2 : Int) ≤ 100; omega, by show (0 : Int) ≤ 0 ∧ (0 : Int) ≤ 100; omega, by show 0 ≤ (q : Int) + 1 + (k1 : Int) ∧ (q : Int) + 1 + (k1 : Int) ≤ 100; omega⟩ HWS.out.1 HWS.out.2 rfl rfl hr9 hg9); have HB9 := Lib.hid (show Below w.heap.size w w9 from ((HBR.out.alloc HBR.out.size _).alloc (by have := HBR.out.size; simp; omega) _).grown hg9 (by have := HBR.out.size; simp; omega) (fun k e => (World.ownsRow.lt HWS.out.1 k e).1)); clear hr9 hg9)
        go_roundw
        case rel => exact ⟨q + 1, bs ++ [[⟨13, (q : Int) + 1 + (k2 : Int), 0, (q : Int) + 1 + (k1 : Int), ⟨#[]⟩, []⟩]], by have := HQL.out; omega, by go_num, by rw [List.length_append, HUP.out.1]; rfl, HUP.out.2.push (.inl ⟨rfl, by show (bs.length : Int) < (q : Int) + 1 + (k1 : Int); have := HUP.out.1; omega, by show (bs.length : Int) < (q : Int) + 1 + (k2 : Int); have := HUP.out.1; omega⟩), HK9.out, HB9.out⟩
        case measure => simp [intOf]; have := HQL.out; omega
      · obtain rfl : q = l.length := by omega
        obtain ⟨ws, hrw, hbw⟩ := HBK.out
        have HWS := Lib.hid (And.intro hrw hbw)
        have HC := Lib.hid (show ((wr.alloc (.cells #[.int .i64 14, .int .i64 0, .int .i64 0, .int .i64 0, .string ⟨#[]⟩, .slice none 0 0] 36)).alloc (.cells #[.slice (some ⟨wr.heap.size, 0, none⟩) 1 1] 37)).cell? ⟨wr.heap.size + 1, 0, none⟩ = some (.slice (some ⟨wr.heap.size, 0, none⟩) 1 1) from by
          have h1 := (Blk.new (wr.alloc (.cells #[.int .i64 14, .int .i64 0, .int .i64 0, .int .i64 0, .string ⟨#[]⟩, .slice none 0 0] 36)) 37 #[.slice (some ⟨wr.heap.size, 0, none⟩) 1 1]).cell 0
          rw [show (wr.alloc (.cells #[.int .i64 14, .int .i64 0, .int .i64 0, .int .i64 0, .string ⟨#[]⟩, .slice none 0 0] 36)).heap.size = wr.heap.size + 1 by simp] at h1
          exact h1)
        clear hrw hbw hq hlt
        go_upto_region 12 with (at_builtin; refine wpList_push_blk rfl (.tmp 61) (.tmp 64) rfl (g := wr.heap.size + 1) (base := w.heap.size) ((HWS.out.1.alloc _).alloc _) HC.out rfl (by have := HUP.out.1; have := HN.out; omega) (by have := HBR.out.size; simp; omega) rfl rfl ?_; intro v9 w9 hr9 hg9; have HK9 := Lib.hid (Bk.push (x := ⟨14, 0, 0, 0, ⟨#[]⟩, []⟩) ⟨rfl, by show (0 : Int) ≤ 14 ∧ (14 : Int) ≤ 100; omega, by show (0 : Int) ≤ 0 ∧ (0 : Int) ≤ 100; omega, by show (0 : Int) ≤ 0 ∧ (0 : Int) ≤ 100; omega, by show (0 : Int) ≤ 0 ∧ (0 : Int) ≤ 100; omega⟩ HWS.out.1 HWS.out.2 rfl rfl hr9 hg9); have HB9 := Lib.hid (show Below w.heap.size w w9 from ((HBR.out.alloc HBR.out.size _).alloc (by have := HBR.out.size; simp; omega) _).grown hg9 (by have := HBR.out.size; simp; omega) (fun k e => (World.ownsRow.lt HWS.out.1 k e).1)); clear hr9 hg9)
        have HU9 := Lib.hid (HUP.out.2.push (x := ⟨14, 0, 0, 0, ⟨#[]⟩, []⟩) (.inr rfl))
        have HL9 := Lib.hid (show (bs ++ [[(⟨14, 0, 0, 0, ⟨#[]⟩, []⟩ : Ir.In)]]).length ≤ 31 ∧ (bs ++ [[(⟨14, 0, 0, 0, ⟨#[]⟩, []⟩ : Ir.In)]]).length ≠ 0 by
          rw [List.length_append, HUP.out.1]
          have := HN.out
          simp
          omega)
        generalize bs ++ [[(⟨14, 0, 0, 0, ⟨#[]⟩, []⟩ : Ir.In)]] = cs at *
        clear HC HWS HBK HUP
        have hbk := HK9.out.blks
        have hup : ∀ i t, t ∈ Fl.succs cs i → i < t := fun i t h => HU9.out.up i t h
        have htb : Tbl w9 := (HV.out w9 HB9.out).2
        have HO1 := Lib.hid (show Calls Tryd.prog 10 #[v9] w9 fun e w' => ∃ u, e = .returned u ∧ Nums w' u (Fl.ord cs) ∧ Below w9.heap.size w9 w' ∧ ∀ b, u.ownBlock = some b → w9.heap.size ≤ b from order_any cs _ w9 hbk htb (by have := HL9.out.1; omega))
        have HO2 := Lib.hid (fun (W : World) (hb : Below w9.heap.size w9 W) => (show Calls Tryd.prog 17 #[v9] W fun e w' => ∃ u, e = .returned u ∧ Nums w' u (Fl.ord cs) ∧ Below W.heap.size W w' from rorder_any cs _ W (hbk.below hb) (by have := HL9.out.1; omega)))
        have HS := Lib.hid (fun (i : Int) (W : World) (hb : Below w9.heap.size w9 W) => (succs_any cs v9 i W (hbk.below hb) (htb.below hb)).mono fun e w' h => h.numsP (succs_in64 hbk i))
        have HLN := Lib.hid (show (Fl.ord cs).length ≤ 31 from Nat.le_trans Fl.ord_len HL9.out.1)
        have HLP := Lib.hid (show 0 < (Fl.ord cs).length from List.length_pos_of_mem (Fl.ord_zero (bs := cs) HL9.out.2))
        have HAH := Lib.hid (fun (p q : Nat) (i t : Int) (hp : (Fl.ord cs)[p]? = some i) (ht : t ∈ Fl.succs cs i) (hq : (Fl.ord cs)[q]? = some t) => Fl.ord_ahead hup hp ht hq)
        have HCL := Lib.hid (fun (x t : Int) hx ht => Fl.ord_closed (bs := cs) (x := x) (t := t) hx ht)
        have HTW := Lib.hid (fun i => succs_two cs i)
        generalize Fl.ord cs = L at *
        clear hbk hup htb HK9 HU9 HB1 HK1 HBR
        go_wp2_with (first
          | (go_at_call 10; (with_reducible refine HO1.out.mono ?_); rintro e w6 ⟨v6, rfl, hr, hb, -⟩; obtain ⟨AL, cl, rfl, -⟩ := id hr; have N6 := Lib.hid hr; have B6 := Lib.hid hb; clear hr hb)
          | (go_at_call 17; (with_reducible refine (HO2.out _ B6.out).mono ?_); rintro e w7 ⟨v7, rfl, hr, hb⟩; have N7 := Lib.hid hr; have M7 := Lib.hid (N6.out.below hb); have B7 := Lib.hid (B6.out.trans (hb.mono B6.out.size)); clear hr hb)
          | (go_at_call 16; (with_reducible refine (fsame_same _ v7 L w7 M7.out N7.out (Nat.le_trans HLN.out (by decide))).mono ?_); rintro e w8 ⟨rfl, hb⟩; have B8 := Lib.hid (B7.out.trans (hb.mono B7.out.size)); have M8 := Lib.hid (M7.out.below hb); clear hb))
        have hli : (L.length : Int) ≤ 31 := by have := HLN.out; omega
        have hlp : (0 : Int) < (L.length : Int) := by have := HLP.out; omega
        go_loopw [9] (fun j wr => ∃ p : Nat, p ≤ L.length ∧ j = .int .i64 (p : Int) ∧ Nums wr (.slice AL L.length cl) L ∧ Below w9.heap.size w9 wr) (fun j _ => L.length - (intOf j).toNat)
        case atStart => exact ⟨0, Nat.zero_le _, rfl, M8.out, B8.out⟩
        case round =>
          obtain ⟨p, hp, rfl, hnu, hbr⟩ := hrel
          have HNU := Lib.hid hnu
          have HBQ := Lib.hid hbr
          clear hnu hbr
          by_cases hlt : p < L.length
          · have hpi : (p : Int) < (L.length : Int) := by omega
            obtain ⟨x, hx⟩ : ∃ x, L[p]? = some x := ⟨_, List.getElem?_eq_getElem hlt⟩
            obtain ⟨b3, o3, rfl, l3, t1⟩ := HNU.out.at hx
            have HSX := Lib.hid (HS.out x _ HBQ.out)
            have HAX := Lib.hid (fun q t ht hq => HAH.out p q x t hx ht hq)
            have HCX := Lib.hid (fun t ht => HCL.out x t (List.mem_of_getElem? hx) ht)
            have HTX := Lib.hid (HTW.out x)
            generalize Fl.succs cs x = S at *
            clear hx
            go_wp2_with (go_at_call 12; (with_reducible refine HSX.out.mono ?_); rintro e wa ⟨va, rfl, hr, hb⟩; obtain ⟨AS, cS, rfl, -⟩ := id hr; have NA := Lib.hid hr; have MA := Lib.hid (HNU.out.below hb); have BA := Lib.hid (HBQ.out.trans (hb.mono HBQ.out.size)); clear hr hb t1)
            have hsi : (S.length : Int) ≤ 2 := by have := HTX.out; omega
            go_loopw [11] (fun j wr => ∃ k : Nat, k ≤ S.length ∧ j = .int .i64 (k : Int) ∧ Quiet wa wr) (fun j _ => S.length - (intOf j).toNat)
            case atStart => exact ⟨0, Nat.zero_le _, rfl, Quiet.refl _⟩
            case round =>
              obtain ⟨k, hk, rfl, hqw⟩ := hrel
              have HQ := Lib.hid hqw
              clear hqw
              by_cases hlk : k < S.length
              · have hki : (k : Int) < (S.length : Int) := by omega
                obtain ⟨t, htq⟩ : ∃ t, S[k]? = some t := ⟨_, List.getElem?_eq_getElem hlk⟩
                obtain ⟨b4, o4, rfl, l4, t4⟩ := NA.out.at htq
                have HTM := Lib.hid (List.mem_of_getElem? htq)
                clear htq
                go_wp2_with fail
                go_loopw [12] (fun j wr => ∃ q : Nat, q ≤ L.length ∧ j = .int .i64 (q : Int) ∧ Quiet wa wr ∧ t ∉ L.take q) (fun j _ => L.length - (intOf j).toNat)
                case atStart => exact ⟨0, Nat.zero_le _, rfl, HQ.out, by simp⟩
                case round =>
                  obtain ⟨q, hq, rfl, hqw2, hnt⟩ := hrel
                  have HQ2 := Lib.hid hqw2
                  have HNT := Lib.hid hnt
                  clear hqw2 hnt
                  have hql : q < L.length := by
                    by_cases hql : q < L.length
                    · exact hql
                    · have h1 := HNT.out
                      rw [List.take_of_length_le (by omega)] at h1
                      exact absurd (HCX.out t HTM.out) h1
                  have hqi : (q : Int) < (L.length : Int) := by omega
                  obtain ⟨y, hy⟩ : ∃ y, L[q]? = some y := ⟨_, List.getElem?_eq_getElem hql⟩
                  obtain ⟨b5, o5, hA, l5, t5⟩ := MA.out.at hy
                  injection hA with hA
                  injection hA with e1 e2
                  subst e1 e2
                  have d4 := (HQ2.out.below.cell (p := ⟨b4, o4 + k, none⟩) l4).trans t4
                  have d5 := (HQ2.out.below.cell (p := ⟨b3, o3 + q, none⟩) l5).trans t5
                  by_cases hyt : y = t
                  · subst hyt
                    have HLT := Lib.hid (HAX.out q y HTM.out hy)
                    have hne : (y != y) = false := by simp
                    have hpq : (p : Int) < (q : Int) := by have := HLT.out; omega
                    have hql2 : ((q : Int) == (L.length : Int)) = false := by
                      rw [beq_eq_false_iff_ne]
                      omega
                    clear hy t5
                    go_wp2_with fail
                    go_quiet (fail)
                    go_wp2_with fail
                    go_roundw
                    case rel => exact ⟨k + 1, by omega, by go_num, HQ2.out.trans (Quiet.drewN _ _)⟩
                    case measure => simp [intOf]; omega
                  · have HNU2 := Lib.hid (notin_up hy HNT.out hyt)
                    have hne : (y != t) = true := by simpa using hyt
                    clear hy hyt t5
                    go_wp2_with fail
                    go_quiet (fail)
                    go_wp2_with fail
                    go_roundw
                    case rel => exact ⟨q + 1, by omega, by go_num, HQ2.out.trans (Quiet.drewN _ _), HNU2.out⟩
                    case measure => simp [intOf]; omega
              · obtain rfl : k = S.length := by omega
                have HN2 := Lib.hid (MA.out.below HQ.out.below)
                have HB2 := Lib.hid (BA.out.trans (HQ.out.below.mono BA.out.size))
                clear hk hlk
                go_wp2_with fail
                go_roundw
                case rel => exact ⟨p + 1, by omega, by go_num, HN2.out, HB2.out⟩
                case measure => simp [intOf]; omega
          · obtain rfl : p = L.length := by omega
            have HBE := Lib.hid (HB9.out.trans (HBQ.out.mono HB9.out.size))
            clear hp hlt
            go_wp2_with fail
            go_ret
            exact ⟨retb (show decide (0 < L.length) = true from decide_eq_true HLP.out), HBE.out⟩
end Go.Proofs.YtamadegodenobaaDoor
