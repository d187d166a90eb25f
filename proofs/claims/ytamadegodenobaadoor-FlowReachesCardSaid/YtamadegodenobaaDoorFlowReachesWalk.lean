/- The walk of FlowReaches: true of any blocks. -/
import Derived.Test.YtamadegodenobaaDoorFlowReach
import Derived.Test.YtamadegodenobaaDoorFlowRvisit
import Derived.Test.YtamadegodenobaaDoorFlowNextWalk
namespace Go.Proofs.YtamadegodenobaaDoor
open Go.ChangeShapes Go.WideShapes Go.RowKit Go.Deep

theorem preds_len (bs : List (List Ir.In)) (i : Int) : (Fl.preds bs i).length ≤ bs.length := by
  have h := Fl.len_predsTo bs i bs.length
  rw [Fl.predsTo_all] at h
  exact h
theorem any_up {l L : List Int} {k : Nat} {t : Int} (h : l[k]? = some t) : (∃ x ∈ l.take (k + 1), x ∈ L) ↔ (∃ x ∈ l.take k, x ∈ L) ∨ t ∈ L := by
  obtain ⟨h1, h2⟩ := List.getElem?_eq_some_iff.1 h
  rw [List.take_succ_eq_append_getElem h1, h2]
  constructor
  · rintro ⟨x, hx, hL⟩
    rcases List.mem_append.1 hx with hx | hx
    · exact .inl ⟨x, hx, hL⟩
    · simp at hx
      subst hx
      exact .inr hL
  · rintro (⟨x, hx, hL⟩ | hL)
    · exact ⟨x, List.mem_append_left _ hx, hL⟩
    · exact ⟨t, by simp, hL⟩

set_option maxRecDepth 20000 in
set_option maxHeartbeats 6400000 in
theorem reaches_walk (bs : List (List Ir.In)) (v : Value) (w : World) (hv : Blks w v bs) (ht : Tbl w) :
    Calls Tryd.prog 4 #[v] w fun e w' => e = .returned (.bool true) ∧ Below w.heap.size w w' := by
  obtain ⟨A, cap, rfl⟩ := hv.form
  have HH := Lib.hid (fheavy_any _ bs w hv)
  have HS := Lib.hid (fun (i : Int) (W : World) (hb : Below w.heap.size w W) => (succs_any bs _ i W (hv.below hb) (ht.below hb)).mono fun e w' h => h.numsP (succs_in64 hv i))
  have HP := Lib.hid (fun (i : Int) (W : World) (hb : Below w.heap.size w W) (hn : bs.length ≤ 1000000) => (preds_any bs _ i W (hv.below hb) (ht.below hb) hn).mono fun e w' h => h.numsP (predsTo_in64 hv i))
  have HR := Lib.hid (fun (hn : bs.length ≤ 1000000) => reach_any bs _ w hv ht hn)
  have HO1 := Lib.hid (fun (W : World) (hb : Below w.heap.size w W) (hn : bs.length ≤ 1000000) => (show Calls Tryd.prog 10 #[.slice A bs.length cap] W fun e w' => ∃ u, e = .returned u ∧ Nums w' u (Fl.ord bs) ∧ Below W.heap.size W w' ∧ ∀ b, u.ownBlock = some b → W.heap.size ≤ b from order_any bs _ W (hv.below hb) (ht.below hb) hn))
  have HO2 := Lib.hid (fun (W : World) (hb : Below w.heap.size w W) (hn : bs.length ≤ 1000000) => (show Calls Tryd.prog 17 #[.slice A bs.length cap] W fun e w' => ∃ u, e = .returned u ∧ Nums w' u (Fl.ord bs) ∧ Below W.heap.size W w' from rorder_any bs _ W (hv.below hb) hn))
  have HLN := Lib.hid (Fl.ord_len (bs := bs))
  have HZ := Lib.hid (fun h => Fl.ord_zero (bs := bs) h)
  have HCL := Lib.hid (fun (x t : Int) hx ht => Fl.ord_closed (bs := bs) (x := x) (t := t) hx ht)
  have HFR := Lib.hid (fun (x : Int) hx h0 => Fl.ord_from (bs := bs) (x := x) hx h0)
  have HRG := Lib.hid (fun (x : Int) hx => Fl.ord_rng (bs := bs) (x := x) hx)
  generalize Fl.ord bs = L at *
  clear hv ht
  go_enter Tryd.func4, Tryd.ntmps4
  go_wp2_with fail
  refine HH.out.mono ?_
  rintro e w1 ⟨h, rfl, rfl, hl⟩
  cases h with
  | true =>
    go_wp2_with fail
    go_ret
    exact ⟨rfl, Below.refl _ _⟩
  | false =>
    have HN := Lib.hid (show bs.length ≤ 40 from hl rfl)
    have hni : (bs.length : Int) ≤ 40 := by have := hl rfl; omega
    clear hl
    go_wp2_with fail
    refine (HR.out (Nat.le_trans HN.out (by decide))).mono ?_
    rintro e w2 ⟨g, rfl, hbl, hg, hb2⟩
    have HBL := Lib.hid hbl
    have HB2 := Lib.hid hb2
    clear hbl hb2 hg HR
    have hself : ((bs.length : Int) != (bs.length : Int)) = false := by simp
    by_cases h0 : bs.length = 0
    · have h0i : (bs.length : Int) ≤ 0 := by omega
      have h0e : ((bs.length : Int) == 0) = true := by simp [h0]
      clear h0
      go_wp2_with fail
      go_loopw [4] (fun j wr => j = .int .i64 0 ∧ Below w.heap.size w wr) (fun _ _ => 0)
      case atStart => exact ⟨rfl, HB2.out⟩
      case round =>
        obtain ⟨rfl, hbr⟩ := hrel
        have HBR := Lib.hid hbr
        clear hbr
        go_wp2_with fail
        go_ret
        exact ⟨rfl, HBR.out⟩
    · have h0e : ((bs.length : Int) == 0) = false := by
        rw [beq_eq_false_iff_ne]
        omega
      have h0i : 0 < (bs.length : Int) := by omega
      have c0 : w2.cell? ⟨g, 0, none⟩ = some (.bool true) := by
        have h2 := HBL.out.cell 0 (by omega)
        rw [h2]
        have : ((0 : Nat) : Int) ∈ L := HZ.out h0
        simp only [this, decide_true]
      go_wp2_with fail
      go_loopw [4] (fun j wr => ∃ q : Nat, q ≤ bs.length ∧ j = .int .i64 (q : Int) ∧ Bl wr g bs.length L ∧ Below w.heap.size w wr) (fun j _ => bs.length - (intOf j).toNat)
      case atStart => exact ⟨0, Nat.zero_le _, rfl, HBL.out, HB2.out⟩
      case round =>
        obtain ⟨q, hq, rfl, hbl, hbr⟩ := hrel
        have HBQ := Lib.hid hbl
        have HBR := Lib.hid hbr
        clear hbl hbr c0
        by_cases hlt : q < bs.length
        · have hqi : (q : Int) < (bs.length : Int) := by omega
          have HSQ := Lib.hid (HS.out (q : Int) wr HBR.out)
          have HPQ := Lib.hid (fun W hb => HP.out (q : Int) W hb (Nat.le_trans HN.out (by decide)))
          have HSR := Lib.hid (fun t (ht : t ∈ Fl.succs bs (q : Int)) => (Fl.mem_succs.1 ht).1)
          have HSC := Lib.hid (fun t (hx : (q : Int) ∈ L) (ht : t ∈ Fl.succs bs (q : Int)) => HCL.out (q : Int) t hx ht)
          have HSL := Lib.hid (succs_two bs (q : Int))
          have HPL := Lib.hid (preds_len bs (q : Int))
          have HPR := Lib.hid (fun t (ht : t ∈ Fl.preds bs (q : Int)) => (Fl.mem_preds.1 ht).1)
          have HPS := Lib.hid (fun (hx : (q : Int) ∈ L) (h0 : q ≠ 0) => (show ∃ x ∈ Fl.preds bs (q : Int), x ∈ L from by
            obtain ⟨y, hy, hs⟩ := HFR.out (q : Int) hx (by omega)
            exact ⟨y, Fl.mem_preds.2 ⟨HRG.out y hy, hs⟩, hy⟩))
          generalize Fl.succs bs (q : Int) = S at *
          generalize Fl.preds bs (q : Int) = T at *
          go_wp2_with (go_at_call 12; (with_reducible refine HSQ.out.mono ?_); rintro e w5 ⟨v5, rfl, hr, hb⟩; obtain ⟨A5, c5, rfl, -⟩ := id hr; have N5 := Lib.hid hr; have Q5 := Lib.hid (HBQ.out.older hb); have B5 := Lib.hid (HBR.out.trans (hb.mono HBR.out.size)); clear hr hb)
          have hsi : (S.length : Int) ≤ 2 := by have := HSL.out; omega
          have cq := Q5.out.cell q hlt
          obtain ⟨bq, hbq⟩ : ∃ b : Bool, b = decide ((q : Int) ∈ L) := ⟨_, rfl⟩
          rw [← hbq] at cq
          have HBQB := Lib.hid hbq
          clear hbq
          go_loop [6] (fun j => ∃ k : Nat, k ≤ S.length ∧ j = .int .i64 (k : Int)) (fun j => S.length - (intOf j).toNat)
          case atStart => exact ⟨0, Nat.zero_le _, rfl⟩
          case round =>
            obtain ⟨k, hk, rfl⟩ := hrel
            by_cases hlk : k < S.length
            · have hki : (k : Int) < (S.length : Int) := by omega
              obtain ⟨t, htq⟩ : ∃ t, S[k]? = some t := ⟨_, List.getElem?_eq_getElem hlk⟩
              obtain ⟨b3, o3, rfl, l3, t1⟩ := N5.out.at htq
              have htm := List.mem_of_getElem? htq
              have htr := HSR.out t htm
              obtain ⟨tk, rfl⟩ : ∃ tk : Nat, t = (tk : Int) := ⟨t.toNat, by omega⟩
              have htk : (tk : Int) < (bs.length : Int) := htr.2
              have ct := Q5.out.cell tk (by omega)
              cases bq with
              | true =>
                have hqL : (q : Int) ∈ L := by have := HBQB.out; simpa using this.symm
                have htL : (tk : Int) ∈ L := HSC.out _ hqL htm
                rw [show decide ((tk : Int) ∈ L) = true by simpa using htL] at ct
                clear htm htr htq hqL htL
                go_wp2_with fail
                go_round
                case rel => exact ⟨k + 1, by omega, by go_num⟩
                case measure => simp [intOf]; omega
              | false =>
                clear htm htr htq ct
                go_wp2_with fail
                go_round
                case rel => exact ⟨k + 1, by omega, by go_num⟩
                case measure => simp [intOf]; omega
            · obtain rfl : k = S.length := by omega
              clear hk hlk
              go_wp2_with (go_at_call 13; (with_reducible refine (HPQ.out _ B5.out).mono ?_); rintro e w6 ⟨v6, rfl, hr, hb⟩; obtain ⟨A6, c6, rfl, -⟩ := id hr; have N6 := Lib.hid hr; have Q6 := Lib.hid (Q5.out.older hb); have B6 := Lib.hid (B5.out.trans (hb.mono B5.out.size)); clear hr hb)
              have hti : (T.length : Int) ≤ 40 := by have := HPL.out; omega
              have cq6 := Q6.out.cell q hlt
              rw [← HBQB.out] at cq6
              go_loop [8, 9] (fun b j => ∃ (k : Nat) (x : Bool), k ≤ T.length ∧ j = .int .i64 (k : Int) ∧ b = .bool x ∧ (x = true ↔ ∃ y ∈ T.take k, y ∈ L)) (fun _ j => T.length - (intOf j).toNat)
              case atStart => exact ⟨0, false, Nat.zero_le _, rfl, rfl, by simp⟩
              case round =>
                obtain ⟨k, x, hk, rfl, rfl, hx⟩ := hrel
                have HX := Lib.hid hx
                clear hx
                by_cases hlk : k < T.length
                · have hki : (k : Int) < (T.length : Int) := by omega
                  obtain ⟨t, htq⟩ : ∃ t, T[k]? = some t := ⟨_, List.getElem?_eq_getElem hlk⟩
                  obtain ⟨b3, o3, rfl, l3, t1⟩ := N6.out.at htq
                  have htm := List.mem_of_getElem? htq
                  have htr := HPR.out t htm
                  obtain ⟨tk, rfl⟩ : ∃ tk : Nat, t = (tk : Int) := ⟨t.toNat, by omega⟩
                  have htk : (tk : Int) < (bs.length : Int) := htr.2
                  have ct := Q6.out.cell tk (by omega)
                  have HUP := Lib.hid (any_up (L := L) htq)
                  clear htm htr htq
                  cases x with
                  | true =>
                    go_wp2_with fail
                    go_round
                    case rel => exact ⟨k + 1, true, by omega, by go_num, rfl, by rw [HUP.out]; exact ⟨fun _ => .inl (HX.out.1 rfl), fun _ => rfl⟩⟩
                    case measure => simp [intOf]; omega
                  | false =>
                    obtain ⟨y, hy⟩ : ∃ y : Bool, y = decide ((tk : Int) ∈ L) := ⟨_, rfl⟩
                    rw [← hy] at ct
                    have HY := Lib.hid hy
                    clear hy
                    go_wp2_with fail
                    go_round
                    case rel => exact ⟨k + 1, y, by omega, by go_num, rfl, by
                      rw [HUP.out, HY.out, decide_eq_true_eq]
                      exact ⟨.inr, fun h => h.resolve_left (fun h2 => by have := HX.out.2 h2; cases this)⟩⟩
                    case measure => simp [intOf]; omega
                · obtain rfl : k = T.length := by omega
                  have hall : T.take T.length = T := List.take_of_length_le (Nat.le_refl _)
                  rw [hall] at HX
                  clear hall hk hlk
                  by_cases hq0 : q = 0
                  · subst hq0
                    go_wp2_with fail
                    go_roundw
                    case rel => exact ⟨1, by omega, by go_num, Q6.out, B6.out⟩
                    case measure => simp [intOf]; omega
                  · have hqp : (0 : Int) < (q : Int) := by omega
                    cases bq with
                    | false =>
                      go_wp2_with fail
                      go_roundw
                      case rel => exact ⟨q + 1, by omega, by go_num, Q6.out, B6.out⟩
                      case measure => simp [intOf]; omega
                    | true =>
                      have hqL : (q : Int) ∈ L := by have := HBQB.out; simpa using this.symm
                      obtain rfl : x = true := HX.out.2 (HPS.out hqL hq0)
                      clear hqL
                      go_wp2_with fail
                      go_roundw
                      case rel => exact ⟨q + 1, by omega, by go_num, Q6.out, B6.out⟩
                      case measure => simp [intOf]; omega
        · obtain rfl : q = bs.length := by omega
          clear hq hlt
          go_wp2_with (first
            | (go_at_call 10; (with_reducible refine (HO1.out _ HBR.out (Nat.le_trans HN.out (by decide))).mono ?_); rintro e w6 ⟨v6, rfl, hr, hb, -⟩; have N6 := Lib.hid hr; have B6 := Lib.hid (HBR.out.trans (hb.mono HBR.out.size)); clear hr hb)
            | (go_at_call 17; (with_reducible refine (HO2.out _ B6.out (Nat.le_trans HN.out (by decide))).mono ?_); rintro e w7 ⟨v7, rfl, hr, hb⟩; have N7 := Lib.hid hr; have M7 := Lib.hid (N6.out.below hb); have B7 := Lib.hid (B6.out.trans (hb.mono B6.out.size)); clear hr hb)
            | (go_at_call 16; (with_reducible refine (fsame_same v6 v7 L w7 M7.out N7.out (Nat.le_trans HLN.out (Nat.le_trans HN.out (by decide)))).mono ?_); rintro e w8 ⟨rfl, hb⟩; have B8 := Lib.hid (B7.out.trans (hb.mono B7.out.size)); clear hb))
          go_ret
          exact ⟨rfl, B8.out⟩
end Go.Proofs.YtamadegodenobaaDoor
