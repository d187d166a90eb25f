/- The walk of FlowOrders: true of any blocks. -/
import Derived.Test.YtamadegodenobaaDoorFlowRreach
import Derived.Test.YtamadegodenobaaDoorFlowNextWalk
namespace Go.Proofs.YtamadegodenobaaDoor
open Go.ChangeShapes Go.WideShapes Go.RowKit Go.Deep

set_option maxRecDepth 20000 in
set_option maxHeartbeats 6400000 in
theorem orders_walk (bs : List (List Ir.In)) (v : Value) (w : World) (hv : Blks w v bs) (ht : Tbl w) :
    Calls Tryd.prog 6 #[v] w fun e w' => e = .returned (.bool true) ∧ Below w.heap.size w w' := by
  obtain ⟨A, cap, rfl⟩ := hv.form
  have HH := Lib.hid (fheavy_any _ bs w hv)
  have HR1 := Lib.hid (fun (hn : bs.length ≤ 1000000) => reach_any bs _ w hv ht hn)
  have HR2 := Lib.hid (fun (W : World) (hb : Below w.heap.size w W) (hn : bs.length ≤ 1000000) => rreach_any bs _ W (hv.below hb) hn)
  have HO1 := Lib.hid (fun (W : World) (hb : Below w.heap.size w W) (hn : bs.length ≤ 1000000) => (show Calls Tryd.prog 10 #[.slice A bs.length cap] W fun e w' => ∃ u, e = .returned u ∧ Nums w' u (Fl.ord bs) ∧ Below W.heap.size W w' ∧ ∀ b, u.ownBlock = some b → W.heap.size ≤ b from order_any bs _ W (hv.below hb) (ht.below hb) hn))
  have HO2 := Lib.hid (fun (W : World) (hb : Below w.heap.size w W) (hn : bs.length ≤ 1000000) => (show Calls Tryd.prog 17 #[.slice A bs.length cap] W fun e w' => ∃ u, e = .returned u ∧ Nums w' u (Fl.ord bs) ∧ Below W.heap.size W w' from rorder_any bs _ W (hv.below hb) hn))
  have HLN := Lib.hid (Fl.ord_len (bs := bs))
  generalize Fl.ord bs = L at *
  clear hv ht
  go_enter Tryd.func6, Tryd.ntmps6
  go_wp2_with fail
  refine HH.out.mono ?_
  rintro e w1 ⟨h, rfl, rfl, hl⟩
  cases h with
  | true =>
    go_wp2_with fail
    go_ret
    exact ⟨rfl, Below.refl _ _⟩
  | false =>
    have HN := Lib.hid (show bs.length ≤ 40 from hl rfl)
    have hni : (bs.length : Int) ≤ 40 := by have := hl rfl; omega
    clear hl
    go_wp2_with fail
    refine (HR1.out (Nat.le_trans HN.out (by decide))).mono ?_
    rintro e w2 ⟨g, rfl, hbl, hg, hb2⟩
    have HB2 := Lib.hid hb2
    have HBL := Lib.hid hbl
    clear hbl hb2 hg HR1
    go_wp2_with fail
    refine (HR2.out w2 HB2.out (Nat.le_trans HN.out (by decide))).mono ?_
    rintro e w3 ⟨g2, rfl, hbl2, hg2, hb3⟩
    have HB3 := Lib.hid (HB2.out.trans (hb3.mono HB2.out.size))
    have HL1 := Lib.hid (HBL.out.older hb3)
    have HL2 := Lib.hid hbl2
    have hself : ((bs.length : Int) != (bs.length : Int)) = false := by simp
    clear hbl2 hg2 hb3 HR2
    go_wp2_with fail
    go_loopw [5] (fun j wr => ∃ q : Nat, q ≤ bs.length ∧ j = .int .i64 (q : Int) ∧ Quiet w3 wr) (fun j _ => bs.length - (intOf j).toNat)
    case atStart => exact ⟨0, Nat.zero_le _, rfl, Quiet.refl _⟩
    case round =>
      obtain ⟨q, hq, rfl, hqw⟩ := hrel
      have HQ := Lib.hid hqw
      clear hqw
      by_cases hlt : q < bs.length
      · have hqi : (q : Int) < (bs.length : Int) := by omega
        have c1 := (HL1.out.older HQ.out.below).cell q hlt
        have c2 := (HL2.out.older HQ.out.below).cell q hlt
        generalize decide ((q : Int) ∈ L) = b at *
        have hbb : (b != b) = false := by simp
        go_wp2_with fail
        go_quiet (fail)
        go_wp2_with fail
        go_roundw
        case rel => exact ⟨q + 1, by omega, by go_num, HQ.out.trans (Quiet.drewN _ _)⟩
        case measure => simp [intOf]; omega
      · obtain rfl : q = bs.length := by omega
        have HB4 := Lib.hid (HB3.out.trans (HQ.out.below.mono HB3.out.size))
        clear hq hlt
        go_wp2_with (first
          | (go_at_call 10; (with_reducible refine (HO1.out _ HB4.out (Nat.le_trans HN.out (by decide))).mono ?_); rintro e w6 ⟨v6, rfl, hr, hb, -⟩; have N6 := Lib.hid hr; have B6 := Lib.hid (HB4.out.trans (hb.mono HB4.out.size)); clear hr hb)
          | (go_at_call 17; (with_reducible refine (HO2.out _ B6.out (Nat.le_trans HN.out (by decide))).mono ?_); rintro e w7 ⟨v7, rfl, hr, hb⟩; have N7 := Lib.hid hr; have M7 := Lib.hid (N6.out.below hb); have B7 := Lib.hid (B6.out.trans (hb.mono B6.out.size)); clear hr hb)
          | (go_at_call 16; (with_reducible refine (fsame_same v6 v7 L w7 M7.out N7.out (Nat.le_trans HLN.out (Nat.le_trans HN.out (by decide)))).mono ?_); rintro e w8 ⟨rfl, hb⟩; have B8 := Lib.hid (B7.out.trans (hb.mono B7.out.size)); clear hb))
        go_ret
        exact ⟨rfl, B8.out⟩
end Go.Proofs.YtamadegodenobaaDoor
