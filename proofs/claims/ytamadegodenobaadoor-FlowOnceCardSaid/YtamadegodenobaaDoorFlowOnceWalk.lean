/- The walk of FlowOnce: true of any blocks. -/
import Derived.Test.YtamadegodenobaaDoorFlowRreach
import Derived.Test.YtamadegodenobaaDoorFlowNextWalk
import Derived.Test.YtamadegodenobaaDoorFlowOnceP
namespace Go.Proofs.YtamadegodenobaaDoor
open Go.ChangeShapes Go.WideShapes Go.RowKit Go.Deep

set_option maxRecDepth 20000 in
set_option maxHeartbeats 6400000 in
theorem once_walk (bs : List (List Ir.In)) (v : Value) (w : World) (hv : Blks w v bs) (ht : Tbl w) :
    Calls Tryd.prog 7 #[v] w fun e w' => e = .returned (.bool true) ∧ Below w.heap.size w w' := by
  obtain ⟨A, cap, rfl⟩ := hv.form
  have HH := Lib.hid (fheavy_any _ bs w hv)
  have HO1 := Lib.hid (fun (hn : bs.length ≤ 1000000) => (show Calls Tryd.prog 10 #[.slice A bs.length cap] w fun e w' => ∃ u, e = .returned u ∧ Nums w' u (Fl.ord bs) ∧ Below w.heap.size w w' ∧ ∀ b, u.ownBlock = some b → w.heap.size ≤ b from order_any bs _ w hv ht hn))
  have HR2 := Lib.hid (fun (W : World) (hb : Below w.heap.size w W) (hn : bs.length ≤ 1000000) => rreach_any bs _ W (hv.below hb) hn)
  have HLN := Lib.hid (Fl.ord_len (bs := bs))
  have HHD := Lib.hid (fun h => Fl.ord_head (bs := bs) h)
  have HCT := Lib.hid (fun i => Fl.ord_count (bs := bs) i)
  have HE := Lib.hid (show bs.length = 0 → Fl.ord bs = [] from fun h => by unfold Fl.ord; rw [if_pos h])
  generalize Fl.ord bs = L at *
  clear hv ht
  go_enter Tryd.func7, Tryd.ntmps7
  go_wp2_with fail
  refine HH.out.mono ?_
  rintro e w1 ⟨h, rfl, rfl, hl⟩
  cases h with
  | true =>
    go_wp2_with fail
    go_ret
    exact ⟨rfl, Below.refl _ _⟩
  | false =>
    have HN := Lib.hid (show bs.length ≤ 40 from hl rfl)
    have hni : (bs.length : Int) ≤ 40 := by have := hl rfl; omega
    clear hl
    go_wp2_with fail
    refine (HO1.out (Nat.le_trans HN.out (by decide))).mono ?_
    rintro e w2 ⟨u, rfl, hnu, hb2, -⟩
    obtain ⟨AL, cl, rfl, -⟩ := id hnu
    have HB2 := Lib.hid hb2
    have HNU := Lib.hid hnu
    clear hnu hb2 HO1
    go_wp2_with fail
    refine (HR2.out w2 HB2.out (Nat.le_trans HN.out (by decide))).mono ?_
    rintro e w3 ⟨g2, rfl, hbl2, hg2, hb3⟩
    have HB3 := Lib.hid (HB2.out.trans (hb3.mono HB2.out.size))
    have HL1 := Lib.hid (HNU.out.below hb3)
    have HL2 := Lib.hid hbl2
    clear hbl2 hg2 hb3 HR2 HNU
    by_cases h0 : bs.length = 0
    · have h0e : ((bs.length : Int) == 0) = true := by simp [h0]
      obtain rfl := HE.out h0
      clear h0
      go_wp2_with fail
      go_ret
      exact ⟨rfl, HB3.out⟩
    · have h0e : ((bs.length : Int) == 0) = false := by
        rw [beq_eq_false_iff_ne]
        omega
      have hhd := HHD.out h0
      obtain ⟨b3, o3, hA, l3, t0⟩ := HL1.out.at hhd
      subst hA
      have hl1 : 0 < L.length := (List.getElem?_eq_some_iff.1 hhd).1
      have hl0 : (0 : Int) < (L.length : Int) := by omega
      have hlz : ((L.length : Int) == 0) = false := by
        rw [beq_eq_false_iff_ne]
        omega
      have hli : (L.length : Int) ≤ 40 := by have := HLN.out; omega
      rw [Nat.add_zero] at t0
      clear hhd h0 hl1
      go_wp2_with fail
      go_loop [5] (fun j => ∃ q : Nat, q ≤ bs.length ∧ j = .int .i64 (q : Int)) (fun j => bs.length - (intOf j).toNat)
      case atStart => exact ⟨0, Nat.zero_le _, rfl⟩
      case round =>
        obtain ⟨q, hq, rfl⟩ := hrel
        by_cases hlt : q < bs.length
        · have hqi : (q : Int) < (bs.length : Int) := by omega
          have cq := HL2.out.cell q hlt
          have HC := Lib.hid (HCT.out (q : Int))
          go_wp2_with fail
          go_loop [6, 7] (fun n j => ∃ k : Nat, k ≤ L.length ∧ j = .int .i64 (k : Int) ∧ n = .int .i64 (((L.take k).count (q : Int) : Nat) : Int)) (fun _ j => L.length - (intOf j).toNat)
          case atStart => exact ⟨0, Nat.zero_le _, rfl, rfl⟩
          case round =>
            obtain ⟨k, hk, rfl, rfl⟩ := hrel
            have hck : (L.take k).count (q : Int) ≤ k := Nat.le_trans List.count_le_length (by rw [List.length_take]; omega)
            obtain ⟨n, hn⟩ : ∃ n, n = (L.take k).count (q : Int) := ⟨_, rfl⟩
            rw [← hn] at hck ⊢
            have HNN := Lib.hid hn
            clear hn
            by_cases hlk : k < L.length
            · have hki : (k : Int) < (L.length : Int) := by omega
              obtain ⟨t, htq⟩ : ∃ t, L[k]? = some t := ⟨_, List.getElem?_eq_getElem hlk⟩
              obtain ⟨b4, o4, hA, l4, t1⟩ := HL1.out.at htq
              injection hA with hA
              injection hA with e1 e2
              subst e1 e2
              have hup := Fl.count_up (i := (q : Int)) htq
              rw [← HNN.out] at hup
              clear htq
              by_cases htq : t = (q : Int)
              · subst htq
                rw [if_pos rfl] at hup
                have HUP := Lib.hid hup
                have hee : ((q : Int) == (q : Int)) = true := by simp
                clear hup
                go_wp2_with fail
                go_round
                case rel => exact ⟨k + 1, by omega, by go_num, by rw [HUP.out]; go_num⟩
                case measure => simp [intOf]; omega
              · rw [if_neg htq] at hup
                have HUP := Lib.hid hup
                have hee : (t == (q : Int)) = false := by simpa using htq
                clear hup htq
                go_wp2_with fail
                go_round
                case rel => exact ⟨k + 1, by omega, by go_num, by rw [HUP.out]; rfl⟩
                case measure => simp [intOf]; omega
            · obtain rfl : k = L.length := by omega
              have hfin : n = if (q : Int) ∈ L then 1 else 0 := by
                rw [HNN.out, List.take_of_length_le (Nat.le_refl _)]
                exact HC.out
              clear hk hlk hck HNN
              by_cases hm : (q : Int) ∈ L
              · rw [if_pos hm] at hfin
                rw [show decide ((q : Int) ∈ L) = true by simpa using hm] at cq
                subst hfin
                clear hm
                go_wp2_with fail
                go_round
                case rel => exact ⟨q + 1, by omega, by go_num⟩
                case measure => simp [intOf]; omega
              · rw [if_neg hm] at hfin
                rw [show decide ((q : Int) ∈ L) = false by simpa using hm] at cq
                subst hfin
                clear hm
                go_wp2_with fail
                go_round
                case rel => exact ⟨q + 1, by omega, by go_num⟩
                case measure => simp [intOf]; omega
        · obtain rfl : q = bs.length := by omega
          clear hq hlt
          go_wp2_with fail
          go_ret
          exact ⟨rfl, HB3.out⟩
end Go.Proofs.YtamadegodenobaaDoor
