/- Reach of the document. -/
import Derived.Test.YtamadegodenobaaDoorFlowReach
import Derived.Test.YtamadegodenobaaDoorFlowRvisit
import Derived.Test.YtamadegodenobaaDoorFlowIter
namespace Go.Proofs.YtamadegodenobaaDoor
open Go.ChangeShapes Go.WideShapes Go.RowKit Go.Deep

theorem Bl.same {W : World} {g n : Nat} {l m : List Int} (h : Bl W g n l) (hm : ∀ x, x ∈ l ↔ x ∈ m) : Bl W g n m := by
  obtain ⟨cs, h1, h2⟩ := h
  refine ⟨cs, h1, fun k hk => ?_⟩
  rw [h2 k hk]
  simp only [hm]

set_option maxRecDepth 20000 in
set_option maxHeartbeats 6400000 in
theorem rreach_any (bs : List (List Ir.In)) (v : Value) (w : World) (hv : Blks w v bs) (hN : bs.length ≤ 1000000) :
    Calls Tryd.prog 19 #[v] w (ReachPost bs (Fl.ord bs) w) := by
  obtain ⟨A, cap, rfl⟩ := hv.form
  have hmk : ∀ W : World, (Instr.makeSlice 29 (.int .i64 (bs.length : Int)) (.int .i64 (bs.length : Int))).run Tryd.prog W = .ok (.slice (some ⟨W.heap.size, 0, none⟩) bs.length bs.length) (W.alloc (.cells (madeCells #[.bool false] bs.length) 4)) := fun W => run_make_row' 29 4 (.bool false) 1 Tryd.underlying29 info_bool rfl .i64 .i64 bs.length (by omega) (by omega) W
  have hb1 : Below w.heap.size w (w.alloc (.cells (madeCells #[.bool false] bs.length) 4)) := (Below.refl _ _).alloc (Nat.le_refl _) _
  have HBL := Lib.hid (show Bl (w.alloc (.cells (madeCells #[.bool false] bs.length) 4)) w.heap.size bs.length [] from ⟨_, Blk.new _ _ _, fun k hk => falses_at _ k hk⟩)
  have HB1 := Lib.hid hb1
  have HS := Lib.hid (fun (i : Int) (W : World) (hb : Below w.heap.size w W) => rsuccs_any bs _ i W (hv.below hb))
  have H64 := Lib.hid (fun i => succs_in64 hv i)
  have HEND := Lib.hid (fun (h : bs.length ≠ 0) x => Fl.rnd_ord (bs := bs) h x)
  have HEND0 := Lib.hid (fun (h : bs.length = 0) => (show Fl.ord bs = [] by unfold Fl.ord; rw [if_pos h]))
  have hni : (bs.length : Int) ≤ 1000000 := by omega
  generalize Fl.ord bs = L at *
  clear hb1 hv
  go_enter Tryd.func19, Tryd.ntmps19
  go_upto_region 2 with fail
  generalize w.alloc (.cells (madeCells #[.bool false] bs.length) 4) = w1 at *
  go_wp2_with fail
  go_loopw [4] (fun j wr => ∃ r : Nat, r ≤ bs.length ∧ j = .int .i64 (r : Int) ∧ Bl wr w.heap.size bs.length (Fl.rnd (Fl.succs bs) bs.length r) ∧ Below w.heap.size w wr) (fun j _ => bs.length - (intOf j).toNat)
  case atStart => exact ⟨0, Nat.zero_le _, rfl, HBL.out, HB1.out⟩
  case round =>
    obtain ⟨r, hr, rfl, hbl, hbr⟩ := hrel
    have HBQ := Lib.hid hbl
    have HBR := Lib.hid hbr
    clear hbl hbr
    by_cases hlt : r < bs.length
    · have hri : (r : Int) < (bs.length : Int) := by omega
      have h0i : 0 < (bs.length : Int) := by omega
      have HRU := Lib.hid (show Fl.rnd (Fl.succs bs) bs.length (r + 1) = Fl.inner (Fl.succs bs) (Fl.rnd (Fl.succs bs) bs.length r ++ [0]) bs.length from rfl)
      obtain ⟨X, hX⟩ : ∃ X, X = Fl.rnd (Fl.succs bs) bs.length r := ⟨_, rfl⟩
      rw [← hX] at HBQ HRU
      have c0 := HBQ.out.cell 0 (by omega)
      have c1 := HBQ.out.frozen 0
      have HB2 := Lib.hid (HBQ.out.set 0 (m := X ++ [0]) (fun j hj => by
        rw [List.mem_append, List.mem_singleton]
        exact or_congr Iff.rfl (by omega)))
      have HW2 := Lib.hid (HBR.out.setCell (p := ⟨w.heap.size, 0, none⟩) (by show w.heap.size ≤ w.heap.size; exact Nat.le_refl _) (.bool true))
      obtain ⟨Y, hY⟩ : ∃ Y, Y = X ++ [0] := ⟨_, rfl⟩
      rw [← hY] at HB2 HRU
      clear hX hY
      go_upto_region 6 with fail
      generalize wr.setCell ⟨w.heap.size, 0, none⟩ (.bool true) = w2 at *
      clear c0 c1 HBQ HBR
      go_wp2_with fail
      go_loopw [5] (fun j wr => ∃ i : Nat, i ≤ bs.length ∧ j = .int .i64 (i : Int) ∧ Bl wr w.heap.size bs.length (Fl.inner (Fl.succs bs) Y i) ∧ Below w.heap.size w wr) (fun j _ => bs.length - (intOf j).toNat)
      case atStart => exact ⟨0, Nat.zero_le _, rfl, HB2.out, HW2.out⟩
      case round =>
        obtain ⟨i, hi, rfl, hbl, hbr⟩ := hrel
        have HBQ := Lib.hid hbl
        have HBR := Lib.hid hbr
        clear hbl hbr
        by_cases hli : i < bs.length
        · have hii : (i : Int) < (bs.length : Int) := by omega
          have HIU := Lib.hid (Fl.inner_up (Fl.succs bs) Y i)
          have HST := Lib.hid (show ∀ Z, Fl.stepI (Fl.succs bs) Z i = if (i : Int) ∈ Z then Z ++ Fl.succs bs i else Z from fun Z => rfl)
          have HSL := Lib.hid (succs_two bs (i : Int))
          have HSQ := Lib.hid (HS.out (i : Int) wr HBR.out)
          have HSR := Lib.hid (fun t (ht : t ∈ Fl.succs bs (i : Int)) => (Fl.mem_succs.1 ht).1)
          have HT64 := Lib.hid (H64.out (i : Int))
          obtain ⟨Z, hZ⟩ : ∃ Z, Z = Fl.inner (Fl.succs bs) Y i := ⟨_, rfl⟩
          rw [← hZ] at HBQ HIU
          have HSTZ := Lib.hid (HIU.out.trans (HST.out Z))
          generalize Fl.succs bs (i : Int) = T at *
          clear hZ
          go_wp2_with (go_at_call 14; refine HSQ.out.mono ?_; rintro e w5 ⟨v5, rfl, hrow, hb⟩; obtain ⟨A5, c5, rfl, -⟩ := id (hrow.nums HT64.out); have N5 := Lib.hid (hrow.nums HT64.out); have R5 := Lib.hid hrow; have Q5 := Lib.hid (HBQ.out.older hb); have B5 := Lib.hid (HBR.out.trans (hb.mono HBR.out.size)); clear hrow hb)
          have HOFF := Lib.hid (show ∀ a, A5 = some a → a.block ≠ w.heap.size from fun a e => by
            subst e
            have h1 : wr.heap.size ≤ a.block := (World.ownsRow.lt R5.out a.block rfl).1
            have h2 := HBQ.out.lt
            omega)
          have hti : (T.length : Int) ≤ 2 := by have := HSL.out; omega
          clear R5
          go_loopw [7] (fun j wr => ∃ k : Nat, k ≤ T.length ∧ j = .int .i64 (k : Int) ∧ Bl wr w.heap.size bs.length (Z ++ T.take k) ∧ Nums wr (.slice A5 T.length c5) T ∧ Below w.heap.size w wr ∧ (k = 0 ∨ (i : Int) ∈ Z)) (fun j _ => T.length - (intOf j).toNat)
          case atStart => exact ⟨0, Nat.zero_le _, rfl, by simpa using Q5.out, N5.out, B5.out, .inl rfl⟩
          case round =>
            obtain ⟨k, hk, rfl, hbl, hnu, hbr, hin⟩ := hrel
            have HBK := Lib.hid hbl
            have HNK := Lib.hid hnu
            have HBW := Lib.hid hbr
            have HIN := Lib.hid hin
            clear hbl hnu hbr hin
            have ci := HBK.out.cell i hli
            by_cases hlk : k < T.length
            · have hki : (k : Int) < (T.length : Int) := by omega
              by_cases hiz : (i : Int) ∈ Z
              · rw [show decide ((i : Int) ∈ Z ++ T.take k) = true by simp [hiz]] at ci
                obtain ⟨t, htq⟩ : ∃ t, T[k]? = some t := ⟨_, List.getElem?_eq_getElem hlk⟩
                obtain ⟨b3, o3, rfl, l3, t1⟩ := HNK.out.at htq
                have htr := HSR.out t (List.mem_of_getElem? htq)
                obtain ⟨tk, rfl⟩ : ∃ tk : Nat, t = (tk : Int) := ⟨t.toNat, by omega⟩
                have htk : (tk : Int) < (bs.length : Int) := htr.2
                have d0 := HBK.out.cell tk (by omega)
                have d1 := HBK.out.frozen tk
                have HS2 := Lib.hid (HBK.out.set tk (m := Z ++ T.take (k + 1)) (fun j hj => by
                  obtain ⟨q1, q2⟩ := List.getElem?_eq_some_iff.1 htq
                  rw [List.take_succ_eq_append_getElem q1, q2, ← List.append_assoc, List.mem_append (t := [(tk : Int)]), List.mem_singleton]
                  exact or_congr Iff.rfl Int.ofNat_inj))
                have HN2 := Lib.hid (nums_move (w' := wr.setCell ⟨w.heap.size, tk, none⟩ (.bool true)) HNK.out (by simp [World.setCell]) (fun a e _ => heap_setCell_other wr ⟨w.heap.size, tk, none⟩ a.block _ (by show a.block ≠ w.heap.size; exact HOFF.out a e)))
                have HB9 := Lib.hid (HBW.out.setCell (p := ⟨w.heap.size, tk, none⟩) (by show w.heap.size ≤ w.heap.size; exact Nat.le_refl _) (.bool true))
                have HIZ := Lib.hid hiz
                clear htq htr hiz
                go_wp2_with fail
                go_roundw
                case rel => exact ⟨k + 1, by omega, by go_num, HS2.out, HN2.out, HB9.out, .inr HIZ.out⟩
                case measure => simp [intOf]; omega
              · have hk0 : k = 0 := HIN.out.resolve_right hiz
                subst hk0
                rw [show decide ((i : Int) ∈ Z ++ T.take 0) = false by simp [hiz]] at ci
                have HNX := Lib.hid (show Bl wr w.heap.size bs.length (Fl.inner (Fl.succs bs) Y (i + 1)) by
                  rw [HSTZ.out, if_neg hiz]
                  have := HBK.out
                  simpa using this)
                clear hiz
                go_wp2_with fail
                go_roundw
                case rel => exact ⟨i + 1, by omega, by go_num, HNX.out, HBW.out⟩
                case measure => simp [intOf]; omega
            · obtain rfl : k = T.length := by omega
              have HNX := Lib.hid (show Bl wr w.heap.size bs.length (Fl.inner (Fl.succs bs) Y (i + 1)) by
                rw [HSTZ.out]
                have hall : T.take T.length = T := List.take_of_length_le (Nat.le_refl _)
                have h3 := HBK.out
                rw [hall] at h3
                split
                · exact h3
                · next hiz =>
                  have hk0 : T.length = 0 := HIN.out.resolve_right hiz
                  rw [List.eq_nil_of_length_eq_zero hk0] at h3
                  simpa using h3)
              clear hk hlk ci
              go_wp2_with fail
              go_roundw
              case rel => exact ⟨i + 1, by omega, by go_num, HNX.out, HBW.out⟩
              case measure => simp [intOf]; omega
        · obtain rfl : i = bs.length := by omega
          clear hi hli
          go_wp2_with fail
          go_roundw
          case rel => exact ⟨r + 1, by omega, by go_num, by rw [HRU.out]; exact HBQ.out, HBR.out⟩
          case measure => simp [intOf]; omega
    · obtain rfl : r = bs.length := by omega
      have HNX := Lib.hid (show Bl wr w.heap.size bs.length L by
        by_cases h0 : bs.length = 0
        · obtain ⟨cs, h1, -⟩ := HBQ.out
          exact ⟨cs, h1, fun k hk => by omega⟩
        · exact HBQ.out.same (HEND.out h0))
      clear hr hlt
      go_wp2_with fail
      go_ret
      exact ⟨_, rfl, HNX.out, Nat.le_refl _, HBR.out⟩
end Go.Proofs.YtamadegodenobaaDoor
