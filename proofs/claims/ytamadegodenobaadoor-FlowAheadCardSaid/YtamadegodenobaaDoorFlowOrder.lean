/- Order of the program. -/
import Derived.Test.YtamadegodenobaaDoorFlowVisitW
import Derived.Test.YtamadegodenobaaDoorFlowRev
namespace Go.Proofs.YtamadegodenobaaDoor
open Go.ChangeShapes Go.WideShapes Go.RowKit Go.Deep

theorem falses_at (n k : Nat) (h : k < n) : (madeCells #[Value.bool false] n)[k]? = some (.bool (decide ((k : Int) ∈ ([] : List Int)))) := by
  rw [← Array.getElem?_toList, toList_madeCells_one, List.getElem?_replicate, if_pos h]
  simp
theorem info_bool : (Tryd.prog.info? 4).map (fun i => (i.zero, i.size, i.bytes)) = some (some (.bool false), 1, 1) := by kernel_rfl

set_option maxRecDepth 20000 in
set_option maxHeartbeats 3200000 in
theorem order_any (bs : List (List Ir.In)) (v : Value) (w : World) (hv : Blks w v bs) (ht : Tbl w) (hN : bs.length ≤ 1000000) :
    Calls Tryd.prog 10 #[v] w fun e w' => ∃ u, e = .returned u ∧ Nums w' u (if bs.length = 0 then [] else (Fl.post bs).reverse) ∧ Below w.heap.size w w' ∧ ∀ b, u.ownBlock = some b → w.heap.size ≤ b := by
  obtain ⟨A, cap, rfl⟩ := hv.form
  have hb1 : Below w.heap.size w (w.alloc (.cells #[.slice A bs.length cap] 22)) := (Below.refl _ _).alloc (Nat.le_refl _) _
  by_cases h0 : bs.length = 0
  · rw [if_pos h0]
    have h0e : ((bs.length : Int) == 0) = true := by simp [h0]
    have c0 : (w.alloc (.cells #[.slice A bs.length cap] 22)).cell? ⟨w.heap.size, 0, none⟩ = some (.slice A bs.length cap) := (Blk.new w 22 #[.slice A bs.length cap]).cell 0
    have HB1 := Lib.hid hb1
    clear hv h0 hb1
    go_enter Tryd.func10, Tryd.ntmps10
    go_upto_region 1 with fail
    generalize w.alloc (.cells #[.slice A bs.length cap] 22) = w1 at *
    go_wp2_with fail
    go_ret
    exact ⟨.slice none 0 0, rfl, (RowI.nil _ 0).nums (fun n hn => (nomatch hn)), HB1.out, fun b e => by cases e⟩
  · rw [if_neg h0]
    have hmf : ∀ (fn : Fn) (first cap : Array Value) (w : World), (Instr.makeFunc fn first cap).run Tryd.prog w = .ok (.func fn first cap) w := fun _ _ _ _ => rfl
    have hsf : ∀ (a : Addr) (fn : Fn) (first cap : Array Value) (m : Mode) (W : World), (store a (.func fn first cap) m).run Tryd.prog W = stored Tryd.prog W a (.func fn first cap) m := fun a fn first cap m W => run_store Tryd.prog W a _ m rfl
    have hmk : ∀ W : World, (Instr.makeSlice 29 (.int .i64 (bs.length : Int)) (.int .i64 (bs.length : Int))).run Tryd.prog W = .ok (.slice (some ⟨W.heap.size, 0, none⟩) bs.length bs.length) (W.alloc (.cells (madeCells #[.bool false] bs.length) 4)) := fun W => run_make_row' 29 4 (.bool false) 1 Tryd.underlying29 info_bool rfl .i64 .i64 bs.length (by omega) (by omega) W
    have h0e : ((bs.length : Int) == 0) = false := by
      rw [beq_eq_false_iff_ne]
      omega
    have hni : (bs.length : Int) ≤ 1000000 := by omega
    have hbox := Blk.new w 22 #[.slice A bs.length cap]
    have c0 : (w.alloc (.cells #[.slice A bs.length cap] 22)).cell? ⟨w.heap.size, 0, none⟩ = some (.slice A bs.length cap) := hbox.cell 0
    have HB1 := Lib.hid (And.intro hb1 hbox)
    have hz1 : (w.alloc (.cells #[.slice A bs.length cap] 22)).heap.size = w.heap.size + 1 := by simp
    have HVI := Lib.hid (visit_any bs A cap w hv ht hN bs.length 0 0 ([], []))
    have HOK := Lib.hid (Fl.ok_vis (S := Fl.succs bs) (fun i t ht => (Fl.mem_succs.1 ht).1) bs.length 0 0 ([], []) ⟨Int.le_refl _, by omega⟩ (fun h => (nomatch h)) (Fl.ok_start bs.length))
    have HNE := Lib.hid (show 0 < (Fl.vis (Fl.succs bs) bs.length 0 ([], [])).2.length by
      obtain ⟨n, hn⟩ : ∃ n, bs.length = n + 1 := ⟨bs.length - 1, by omega⟩
      rw [hn]
      show 0 < ((Fl.each (Fl.vis (Fl.succs bs) n) (Fl.succs bs 0) ([] ++ [0], [])).2 ++ [(0 : Int)]).length
      simp)
    have HPO := Lib.hid (show Fl.post bs = (Fl.vis (Fl.succs bs) bs.length 0 ([], [])).2 from rfl)
    have HUM := Lib.hid (show Fl.um bs.length ([] : List Int) ≤ bs.length by rw [Fl.um_nil]; exact Nat.le_refl _)
    have h0n : 0 < bs.length := by omega
    generalize Fl.post bs = P at *
    obtain ⟨r, hr⟩ : ∃ r, r = Fl.vis (Fl.succs bs) bs.length 0 ([], []) := ⟨_, rfl⟩
    have HVI2 := Lib.hid (fun (u : Value) (W : World) (hs : Vs bs A cap w W ([], []) u) => (show Calls Tryd.prog 20 #[.int .i64 0, .pointer (some ⟨w.heap.size + 1 + 1 + 1, 0, none⟩), .pointer (some ⟨w.heap.size, 0, none⟩), .pointer (some ⟨w.heap.size + 1 + 1 + 1 + 1, 0, none⟩), .pointer (some ⟨w.heap.size + 1, 0, none⟩)] W (VsPost bs A cap w W u r) from by
      rw [hr]
      exact HVI.out u W hs (Fl.ok_start _) HUM.out h0n (fun h => (nomatch h))))
    rw [← hr] at HOK HNE HPO
    clear hb1 hbox hr HVI HUM h0n h0 ht hv
    go_enter Tryd.func10, Tryd.ntmps10
    go_upto_region 1 with fail
    generalize w.alloc (.cells #[.slice A bs.length cap] 22) = w1 at *
    go_upto_region 6 with fail
    have h12 := HB1.out.2.alloc (.cells #[.slice none 0 0] 24)
    have o12 := Blk.new w1 24 #[.slice none 0 0]
    have hz2 : (w1.alloc (.cells #[.slice none 0 0] 24)).heap.size = w.heap.size + 1 + 1 := by simp [hz1]
    have hb2 : Below w.heap.size w (w1.alloc (.cells #[.slice none 0 0] 24)) := HB1.out.1.alloc (by omega) _
    rw [hz1] at o12
    generalize w1.alloc (.cells #[.slice none 0 0] 24) = w2 at *
    have h13 := h12.alloc (.cells (madeCells #[.bool false] bs.length) 4)
    have o13 := o12.alloc (.cells (madeCells #[.bool false] bs.length) 4)
    have m13 := Blk.new w2 4 (madeCells #[.bool false] bs.length)
    have hz3 : (w2.alloc (.cells (madeCells #[.bool false] bs.length) 4)).heap.size = w.heap.size + 1 + 1 + 1 := by simp [hz2]
    have hb3 : Below w.heap.size w (w2.alloc (.cells (madeCells #[.bool false] bs.length) 4)) := hb2.alloc (by omega) _
    rw [hz2] at m13
    generalize w2.alloc (.cells (madeCells #[.bool false] bs.length) 4) = w3 at *
    have h14 := h13.alloc (.cells #[.slice (some ⟨w.heap.size + 1 + 1, 0, none⟩) bs.length bs.length] 29)
    have o14 := o13.alloc (.cells #[.slice (some ⟨w.heap.size + 1 + 1, 0, none⟩) bs.length bs.length] 29)
    have m14 := m13.alloc (.cells #[.slice (some ⟨w.heap.size + 1 + 1, 0, none⟩) bs.length bs.length] 29)
    have v14 := Blk.new w3 29 #[.slice (some ⟨w.heap.size + 1 + 1, 0, none⟩) bs.length bs.length]
    have hz4 : (w3.alloc (.cells #[.slice (some ⟨w.heap.size + 1 + 1, 0, none⟩) bs.length bs.length] 29)).heap.size = w.heap.size + 1 + 1 + 1 + 1 := by simp [hz3]
    have hb4 : Below w.heap.size w (w3.alloc (.cells #[.slice (some ⟨w.heap.size + 1 + 1, 0, none⟩) bs.length bs.length] 29)) := hb3.alloc (by omega) _
    rw [hz3] at v14
    generalize w3.alloc (.cells #[.slice (some ⟨w.heap.size + 1 + 1, 0, none⟩) bs.length bs.length] 29) = w4 at *
    have h15 := h14.alloc (.cells #[.nilFunc] 39)
    have o15 := o14.alloc (.cells #[.nilFunc] 39)
    have m15 := m14.alloc (.cells #[.nilFunc] 39)
    have v15 := v14.alloc (.cells #[.nilFunc] 39)
    have f15 := Blk.new w4 39 #[.nilFunc]
    have hb5 : Below w.heap.size w (w4.alloc (.cells #[.nilFunc] 39)) := hb4.alloc (by omega) _
    have hz5 : (w4.alloc (.cells #[.nilFunc] 39)).heap.size = w.heap.size + 1 + 1 + 1 + 1 + 1 := by simp [hz4]
    rw [hz4] at f15
    generalize w4.alloc (.cells #[.nilFunc] 39) = w5 at *
    have k0 : w5.cell? ⟨w.heap.size + 1 + 1 + 1 + 1, 0, none⟩ = some .nilFunc := f15.cell 0
    have k1 := f15.frozen 0
    have HA5 := Lib.hid (And.intro h15 (And.intro o15 (And.intro m15 (And.intro v15 (And.intro f15 (And.intro hb5 hz5))))))
    clear h12 h13 h14 h15 o12 o13 o14 o15 m13 m14 m15 v14 v15 f15 hb2 hb3 hb4 hb5 hz1 hz2 hz3 hz4 hz5 c0
    have HVS := Lib.hid (show Vs bs A cap w (w5.setCell ⟨w.heap.size + 1 + 1 + 1 + 1, 0, none⟩ (.func (.func 20) #[] #[.pointer (some ⟨w.heap.size + 1 + 1 + 1, 0, none⟩), .pointer (some ⟨w.heap.size, 0, none⟩), .pointer (some ⟨w.heap.size + 1 + 1 + 1 + 1, 0, none⟩), .pointer (some ⟨w.heap.size + 1, 0, none⟩)])) ([], []) (.slice none 0 0) from by
      obtain ⟨h15, o15, m15, v15, f15, hb5, hz5⟩ := HA5.out
      refine ⟨h15.apart (p := ⟨w.heap.size + 1 + 1 + 1 + 1, 0, none⟩) (by show w.heap.size ≠ w.heap.size + 1 + 1 + 1 + 1; omega) _, o15.apart (p := ⟨w.heap.size + 1 + 1 + 1 + 1, 0, none⟩) (by show w.heap.size + 1 ≠ w.heap.size + 1 + 1 + 1 + 1; omega) _,
        ⟨_, m15.apart (p := ⟨w.heap.size + 1 + 1 + 1 + 1, 0, none⟩) (by show w.heap.size + 1 + 1 ≠ w.heap.size + 1 + 1 + 1 + 1; omega) _, fun k hk => falses_at _ k hk⟩,
        v15.apart (p := ⟨w.heap.size + 1 + 1 + 1 + 1, 0, none⟩) (by show w.heap.size + 1 + 1 + 1 ≠ w.heap.size + 1 + 1 + 1 + 1; omega) _, f15.set_one _, RowI.nil _ _, hb5.setCell (p := ⟨w.heap.size + 1 + 1 + 1 + 1, 0, none⟩) (by show w.heap.size ≤ w.heap.size + 1 + 1 + 1 + 1; omega) _⟩)
    have k2 : (w5.setCell ⟨w.heap.size + 1 + 1 + 1 + 1, 0, none⟩ (.func (.func 20) #[] #[.pointer (some ⟨w.heap.size + 1 + 1 + 1, 0, none⟩), .pointer (some ⟨w.heap.size, 0, none⟩), .pointer (some ⟨w.heap.size + 1 + 1 + 1 + 1, 0, none⟩), .pointer (some ⟨w.heap.size + 1, 0, none⟩)])).cell? ⟨w.heap.size + 1 + 1 + 1 + 1, 0, none⟩ = some (.func (.func 20) #[] #[.pointer (some ⟨w.heap.size + 1 + 1 + 1, 0, none⟩), .pointer (some ⟨w.heap.size, 0, none⟩), .pointer (some ⟨w.heap.size + 1 + 1 + 1 + 1, 0, none⟩), .pointer (some ⟨w.heap.size + 1, 0, none⟩)]) := (HA5.out.2.2.2.2.1.set_one _).cell 0
    go_upto_region 7 with fail
    generalize w5.setCell _ _ = w6 at *
    clear k0 k1 HA5
    go_upto_region 8 with (go_at_call 20; refine (HVI2.out _ _ HVS.out).mono ?_; rintro e w7 ⟨rfl, u, hvs, hch⟩; have HV7 := Lib.hid hvs; have k7 : w7.cell? ⟨w.heap.size + 1, 0, none⟩ = some u := hvs.ord.cell 0; clear hvs hch)
    obtain ⟨g, c7, cur, rfl, hg5, hgb, hn, hm, hsz, htk⟩ : ∃ g cap cur, u = .slice (some ⟨g, 0, none⟩) r.2.length cap ∧ w.heap.size + 5 ≤ g ∧ Blk w7 g 3 cur ∧ r.2.length ≤ cap ∧ cap ≤ maxLen ∧ cur.size = cap * 1 ∧ cur.toList.take (r.2.length * 1) = r.2.map (Value.int .i64) := by
      rcases HV7.out.row.2 with ⟨-, h0⟩ | h
      · have := HNE.out
        omega
      · exact h
    have hrev : RevAt r.2 0 cur := fun x hx => by
      have hr0 : ridx 0 r.2.length x = x := by unfold ridx; rw [if_neg (by omega)]
      rw [hr0, List.getD_eq_getElem?_getD]
      have h1 : (cur.toList.take (r.2.length * 1))[x]? = (r.2.map (Value.int .i64))[x]? := by rw [htk]
      rw [List.getElem?_take_of_lt (by omega), List.getElem?_map, Array.getElem?_toList] at h1
      rw [h1, List.getElem?_eq_getElem hx]
      rfl
    have HRV := Lib.hid (reverse_any g c7 r.2 w7 cur hgb hrev (by have h1 := HOK.out.put; have h2 := HOK.out.len; omega))
    have HRNG := Lib.hid (show In64 r.2.reverse from fun n hn => by
      have := HOK.out.rng n (HOK.out.sub n (List.mem_reverse.1 hn))
      omega)
    have HC := Lib.hid (And.intro hn (And.intro hm hg5))
    clear hgb hrev htk hsz hn hm
    go_wp2_with (go_at_call 21; refine HRV.out.mono ?_; rintro e w8 ⟨rfl, cs8, hb8, hs8, hat8, hg8⟩; have k8 : w8.cell? ⟨w.heap.size + 1, 0, none⟩ = some (.slice (some ⟨g, 0, none⟩) r.2.length c7) := (HV7.out.ord.grown hg8 (fun e => by injection e with e; omega)).cell 0; have H8 := Lib.hid (And.intro hb8 (And.intro hat8 (show Below w.heap.size w w8 from HV7.out.old.grown hg8 HV7.out.old.size (fun k e => by injection e with e; omega)))); clear hb8 hs8 hat8 hg8)
    go_ret
    refine ⟨.slice (some ⟨g, 0, none⟩) r.2.length c7, rfl, ?_, H8.out.2.2, fun b e => by
      injection e with e
      have e : g = b := e
      have := HC.out.2.2
      omega⟩
    rw [HPO.out]
    refine ⟨some ⟨g, 0, none⟩, c7, by rw [List.length_reverse], ⟨by rw [List.length_reverse]; exact HC.out.1, HC.out.2.1, fun h => by cases h⟩, fun j x hj => ⟨g, 0, [.int .i64 x], rfl, H8.out.1.lt, rfl, fun i u hu => ?_, rfl, HRNG.out x (List.mem_of_getElem? hj)⟩⟩
    match i, hu with
    | 0, hu =>
      simp at hu
      subst hu
      rw [Nat.zero_add, Nat.mul_one, Nat.add_zero, H8.out.1.cell j]
      exact H8.out.2.1 j x hj
end Go.Proofs.YtamadegodenobaaDoor
