/- The document's numbers of an instruction. -/
import Derived.Test.YtcoehmmiplffgaaDoorTextRefLine
import Derived.Test.YtcoehmmiplffgaaDoorTextIns
namespace Go.Proofs.YtcoehmmiplffgaaDoor
open Go.ChangeShapes Go.WideShapes Go.RowKit Go.Deep

/-- The numbers of an instruction, as the document's line has them. -/
def numsOf (code : Bool) (x : Ir.In) : List Int :=
  if 3 ≤ x.op ∧ x.op ≤ 7 then [x.d, x.a, x.b] else if x.op = 9 then [x.a, x.b] else if x.op = 10 ∨ x.op = 12 ∨ x.op = 14 then [x.a]
  else if x.op = 13 then [x.a, x.b, x.d] else if x.op = 11 then (if code then [x.d, x.a] else x.d :: x.args) else [x.d, x.a]

theorem nums_three (w : World) (a b c : Int) (h : In64 [a, b, c]) : Nums (w.alloc (.cells #[.int .i64 a, .int .i64 b, .int .i64 c] 3)) (.slice (some ⟨w.heap.size, 0, none⟩) 3 3) [a, b, c] :=
  RowI.nums (base := 0) (World.ownsRow_lit (base := 0) (e := 3) (size := 1) w #[.int .i64 a, .int .i64 b, .int .i64 c] 3 (Nat.zero_le _) (by unfold maxLen; omega) rfl) h

theorem in_nums {w w' : World} {x : Ir.In} {sl : Value} (h : InR w (InsC x sl).toList x) (hb : Below w.heap.size w w') : Nums w' sl x.args := by
  obtain ⟨sl', h1, h2, -⟩ := h
  simp at h1
  rw [h1]
  exact h2.below hb

theorem below_rowf {w w3 w4 : World} {o : Obj} {v : Value} {l : List Int} (hb : Below w.heap.size w w3) (hr : RowI w3 w.heap.size v l) (hg : (w3.alloc o).grownBy w4 v.ownBlock) : Below w.heap.size w w4 :=
  (hb.alloc hb.size _).grown hg (by have := hb.size; simp; omega) (fun k e => (World.ownsRow.lt hr k e).1)

/-- A row of numbers comes back. -/
def NumsPost (l : List Int) (w : World) (e : Ending) (w' : World) : Prop := ∃ v, e = .returned v ∧ RowI w' w.heap.size v l ∧ Below w.heap.size w w'

theorem numsOf_ways (code : Bool) (x : Ir.In) :
    ((x.op = 3 ∨ x.op = 4 ∨ x.op = 5 ∨ x.op = 6 ∨ x.op = 7) ∧ numsOf code x = [x.d, x.a, x.b]) ∨ (x.op = 9 ∧ numsOf code x = [x.a, x.b]) ∨ ((x.op = 10 ∨ x.op = 12 ∨ x.op = 14) ∧ numsOf code x = [x.a]) ∨
    (x.op = 13 ∧ numsOf code x = [x.a, x.b, x.d]) ∨ (x.op = 11 ∧ code = true ∧ numsOf code x = [x.d, x.a]) ∨ (x.op = 11 ∧ code = false ∧ numsOf code x = x.d :: x.args) ∨
    ((x.op ≠ 3 ∧ x.op ≠ 4 ∧ x.op ≠ 5 ∧ x.op ≠ 6 ∧ x.op ≠ 7 ∧ x.op ≠ 9 ∧ x.op ≠ 10 ∧ x.op ≠ 12 ∧ x.op ≠ 14 ∧ x.op ≠ 13 ∧ x.op ≠ 11) ∧ numsOf code x = [x.d, x.a]) := by
  unfold numsOf
  by_cases h1 : 3 ≤ x.op ∧ x.op ≤ 7
  · exact .inl ⟨by omega, by rw [if_pos h1]⟩
  rw [if_neg h1]
  by_cases h2 : x.op = 9
  · exact .inr (.inl ⟨h2, by rw [if_pos h2]⟩)
  rw [if_neg h2]
  by_cases h3 : x.op = 10 ∨ x.op = 12 ∨ x.op = 14
  · exact .inr (.inr (.inl ⟨h3, by rw [if_pos h3]⟩))
  rw [if_neg h3]
  by_cases h4 : x.op = 13
  · exact .inr (.inr (.inr (.inl ⟨h4, by rw [if_pos h4]⟩)))
  rw [if_neg h4]
  by_cases h5 : x.op = 11
  · rw [if_pos h5]
    cases code with
    | true => exact .inr (.inr (.inr (.inr (.inl ⟨h5, rfl, rfl⟩))))
    | false => exact .inr (.inr (.inr (.inr (.inr (.inl ⟨h5, rfl, rfl⟩)))))
  rw [if_neg h5]
  exact .inr (.inr (.inr (.inr (.inr (.inr ⟨by omega, rfl⟩)))))

set_option maxRecDepth 20000 in
set_option maxHeartbeats 4000000 in
theorem rnumbers_any (x : Ir.In) (sl : Value) (code : Bool) (w : World) (hx : InR w (InsC x sl).toList x) (hlen : x.args.length ≤ 1048000) :
    Calls Tryd.prog 32 #[InsV x sl, .bool code] w (NumsPost (numsOf code x) w) := by
  obtain ⟨_, -, -, hop, hd64, ha64, hb64⟩ := id hx
  have hB := Blk.new w 46 (InsC x sl)
  have hb : Below w.heap.size w (w.alloc (.cells (InsC x sl) 46)) := (Below.refl _ _).alloc (Nat.le_refl _) _
  have HTW := Lib.hid (hB.alloc (.cells #[] 3))
  have HW3 := Lib.hid (hb.alloc hb.size (.cells #[] 3))
  have hR3 := row_none (w.alloc (.cells (InsC x sl) 46)) w.heap.size hb.size
  rw [show (w.alloc (.cells (InsC x sl) 46)).heap.size = w.heap.size + 1 by simp] at hR3
  have HR3 := Lib.hid hR3
  have HX := Lib.hid hx
  have HA := Lib.hid (show In64 [x.a] by intro n hn; simp at hn; subst hn; exact ha64)
  have HD := Lib.hid (show In64 [x.d] by intro n hn; simp at hn; subst hn; exact hd64)
  have HAB := Lib.hid (show In64 [x.a, x.b] by intro n hn; simp at hn; rcases hn with rfl | rfl <;> assumption)
  have HDA := Lib.hid (show In64 [x.d, x.a] by intro n hn; simp at hn; rcases hn with rfl | rfl <;> assumption)
  have HDAB := Lib.hid (show In64 [x.d, x.a, x.b] by intro n hn; simp at hn; rcases hn with rfl | rfl | rfl <;> assumption)
  have HABD := Lib.hid (show In64 [x.a, x.b, x.d] by intro n hn; simp at hn; rcases hn with rfl | rfl | rfl <;> assumption)
  have HL := Lib.hid hlen
  have HU := Lib.hid (numsOf_ways code x)
  clear hB hb hR3 hx ha64 hb64 hd64 hlen
  go_enter Tryd.func32, Tryd.ntmps32
  go_upto_region 2 with fail
  generalize (w.alloc (.cells (InsC x sl) 46)).alloc (.cells #[] 3) = w3 at *
  obtain ⟨d0, d1, d2, d3, d4, d5⟩ := cells6 HTW.out
  rcases HU.out with ⟨ho, hu⟩ | ⟨ho, hu⟩ | ⟨ho, hu⟩ | ⟨ho, hu⟩ | ⟨ho, hcode, hu⟩ | ⟨ho, hcode, hu⟩ | ⟨ho, hu⟩
  · have HE := Lib.hid hu
    clear hu HU
    generalize x.op = op at *
    rcases ho with rfl | rfl | rfl | rfl | rfl
    all_goals
      go_wp2_with (at_builtin; refine wpList_append_nums rfl (.tmp 15) (.tmp 22) rfl (HR3.out.alloc _) (nums_three w3 x.d x.a x.b HDAB.out) (by simp) (by have := HW3.out.size; simp; omega) rfl rfl ?_; intro v4 w4 hr4 hg4; have HR4 := Lib.hid hr4; have HB4 := Lib.hid (below_rowf HW3.out HR3.out hg4); clear hr4 hg4)
      go_ret
      exact ⟨_, rfl, by rw [HE.out]; exact HR4.out, HB4.out⟩
  · have HE := Lib.hid hu
    clear hu HU
    generalize x.op = op at *
    subst ho
    go_wp2_with (at_builtin; refine wpList_append_nums rfl (.tmp 26) (.tmp 31) rfl (HR3.out.alloc _) (nums_two w3 x.a x.b HAB.out) (by simp) (by have := HW3.out.size; simp; omega) rfl rfl ?_; intro v4 w4 hr4 hg4; have HR4 := Lib.hid hr4; have HB4 := Lib.hid (below_rowf HW3.out HR3.out hg4); clear hr4 hg4)
    go_ret
    exact ⟨_, rfl, by rw [HE.out]; exact HR4.out, HB4.out⟩
  · have HE := Lib.hid hu
    clear hu HU
    generalize x.op = op at *
    rcases ho with rfl | rfl | rfl
    all_goals
      go_wp2_with (at_builtin; refine wpList_append_nums rfl (.tmp 37) (.tmp 40) rfl (HR3.out.alloc _) (nums_one w3 x.a HA.out) (by simp) (by have := HW3.out.size; simp; omega) rfl rfl ?_; intro v4 w4 hr4 hg4; have HR4 := Lib.hid hr4; have HB4 := Lib.hid (below_rowf HW3.out HR3.out hg4); clear hr4 hg4)
      go_ret
      exact ⟨_, rfl, by rw [HE.out]; exact HR4.out, HB4.out⟩
  · have HE := Lib.hid hu
    clear hu HU
    generalize x.op = op at *
    subst ho
    go_wp2_with (at_builtin; refine wpList_append_nums rfl (.tmp 44) (.tmp 51) rfl (HR3.out.alloc _) (nums_three w3 x.a x.b x.d HABD.out) (by simp) (by have := HW3.out.size; simp; omega) rfl rfl ?_; intro v4 w4 hr4 hg4; have HR4 := Lib.hid hr4; have HB4 := Lib.hid (below_rowf HW3.out HR3.out hg4); clear hr4 hg4)
    go_ret
    exact ⟨_, rfl, by rw [HE.out]; exact HR4.out, HB4.out⟩
  · have HE := Lib.hid hu
    clear hu HU
    subst hcode
    generalize x.op = op at *
    subst ho
    go_upto_region 19 with (at_builtin; refine wpList_append_nums rfl (.tmp 55) (.tmp 58) rfl (HR3.out.alloc _) (nums_one w3 x.d HD.out) (by simp) (by have := HW3.out.size; simp; omega) rfl rfl ?_; intro v4 w4 hr4 hg4; have HR4 := Lib.hid hr4; have HB4 := Lib.hid (below_rowf HW3.out HR3.out hg4); have HT4 := Lib.hid ((HTW.out.alloc (.cells #[.int .i64 x.d] 3)).grown hg4 (by simp [Value.ownBlock])); clear hr4 hg4)
    obtain ⟨k0, k1, k2, k3, k4, k5⟩ := cells6 HT4.out
    clear d0 d1 d2 d3 d4 d5
    go_wp2_with (at_builtin; refine wpList_append_nums rfl (.tmp 61) (.tmp 64) rfl (HR4.out.alloc _) (nums_one w4 x.a HA.out) (by simp) (by have := HB4.out.size; simp; omega) rfl rfl ?_; intro v5 w5 hr5 hg5; have HR5 := Lib.hid hr5; have HB5 := Lib.hid (below_rowf HB4.out HR4.out hg5); clear hr5 hg5)
    go_ret
    exact ⟨_, rfl, by rw [HE.out]; exact HR5.out, HB5.out⟩
  · have HE := Lib.hid hu
    clear hu HU
    subst hcode
    generalize x.op = op at *
    subst ho
    go_upto_region 19 with (at_builtin; refine wpList_append_nums rfl (.tmp 55) (.tmp 58) rfl (HR3.out.alloc _) (nums_one w3 x.d HD.out) (by simp) (by have := HW3.out.size; simp; omega) rfl rfl ?_; intro v4 w4 hr4 hg4; have HR4 := Lib.hid hr4; have HB4 := Lib.hid (below_rowf HW3.out HR3.out hg4); have HT4 := Lib.hid ((HTW.out.alloc (.cells #[.int .i64 x.d] 3)).grown hg4 (by simp [Value.ownBlock])); clear hr4 hg4)
    obtain ⟨k0, k1, k2, k3, k4, k5⟩ := cells6 HT4.out
    clear d0 d1 d2 d3 d4 d5
    go_wp2_with (at_builtin; refine wpList_append_nums rfl (.tmp 66) (.tmp 68) rfl HR4.out (in_nums HX.out HB4.out) (by have := HL.out; simp; omega) HB4.out.size rfl rfl ?_; intro v5 w5 hr5 hg5; have HR5 := Lib.hid hr5; have HB5 := Lib.hid (HB4.out.grown hg5 HB4.out.size (fun k e => (World.ownsRow.lt HR4.out k e).1)); clear hr5 hg5)
    go_ret
    exact ⟨_, rfl, by rw [HE.out]; exact HR5.out, HB5.out⟩
  · have HE := Lib.hid hu
    have e3 : (x.op == 3) = false := by simp; omega
    have e4 : (x.op == 4) = false := by simp; omega
    have e5 : (x.op == 5) = false := by simp; omega
    have e6 : (x.op == 6) = false := by simp; omega
    have e7 : (x.op == 7) = false := by simp; omega
    have e9 : (x.op == 9) = false := by simp; omega
    have e10 : (x.op == 10) = false := by simp; omega
    have e11 : (x.op == 11) = false := by simp; omega
    have e12 : (x.op == 12) = false := by simp; omega
    have e13 : (x.op == 13) = false := by simp; omega
    have e14 : (x.op == 14) = false := by simp; omega
    clear hu HU ho
    go_wp2_with (at_builtin; refine wpList_append_nums rfl (.tmp 70) (.tmp 75) rfl (HR3.out.alloc _) (nums_two w3 x.d x.a HDA.out) (by simp) (by have := HW3.out.size; simp; omega) rfl rfl ?_; intro v4 w4 hr4 hg4; have HR4 := Lib.hid hr4; have HB4 := Lib.hid (below_rowf HW3.out HR3.out hg4); clear hr4 hg4)
    go_ret
    exact ⟨_, rfl, by rw [HE.out]; exact HR4.out, HB4.out⟩
end Go.Proofs.YtcoehmmiplffgaaDoor
