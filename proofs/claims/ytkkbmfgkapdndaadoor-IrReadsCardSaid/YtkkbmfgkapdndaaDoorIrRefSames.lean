/- Same: the document's. -/
import Derived.Test.YtkkbmfgkapdndaaDoorIrSames
namespace Go.Proofs.YtkkbmfgkapdndaaDoor
open Go.ChangeShapes Go.WideShapes Go.RowKit Go.Deep

set_option maxRecDepth 20000 in
set_option maxHeartbeats 1600000 in
theorem rsame_any (x y : Ir.In) (sx sy : Value) (w : World) (hx : InR w (InsC x sx).toList x) (hy : InR w (InsC y sy).toList y) (hlx : x.args.length ≤ 1048576) (hly : y.args.length ≤ 1048576) :
    Calls Tryd.prog 20 #[InsV x sx, InsV y sy] w fun e w' => e = .returned (.bool (Ir.sameB x y)) ∧ Below w.heap.size w w' := by
  obtain ⟨A, cap, rfl, -⟩ := id (inr_nums hx)
  obtain ⟨B, cbp, rfl, -⟩ := id (inr_nums hy)
  have hB := Box2.new hx hy
  obtain ⟨⟨x0, x1, x2, x3, x4, x5⟩, ⟨y0, y1, y2, y3, y4, y5⟩⟩ := hB.cells
  have HB := Lib.hid hB
  have hl1 : (x.args.length : Int) ≤ 1048576 := by omega
  have hl2 : (y.args.length : Int) ≤ 1048576 := by omega
  have hw := same_ways x y
  clear hB hx hy hlx hly
  go_enter Tryd.func20, Tryd.ntmps20
  go_upto_region 1 with fail
  generalize (w.alloc (.cells (InsC x (.slice A x.args.length cap)) 32)).alloc (.cells (InsC y (.slice B y.args.length cbp)) 32) = w1 at *
  generalize w.heap.size + 1 = by_ at *
  rcases hw with ⟨h1, h2, h3, h4, h5, he⟩ | ⟨he, hcase⟩
  · have HE := Lib.hid he
    have e1 : (x.op != y.op) = false := by simp [h1]
    have e2 : (x.d != y.d) = false := by simp [h2]
    have e3 : (x.a != y.a) = false := by simp [h3]
    have e4 : (x.b != y.b) = false := by simp [h4]
    have e5 := bytes_same h5
    clear he h1 h2 h3 h4 h5
    by_cases hlen : x.args.length = y.args.length
    · have HL := Lib.hid hlen
      have e6 : ((x.args.length : Int) != (y.args.length : Int)) = false := by simp [hlen]
      clear hlen
      go_wp2_with fail
      go_loopw [5] (fun i wr => ∃ k : Nat, k ≤ x.args.length ∧ i = .int .i64 (k : Int) ∧ x.args.take k = y.args.take k ∧ Box2 w w.heap.size by_ x y (.slice A x.args.length cap) (.slice B y.args.length cbp) wr) (fun i _ => x.args.length - (intOf i).toNat)
      case atStart => exact ⟨0, Nat.zero_le _, rfl, rfl, HB.out⟩
      case round =>
        obtain ⟨k, hk, rfl, hall, hB⟩ := hrel
        have HA := Lib.hid hall
        have HB3 := Lib.hid hB
        clear hall x0 x1 x2 x3 x4 x5 y0 y1 y2 y3 y4 y5
        obtain ⟨⟨-, -, -, -, -, x5⟩, ⟨-, -, -, -, -, y5⟩⟩ := hB.cells
        clear hB
        by_cases hlt : k < x.args.length
        · have hki : (k : Int) < (x.args.length : Int) := by omega
          have hkj : (k : Int) < (y.args.length : Int) := by have := HL.out; omega
          obtain ⟨u, hu⟩ : ∃ u, x.args[k]? = some u := ⟨_, List.getElem?_eq_getElem hlt⟩
          obtain ⟨v, hv⟩ : ∃ v, y.args[k]? = some v := ⟨_, List.getElem?_eq_getElem (by have := HL.out; omega)⟩
          obtain ⟨b1, o1, rfl, l1, d1⟩ := (inr_nums HB3.out.rx).at hu
          obtain ⟨b2, o2, rfl, l2, d2⟩ := (inr_nums HB3.out.ry).at hv
          by_cases hr : u = v
          · have HN := Lib.hid (take_ext HA.out hu hv hr)
            clear hu hv
            subst hr
            have hne : (u != u) = false := by simp
            go_wp2_with fail
            go_quiet (fail)
            go_wp2_with fail
            go_roundw
            case rel => exact ⟨k + 1, by omega, by go_num, HN.out, HB3.out.to (Quiet.drewN _ _).below⟩
            case measure => simp [intOf]; omega
          · have HN := Lib.hid (beq_bad hu hv hr)
            have hne : (u != v) = true := by simp [hr]
            clear hu hv hr
            go_wp2_with fail
            go_quiet (fail)
            go_wp2_with fail
            go_ret
            exact ⟨retb (by rw [HE.out]; exact HN.out.symm), (HB3.out.to (Quiet.drewN _ _).below).below⟩
        · have hkl : k = x.args.length := by omega
          have HN := Lib.hid (beq_all HL.out (by rw [← hkl]; exact HA.out))
          clear hkl
          go_wp2_with fail
          go_ret
          exact ⟨retb (by rw [HE.out]; exact HN.out.symm), HB3.out.below⟩
    · have HN := Lib.hid (beq_len hlen)
      have e6 : ((x.args.length : Int) != (y.args.length : Int)) = true := by simp; omega
      clear hlen
      go_wp2_with fail
      go_ret
      exact ⟨retb (by rw [HE.out]; exact HN.out.symm), HB.out.below⟩
  · have HE := Lib.hid he
    clear he
    rcases hcase with h1 | ⟨h1, h2⟩ | ⟨h1, h2, h3⟩ | ⟨h1, h2, h3, h4⟩ | ⟨h1, h2, h3, h4, h5⟩
    · have e1 : (x.op != y.op) = true := by simp [h1]
      clear h1
      go_wp2_with fail
      go_ret
      exact ⟨retb HE.out.symm, HB.out.below⟩
    · have e1 : (x.op != y.op) = false := by simp [h1]
      have e2 : (x.d != y.d) = true := by simp [h2]
      clear h1 h2
      go_wp2_with fail
      go_ret
      exact ⟨retb HE.out.symm, HB.out.below⟩
    · have e1 : (x.op != y.op) = false := by simp [h1]
      have e2 : (x.d != y.d) = false := by simp [h2]
      have e3 : (x.a != y.a) = true := by simp [h3]
      clear h1 h2 h3
      go_wp2_with fail
      go_ret
      exact ⟨retb HE.out.symm, HB.out.below⟩
    · have e1 : (x.op != y.op) = false := by simp [h1]
      have e2 : (x.d != y.d) = false := by simp [h2]
      have e3 : (x.a != y.a) = false := by simp [h3]
      have e4 : (x.b != y.b) = true := by simp [h4]
      clear h1 h2 h3 h4
      go_wp2_with fail
      go_ret
      exact ⟨retb HE.out.symm, HB.out.below⟩
    · have e1 : (x.op != y.op) = false := by simp [h1]
      have e2 : (x.d != y.d) = false := by simp [h2]
      have e3 : (x.a != y.a) = false := by simp [h3]
      have e4 : (x.b != y.b) = false := by simp [h4]
      have e5 := bytes_neq h5
      clear h1 h2 h3 h4 h5
      go_wp2_with fail
      go_ret
      exact ⟨retb HE.out.symm, HB.out.below⟩
end Go.Proofs.YtkkbmfgkapdndaaDoor
