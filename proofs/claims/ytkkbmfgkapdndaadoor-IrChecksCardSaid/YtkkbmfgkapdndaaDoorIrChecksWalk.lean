/- The walk of IrChecks: true of any function. -/
import Derived.Test.YtkkbmfgkapdndaaDoorIrRefCheck
namespace Go.Proofs.YtkkbmfgkapdndaaDoor
open Go.ChangeShapes Go.WideShapes Go.RowKit Go.Deep

set_option maxRecDepth 20000 in
set_option maxHeartbeats 1600000 in
theorem checks_walk (f : Ir.Fu) (bv : Value) (w : World) (hv : Blks w bv f.blocks) (_hp : -9223372036854775808 ≤ f.params ∧ f.params ≤ 9223372036854775807) (_hr : -9223372036854775808 ≤ f.regs ∧ f.regs ≤ 9223372036854775807) (ht : Tbl w) :
    Calls Tryd.prog 4 #[FuV f bv] w fun e w' => e = .returned (.bool true) ∧ Below w.heap.size w w' := by
  obtain ⟨A, cap, rfl⟩ := hv.form
  have hB := BoxF.new hv
  obtain ⟨c0, c1, c2, c3⟩ := hB.cells
  have HB := Lib.hid hB
  have HT := Lib.hid ht
  clear hB hv ht _hp _hr
  go_enter Tryd.func4, Tryd.ntmps4
  go_upto_region 1 with fail
  generalize w.alloc (.cells #[.string f.name, .int .i64 f.params, .int .i64 f.regs, .slice A f.blocks.length cap] 24) = w1 at *
  go_wp2_with fail
  refine (heavy_any _ f.blocks w1 HB.out.blks).mono ?_
  rintro e w2 ⟨h, rfl, rfl, hl⟩
  cases h with
  | true =>
    go_wp2_with fail
    go_ret
    exact ⟨rfl, HB.out.below⟩
  | false =>
    have HL := Lib.hid (hl rfl)
    clear hl
    by_cases hn : 1024 < f.name.size
    · have hn' : (1024 : Int) < (f.name.size : Int) := by omega
      clear hn
      go_wp2_with fail
      go_ret
      exact ⟨rfl, HB.out.below⟩
    · have hn' : (f.name.size : Int) ≤ 1024 := by omega
      clear hn
      go_upto_region 3 with fail
      have HBD := Lib.hid (HB.out.to (Below.refl _ _).drew)
      have hself : (Ir.check f == Ir.check f) = true := beq_self_eq_true _
      obtain ⟨C, hC⟩ : ∃ C, C = Ir.check f := ⟨_, rfl⟩
      rw [← hC] at hself
      have HC := Lib.hid hC
      have HX1 := Lib.hid (check_any f A cap w1.drew (HT.out.below HBD.out.below) HBD.out.blks HL.out)
      rw [← hC] at HX1
      have HX2 := Lib.hid (fun (W : World) (hb : BoxF w w.heap.size f A cap W) => rcheck_any f A cap W hb.blks HL.out)
      rw [← hC] at HX2
      clear hC
      go_region_held3 (fun W => W.cell? ⟨w.heap.size, 0, none⟩ = some (.string f.name) ∧ W.cell? ⟨w.heap.size, 1, none⟩ = some (.int .i64 f.params) ∧ W.cell? ⟨w.heap.size, 2, none⟩ = some (.int .i64 f.regs) ∧ W.cell? ⟨w.heap.size, 3, none⟩ = some (.slice A f.blocks.length cap)) (first | assumption | exact ⟨c0, c1, c2, c3⟩ | go_keep)
        (first
          | (go_at_call 8; (with_reducible refine HX1.out.mono ?_); rintro e w2 ⟨rfl, hb2⟩; have HB2 := Lib.hid (HBD.out.to hb2); have g2 := HB2.out.cells; clear hb2)
          | (go_at_call 9; (with_reducible refine (HX2.out _ HB2.out).mono ?_); rintro e w3 ⟨rfl, hb3⟩; have HB3 := Lib.hid (HB2.out.to hb3); have g3 := HB3.out.cells; clear hb3))
      go_wp2_with fail
      go_ret
      exact ⟨rfl, HB3.out.below⟩
end Go.Proofs.YtkkbmfgkapdndaaDoor
