/- The walk of IrReads: true of any two instructions. -/
import Derived.Test.YtkkbmfgkapdndaaDoorIrRefSames
import Derived.Test.YtkkbmfgkapdndaaDoorIrRefUses
import Derived.Test.YtkkbmfgkapdndaaDoorIrFits
import Derived.Deep.RegionHeld3
import Derived.Deep.RegionWith
namespace Go.Proofs.YtkkbmfgkapdndaaDoor
open Go.ChangeShapes Go.WideShapes Go.RowKit Go.Deep

/-- The two boxes, and the table. -/
structure Rd (w0 : World) (bx by_ : Nat) (x y : Ir.In) (sx sy : Value) (W : World) : Prop where
  box : Box2 w0 bx by_ x y sx sy W
  tbl : Tbl W
theorem Rd.to {w0 W W' : World} {bx by_ : Nat} {x y : Ir.In} {sx sy : Value} (h : Rd w0 bx by_ x y sx sy W) (hb : Below W.heap.size W W') : Rd w0 bx by_ x y sx sy W' := ⟨h.box.to hb, h.tbl.below hb⟩

/-- A list comes back that reads as l. -/
def NumsPost (l : List Int) (w : World) (e : Ending) (w' : World) : Prop := ∃ v, e = .returned v ∧ Nums w' v l ∧ Below w.heap.size w w'
theorem ListPost.nums {l : List Int} {w : World} {e : Ending} {w' : World} (h : ListPost l w e w') (hl : In64 l) : NumsPost l w e w' := by
  obtain ⟨v, h1, h2, h3⟩ := h
  exact ⟨v, h1, h2.nums hl, h3⟩

theorem same_same (u v : Value) (a : List Int) (w : World) (hu : Nums w u a) (hv : Nums w v a) (hla : a.length ≤ 1048576) :
    Calls Tryd.prog 14 #[u, v] w fun e w' => e = .returned (.bool true) ∧ Below w.heap.size w w' :=
  (same_nums u v a a w hu hv hla hla).mono fun e w' ⟨h1, h2⟩ => ⟨by rw [h1, beq_self_eq_true], h2.below⟩

theorem sames_self (x : Ir.In) : Ir.sameB x x = true := by unfold Ir.sameB; simp

set_option maxRecDepth 20000 in
set_option maxHeartbeats 3200000 in
theorem reads_walk (x : Ir.In) (sx : Value) (y : Ir.In) (sy : Value) (w : World) (hx : InR w (InsC x sx).toList x) (hy : InR w (InsC y sy).toList y) (ht : Tbl w) :
    Calls Tryd.prog 5 #[InsV x sx, InsV y sy] w fun e w' => e = .returned (.bool true) ∧ Below w.heap.size w w' := by
  obtain ⟨A, cap, rfl, -⟩ := id (inr_nums hx)
  obtain ⟨B, cbp, rfl, -⟩ := id (inr_nums hy)
  have hB := Box2.new hx hy
  have HTX := Lib.hid (ht.below hB.below)
  obtain ⟨⟨x0, x1, x2, x3, x4, x5⟩, ⟨y0, y1, y2, y3, y4, y5⟩⟩ := hB.cells
  have HB := Lib.hid hB
  clear hB hx hy ht
  go_enter Tryd.func5, Tryd.ntmps5
  go_upto_region 1 with fail
  generalize (w.alloc (.cells (InsC x (.slice A x.args.length cap)) 32)).alloc (.cells (InsC y (.slice B y.args.length cbp)) 32) = w1 at *
  by_cases h1 : 1024 < x.args.length
  · have h1' : (1024 : Int) < (x.args.length : Int) := by omega
    clear h1
    go_wp2_with fail
    go_ret
    exact ⟨rfl, HB.out.below⟩
  have h1' : (x.args.length : Int) ≤ 1024 := by omega
  by_cases h2 : 1024 < y.args.length
  · have h2' : (1024 : Int) < (y.args.length : Int) := by omega
    clear h1 h2
    go_wp2_with fail
    go_ret
    exact ⟨rfl, HB.out.below⟩
  have h2' : (y.args.length : Int) ≤ 1024 := by omega
  by_cases h3 : 1024 < x.name.size
  · have h3' : (1024 : Int) < (x.name.size : Int) := by omega
    clear h1 h2 h3
    go_wp2_with fail
    go_ret
    exact ⟨rfl, HB.out.below⟩
  have h3' : (x.name.size : Int) ≤ 1024 := by omega
  by_cases h4 : 1024 < y.name.size
  · have h4' : (1024 : Int) < (y.name.size : Int) := by omega
    clear h1 h2 h3 h4
    go_wp2_with fail
    go_ret
    exact ⟨rfl, HB.out.below⟩
  have h4' : (y.name.size : Int) ≤ 1024 := by omega
  have HL := Lib.hid (And.intro (show x.args.length ≤ 1048000 by omega) (show y.args.length ≤ 1048000 by omega))
  clear h1 h2 h3 h4
  go_upto_region 3 with fail
  clear h1' h2' h3' h4'
  have HBD := Lib.hid (HB.out.to (Below.refl _ _).drew)
  have HTD := Lib.hid (HTX.out.below (Below.refl _ _).drew)
  have hself1 : (Ir.dest x == Ir.dest x) = true := beq_self_eq_true _
  have hself2 : (Ir.last x.op == Ir.last x.op) = true := beq_self_eq_true _
  have hself3 : (Ir.sameB x y == Ir.sameB x y) = true := beq_self_eq_true _
  have HU1 := Lib.hid (fun (W : World) (h : Rd w w.heap.size (w.heap.size + 1) x y (.slice A x.args.length cap) (.slice B y.args.length cbp) W) => (uses_any x (.slice A x.args.length cap) W h.tbl h.box.rx HL.out.1).mono fun e w' hp => hp.nums (uses_in64 h.box.rx))
  have HU2 := Lib.hid (fun (W : World) (h : Rd w w.heap.size (w.heap.size + 1) x y (.slice A x.args.length cap) (.slice B y.args.length cbp) W) => (ruses_any x (.slice A x.args.length cap) W h.box.rx HL.out.1).mono fun e w' hp => hp.nums (uses_in64 h.box.rx))
  have HT1 := Lib.hid (fun (W : World) (h : Rd w w.heap.size (w.heap.size + 1) x y (.slice A x.args.length cap) (.slice B y.args.length cbp) W) => (targets_any x (.slice A x.args.length cap) W h.tbl h.box.rx).mono fun e w' hp => hp.nums (targets_in64 h.box.rx))
  have HT2 := Lib.hid (fun (W : World) (h : Rd w w.heap.size (w.heap.size + 1) x y (.slice A x.args.length cap) (.slice B y.args.length cbp) W) => (rtargets_any x (.slice A x.args.length cap) W h.box.rx).mono fun e w' hp => hp.nums (targets_in64 h.box.rx))
  have HD1 := Lib.hid (fun (W : World) (h : Rd w w.heap.size (w.heap.size + 1) x y (.slice A x.args.length cap) (.slice B y.args.length cbp) W) => def_any x (.slice A x.args.length cap) W h.tbl h.box.rx)
  have HD2 := Lib.hid (fun (W : World) (h : Rd w w.heap.size (w.heap.size + 1) x y (.slice A x.args.length cap) (.slice B y.args.length cbp) W) => rdef_any x (.slice A x.args.length cap) W h.box.rx)
  have HL1 := Lib.hid (fun (W : World) => last_any x.op W)
  have HL2 := Lib.hid (fun (W : World) => rlast_any x.op W)
  have HS1 := Lib.hid (fun (W : World) (h : Rd w w.heap.size (w.heap.size + 1) x y (.slice A x.args.length cap) (.slice B y.args.length cbp) W) => same_any x y (.slice A x.args.length cap) (.slice B y.args.length cbp) W h.box.rx h.box.ry (Nat.le_trans HL.out.1 (by decide)) (Nat.le_trans HL.out.2 (by decide)))
  have HS2 := Lib.hid (fun (W : World) (h : Rd w w.heap.size (w.heap.size + 1) x y (.slice A x.args.length cap) (.slice B y.args.length cbp) W) => rsame_any x y (.slice A x.args.length cap) (.slice B y.args.length cbp) W h.box.rx h.box.ry (Nat.le_trans HL.out.1 (by decide)) (Nat.le_trans HL.out.2 (by decide)))
  have HS3 := Lib.hid (fun (W : World) (h : Rd w w.heap.size (w.heap.size + 1) x y (.slice A x.args.length cap) (.slice B y.args.length cbp) W) => (same_any x x (.slice A x.args.length cap) (.slice A x.args.length cap) W h.box.rx h.box.rx (Nat.le_trans HL.out.1 (by decide)) (Nat.le_trans HL.out.1 (by decide))).mono fun e w' ⟨h1, h2⟩ => (show e = Ending.returned (Value.bool true) ∧ Below W.heap.size W w' from ⟨by rw [h1, sames_self], h2⟩))
  have HLU := Lib.hid (uses_len x HL.out.1)
  have HLT := Lib.hid (targets_len x)
  have R1 := Lib.hid (Rd.mk HBD.out HTD.out)
  clear HBD HTD HL HB HTX
  generalize Ir.dest x = D at *
  generalize Ir.last x.op = L at *
  generalize Ir.sameB x y = E at *
  generalize Ir.uses x = U at *
  generalize Ir.targets x = T at *
  go_region_held3 (fun W => (W.cell? ⟨w.heap.size, 0, none⟩ = some (.int .i64 x.op) ∧ W.cell? ⟨w.heap.size, 1, none⟩ = some (.int .i64 x.d) ∧ W.cell? ⟨w.heap.size, 2, none⟩ = some (.int .i64 x.a) ∧ W.cell? ⟨w.heap.size, 3, none⟩ = some (.int .i64 x.b) ∧ W.cell? ⟨w.heap.size, 4, none⟩ = some (.string x.name) ∧ W.cell? ⟨w.heap.size, 5, none⟩ = some (.slice A x.args.length cap)) ∧
    (W.cell? ⟨w.heap.size + 1, 0, none⟩ = some (.int .i64 y.op) ∧ W.cell? ⟨w.heap.size + 1, 1, none⟩ = some (.int .i64 y.d) ∧ W.cell? ⟨w.heap.size + 1, 2, none⟩ = some (.int .i64 y.a) ∧ W.cell? ⟨w.heap.size + 1, 3, none⟩ = some (.int .i64 y.b) ∧ W.cell? ⟨w.heap.size + 1, 4, none⟩ = some (.string y.name) ∧ W.cell? ⟨w.heap.size + 1, 5, none⟩ = some (.slice B y.args.length cbp))) (first | assumption | exact ⟨⟨x0, x1, x2, x3, x4, x5⟩, ⟨y0, y1, y2, y3, y4, y5⟩⟩ | go_keep)
    (first
      | (go_at_call 12; (with_reducible refine (HU1.out _ R1.out).mono ?_); rintro e w2 ⟨v2, rfl, hn, hb⟩; have R2 := Lib.hid (R1.out.to hb); have N2 := Lib.hid hn; have g2 := R2.out.box.cells; clear hb hn)
      | (go_at_call 15; (with_reducible refine (HU2.out _ R2.out).mono ?_); rintro e w3 ⟨v3, rfl, hn, hb⟩; have R3 := Lib.hid (R2.out.to hb); have N3 := Lib.hid hn; have M3 := Lib.hid (N2.out.below hb); have g3 := R3.out.box.cells; clear hb hn)
      | (go_at_call 14; (with_reducible refine (same_same v2 v3 U w3 M3.out N3.out HLU.out).mono ?_); rintro e w4 ⟨rfl, hb⟩; have R4 := Lib.hid (R3.out.to hb); have g4 := R4.out.box.cells; clear hb)
      | (go_at_call 13; (with_reducible refine (HD1.out _ R4.out).mono ?_); rintro e w5 ⟨rfl, hb⟩; have R5 := Lib.hid (R4.out.to hb); have g5 := R5.out.box.cells; clear hb)
      | (go_at_call 16; (with_reducible refine (HD2.out _ R5.out).mono ?_); rintro e w6 ⟨rfl, hb⟩; have R6 := Lib.hid (R5.out.to hb); have g6 := R6.out.box.cells; clear hb)
      | (go_at_call 11; (with_reducible refine (HT1.out _ R6.out).mono ?_); rintro e w7 ⟨v7, rfl, hn, hb⟩; have R7 := Lib.hid (R6.out.to hb); have N7 := Lib.hid hn; have g7 := R7.out.box.cells; clear hb hn)
      | (go_at_call 17; (with_reducible refine (HT2.out _ R7.out).mono ?_); rintro e w8 ⟨v8, rfl, hn, hb⟩; have R8 := Lib.hid (R7.out.to hb); have N8 := Lib.hid hn; have M8 := Lib.hid (N7.out.below hb); have g8 := R8.out.box.cells; clear hb hn)
      | (go_at_call 14; (with_reducible refine (same_same v7 v8 T w8 M8.out N8.out HLT.out).mono ?_); rintro e w9 ⟨rfl, hb⟩; have R9 := Lib.hid (R8.out.to hb); have g9 := R9.out.box.cells; clear hb)
      | (go_at_call 10; (with_reducible refine (HL1.out _).mono ?_); rintro e w2 ⟨rfl, rfl⟩)
      | (go_at_call 18; (with_reducible refine (HL2.out _).mono ?_); rintro e w2 ⟨rfl, rfl⟩)
      | (go_at_call 19; (with_reducible refine (HS1.out _ R9.out).mono ?_); rintro e w10 ⟨rfl, hb⟩; have R10 := Lib.hid (R9.out.to hb); have g10 := R10.out.box.cells; clear hb)
      | (go_at_call 20; (with_reducible refine (HS2.out _ R10.out).mono ?_); rintro e w11 ⟨rfl, hb⟩; have R11 := Lib.hid (R10.out.to hb); have g11 := R11.out.box.cells; clear hb)
      | (go_at_call 19; (with_reducible refine (HS3.out _ R11.out).mono ?_); rintro e w12 ⟨rfl, hb⟩; have R12 := Lib.hid (R11.out.to hb); have g12 := R12.out.box.cells; clear hb))
  go_wp2_with fail
  go_ret
  exact ⟨rfl, R12.out.box.below⟩
end Go.Proofs.YtkkbmfgkapdndaaDoor
