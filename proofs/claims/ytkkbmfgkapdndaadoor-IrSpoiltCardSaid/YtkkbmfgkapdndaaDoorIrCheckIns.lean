/- The first thing that is wrong with an instruction: the program's. -/
import Derived.Test.YtkkbmfgkapdndaaDoorIrFits
import Derived.Test.YtkkbmfgkapdndaaDoorIrNames
import Derived.Deep.RegionHeld3
import Derived.Deep.RegionWith
namespace Go.Proofs.YtkkbmfgkapdndaaDoor
open Go.ChangeShapes Go.WideShapes Go.RowKit Go.Deep

def Ir.t5 (x : Ir.In) : Int := if Ir.fc x.op && decide (4 < x.args.length) then 192 else 0
def Ir.t4 (x : Ir.In) : Int := if Ir.fc x.op && !Ir.nm x.name then 70 else Ir.t5 x
def Ir.t3 (nb : Int) (x : Ir.In) : Int := if !Ir.within (Ir.targets x) nb then 74 else Ir.t4 x
def Ir.t2 (nb : Int) (x : Ir.In) : Int := if decide (Ir.fa x.op = 2) && decide (x.a < 0 ∨ 65536 ≤ x.a) then 81 else Ir.t3 nb x
def Ir.t1 (regs nb : Int) (x : Ir.In) : Int := if !Ir.regsB x regs then 73 else Ir.t2 nb x
theorem one_is (regs nb : Int) (x : Ir.In) (l : Bool) : Ir.one regs nb x l = if !Ir.fits x || !(Ir.last x.op == l) then 72 else Ir.t1 regs nb x := by
  have e : (!Ir.regsB x regs) = ((decide (Ir.fd x.op = 1) && decide (x.d < 0 ∨ regs ≤ x.d)) || !Ir.within (Ir.uses x) regs) := by
    unfold Ir.regsB
    rw [Bool.not_and, Bool.not_not]
  unfold Ir.t1 Ir.t2 Ir.t3 Ir.t4 Ir.t5
  rw [e]
  rfl
theorem one_fit {regs nb : Int} {x : Ir.In} {l : Bool} (h : Ir.fits x = false) : Ir.one regs nb x l = 72 := by rw [one_is, h]; rfl
theorem one_last {regs nb : Int} {x : Ir.In} {l : Bool} (h : (Ir.last x.op == l) = false) : Ir.one regs nb x l = 72 := by rw [one_is, h, Bool.not_false, Bool.or_true]; rfl
theorem one_t1 {regs nb : Int} {x : Ir.In} {l : Bool} (h : Ir.fits x = true) (h' : (Ir.last x.op == l) = true) : Ir.one regs nb x l = Ir.t1 regs nb x := by rw [one_is, h, h']; rfl
theorem t1_no {regs nb : Int} {x : Ir.In} (h : Ir.regsB x regs = false) : Ir.t1 regs nb x = 73 := by unfold Ir.t1; rw [h]; rfl
theorem t1_yes {regs nb : Int} {x : Ir.In} (h : Ir.regsB x regs = true) : Ir.t1 regs nb x = Ir.t2 nb x := by unfold Ir.t1; rw [h]; rfl
theorem t2_no {nb : Int} {x : Ir.In} (h : Ir.fa x.op = 2 ∧ (x.a < 0 ∨ 65536 ≤ x.a)) : Ir.t2 nb x = 81 := by unfold Ir.t2; rw [decide_eq_true h.1, decide_eq_true h.2]; rfl
theorem t2_yes {nb : Int} {x : Ir.In} (h : ¬ (Ir.fa x.op = 2 ∧ (x.a < 0 ∨ 65536 ≤ x.a))) : Ir.t2 nb x = Ir.t3 nb x := by
  unfold Ir.t2
  by_cases h1 : Ir.fa x.op = 2
  · rw [decide_eq_false (p := x.a < 0 ∨ 65536 ≤ x.a) (fun h' => h ⟨h1, h'⟩), Bool.and_false]; rfl
  · rw [decide_eq_false h1]; rfl
theorem t3_no {nb : Int} {x : Ir.In} (h : Ir.within (Ir.targets x) nb = false) : Ir.t3 nb x = 74 := by unfold Ir.t3; rw [h]; rfl
theorem t3_yes {nb : Int} {x : Ir.In} (h : Ir.within (Ir.targets x) nb = true) : Ir.t3 nb x = Ir.t4 x := by unfold Ir.t3; rw [h]; rfl
theorem t4_call {x : Ir.In} (h : Ir.fc x.op = false) : Ir.t4 x = 0 := by unfold Ir.t4 Ir.t5; rw [h]; rfl
theorem t4_no {x : Ir.In} (h : Ir.fc x.op = true) (h' : Ir.nm x.name = false) : Ir.t4 x = 70 := by unfold Ir.t4; rw [h, h']; rfl
theorem t4_many {x : Ir.In} (h : Ir.fc x.op = true) (h' : Ir.nm x.name = true) (h'' : 4 < x.args.length) : Ir.t4 x = 192 := by unfold Ir.t4 Ir.t5; rw [h, h', decide_eq_true h'']; rfl
theorem t4_yes {x : Ir.In} (h : Ir.fc x.op = true) (h' : Ir.nm x.name = true) (h'' : ¬ 4 < x.args.length) : Ir.t4 x = 0 := by unfold Ir.t4 Ir.t5; rw [h, h', decide_eq_false h'']; rfl

/-- The three boxes of checkIns: the function, the instruction, its Op's fields; and what the numbers read as. -/
structure Boxes (w0 : World) (bf bx bl : Nat) (f : Ir.Fu) (n : Nat) (A : Option Addr) (cap : Nat) (x : Ir.In) (sl : Value) (w : World) : Prop where
  fn : Blk w bf 24 #[.string f.name, .int .i64 f.params, .int .i64 f.regs, .slice A n cap]
  ins : Blk w bx 32 (InsC x sl)
  fl : Blk w bl 45 (FlC x.op)
  tbl : Tbl w
  inr : InR w (InsC x sl).toList x
  below : Below w0.heap.size w0 w

theorem Boxes.to {w0 w w' : World} {bf bx bl : Nat} {f : Ir.Fu} {n : Nat} {A : Option Addr} {cap : Nat} {x : Ir.In} {sl : Value} (h : Boxes w0 bf bx bl f n A cap x sl w) (hb : Below w.heap.size w w') : Boxes w0 bf bx bl f n A cap x sl w' :=
  ⟨h.fn.older hb h.fn.lt, h.ins.older hb h.ins.lt, h.fl.older hb h.fl.lt, h.tbl.below hb, h.inr.below hb, h.below.trans (hb.mono h.below.size)⟩

theorem Boxes.cells {w0 w : World} {bf bx bl : Nat} {f : Ir.Fu} {n : Nat} {A : Option Addr} {cap : Nat} {x : Ir.In} {sl : Value} (h : Boxes w0 bf bx bl f n A cap x sl w) :
    (w.cell? ⟨bf, 2, none⟩ = some (.int .i64 f.regs) ∧ w.cell? ⟨bf, 3, none⟩ = some (.slice A n cap)) ∧
    (w.cell? ⟨bx, 0, none⟩ = some (.int .i64 x.op) ∧ w.cell? ⟨bx, 1, none⟩ = some (.int .i64 x.d) ∧ w.cell? ⟨bx, 2, none⟩ = some (.int .i64 x.a) ∧ w.cell? ⟨bx, 3, none⟩ = some (.int .i64 x.b) ∧ w.cell? ⟨bx, 4, none⟩ = some (.string x.name) ∧ w.cell? ⟨bx, 5, none⟩ = some sl) ∧
    (w.cell? ⟨bl, 0, none⟩ = some (.int .i64 (Ir.fd x.op)) ∧ w.cell? ⟨bl, 1, none⟩ = some (.int .i64 (Ir.fa x.op)) ∧ w.cell? ⟨bl, 2, none⟩ = some (.int .i64 (Ir.fb x.op)) ∧ w.cell? ⟨bl, 3, none⟩ = some (.bool (Ir.fc x.op))) :=
  ⟨⟨h.fn.cell 2, h.fn.cell 3⟩, ⟨h.ins.cell 0, h.ins.cell 1, h.ins.cell 2, h.ins.cell 3, h.ins.cell 4, h.ins.cell 5⟩, h.fl.cell 0, h.fl.cell 1, h.fl.cell 2, h.fl.cell 3⟩

theorem ret_e {a b : Int} (h : a = b) : Ending.returned (.int .i64 a) = .returned (.int .i64 b) := by rw [h]

set_option maxRecDepth 20000 in
set_option maxHeartbeats 3200000 in
theorem checkIns_any (f : Ir.Fu) (A : Option Addr) (n cap : Nat) (x : Ir.In) (sl : Value) (l : Bool) (w : World) (ht : Tbl w) (hx : InR w (InsC x sl).toList x) (hlen : x.args.length ≤ 1048000) (hn : n ≤ 1048576) :
    Calls Tryd.prog 23 #[FuV f (.slice A n cap), InsV x sl, .bool l] w fun e w' => e = .returned (.int .i64 (Ir.one f.regs (n : Int) x l)) ∧ Below w.heap.size w w' := by
  have hop := hx
  obtain ⟨_, hs, ⟨B, cbp, hsl, -⟩, hop, -⟩ := hop
  simp at hs
  subst hs
  subst hsl
  have hW := (((Below.refl w.heap.size w).alloc (Nat.le_refl _) (.cells #[.string f.name, .int .i64 f.params, .int .i64 f.regs, .slice A n cap] 24)).alloc (by simp) (.cells (InsC x (.slice B x.args.length cbp)) 32))
  have HBF := Lib.hid ((Blk.new w 24 #[.string f.name, .int .i64 f.params, .int .i64 f.regs, .slice A n cap]).alloc (.cells (InsC x (.slice B x.args.length cbp)) 32))
  have hbi := Blk.new (w.alloc (.cells #[.string f.name, .int .i64 f.params, .int .i64 f.regs, .slice A n cap] 24)) 32 (InsC x (.slice B x.args.length cbp))
  rw [show (w.alloc (.cells #[.string f.name, .int .i64 f.params, .int .i64 f.regs, .slice A n cap] 24)).heap.size = w.heap.size + 1 by simp] at hbi
  have HBI := Lib.hid hbi
  have HX := Lib.hid (hx.below hW)
  have HT := Lib.hid (ht.below hW)
  have HW := Lib.hid hW
  have HL := Lib.hid hlen
  have HN := Lib.hid hn
  have hn' : (n : Int) ≤ 1048576 := by omega
  have hl' : (x.args.length : Int) ≤ 1048000 := by omega
  clear hW hx ht hlen hbi hn
  go_enter Tryd.func23, Tryd.ntmps23
  go_upto_region 1 with fail
  generalize (w.alloc (.cells #[.string f.name, .int .i64 f.params, .int .i64 f.regs, .slice A n cap] 24)).alloc (.cells (InsC x (.slice B x.args.length cbp)) 32) = w1 at *
  obtain ⟨c0, -⟩ := six_cells HBI.out
  have hl1 := HBI.out.lt
  go_wp2_with fail
  refine (fields_any x.op w1 HT.out hop).mono ?_
  rintro e w2 ⟨rfl, hb2⟩
  have HBX := Lib.hid (show Boxes w w.heap.size (w.heap.size + 1) w2.heap.size f n A cap x (.slice B x.args.length cbp) (w2.alloc (.cells (FlC x.op) 45)) from by
    have hb3 : Below w1.heap.size w1 (w2.alloc (.cells (FlC x.op) 45)) := hb2.alloc hb2.size _
    exact ⟨HBF.out.older hb3 HBF.out.lt, HBI.out.older hb3 HBI.out.lt, Blk.new _ _ _, HT.out.below hb3, HX.out.below hb3, HW.out.trans (hb3.mono HW.out.size)⟩)
  clear hb2 c0 hl1 HBF HBI HT HX HW
  go_upto_region 2 with fail
  generalize w2.alloc (.cells (FlC x.op) 45) = w3 at *
  generalize w2.heap.size = bl at *
  generalize w.heap.size + 1 = bx at *
  have h32 : bl < w3.heap.size := HBX.out.fl.lt
  have h31 : bx < w3.heap.size := HBX.out.ins.lt
  have h30 : w.heap.size < w3.heap.size := HBX.out.fn.lt
  obtain ⟨⟨f2, f3⟩, ⟨i0, i1, i2, i3, i4, i5⟩, q0, q1, q2, q3⟩ := HBX.out.cells
  go_wp2_with fail
  refine (fits_any x _ w3 HBX.out.inr).mono ?_
  rintro e w4 ⟨rfl, hb4⟩
  have HB4 := Lib.hid (HBX.out.to hb4)
  clear hb4 HBX f2 f3 i0 i1 i2 i3 i4 i5 q0 q1 q2 q3 h30 h31 h32
  have h32 : bl < w4.heap.size := HB4.out.fl.lt
  have h31 : bx < w4.heap.size := HB4.out.ins.lt
  have h30 : w.heap.size < w4.heap.size := HB4.out.fn.lt
  obtain ⟨⟨f2, f3⟩, ⟨i0, i1, i2, i3, i4, i5⟩, q0, q1, q2, q3⟩ := HB4.out.cells
  cases hfit : Ir.fits x with
  | false =>
    have HE := Lib.hid (one_fit (regs := f.regs) (nb := (n : Int)) (l := l) hfit)
    clear hfit
    go_wp2_with fail
    go_ret
    exact ⟨ret_e HE.out.symm, HB4.out.below⟩
  | true =>
    cases hlast : (Ir.last x.op == l) with
    | false =>
      have HE := Lib.hid (one_last (regs := f.regs) (nb := (n : Int)) hlast)
      clear hfit
      go_wp2_with (go_at_call 10; (with_reducible refine (last_any _ _).mono ?_); rintro e w' ⟨rfl, rfl⟩)
      go_ret
      exact ⟨ret_e HE.out.symm, HB4.out.below⟩
    | true =>
      have HO2 := Lib.hid (one_t1 (regs := f.regs) (nb := (n : Int)) hfit hlast)
      clear hfit
      go_upto_region 4 with (go_at_call 10; (with_reducible refine (last_any _ _).mono ?_); rintro e w' ⟨rfl, rfl⟩)
      clear hlast
      go_wp2_with fail
      refine (registers_any x _ f.regs w4 HB4.out.tbl HB4.out.inr HL.out).mono ?_
      rintro e w5 ⟨rfl, hb5⟩
      have HB5 := Lib.hid (HB4.out.to hb5)
      clear hb5 HB4 f2 f3 i0 i1 i2 i3 i4 i5 q0 q1 q2 q3 h30 h31 h32
      have h32 : bl < w5.heap.size := HB5.out.fl.lt
      have h31 : bx < w5.heap.size := HB5.out.ins.lt
      have h30 : w.heap.size < w5.heap.size := HB5.out.fn.lt
      obtain ⟨⟨f2, f3⟩, ⟨i0, i1, i2, i3, i4, i5⟩, q0, q1, q2, q3⟩ := HB5.out.cells
      cases hreg : Ir.regsB x f.regs with
      | false =>
        have HE := Lib.hid (HO2.out.trans (t1_no hreg))
        clear HO2 hreg
        go_wp2_with fail
        go_ret
        exact ⟨ret_e HE.out.symm, HB5.out.below⟩
      | true =>
        have HO3 := Lib.hid (HO2.out.trans (t1_yes hreg))
        clear HO2 hreg
        go_upto_region 6 with fail
        by_cases hnum : Ir.fa x.op = 2 ∧ (x.a < 0 ∨ 65536 ≤ x.a)
        · have HE := Lib.hid (HO3.out.trans (t2_no hnum))
          have E1 : (Ir.fa x.op == 2) = true := by simp [hnum.1]
          have hcase : x.a < 0 ∨ (0 ≤ x.a ∧ 65536 ≤ x.a) := by omega
          clear HO3 hnum
          rcases hcase with h | ⟨h, h'⟩
          all_goals
            go_wp2_with fail
            go_ret
            exact ⟨ret_e HE.out.symm, HB5.out.below⟩
        · have HO4 := Lib.hid (HO3.out.trans (t2_yes hnum))
          have hcase : (Ir.fa x.op == 2) = false ∨ ((Ir.fa x.op == 2) = true ∧ 0 ≤ x.a ∧ x.a < 65536) := by
            by_cases h1 : Ir.fa x.op = 2
            · exact .inr ⟨by simp [h1], by omega, by omega⟩
            · exact .inl (by simp [h1])
          clear HO3 hnum
          rcases hcase with h | ⟨h, h', h''⟩
          all_goals
            go_upto_region 8 with fail
            have HBD := Lib.hid (HB5.out.to (Below.refl _ _).drew)
            have HNT := Lib.hid (fun (v : Value) (W : World) (h : Nums W v (Ir.targets x)) => below_any v (Ir.targets x) (n : Int) W h (targets_len x))
            go_region_held3 (fun W => W.cell? ⟨w.heap.size, 3, none⟩ = some (.slice A n cap) ∧ W.cell? ⟨bx, 0, none⟩ = some (.int .i64 x.op) ∧ W.cell? ⟨bx, 1, none⟩ = some (.int .i64 x.d) ∧ W.cell? ⟨bx, 2, none⟩ = some (.int .i64 x.a) ∧ W.cell? ⟨bx, 3, none⟩ = some (.int .i64 x.b) ∧ W.cell? ⟨bx, 4, none⟩ = some (.string x.name) ∧ W.cell? ⟨bx, 5, none⟩ = some (.slice B x.args.length cbp)) (first | assumption | exact ⟨f3, i0, i1, i2, i3, i4, i5⟩ | go_keep)
              (first
                | (go_at_call 11; (with_reducible refine (targets_any x _ _ HBD.out.tbl HBD.out.inr).mono ?_); rintro e w6 ⟨v6, rfl, hr6, hb6⟩; have HN6 := Lib.hid (hr6.nums (targets_in64 HBD.out.inr)); have HB6 := Lib.hid (HBD.out.to hb6); have g6 := (show w6.cell? ⟨w.heap.size, 3, none⟩ = some (.slice A n cap) ∧ w6.cell? ⟨bx, 0, none⟩ = some (.int .i64 x.op) ∧ w6.cell? ⟨bx, 1, none⟩ = some (.int .i64 x.d) ∧ w6.cell? ⟨bx, 2, none⟩ = some (.int .i64 x.a) ∧ w6.cell? ⟨bx, 3, none⟩ = some (.int .i64 x.b) ∧ w6.cell? ⟨bx, 4, none⟩ = some (.string x.name) ∧ w6.cell? ⟨bx, 5, none⟩ = some (.slice B x.args.length cbp) from ⟨HB6.out.cells.1.2, HB6.out.cells.2.1⟩); clear hr6 hb6)
                | (go_at_call 33; (with_reducible refine (HNT.out _ _ HN6.out).mono ?_); rintro e w7 ⟨rfl, rfl⟩))
            clear h32 h31 h30 f2 f3 i0 i1 i2 i3 i4 i5 q0 q1 q2 q3 HB5 HBD HNT HN6 g6
            have h32 : bl < w6.heap.size := HB6.out.fl.lt
            have h31 : bx < w6.heap.size := HB6.out.ins.lt
            have h30 : w.heap.size < w6.heap.size := HB6.out.fn.lt
            obtain ⟨⟨f2, f3⟩, ⟨i0, i1, i2, i3, i4, i5⟩, q0, q1, q2, q3⟩ := HB6.out.cells
            cases htg : Ir.within (Ir.targets x) (n : Int) with
            | false =>
              have HE := Lib.hid (HO4.out.trans (t3_no htg))
              clear HO4 htg
              go_wp2_with fail
              go_ret
              exact ⟨ret_e HE.out.symm, HB6.out.below⟩
            | true =>
              have HO5 := Lib.hid (HO4.out.trans (t3_yes htg))
              clear HO4 htg
              cases hfc : Ir.fc x.op with
              | false =>
                have HE := Lib.hid (HO5.out.trans (t4_call hfc))
                rw [hfc] at q3
                clear HO5 hfc
                go_wp2_with fail
                go_ret
                exact ⟨ret_e HE.out.symm, HB6.out.below⟩
              | true =>
                rw [hfc] at q3
                cases hnm : Ir.nm x.name with
                | false =>
                  have HE := Lib.hid (HO5.out.trans (t4_no hfc hnm))
                  have HM := Lib.hid hnm
                  clear HO5 hfc hnm
                  go_wp2_with (go_at_call 21; (with_reducible refine (name_any _ _).mono ?_); rintro e w' ⟨rfl, rfl⟩; rw [HM.out])
                  go_ret
                  exact ⟨ret_e HE.out.symm, HB6.out.below⟩
                | true =>
                  by_cases hmany : 4 < x.args.length
                  · have HE := Lib.hid (HO5.out.trans (t4_many hfc hnm hmany))
                    have HM := Lib.hid hnm
                    have hm4 : (4 : Int) < (x.args.length : Int) := by omega
                    clear HO5 hfc hnm hmany
                    go_wp2_with (go_at_call 21; (with_reducible refine (name_any _ _).mono ?_); rintro e w' ⟨rfl, rfl⟩; rw [HM.out])
                    go_ret
                    exact ⟨ret_e HE.out.symm, HB6.out.below⟩
                  · have HE := Lib.hid (HO5.out.trans (t4_yes hfc hnm hmany))
                    have HM := Lib.hid hnm
                    have hm4 : (x.args.length : Int) ≤ 4 := by omega
                    clear HO5 hfc hnm hmany
                    go_wp2_with (go_at_call 21; (with_reducible refine (name_any _ _).mono ?_); rintro e w' ⟨rfl, rfl⟩; rw [HM.out])
                    go_ret
                    exact ⟨ret_e HE.out.symm, HB6.out.below⟩
end Go.Proofs.YtkkbmfgkapdndaaDoor
