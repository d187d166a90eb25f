/- bare, One: the document's. -/
import Derived.Test.YtkkbmfgkapdndaaDoorIrCheckIns
import Derived.Test.YtkkbmfgkapdndaaDoorIrRefNames
namespace Go.Proofs.YtkkbmfgkapdndaaDoor
open Go.ChangeShapes Go.WideShapes Go.RowKit Go.Deep

set_option maxRecDepth 20000 in
set_option maxHeartbeats 3200000 in
theorem bare_any (x : Ir.In) (sl : Value) (w : World) (ho : 1 ≤ x.op ∧ x.op ≤ 14) (hx : InR w (InsC x sl).toList x) :
    Calls Tryd.prog 34 #[InsV x sl] w fun e w' => e = .returned (.bool (Ir.fits x)) ∧ Below w.heap.size w w' := by
  obtain ⟨_, h1, ⟨A, cap, hsl, -⟩, -⟩ := hx
  simp at h1
  subst h1
  subst hsl
  have hlen0 : (0 : Int) ≤ (x.args.length : Int) := by omega
  obtain ⟨v, hv⟩ : ∃ v, v = Ir.fits x := ⟨_, rfl⟩
  rw [← hv]
  have HV := Lib.hid hv
  clear hv
  obtain ⟨op, d, a, b, name, args⟩ := x
  simp only at ho hlen0
  rcases Ir.cases_op op ho with rfl | rfl | rfl | rfl | rfl | rfl | rfl | rfl | rfl | rfl | rfl | rfl | rfl | rfl
  all_goals
    clear ho
    go_enter Tryd.func34, Tryd.ntmps34
    go_wp2_with fail
    all_goals
      go_ret
      refine ⟨retb ?_, (Below.refl _ _).alloc (Nat.le_refl _) _⟩
      rw [HV.out]
      clear HV
      simp_all [Ir.fits, Ir.fd, Ir.fa, Ir.fb, Ir.fc, nil_size] <;> first | exact eq_dec _ _ | (intros; intro e; subst e; simp at *; done) | (intros; subst_vars; simp at *; done)

/-- The box of an instruction, and what its numbers read as. -/
structure Box1 (w0 : World) (bx : Nat) (x : Ir.In) (sl : Value) (w : World) : Prop where
  ins : Blk w bx 32 (InsC x sl)
  inr : InR w (InsC x sl).toList x
  below : Below w0.heap.size w0 w
theorem Box1.to {w0 w w' : World} {bx : Nat} {x : Ir.In} {sl : Value} (h : Box1 w0 bx x sl w) (hb : Below w.heap.size w w') : Box1 w0 bx x sl w' :=
  ⟨h.ins.older hb h.ins.lt, h.inr.below hb, h.below.trans (hb.mono h.below.size)⟩
theorem Box1.cells {w0 w : World} {bx : Nat} {x : Ir.In} {sl : Value} (h : Box1 w0 bx x sl w) :
    w.cell? ⟨bx, 0, none⟩ = some (.int .i64 x.op) ∧ w.cell? ⟨bx, 1, none⟩ = some (.int .i64 x.d) ∧ w.cell? ⟨bx, 2, none⟩ = some (.int .i64 x.a) ∧ w.cell? ⟨bx, 3, none⟩ = some (.int .i64 x.b) ∧ w.cell? ⟨bx, 4, none⟩ = some (.string x.name) ∧ w.cell? ⟨bx, 5, none⟩ = some sl :=
  six_cells h.ins

theorem bare_box {w0 w : World} {bx : Nat} {x : Ir.In} {sl : Value} (h : Box1 w0 bx x sl w) (ho : 1 ≤ x.op ∧ x.op ≤ 14) {v : Bool} (hv : Ir.fits x = v) :
    Calls Tryd.prog 34 #[InsV x sl] w fun e w' => e = .returned (.bool v) ∧ Box1 w0 bx x sl w' :=
  (bare_any x sl w ho h.inr).mono fun _ _ ⟨he, hb⟩ => ⟨by rw [he, hv], h.to hb⟩
theorem rdef_box {w0 w : World} {bx : Nat} {x : Ir.In} {sl : Value} (h : Box1 w0 bx x sl w) {v : Int} (hv : Ir.dest x = v) :
    Calls Tryd.prog 16 #[InsV x sl] w fun e w' => e = .returned (.int .i64 v) ∧ Box1 w0 bx x sl w' :=
  (rdef_any x sl w h.inr).mono fun _ _ ⟨he, hb⟩ => ⟨by rw [he, hv], h.to hb⟩
/-- Numbers at hand. -/
def NumsB (l : List Int) (v : Value) (w : World) : Prop := Nums w v l
theorem ruses_box {w0 w : World} {bx : Nat} {x : Ir.In} {sl : Value} (h : Box1 w0 bx x sl w) (hl : x.args.length ≤ 1048000) :
    Calls Tryd.prog 15 #[InsV x sl] w fun e w' => ∃ v, e = .returned v ∧ Box1 w0 bx x sl w' ∧ NumsB (Ir.uses x) v w' :=
  (ruses_any x sl w h.inr hl).mono fun _ _ ⟨v, he, hr, hb⟩ => ⟨v, he, h.to hb, hr.nums (uses_in64 h.inr)⟩
theorem rtargets_box {w0 w : World} {bx : Nat} {x : Ir.In} {sl : Value} (h : Box1 w0 bx x sl w) :
    Calls Tryd.prog 17 #[InsV x sl] w fun e w' => ∃ v, e = .returned v ∧ Box1 w0 bx x sl w' ∧ NumsB (Ir.targets x) v w' :=
  (rtargets_any x sl w h.inr).mono fun _ _ ⟨v, he, hr, hb⟩ => ⟨v, he, h.to hb, hr.nums (targets_in64 h.inr)⟩
theorem within_box {v : Value} {l : List Int} {n : Int} {w : World} (h : NumsB l v w) (hl : l.length ≤ 1048576) {b : Bool} (hb : Ir.within l n = b) :
    Calls Tryd.prog 35 #[v, .int .i64 n] w fun e w' => e = .returned (.bool b) ∧ w = w' :=
  (within_any v l n w h hl).mono fun _ _ ⟨he, hw⟩ => ⟨by rw [he, hb], hw⟩

theorem regsB_no {x : Ir.In} {regs : Int} (h : Ir.within (Ir.uses x) regs = false) : Ir.regsB x regs = false := by unfold Ir.regsB; rw [h, Bool.and_false]
theorem regsB_d {x : Ir.In} {regs : Int} (h1 : Ir.fd x.op = 1) (h : x.d < 0 ∨ regs ≤ x.d) : Ir.regsB x regs = false := by unfold Ir.regsB; rw [decide_eq_true h1, decide_eq_true h]; rfl
theorem regsB_yes {x : Ir.In} {regs : Int} (h : Ir.fd x.op = 1 → ¬ (x.d < 0 ∨ regs ≤ x.d)) (h' : Ir.within (Ir.uses x) regs = true) : Ir.regsB x regs = true := by
  unfold Ir.regsB
  rw [h']
  by_cases h1 : Ir.fd x.op = 1
  · rw [decide_eq_false (h h1), Bool.and_false]; rfl
  · rw [decide_eq_false h1]; rfl
theorem dest_d {x : Ir.In} (h : Ir.fd x.op = 1) : Ir.dest x = x.d := by unfold Ir.dest; rw [if_pos h]
theorem dest_no {x : Ir.In} (h : ¬ Ir.fd x.op = 1) : Ir.dest x = -1 := by unfold Ir.dest; rw [if_neg h]
theorem fa_two {op : Int} : Ir.fa op = 2 ↔ op = 1 := by
  unfold Ir.fa
  split
  · subst op; decide
  · split
    · subst op; decide
    · split <;> omega
end Go.Proofs.YtkkbmfgkapdndaaDoor
