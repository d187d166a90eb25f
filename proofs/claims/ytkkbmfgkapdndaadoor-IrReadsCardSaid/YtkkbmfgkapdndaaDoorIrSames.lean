/- Same: the program's and the document's. -/
import Derived.Test.YtkkbmfgkapdndaaDoorIrBelow
import Derived.Test.YtkkbmfgkapdndaaDoorIrLasts
import Derived.Deep.Cut
namespace Go.Proofs.YtkkbmfgkapdndaaDoor
open Go.ChangeShapes Go.WideShapes Go.RowKit Go.Deep

def Ir.sameB (x y : Ir.In) : Bool := decide (x.op = y.op ∧ x.d = y.d ∧ x.a = y.a ∧ x.b = y.b ∧ x.name = y.name) && (x.args == y.args)

/-- The ways of two instructions' fields. -/
theorem same_ways (x y : Ir.In) :
    (x.op = y.op ∧ x.d = y.d ∧ x.a = y.a ∧ x.b = y.b ∧ x.name = y.name ∧ Ir.sameB x y = (x.args == y.args)) ∨
    (Ir.sameB x y = false ∧ ((¬ x.op = y.op) ∨ (x.op = y.op ∧ ¬ x.d = y.d) ∨ (x.op = y.op ∧ x.d = y.d ∧ ¬ x.a = y.a) ∨ (x.op = y.op ∧ x.d = y.d ∧ x.a = y.a ∧ ¬ x.b = y.b) ∨ (x.op = y.op ∧ x.d = y.d ∧ x.a = y.a ∧ x.b = y.b ∧ ¬ x.name = y.name))) := by
  unfold Ir.sameB
  by_cases h1 : x.op = y.op <;> by_cases h2 : x.d = y.d <;> by_cases h3 : x.a = y.a <;> by_cases h4 : x.b = y.b <;> by_cases h5 : x.name = y.name <;> simp [h1, h2, h3, h4, h5]

/-- The boxes of two instructions. -/
structure Box2 (w0 : World) (bx by_ : Nat) (x y : Ir.In) (sx sy : Value) (w : World) : Prop where
  ix : Blk w bx 32 (InsC x sx)
  iy : Blk w by_ 32 (InsC y sy)
  rx : InR w (InsC x sx).toList x
  ry : InR w (InsC y sy).toList y
  below : Below w0.heap.size w0 w
theorem Box2.to {w0 w w' : World} {bx by_ : Nat} {x y : Ir.In} {sx sy : Value} (h : Box2 w0 bx by_ x y sx sy w) (hb : Below w.heap.size w w') : Box2 w0 bx by_ x y sx sy w' :=
  ⟨h.ix.older hb h.ix.lt, h.iy.older hb h.iy.lt, h.rx.below hb, h.ry.below hb, h.below.trans (hb.mono h.below.size)⟩
theorem Box2.new {w : World} {x y : Ir.In} {sx sy : Value} (hx : InR w (InsC x sx).toList x) (hy : InR w (InsC y sy).toList y) :
    Box2 w w.heap.size (w.heap.size + 1) x y sx sy ((w.alloc (.cells (InsC x sx) 32)).alloc (.cells (InsC y sy) 32)) := by
  have hb := (((Below.refl w.heap.size w).alloc (Nat.le_refl _) (.cells (InsC x sx) 32)).alloc (by simp) (.cells (InsC y sy) 32))
  have h2 := Blk.new (w.alloc (.cells (InsC x sx) 32)) 32 (InsC y sy)
  rw [show (w.alloc (.cells (InsC x sx) 32)).heap.size = w.heap.size + 1 by simp] at h2
  exact ⟨(Blk.new _ _ _).alloc _, h2, hx.below hb, hy.below hb, hb⟩
theorem Box2.cells {w0 w : World} {bx by_ : Nat} {x y : Ir.In} {sx sy : Value} (h : Box2 w0 bx by_ x y sx sy w) :
    (w.cell? ⟨bx, 0, none⟩ = some (.int .i64 x.op) ∧ w.cell? ⟨bx, 1, none⟩ = some (.int .i64 x.d) ∧ w.cell? ⟨bx, 2, none⟩ = some (.int .i64 x.a) ∧ w.cell? ⟨bx, 3, none⟩ = some (.int .i64 x.b) ∧ w.cell? ⟨bx, 4, none⟩ = some (.string x.name) ∧ w.cell? ⟨bx, 5, none⟩ = some sx) ∧
    (w.cell? ⟨by_, 0, none⟩ = some (.int .i64 y.op) ∧ w.cell? ⟨by_, 1, none⟩ = some (.int .i64 y.d) ∧ w.cell? ⟨by_, 2, none⟩ = some (.int .i64 y.a) ∧ w.cell? ⟨by_, 3, none⟩ = some (.int .i64 y.b) ∧ w.cell? ⟨by_, 4, none⟩ = some (.string y.name) ∧ w.cell? ⟨by_, 5, none⟩ = some sy) :=
  ⟨six_cells h.ix, six_cells h.iy⟩

theorem inr_nums {w : World} {x : Ir.In} {sl : Value} (hx : InR w (InsC x sl).toList x) : Nums w sl x.args := by
  obtain ⟨sl', h1, hn, _⟩ := hx
  simp at h1
  subst h1
  exact hn

theorem bytes_same {a b : ByteArray} (h : a = b) : (a.toList == b.toList) = true := by rw [h]; exact beq_self_eq_true _

set_option maxRecDepth 20000 in
set_option maxHeartbeats 1600000 in
theorem same_any (x y : Ir.In) (sx sy : Value) (w : World) (hx : InR w (InsC x sx).toList x) (hy : InR w (InsC y sy).toList y) (hlx : x.args.length ≤ 1048576) (hly : y.args.length ≤ 1048576) :
    Calls Tryd.prog 19 #[InsV x sx, InsV y sy] w fun e w' => e = .returned (.bool (Ir.sameB x y)) ∧ Below w.heap.size w w' := by
  have hB := Box2.new hx hy
  obtain ⟨⟨x0, x1, x2, x3, x4, x5⟩, ⟨y0, y1, y2, y3, y4, y5⟩⟩ := hB.cells
  have HB := Lib.hid hB
  have HL := Lib.hid (And.intro hlx hly)
  have hw := same_ways x y
  clear hB hx hy hlx hly
  go_enter Tryd.func19, Tryd.ntmps19
  go_upto_region 1 with fail
  generalize (w.alloc (.cells (InsC x sx) 32)).alloc (.cells (InsC y sy) 32) = w1 at *
  rcases hw with ⟨h1, h2, h3, h4, h5, he⟩ | ⟨he, hcase⟩
  · have HE := Lib.hid he
    have e1 : (x.op == y.op) = true := by simp [h1]
    have e2 : (x.d == y.d) = true := by simp [h2]
    have e3 : (x.a == y.a) = true := by simp [h3]
    have e4 : (x.b == y.b) = true := by simp [h4]
    have e5 := bytes_same h5
    clear he h1 h2 h3 h4 h5
    go_wp2_with (first | (go_at_call 28; (with_reducible refine (equal_nums sx sy x.args y.args w1 (inr_nums HB.out.rx) (inr_nums HB.out.ry) HL.out.1 HL.out.2).mono ?_); rintro e w2 ⟨rfl, hq⟩; have HQ := Lib.hid hq; clear hq))
    go_ret
    exact ⟨retb HE.out.symm, HB.out.below.trans (HQ.out.below.mono HB.out.below.size)⟩
  · have HE := Lib.hid he
    clear he
    rcases hcase with h1 | ⟨h1, h2⟩ | ⟨h1, h2, h3⟩ | ⟨h1, h2, h3, h4⟩ | ⟨h1, h2, h3, h4, h5⟩
    · have e1 : (x.op == y.op) = false := by simp [h1]
      clear h1
      go_wp2_with fail
      go_ret
      exact ⟨retb HE.out.symm, HB.out.below⟩
    · have e1 : (x.op == y.op) = true := by simp [h1]
      have e2 : (x.d == y.d) = false := by simp [h2]
      clear h1 h2
      go_wp2_with fail
      go_ret
      exact ⟨retb HE.out.symm, HB.out.below⟩
    · have e1 : (x.op == y.op) = true := by simp [h1]
      have e2 : (x.d == y.d) = true := by simp [h2]
      have e3 : (x.a == y.a) = false := by simp [h3]
      clear h1 h2 h3
      go_wp2_with fail
      go_ret
      exact ⟨retb HE.out.symm, HB.out.below⟩
    · have e1 : (x.op == y.op) = true := by simp [h1]
      have e2 : (x.d == y.d) = true := by simp [h2]
      have e3 : (x.a == y.a) = true := by simp [h3]
      have e4 : (x.b == y.b) = false := by simp [h4]
      clear h1 h2 h3 h4
      go_wp2_with fail
      go_ret
      exact ⟨retb HE.out.symm, HB.out.below⟩
    · have e1 : (x.op == y.op) = true := by simp [h1]
      have e2 : (x.d == y.d) = true := by simp [h2]
      have e3 : (x.a == y.a) = true := by simp [h3]
      have e4 : (x.b == y.b) = true := by simp [h4]
      have e5 := bytes_neq h5
      clear h1 h2 h3 h4 h5
      go_wp2_with fail
      go_ret
      exact ⟨retb HE.out.symm, HB.out.below⟩
end Go.Proofs.YtkkbmfgkapdndaaDoor
