/- FlowAhead: the pairs that come in; the blocks that the law builds. -/
import Derived.Test.YtamadegodenobaaDoorTextBldOps
import Derived.Test.YtamadegodenobaaDoorFlowPlain
import Derived.Test.YtamadegodenobaaDoorIrTargets
import Derived.OpenShut
namespace Go.Proofs.YtamadegodenobaaDoor
open Go.ChangeShapes Go.WideShapes Go.RowKit Go.Deep

/-! ### pairs of bytes -/
def TgR (_ : World) (cs : List Value) (x : Int × Int) : Prop := cs = [.int .u8 x.1, .int .u8 x.2] ∧ (0 ≤ x.1 ∧ x.1 ≤ 255) ∧ (0 ≤ x.2 ∧ x.2 ≤ 255)
/-- A [][2]uint8 that reads as l. -/
def Tgs (w : World) (v : Value) (l : List (Int × Int)) : Prop := Sl 2 TgR w v l
theorem Tgs.below {w w' : World} {v : Value} {l : List (Int × Int)} (h : Tgs w v l) (hb : Below w.heap.size w w') : Tgs w' v l := Sl.below h hb (fun _ _ h => h)
theorem pair_cells : Tryd.prog.cellsOf 34 = 2 := by kernel_rfl
theorem u8_cells : Tryd.prog.cellsOf 5 = 1 := by kernel_rfl
theorem u8_bounds {n : Int} (h : (Lit.int .u8 n).wf = true) : 0 ≤ n ∧ n ≤ 255 := by simpa [Lit.wf, IntKind.min, IntKind.max, IntKind.bits, IntKind.signed] using h

theorem open_tgs {H : Type} {enc : TypeId × Value → H} {w : World} {v : Value} {d : DataW H} {ps : List MemPlace}
    (h : DataW.Trod enc Tryd.prog w 0 (fun _ => true) true 33 v d ps) (hlt : ∀ y ∈ ps, y.block < w.heap.size) (hv : ∃ A len cap, v = .slice A len cap) : ∃ l : List (Int × Int), Tgs w v l := by
  obtain ⟨fuel, hf⟩ := h
  obtain ⟨A0, len0, cap0, rfl⟩ := hv
  obtain ⟨v1, l, hcs, hb⟩ := open_sl (R := TgR) (c := 2) (by decide) Tryd.underlying33 pair_cells (fun n cs x h _ => by
    obtain ⟨xs, m, _, _, hl, hxs, hat⟩ := DataW.trod_array Tryd.underlying34 h
    rw [pair_cells] at hl
    rw [u8_cells] at hat
    match cs, hl with
    | [c0, c1], _ =>
      match xs, hxs with
      | [y0, y1], _ =>
        have t0 := hat 0 (by decide)
        have t1 := hat 1 (by decide)
        simp at t0 t1
        obtain ⟨a0, e0, _, w0⟩ := DataW.trod_int Tryd.underlying5 t0
        obtain ⟨a1, e1, _, w1⟩ := DataW.trod_int Tryd.underlying5 t1
        simp at e0 e1
        exact ⟨(a0, a1), by rw [e0, e1], u8_bounds w0, u8_bounds w1⟩) hf hlt
  simp [Value.cells] at hcs
  subst hcs
  exact ⟨l, hb⟩
theorem Tgs.at {w : World} {A : Option Addr} {n cap : Nat} {l : List (Int × Int)} (h : Tgs w (.slice A n cap) l) {k : Nat} {x : Int × Int} (hx : l[k]? = some x) :
    ∃ bl off, A = some ⟨bl, off, none⟩ ∧ bl < w.heap.size ∧ w.cell? ⟨bl, off + k * 2, none⟩ = some (.int .u8 x.1) ∧ w.cell? ⟨bl, off + k * 2 + 1, none⟩ = some (.int .u8 x.2) ∧ (0 ≤ x.1 ∧ x.1 ≤ 255) ∧ (0 ≤ x.2 ∧ x.2 ≤ 255) := by
  obtain ⟨A', cap', e, -, h3⟩ := h
  simp at e
  obtain ⟨rfl, rfl, rfl⟩ := e
  obtain ⟨bl, off, cs, h4, h5, -, h7, h8, h9, h10⟩ := h3 k x hx
  rw [h8] at h7
  exact ⟨bl, off, h4, h5, h7 0 _ rfl, h7 1 _ rfl, h9, h10⟩
theorem Tgs.form {w : World} {v : Value} {l : List (Int × Int)} (h : Tgs w v l) : ∃ A cap, v = .slice A l.length cap := by
  obtain ⟨A, cap, e, -⟩ := h
  exact ⟨A, cap, e⟩

/-! ### blocks of one instruction each -/
/-- An instruction of small numbers. -/
def Nic (x : Ir.In) : Prop := x.args = [] ∧ (0 ≤ x.op ∧ x.op ≤ 100) ∧ (0 ≤ x.d ∧ x.d ≤ 100) ∧ (0 ≤ x.a ∧ x.a ≤ 100) ∧ (0 ≤ x.b ∧ x.b ≤ 100)
def Bk (H : Nat) (W : World) (u : Value) (bs : List (List Ir.In)) : Prop :=
  ∃ ws : List Value, W.ownsRow H 37 1 u bs.length ws ∧ ∀ (j : Nat) (b : List Ir.In), bs[j]? = some b → ∃ (g : Nat) (x : Ir.In), ws[j]? = some (.slice (some ⟨g, 0, none⟩) 1 1) ∧ b = [x] ∧ Nic x ∧ Blk W g 36 (InsC x (.slice none 0 0))

theorem Bk.nil (w : World) : Bk w.heap.size (w.alloc (.cells #[] 37)) (.slice (some ⟨w.heap.size, 0, none⟩) 0 0) [] :=
  ⟨[], World.ownsRow_lit (base := w.heap.size) (e := 37) (size := 1) w #[] 0 (Nat.le_refl _) (by unfold maxLen; omega) rfl, fun j b h => by simp at h⟩

theorem Bk.push {H : Nat} {W W1 W2 W' : World} {u v3 : Value} {bs : List (List Ir.In)} {ws : List Value} {x : Ir.In} (hx : Nic x)
    (hr : W.ownsRow H 37 1 u bs.length ws) (hb : ∀ (j : Nat) (b : List Ir.In), bs[j]? = some b → ∃ (g : Nat) (x : Ir.In), ws[j]? = some (.slice (some ⟨g, 0, none⟩) 1 1) ∧ b = [x] ∧ Nic x ∧ Blk W g 36 (InsC x (.slice none 0 0)))
    (e1 : W1 = W.alloc (.cells (InsC x (.slice none 0 0)) 36)) (e2 : W2 = W1.alloc (.cells #[.slice (some ⟨W.heap.size, 0, none⟩) 1 1] 37))
    (h3 : W'.ownsRow H 37 1 v3 (bs.length + 1) (ws ++ [.slice (some ⟨W.heap.size, 0, none⟩) 1 1])) (hg : W2.grownBy W' u.ownBlock) : Bk H W' v3 (bs ++ [[x]]) := by
  subst e1 e2
  have hlen : ws.length = bs.length := by have := hr.1; omega
  have hown : ∀ g cur, Blk W g 36 cur → some g ≠ u.ownBlock := fun g cur h e => by
    obtain ⟨-, c, hc⟩ := own_blk hr e.symm
    exact blk_two h hc ne_ins_blk rfl
  have hnew : some W.heap.size ≠ u.ownBlock := fun e => by
    have := (World.ownsRow.lt hr _ e.symm).2
    omega
  refine ⟨_, by simpa using h3, fun j b hj => ?_⟩
  by_cases hjl : j < bs.length
  · rw [List.getElem?_append_left hjl] at hj
    obtain ⟨g, y, q1, q2, q3, q4⟩ := hb j b hj
    exact ⟨g, y, by rw [List.getElem?_append_left (by omega)]; exact q1, q2, q3, ((q4.alloc _).alloc _).grown hg (hown g _ q4)⟩
  · have hje : j = bs.length := by
      have := (List.getElem?_eq_some_iff.1 hj).1
      simp at this
      omega
    subst hje
    simp at hj
    subst hj
    refine ⟨W.heap.size, x, by rw [List.getElem?_append_right (by omega), hlen]; simp, rfl, hx, ?_⟩
    exact ((Blk.new W 36 (InsC x (.slice none 0 0))).alloc _).grown hg hnew
theorem Bk.insl {W : World} {g : Nat} {x : Ir.In} (hx : Nic x) (h : Blk W g 36 (InsC x (.slice none 0 0))) : Insl W (.slice (some ⟨g, 0, none⟩) 1 1) [x] := by
  refine ⟨some ⟨g, 0, none⟩, 1, rfl, ⟨Nat.le_refl _, by unfold maxLen; omega, fun h => by cases h⟩, fun j y hj => ?_⟩
  match j, hj with
  | 0, hj =>
    simp at hj
    subst hj
    obtain ⟨h1, h2, h3, h4, h5⟩ := hx
    refine ⟨g, 0, (InsC x (.slice none 0 0)).toList, rfl, h.lt, rfl, fun i u hu => ?_, .slice none 0 0, rfl, ?_, by omega, by omega, by omega, by omega⟩
    · rw [Nat.zero_mul, Nat.zero_add, h.cell i, ← Array.getElem?_toList]
      exact hu
    · rw [h1]
      exact (RowI.nil W 0).nums (fun n hn => (nomatch hn))
theorem Bk.blks {H : Nat} {W : World} {u : Value} {bs : List (List Ir.In)} (h : Bk H W u bs) : Blks W u bs := by
  obtain ⟨ws, hr, hb⟩ := h
  have hr' := hr
  rcases hr.2 with ⟨rfl, h0⟩ | ⟨g, cap, cur, rfl, hbb, hg, hn, hm, _⟩
  · refine ⟨none, 0, by rw [h0], ⟨by omega, Nat.zero_le _, fun _ => rfl⟩, fun j s hj => ?_⟩
    have := (List.getElem?_eq_some_iff.1 hj).1
    omega
  · refine ⟨some ⟨g, 0, none⟩, cap, rfl, ⟨hn, hm, fun h => by cases h⟩, fun j s hj => ?_⟩
    obtain ⟨g2, x, q1, q2, q3, q4⟩ := hb j s hj
    refine ⟨g, 0, [.slice (some ⟨g2, 0, none⟩) 1 1], rfl, (World.ownsRow.lt hr' g rfl).2, rfl, fun i u hu => ?_, .slice (some ⟨g2, 0, none⟩) 1 1, rfl, by rw [q2]; exact Bk.insl q3 q4⟩
    have e := World.ownsRow.cells hr' (g := g) rfl j _ q1
    rw [Addr.add_lit, Nat.zero_add] at e
    match i, hu with
    | 0, hu =>
      simp at hu
      subst hu
      rw [Nat.zero_add, Nat.mul_one, Nat.add_zero]
      exact e

/-- The blocks that the law builds: each goes to later ones alone. -/
def UpTo (bs : List (List Ir.In)) : Prop := ∀ (j : Nat) (b : List Ir.In), bs[j]? = some b → ∃ x : Ir.In, b = [x] ∧ ((x.op = 13 ∧ (j : Int) < x.b ∧ (j : Int) < x.d) ∨ x.op = 14)
theorem UpTo.push {bs : List (List Ir.In)} {x : Ir.In} (h : UpTo bs) (hx : (x.op = 13 ∧ (bs.length : Int) < x.b ∧ (bs.length : Int) < x.d) ∨ x.op = 14) : UpTo (bs ++ [[x]]) := fun j b hj => by
  by_cases hjl : j < bs.length
  · rw [List.getElem?_append_left hjl] at hj
    exact h j b hj
  · have hje : j = bs.length := by
      have := (List.getElem?_eq_some_iff.1 hj).1
      simp at this
      omega
    subst hje
    simp at hj
    subst hj
    exact ⟨x, rfl, hx⟩
theorem UpTo.up {bs : List (List Ir.In)} (h : UpTo bs) (i t : Int) (ht : t ∈ Fl.succs bs i) : i < t := by
  have h1 := (Fl.mem_succs.1 ht).2
  by_cases hi : 0 ≤ i ∧ i < (bs.length : Int)
  · obtain ⟨k, rfl⟩ : ∃ k : Nat, i = (k : Int) := ⟨i.toNat, by omega⟩
    obtain ⟨b, hb⟩ : ∃ b, bs[k]? = some b := ⟨_, List.getElem?_eq_getElem (by omega)⟩
    obtain ⟨x, rfl, hx⟩ := h k b hb
    rw [Fl.tg_last (m := 0) hb rfl rfl] at h1
    rcases hx with ⟨ho, h2, h3⟩ | ho
    · rcases targets_ways x with ⟨e, -⟩ | ⟨-, -, -, -, e⟩ | ⟨e, -⟩
      · omega
      · rw [e] at h1
        simp at h1
        omega
      · omega
    · rcases targets_ways x with ⟨e, -⟩ | ⟨e, -⟩ | ⟨-, -, -, -, e⟩
      · omega
      · omega
      · rw [e] at h1
        exact nomatch h1
  · rw [Fl.tg_none hi] at h1
    exact nomatch h1
end Go.Proofs.YtamadegodenobaaDoor
