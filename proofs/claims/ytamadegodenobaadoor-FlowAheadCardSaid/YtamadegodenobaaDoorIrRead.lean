/- Functions over virtual registers in memory: what slices of numbers, of instructions, of blocks read as. -/
import Derived.Test.YtamadegodenobaaDoorQuiets
import Derived.Test.YtamadegodenobaaDoorIrPlain
import Derived.Lib.SmallJoins
namespace Go.Proofs.YtamadegodenobaaDoor
open Go.ChangeShapes Go.WideShapes Go.RowKit Go.Deep Go.Joins

/-- In the world w the value v is a slice whose elements, c cells each, read as l by R. -/
def Sl {α : Type} (c : Nat) (R : World → List Value → α → Prop) (w : World) (v : Value) (l : List α) : Prop :=
  ∃ A cap, v = .slice A l.length cap ∧ (l.length ≤ cap ∧ cap ≤ maxLen ∧ (A = none → cap = 0)) ∧ ∀ (j : Nat) (x : α), l[j]? = some x →
    ∃ b off cs, A = some ⟨b, off, none⟩ ∧ b < w.heap.size ∧ cs.length = c ∧ (∀ i u, cs[i]? = some u → w.cell? ⟨b, off + j * c + i, none⟩ = some u) ∧ R w cs x

theorem Sl.below {α : Type} {c : Nat} {R : World → List Value → α → Prop} {w w' : World} {v : Value} {l : List α} (h : Sl c R w v l) (hb : Below w.heap.size w w') (hR : ∀ cs x, R w cs x → R w' cs x) : Sl c R w' v l := by
  obtain ⟨A, cap, h1, h2, h3⟩ := h
  refine ⟨A, cap, h1, h2, fun j x hj => ?_⟩
  obtain ⟨b, off, cs, h4, h5, h6, h7, h8⟩ := h3 j x hj
  exact ⟨b, off, cs, h4, Nat.lt_of_lt_of_le h5 hb.size, h6, fun i u hu => (hb.cell (p := ⟨b, _, none⟩) h5).trans (h7 i u hu), hR _ _ h8⟩

/-- A slice at a place, opened. -/
theorem open_sl {α : Type} [Inhabited α] {c : Nat} (hc0 : 0 < c) {R : World → List Value → α → Prop} {T E : TypeId} (hT : Tryd.prog.underlying T = some (.slice E)) (hc : Tryd.prog.cellsOf E = c) {H : Type} {enc : TypeId × Value → H} {w : World}
    (hel : ∀ n cs x, DataW.trod enc Tryd.prog w 0 (fun _ => true) true n E cs = some x → (∀ y ∈ x.2, y.block < w.heap.size) → ∃ a, R w cs a)
    {fuel : Nat} {cs : List Value} {x : DataW H × List MemPlace} (hf : DataW.trod enc Tryd.prog w 0 (fun _ => true) true fuel T cs = some x) (hlt : ∀ y ∈ x.2, y.block < w.heap.size) :
    ∃ v l, cs = [v] ∧ Sl c R w v l := by
  rcases open_slice hT hf with ⟨hcs, _⟩ | ⟨a, len0, cap', m, n, D, Pl, hcs, _, hl, hmx, hm, hx, hi⟩
  · exact ⟨_, [], hcs, none, 0, rfl, ⟨Nat.le_refl _, Nat.zero_le _, fun _ => rfl⟩, fun i it hi => by simp at hi⟩
  · simp only [if_true] at hm
    subst hm
    simp only [Prod.ext_iff] at hx
    obtain ⟨_, hx2⟩ := hx
    rw [hx2, hc] at hlt
    rw [hc] at hi
    obtain ⟨f, hf'⟩ := choose_lt (α := α) (n := len0) (p := fun i it => ∃ cs', cs'.length = c ∧ (∀ k u, cs'[k]? = some u → w.cell? (a.add (i * c + k)) = some u) ∧ R w cs' it) (fun i hlen => by
      obtain ⟨cs', h1, h2⟩ := hi i (by omega)
      obtain ⟨it, hit⟩ := hel _ _ _ h2 (fun y hy => hlt y (List.mem_append_right _ (List.mem_flatMap.2 ⟨i, List.mem_range.2 (by omega), hy⟩)))
      obtain ⟨_, hl', hat⟩ := World.cells?_some h1
      refine ⟨it, cs', hl', fun k u hk => ?_, hit⟩
      have hk1 := (List.getElem?_eq_some_iff.1 hk).1
      rw [← Go.Deep.add_add, hat k (by omega)]
      exact hk)
    refine ⟨_, (List.range len0).map f, hcs, some a, m, by simp, ⟨by simpa using hl, hmx, fun h => by cases h⟩, fun i it hit => ?_⟩
    obtain ⟨hlen, rfl⟩ : ∃ h : i < len0, f i = it := by
      have h1 := (List.getElem?_eq_some_iff.1 hit).1
      simp only [List.length_map, List.length_range] at h1
      refine ⟨h1, ?_⟩
      simpa [h1] using hit
    obtain ⟨b, off, spot⟩ := a
    obtain ⟨cs', hl', hat, hR⟩ := hf' i hlen
    have hspot : spot = none := by
      obtain ⟨cs0, hl0, hat0, _⟩ := hf' 0 (by omega)
      obtain ⟨v0, hv0⟩ : ∃ v0, cs0[0]? = some v0 := ⟨_, List.getElem?_eq_getElem (by omega)⟩
      have := hat0 0 v0 hv0
      simpa [Addr.add] using World.cell?_spot this
    subst hspot
    have hb : b < w.heap.size := hlt (.cell b off) (List.mem_append_left _ (MemPlace.mem_row.2 ⟨0, Nat.mul_pos (by omega) hc0, by simp⟩))
    exact ⟨b, off, cs', rfl, hb, hl', fun k u hk => by rw [← hat k u hk, Addr.add_lit, Nat.add_assoc], hR⟩

/-! ### numbers -/
def NumR (_ : World) (cs : List Value) (n : Int) : Prop := cs = [.int .i64 n] ∧ -9223372036854775808 ≤ n ∧ n ≤ 9223372036854775807
/-- A []int that reads as l. -/
def Nums (w : World) (v : Value) (l : List Int) : Prop := Sl 1 NumR w v l
theorem Nums.below {w w' : World} {v : Value} {l : List Int} (h : Nums w v l) (hb : Below w.heap.size w w') : Nums w' v l := Sl.below h hb (fun _ _ h => h)

theorem int_cells : Tryd.prog.cellsOf 3 = 1 := by kernel_rfl
theorem string_cells : Tryd.prog.cellsOf 9 = 1 := by kernel_rfl

theorem i64_bounds {n : Int} (h : (Lit.int .i64 n).wf = true) : -9223372036854775808 ≤ n ∧ n ≤ 9223372036854775807 := by simpa [Lit.wf, IntKind.min, IntKind.max, IntKind.bits, IntKind.signed] using h

section
variable {H : Type} {enc : TypeId × Value → H} {w : World}

theorem open_nums {fuel : Nat} {cs : List Value} {x : DataW H × List MemPlace} (hf : DataW.trod enc Tryd.prog w 0 (fun _ => true) true fuel 24 cs = some x) (hlt : ∀ y ∈ x.2, y.block < w.heap.size) : ∃ v l, cs = [v] ∧ Nums w v l :=
  open_sl (R := NumR) (c := 1) (by decide) Tryd.underlying24 int_cells (fun n cs x h _ => by
    obtain ⟨s, h1, _, hw⟩ := DataW.trod_int Tryd.underlying3 h
    exact ⟨s, h1, i64_bounds hw⟩) hf hlt
end

/-! ### instructions -/
def InR (w : World) (cs : List Value) (x : Ir.In) : Prop :=
  ∃ sl, cs = [.int .i64 x.op, .int .i64 x.d, .int .i64 x.a, .int .i64 x.b, .string x.name, sl] ∧ Nums w sl x.args ∧
    (-9223372036854775808 ≤ x.op ∧ x.op ≤ 9223372036854775807) ∧ (-9223372036854775808 ≤ x.d ∧ x.d ≤ 9223372036854775807) ∧ (-9223372036854775808 ≤ x.a ∧ x.a ≤ 9223372036854775807) ∧ (-9223372036854775808 ≤ x.b ∧ x.b ≤ 9223372036854775807)
theorem InR.below {w w' : World} {cs : List Value} {x : Ir.In} (h : InR w cs x) (hb : Below w.heap.size w w') : InR w' cs x := by
  obtain ⟨sl, h1, h2, h3⟩ := h
  exact ⟨sl, h1, h2.below hb, h3⟩
/-- A block: a []api.Ins. -/
def Insl (w : World) (v : Value) (l : List Ir.In) : Prop := Sl 6 InR w v l
theorem Insl.below {w w' : World} {v : Value} {l : List Ir.In} (h : Insl w v l) (hb : Below w.heap.size w w') : Insl w' v l := Sl.below h hb (fun _ _ h => h.below hb)
def BlR (w : World) (cs : List Value) (l : List Ir.In) : Prop := ∃ v, cs = [v] ∧ Insl w v l
theorem BlR.below {w w' : World} {cs : List Value} {l : List Ir.In} (h : BlR w cs l) (hb : Below w.heap.size w w') : BlR w' cs l := by
  obtain ⟨v, h1, h2⟩ := h
  exact ⟨v, h1, h2.below hb⟩
/-- Blocks: a [][]api.Ins. -/
def Blks (w : World) (v : Value) (l : List (List Ir.In)) : Prop := Sl 1 BlR w v l
theorem Blks.below {w w' : World} {v : Value} {l : List (List Ir.In)} (h : Blks w v l) (hb : Below w.heap.size w w') : Blks w' v l := Sl.below h hb (fun _ _ h => h.below hb)

theorem ins_cells : Tryd.prog.cellsOf 36 = 6 := by kernel_rfl
theorem nums_cells : Tryd.prog.cellsOf 24 = 1 := by kernel_rfl
theorem insl_cells : Tryd.prog.cellsOf 37 = 1 := by kernel_rfl
theorem blks_cells : Tryd.prog.cellsOf 22 = 1 := by kernel_rfl

section
variable {H : Type} {enc : TypeId × Value → H} {w : World}

theorem trod_struct6 {P : Program} {base : Nat} {spare : Nat → Bool} {held : Bool} {t : TypeId} {f0 f1 f2 f3 f4 f5 : Field} {fuel : Nat} {cs : List Value} {x : DataW H × List MemPlace} (ht : P.underlying t = some (.struct #[f0, f1, f2, f3, f4, f5])) (h : DataW.trod enc P w base spare held fuel t cs = some x) :
    ∃ y0 y1 y2 y3 y4 y5 n, x = (.agg [y0.1, y1.1, y2.1, y3.1, y4.1, y5.1], y0.2 ++ (y1.2 ++ (y2.2 ++ (y3.2 ++ (y4.2 ++ y5.2))))) ∧ cs.length = P.cellsOf t ∧ DataW.trod enc P w base spare held n f0.type ((cs.drop f0.offset).take (P.cellsOf f0.type)) = some y0 ∧
      DataW.trod enc P w base spare held n f1.type ((cs.drop f1.offset).take (P.cellsOf f1.type)) = some y1 ∧ DataW.trod enc P w base spare held n f2.type ((cs.drop f2.offset).take (P.cellsOf f2.type)) = some y2 ∧
      DataW.trod enc P w base spare held n f3.type ((cs.drop f3.offset).take (P.cellsOf f3.type)) = some y3 ∧ DataW.trod enc P w base spare held n f4.type ((cs.drop f4.offset).take (P.cellsOf f4.type)) = some y4 ∧ DataW.trod enc P w base spare held n f5.type ((cs.drop f5.offset).take (P.cellsOf f5.type)) = some y5 := by
  obtain ⟨xs, n, _, rfl, hl, hlen, hf⟩ := DataW.trod_struct ht h
  match xs, hlen with
  | [y0, y1, y2, y3, y4, y5], _ => exact ⟨y0, y1, y2, y3, y4, y5, n, by simp, hl, by simpa using hf 0 f0 rfl, by simpa using hf 1 f1 rfl, by simpa using hf 2 f2 rfl, by simpa using hf 3 f3 rfl, by simpa using hf 4 f4 rfl, by simpa using hf 5 f5 rfl⟩

set_option maxRecDepth 20000 in
theorem open_in {n : Nat} {cs : List Value} {x : DataW H × List MemPlace} (h : DataW.trod enc Tryd.prog w 0 (fun _ => true) true n 36 cs = some x) (hlt : ∀ y ∈ x.2, y.block < w.heap.size) : ∃ it, InR w cs it := by
  obtain ⟨y0, y1, y2, y3, y4, y5, m, hx, hl, t0, t1, t2, t3, t4, t5⟩ := trod_struct6 Tryd.underlying36 h
  rw [ins_cells] at hl
  match cs, hl with
  | [c0, c1, c2, c3, c4, c5], _ =>
    simp only [int_cells, string_cells, nums_cells] at t0 t1 t2 t3 t4 t5
    simp at t0 t1 t2 t3 t4 t5
    obtain ⟨a0, e0, _, w0⟩ := DataW.trod_int Tryd.underlying3 t0
    obtain ⟨a1, e1, _, w1⟩ := DataW.trod_int Tryd.underlying3 t1
    obtain ⟨a2, e2, _, w2⟩ := DataW.trod_int Tryd.underlying3 t2
    obtain ⟨a3, e3, _, w3⟩ := DataW.trod_int Tryd.underlying3 t3
    obtain ⟨s, e4, _⟩ := DataW.trod_string Tryd.underlying9 t4
    obtain ⟨v, l, e5, hn⟩ := open_nums t5 (fun y hy => hlt y (by rw [hx]; simp [hy]))
    simp at e0 e1 e2 e3 e4 e5
    exact ⟨⟨a0, a1, a2, a3, s, l⟩, v, by simp [e0, e1, e2, e3, e4, e5], hn, i64_bounds w0, i64_bounds w1, i64_bounds w2, i64_bounds w3⟩

theorem open_insl {fuel : Nat} {cs : List Value} {x : DataW H × List MemPlace} (hf : DataW.trod enc Tryd.prog w 0 (fun _ => true) true fuel 37 cs = some x) (hlt : ∀ y ∈ x.2, y.block < w.heap.size) : ∃ v l, cs = [v] ∧ Insl w v l :=
  open_sl (R := InR) (c := 6) (by decide) Tryd.underlying37 ins_cells (fun _ _ _ h hlt => open_in h hlt) hf hlt

theorem open_blks {fuel : Nat} {cs : List Value} {x : DataW H × List MemPlace} (hf : DataW.trod enc Tryd.prog w 0 (fun _ => true) true fuel 22 cs = some x) (hlt : ∀ y ∈ x.2, y.block < w.heap.size) : ∃ v l, cs = [v] ∧ Blks w v l :=
  open_sl (R := BlR) (c := 1) (by decide) Tryd.underlying22 insl_cells (fun _ _ _ h hlt => by
    obtain ⟨v, l, h1, h2⟩ := open_insl h hlt
    exact ⟨l, v, h1, h2⟩) hf hlt
end

/-- An instruction by value. -/
abbrev InsV (x : Ir.In) (sl : Value) : Value := .agg #[.int .i64 x.op, .int .i64 x.d, .int .i64 x.a, .int .i64 x.b, .string x.name, sl]
abbrev InsC (x : Ir.In) (sl : Value) : Array Value := #[.int .i64 x.op, .int .i64 x.d, .int .i64 x.a, .int .i64 x.b, .string x.name, sl]
/-- A function by value. -/
abbrev FuV (f : Ir.Fu) (bv : Value) : Value := .agg #[.string f.name, .int .i64 f.params, .int .i64 f.regs, bv]

theorem array6 {α : Type} {cs : Array α} (h : cs.size = 6) : ∃ c0 c1 c2 c3 c4 c5, cs = #[c0, c1, c2, c3, c4, c5] := by
  obtain ⟨l⟩ := cs
  match l, h with
  | [c0, c1, c2, c3, c4, c5], _ => exact ⟨c0, c1, c2, c3, c4, c5, rfl⟩

set_option maxRecDepth 20000 in
theorem open_ins_value {H : Type} {enc : TypeId × Value → H} {w : World} {r : Reach} {b0 : Nat} {v : Value} {d : DataW H} {p : List MemPlace}
    (hv : Value.okWide Tryd.prog w r b0 36 v) (h : DataW.Trod enc Tryd.prog w 0 (fun _ => true) true 36 v d p) (hlt : ∀ y ∈ p, y.block < w.heap.size) :
    ∃ x sl, v = InsV x sl ∧ InR w [.int .i64 x.op, .int .i64 x.d, .int .i64 x.a, .int .i64 x.b, .string x.name, sl] x := by
  obtain ⟨cs, rfl, hsz⟩ := okWide_struct Tryd.underlying36 hv
  obtain ⟨c0, c1, c2, c3, c4, c5, rfl⟩ := array6 (hsz.trans ins_cells)
  obtain ⟨fuel, hf⟩ := h
  obtain ⟨x, hx⟩ := open_in hf hlt
  have hx' := hx
  obtain ⟨sl, h1, h2⟩ := hx
  rw [h1] at hx'
  refine ⟨x, sl, ?_, hx'⟩
  have hne : (Value.agg #[c0, c1, c2, c3, c4, c5]).cells.toList = [c0, c1, c2, c3, c4, c5] := rfl
  rw [hne] at h1
  simp at h1
  obtain ⟨rfl, rfl, rfl, rfl, rfl, rfl⟩ := h1
  rfl

end Go.Proofs.YtamadegodenobaaDoor
