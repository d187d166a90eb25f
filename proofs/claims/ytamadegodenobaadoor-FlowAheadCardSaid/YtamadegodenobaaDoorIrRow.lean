/- Rows of numbers of one's own; append. -/
import Derived.Test.YtamadegodenobaaDoorIrRead
import Derived.Laws.AppendOwn
namespace Go.Proofs.YtamadegodenobaaDoor
open Go.ChangeShapes Go.WideShapes Go.RowKit Go.Deep

/-- A row of numbers of one's own. -/
def RowI (w : World) (base : Nat) (v : Value) (l : List Int) : Prop := w.ownsRow base 3 1 v l.length (l.map (Value.int .i64))
/-- Numbers that an int holds. -/
def In64 (l : List Int) : Prop := ∀ n ∈ l, -9223372036854775808 ≤ n ∧ n ≤ 9223372036854775807

theorem Nums.in64 {w : World} {v : Value} {l : List Int} (h : Nums w v l) : In64 l := by
  intro n hn
  obtain ⟨j, hj, rfl⟩ := List.mem_iff_getElem.1 hn
  obtain ⟨A, cap, -, -, h3⟩ := h
  obtain ⟨b, off, cs, -, -, -, -, h8⟩ := h3 j _ (List.getElem?_eq_getElem hj)
  exact h8.2

theorem RowI.nil (w : World) (base : Nat) : RowI w base (.slice none 0 0) [] := World.ownsRow_nil _ _ _ _
theorem RowI.alloc {w : World} {base : Nat} {v : Value} {l : List Int} (h : RowI w base v l) (o : Obj) : RowI (w.alloc o) base v l := World.ownsRow.alloc h o
theorem RowI.below {w w' : World} {base : Nat} {v : Value} {l : List Int} (h : RowI w base v l) (hb : Below w.heap.size w w') : RowI w' base v l :=
  World.ownsRow.kept (row := none) h (gr_of_below hb none) (by cases h2 : v.ownBlock <;> simp)
theorem RowI.less {w : World} {base base' : Nat} {v : Value} {l : List Int} (h : RowI w base v l) (hb : base' ≤ base) : RowI w base' v l := by
  refine ⟨h.1, ?_⟩
  rcases h.2 with hn | ⟨g, cap, cur, h1, h2, h3⟩
  · exact .inl hn
  · exact .inr ⟨g, cap, cur, h1, Nat.le_trans hb h2, h3⟩

/-- What is made by a call reads as a list. -/
theorem RowI.nums {w : World} {base : Nat} {v : Value} {l : List Int} (h : RowI w base v l) (hl : In64 l) : Nums w v l := by
  have h' := h
  rcases h.2 with ⟨rfl, h0⟩ | ⟨g, cap, cur, rfl, hb, hg, hn, hm, _⟩
  · refine ⟨none, 0, by rw [h0], ⟨by omega, Nat.zero_le _, fun _ => rfl⟩, fun j s hj => ?_⟩
    have := (List.getElem?_eq_some_iff.1 hj).1
    omega
  · refine ⟨some ⟨g, 0, none⟩, cap, rfl, ⟨hn, hm, fun h => by cases h⟩, fun j s hj => ⟨g, 0, [.int .i64 s], rfl, (World.ownsRow.lt h' g rfl).2, rfl, fun i u hu => ?_, rfl, hl s (List.mem_of_getElem? hj)⟩⟩
    have e := World.ownsRow.cells h' (g := g) rfl j (.int .i64 s) (by simp [hj])
    rw [Addr.add_lit, Nat.zero_add] at e
    match i, hu with
    | 0, hu =>
      simp at hu
      subst hu
      rw [Nat.zero_add, Nat.mul_one, Nat.add_zero]
      exact e

theorem info_int : (Tryd.prog.info? 3).map (fun i => (i.zero, i.size, i.bytes)) = some (some (.int .i64 0), 1, 8) := by kernel_rfl

theorem one_ints (l : List Int) : ∀ u ∈ l.map (Value.int .i64), u.oneCell' = true := by
  intro u hu
  simp only [List.mem_map] at hu
  obtain ⟨b, _, rfl⟩ := hu
  rfl

set_option maxRecDepth 20000 in
theorem run_append_nums {w : World} {base : Nat} {v1 v2 : Value} {l m : List Int} (h : RowI w base v1 l) (hm : Nums w v2 m) (hl : l.length + m.length ≤ 1048576) (hb : base ≤ w.heap.size) (ty : TypeId) :
    ∃ v3 w', (Builtin.append_ #[24, 24] ty #[v1, v2]).run Tryd.prog w = .ok v3 w' ∧ RowI w' base v3 (l ++ m) ∧ w.grownBy w' v1.ownBlock := by
  obtain ⟨i0, hi, hz0, hz1, hz2⟩ := info_parts info_int
  obtain ⟨A, cap, rfl, ⟨hcap, hmx, hnil⟩, hat⟩ := hm
  cases A with
  | none =>
    have hc := hnil rfl
    subst hc
    have hm0 : m = [] := List.eq_nil_of_length_eq_zero (by omega)
    subst hm0
    exact ⟨v1, w, run_append_owned_none w base 24 ty 3 i0 1 Tryd.underlying24 hi v1 l.length _ h, by simpa using h, gr_refl w _⟩
  | some a =>
    obtain ⟨v3, w', hr, h2, h3, _⟩ := run_append_own_at (P := Tryd.prog) w base 24 ty 3 i0 (.int .i64 0) 1 8 Tryd.underlying24 hi hz0 hz1 hz2 rfl (by decide) v1 l.length _ h a m.length cap (m.map (Value.int .i64)) (by simp) (fun j u hj => by
      rw [List.getElem?_map] at hj
      cases hmj : m[j]? with
      | none => rw [hmj] at hj; simp at hj
      | some s =>
        rw [hmj] at hj
        simp at hj
        obtain ⟨b, off, cs, e, h5, h6, h7, h8⟩ := hat j s hmj
        injection e with e
        subst e
        have := h7 0 (.int .i64 s) (by rw [h8.1]; rfl)
        rw [Nat.mul_one, Nat.add_zero] at this
        rw [Addr.add_lit, this, hj]) (one_ints m) (by unfold maxLen; omega) (by omega) hb
    exact ⟨v3, w', hr, by simpa [RowI] using h2, h3⟩

theorem wpList_append_nums {ops : Array Oper} {rest : List Oper} {o : Oper} {a : Act} {w : World} {Q : Exit → Act → World → Prop} (hg : o.guard = none) (s x : Operand)
    (ho : o.op = .call { callee := .builtin .append, args := #[s, x], argTypes := #[24, 24] })
    {base : Nat} {v1 v2 : Value} {l m : List Int} (h : RowI w base v1 l) (hm : Nums w v2 m) (hl : l.length + m.length ≤ 1048576) (hb : base ≤ w.heap.size) (hs : a.eval s = v1) (hx : a.eval x = v2)
    (hK : ∀ v3 w', RowI w' base v3 (l ++ m) → w.grownBy w' v1.ownBlock → wpList Tryd.prog ops Q rest (a.put o.dst v3) w') : wpList Tryd.prog ops Q (o :: rest) a w := by
  refine wpList_plain hg fun K' hK' => ?_
  obtain ⟨v3, w', hrun, r1, r2⟩ := run_append_nums h hm hl hb o.type
  unfold Oper.wp
  simp [execOp, ho, resolve, invoke, builtin, hs, hx, hrun, Result.andThen]
  exact hK' _ _ (hK v3 w' r1 r2)

/-- A row that was just laid. -/
theorem nums_one (w : World) (a : Int) (h : In64 [a]) : Nums (w.alloc (.cells #[.int .i64 a] 3)) (.slice (some ⟨w.heap.size, 0, none⟩) 1 1) [a] :=
  RowI.nums (base := 0) (World.ownsRow_lit (base := 0) (e := 3) (size := 1) w #[.int .i64 a] 1 (Nat.zero_le _) (by unfold maxLen; omega) rfl) h
theorem nums_two (w : World) (a b : Int) (h : In64 [a, b]) : Nums (w.alloc (.cells #[.int .i64 a, .int .i64 b] 3)) (.slice (some ⟨w.heap.size, 0, none⟩) 2 2) [a, b] :=
  RowI.nums (base := 0) (World.ownsRow_lit (base := 0) (e := 3) (size := 1) w #[.int .i64 a, .int .i64 b] 2 (Nat.zero_le _) (by unfold maxLen; omega) rfl) h
theorem row_none (w : World) (base : Nat) (hb : base ≤ w.heap.size) : RowI (w.alloc (.cells #[] 3)) base (.slice (some ⟨w.heap.size, 0, none⟩) 0 0) [] :=
  World.ownsRow_lit (base := base) (e := 3) (size := 1) w #[] 0 hb (by unfold maxLen; omega) rfl

/-- Behind an append onto a row of one's own that is new since w: nothing of w has changed. -/
theorem below_append {w w1 w2 : World} {v : Value} {l : List Int} (hb : Below w.heap.size w w1) (h : RowI w1 w.heap.size v l) (hg : w1.grownBy w2 v.ownBlock) : Below w.heap.size w w2 :=
  hb.grown hg hb.size (fun k e => (World.ownsRow.lt h k e).1)
end Go.Proofs.YtamadegodenobaaDoor
