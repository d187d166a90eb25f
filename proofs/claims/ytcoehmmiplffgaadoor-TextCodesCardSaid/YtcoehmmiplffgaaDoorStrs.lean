/- Lists of texts in memory: what a []string reads as, whether it came in or was made by a call. -/
import Derived.Test.YtcoehmmiplffgaaDoorQuiets
namespace Go.Proofs.YtcoehmmiplffgaaDoor
open Go.ChangeShapes Go.WideShapes Go.RowKit Go.Deep

/-- In the world w the value v is a []string that reads as l. -/
def Strs (w : World) (v : Value) (l : List ByteArray) : Prop :=
  ∃ A cap, v = .slice A l.length cap ∧ (l.length ≤ cap ∧ (A = none → cap = 0)) ∧ ∀ j s, l[j]? = some s → ∃ b off, A = some ⟨b, off, none⟩ ∧ b < w.heap.size ∧ w.cell? ⟨b, off + j, none⟩ = some (.string s)

theorem Strs.below {w w' : World} {v : Value} {l : List ByteArray} (h : Strs w v l) (hb : Below w.heap.size w w') : Strs w' v l := by
  obtain ⟨A, cap, h1, h2, h3⟩ := h
  refine ⟨A, cap, h1, h2, fun j s hj => ?_⟩
  obtain ⟨b, off, h4, h5, h6⟩ := h3 j s hj
  exact ⟨b, off, h4, Nat.lt_of_lt_of_le h5 hb.size, (hb.cell (p := ⟨b, _, none⟩) h5).trans h6⟩

/-- What is made by a call. -/
theorem Strs.of_row {w : World} {base : Nat} {v : Value} {l : List ByteArray} (h : w.ownsRow base 9 1 v l.length (l.map Value.string)) : Strs w v l := by
  have h' := h
  rcases h.2 with ⟨rfl, h0⟩ | ⟨g, cap, cur, rfl, hb, hg, hn, _⟩
  · refine ⟨none, 0, by rw [h0], ⟨by omega, fun _ => rfl⟩, fun j s hj => ?_⟩
    have := (List.getElem?_eq_some_iff.1 hj).1
    omega
  · refine ⟨some ⟨g, 0, none⟩, cap, rfl, ⟨hn, fun h => by cases h⟩, fun j s hj => ⟨g, 0, rfl, (h'.lt g rfl).2, ?_⟩⟩
    have e := h'.cells (g := g) rfl j (.string s) (by simp [hj])
    rw [Addr.add_lit, Nat.zero_add] at e
    rw [Nat.zero_add]
    exact e

theorem str_cells : Tryd.prog.cellsOf 9 = 1 := by kernel_rfl

/-- A row of strings at a place, opened: what the cells read as. -/
theorem open_row {H : Type} {enc : TypeId × Value → H} {w : World} {fuel : Nat} {cs : List Value} {x : DataW H × List MemPlace} {B : Nat}
    (hf : DataW.trod enc Tryd.prog w 0 (fun _ => true) true fuel 63 cs = some x) (hlt : ∀ y ∈ x.2, y.block < B) :
    ∃ A len cap, cs = [.slice A len cap] ∧ ∃ l : List ByteArray, l.length = len ∧ (len ≤ cap ∧ (A = none → cap = 0)) ∧ ∀ j s, l[j]? = some s → ∃ b off, A = some ⟨b, off, none⟩ ∧ b < B ∧ w.cell? ⟨b, off + j, none⟩ = some (.string s) := by
  rcases open_slice Tryd.underlying63 hf with ⟨hcs, _⟩ | ⟨a, len', cap', m, n, D, Pl, hcs, _, hl, _, hm, hx, hi⟩
  · exact ⟨none, 0, 0, hcs, [], rfl, ⟨Nat.le_refl _, fun _ => rfl⟩, fun i it hi => by simp at hi⟩
  · refine ⟨some a, len', cap', hcs, ?_⟩
    simp only [if_true] at hm
    subst hm
    subst hx
    rw [str_cells] at hi hlt
    obtain ⟨f, hf'⟩ := choose_lt (α := ByteArray) (n := len') (p := fun i s => w.cell? (a.add i) = some (.string s)) (fun i hlen => by
      obtain ⟨cs', h1, h2⟩ := hi i (by omega)
      obtain ⟨s, rfl, _⟩ := DataW.trod_string Tryd.underlying9 h2
      obtain ⟨_, _, hat⟩ := World.cells?_some h1
      have := hat 0 (by decide)
      rw [Go.Deep.add_add] at this
      exact ⟨s, by simpa using this⟩)
    refine ⟨(List.range len').map f, by simp, ⟨by omega, fun h => by cases h⟩, fun i s hit => ?_⟩
    obtain ⟨hlen, rfl⟩ : ∃ h : i < len', f i = s := by
      have h1 := (List.getElem?_eq_some_iff.1 hit).1
      simp only [List.length_map, List.length_range] at h1
      refine ⟨h1, ?_⟩
      simpa [h1] using hit
    obtain ⟨b, off, spot⟩ := a
    have hspot : spot = none := by
      have := hf' 0 (by omega)
      simpa [Addr.add] using World.cell?_spot this
    subst hspot
    have hb : b < B := hlt (.cell b off) (List.mem_append_left _ (MemPlace.mem_row.2 ⟨0, by omega, by simp⟩))
    have c0 := hf' i hlen
    simp only [Addr.add_lit] at c0
    exact ⟨b, off, rfl, hb, c0⟩

/-- What came in. -/
theorem open_strs {H : Type} {enc : TypeId × Value → H} {w : World} {v : Value} {d : DataW H} {ps : List MemPlace}
    (h : DataW.Trod enc Tryd.prog w 0 (fun _ => true) true 63 v d ps) (hlt : ∀ y ∈ ps, y.block < w.heap.size) (hv : ∃ A len cap, v = .slice A len cap) : ∃ l : List ByteArray, Strs w v l := by
  obtain ⟨fuel, hf⟩ := h
  obtain ⟨A0, len0, cap0, rfl⟩ := hv
  obtain ⟨A, len, cap, hcs, l, hl, hc, hat⟩ := open_row hf hlt
  simp [Value.cells] at hcs
  obtain ⟨rfl, rfl, rfl⟩ := hcs
  exact ⟨l, A0, cap0, by rw [hl], ⟨by omega, hc.2⟩, hat⟩

/-! ### append of texts -/
theorem info_texts : (Tryd.prog.info? 9).map (fun i => (i.zero, i.size, i.bytes)) = some (some (.string ⟨#[]⟩), 1, 16) := by kernel_rfl

theorem one_texts (l : List ByteArray) : ∀ u ∈ l.map Value.string, u.oneCell' = true := by
  intro u hu
  simp only [List.mem_map] at hu
  obtain ⟨b, _, rfl⟩ := hu
  rfl

set_option maxRecDepth 20000 in
theorem run_append_texts {w : World} {base : Nat} {v1 v2 : Value} {l m : List ByteArray} (h : w.ownsRow base 9 1 v1 l.length (l.map Value.string)) (hm : Strs w v2 m) (hl : l.length + m.length ≤ 1048576) (hb : base ≤ w.heap.size) (ty : TypeId) :
    ∃ v3 w', (Builtin.append_ #[63, 63] ty #[v1, v2]).run Tryd.prog w = .ok v3 w' ∧ w'.ownsRow base 9 1 v3 (l ++ m).length ((l ++ m).map Value.string) ∧ w.grownBy w' v1.ownBlock := by
  obtain ⟨i0, hi, hz0, hz1, hz2⟩ := info_parts info_texts
  obtain ⟨A, cap, rfl, ⟨hcap, hnil⟩, hat⟩ := hm
  cases A with
  | none =>
    have hc := hnil rfl
    subst hc
    have hm0 : m = [] := List.eq_nil_of_length_eq_zero (by omega)
    subst hm0
    refine ⟨v1, w, run_append_owned_none w base 63 ty 9 i0 1 Tryd.underlying63 hi v1 l.length _ h, by simpa using h, gr_refl w _⟩
  | some a =>
    obtain ⟨v3, w', hr, h2, h3, _⟩ := run_append_own_at (P := Tryd.prog) w base 63 ty 9 i0 (.string ⟨#[]⟩) 1 16 Tryd.underlying63 hi hz0 hz1 hz2 rfl (by decide) v1 l.length _ h a m.length cap (m.map Value.string) (by simp) (fun j u hj => by
      rw [List.getElem?_map] at hj
      cases hmj : m[j]? with
      | none => rw [hmj] at hj; simp at hj
      | some s =>
        rw [hmj] at hj
        simp at hj
        obtain ⟨b, off, e, h5, h6⟩ := hat j s hmj
        injection e with e
        subst e
        rw [Addr.add_lit, h6, hj]) (one_texts m) (by unfold maxLen; omega) (by omega) hb
    exact ⟨v3, w', hr, by simpa using h2, h3⟩

theorem wpList_append_texts {ops : Array Oper} {rest : List Oper} {o : Oper} {a : Act} {w : World} {Q : Exit → Act → World → Prop} (hg : o.guard = none) (s x : Operand)
    (ho : o.op = .call { callee := .builtin .append, args := #[s, x], argTypes := #[63, 63] })
    {base : Nat} {v1 v2 : Value} {l m : List ByteArray} (h : w.ownsRow base 9 1 v1 l.length (l.map Value.string)) (hm : Strs w v2 m) (hl : l.length + m.length ≤ 1048576) (hb : base ≤ w.heap.size) (hs : a.eval s = v1) (hx : a.eval x = v2)
    (hK : ∀ v3 w', w'.ownsRow base 9 1 v3 (l ++ m).length ((l ++ m).map Value.string) → w.grownBy w' v1.ownBlock → wpList Tryd.prog ops Q rest (a.put o.dst v3) w') : wpList Tryd.prog ops Q (o :: rest) a w := by
  refine wpList_plain hg fun K' hK' => ?_
  obtain ⟨v3, w', hrun, r1, r2⟩ := run_append_texts h hm hl hb o.type
  unfold Oper.wp
  simp [execOp, ho, resolve, invoke, builtin, hs, hx, hrun, Result.andThen]
  exact hK' _ _ (hK v3 w' r1 r2)

/-- How many texts and bytes a list has. -/
def size (l : List ByteArray) : Nat := l.length + (l.map ByteArray.size).sum
end Go.Proofs.YtcoehmmiplffgaaDoor
