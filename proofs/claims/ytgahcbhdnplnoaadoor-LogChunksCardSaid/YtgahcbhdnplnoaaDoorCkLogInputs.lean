/- Slices of numbers that come in. -/
import Derived.Test.YtgahcbhdnplnoaaDoorCkBase
namespace Go.Proofs.YtgahcbhdnplnoaaDoor
open Go.ChangeShapes Go.WideShapes Go.RowKit Go.Deep

/-- In the world w the value v is a slice of numbers of the kind k that reads as l. -/
def Ints (k : IntKind) (w : World) (v : Value) (l : List Int) : Prop :=
  ∃ A cap, v = .slice A l.length cap ∧ ∀ j n, l[j]? = some n → (Lit.int k n).wf = true ∧ ∃ b off, A = some ⟨b, off, none⟩ ∧ b < w.heap.size ∧ w.cell? ⟨b, off + j, none⟩ = some (.int k n)

theorem Ints.below {k : IntKind} {w w' : World} {v : Value} {l : List Int} (h : Ints k w v l) (hb : Below w.heap.size w w') : Ints k w' v l := by
  obtain ⟨A, cap, h1, h3⟩ := h
  refine ⟨A, cap, h1, fun j s hj => ?_⟩
  obtain ⟨hw, b, off, h4, h5, h6⟩ := h3 j s hj
  exact ⟨hw, b, off, h4, Nat.lt_of_lt_of_le h5 hb.size, (hb.cell (p := ⟨b, _, none⟩) h5).trans h6⟩

set_option maxRecDepth 20000 in
theorem open_ints {k : IntKind} {T E : TypeId} (hT : Tryd.prog.underlying T = some (.slice E)) (hE : Tryd.prog.underlying E = some (.int k)) (hc : Tryd.prog.cellsOf E = 1) {H : Type} {enc : TypeId × Value → H} {w : World} {v : Value} {d : DataW H} {ps : List MemPlace}
    (h : DataW.Trod enc Tryd.prog w 0 (fun _ => true) true T v d ps) (hlt : ∀ y ∈ ps, y.block < w.heap.size) (hv : ∃ A len cap, v = .slice A len cap) : ∃ l : List Int, Ints k w v l := by
  obtain ⟨fuel, hf⟩ := h
  obtain ⟨A0, len0, cap0, rfl⟩ := hv
  rcases open_slice hT hf with ⟨hcs, _⟩ | ⟨a, len', cap', m, n, D, Pl, hcs, _, hl, _, hm, hx, hi⟩
  · simp [Value.cells] at hcs
    obtain ⟨rfl, rfl, rfl⟩ := hcs
    exact ⟨[], none, 0, rfl, fun i it hi => by simp at hi⟩
  · simp [Value.cells] at hcs
    obtain ⟨rfl, rfl, rfl⟩ := hcs
    simp only [if_true] at hm
    subst hm
    simp only [Prod.mk.injEq] at hx
    obtain ⟨_, rfl⟩ := hx
    rw [hc] at hi hlt
    obtain ⟨f, hf'⟩ := choose_lt (α := Int) (n := len0) (p := fun i s => (Lit.int k s).wf = true ∧ w.cell? (a.add i) = some (.int k s)) (fun i hlen => by
      obtain ⟨cs', h1, h2⟩ := hi i (by omega)
      obtain ⟨s, rfl, _, hw⟩ := DataW.trod_int hE h2
      obtain ⟨_, _, hat⟩ := World.cells?_some h1
      have := hat 0 (by decide)
      rw [Go.Deep.add_add] at this
      exact ⟨s, hw, by simpa using this⟩)
    refine ⟨(List.range len0).map f, some a, m, by simp, fun i s hit => ?_⟩
    obtain ⟨hlen, rfl⟩ : ∃ h : i < len0, f i = s := by
      have h1 := (List.getElem?_eq_some_iff.1 hit).1
      simp only [List.length_map, List.length_range] at h1
      refine ⟨h1, ?_⟩
      simpa [h1] using hit
    obtain ⟨b, off, spot⟩ := a
    have hspot : spot = none := by
      have := (hf' 0 (by omega)).2
      simpa [Addr.add] using World.cell?_spot this
    subst hspot
    have hb : b < w.heap.size := hlt (.cell b off) (List.mem_append_left _ (MemPlace.mem_row.2 ⟨0, by omega, by simp⟩))
    have c0 := (hf' i hlen).2
    simp only [Addr.add_lit] at c0
    exact ⟨(hf' i hlen).1, b, off, rfl, hb, c0⟩

/-! ### lists of texts -/
/-- In the world w the value v is a [][]string that reads as ls. -/
def Lists (w : World) (v : Value) (ls : List (List ByteArray)) : Prop :=
  ∃ A cap, v = .slice A ls.length cap ∧ ∀ j l, ls[j]? = some l → ∃ b off u, A = some ⟨b, off, none⟩ ∧ b < w.heap.size ∧ w.cell? ⟨b, off + j, none⟩ = some u ∧ Strs w u l

theorem lists_cells : Tryd.prog.cellsOf 22 = 1 := by kernel_rfl

set_option maxRecDepth 20000 in
theorem open_lists {H : Type} {enc : TypeId × Value → H} {w : World} {v : Value} {d : DataW H} {ps : List MemPlace}
    (h : DataW.Trod enc Tryd.prog w 0 (fun _ => true) true 41 v d ps) (hlt : ∀ y ∈ ps, y.block < w.heap.size) (hv : ∃ A len cap, v = .slice A len cap) : ∃ ls : List (List ByteArray), Lists w v ls := by
  obtain ⟨fuel, hf⟩ := h
  obtain ⟨A0, len0, cap0, rfl⟩ := hv
  rcases open_slice Tryd.underlying41 hf with ⟨hcs, _⟩ | ⟨a, len', cap', m, n, D, Pl, hcs, _, hl, _, hm, hx, hi⟩
  · simp [Value.cells] at hcs
    obtain ⟨rfl, rfl, rfl⟩ := hcs
    exact ⟨[], none, 0, rfl, fun i it hi => by simp at hi⟩
  · simp [Value.cells] at hcs
    obtain ⟨rfl, rfl, rfl⟩ := hcs
    simp only [if_true] at hm
    subst hm
    simp only [Prod.mk.injEq] at hx
    obtain ⟨_, rfl⟩ := hx
    rw [lists_cells] at hi hlt
    obtain ⟨f, hf'⟩ := choose_lt (α := List ByteArray) (n := len0) (p := fun i l => ∃ u, w.cell? (a.add i) = some u ∧ Strs w u l) (fun i hlen => by
      obtain ⟨cs', h1, h2⟩ := hi i (by omega)
      obtain ⟨A', len', cap', hcs', l, hl', hc', hat'⟩ := open_row (B := w.heap.size) h2 (fun y hy => hlt y (List.mem_append_right _ (List.mem_flatMap.2 ⟨i, List.mem_range.2 (by omega), hy⟩)))
      subst hcs'
      obtain ⟨_, _, hat⟩ := World.cells?_some h1
      have := hat 0 (by decide)
      rw [Go.Deep.add_add] at this
      exact ⟨l, .slice A' len' cap', by simpa using this, A', cap', by rw [hl'], ⟨by omega, hc'.2⟩, hat'⟩)
    refine ⟨(List.range len0).map f, some a, m, by simp, fun i s hit => ?_⟩
    obtain ⟨hlen, rfl⟩ : ∃ h : i < len0, f i = s := by
      have h1 := (List.getElem?_eq_some_iff.1 hit).1
      simp only [List.length_map, List.length_range] at h1
      refine ⟨h1, ?_⟩
      simpa [h1] using hit
    obtain ⟨b, off, spot⟩ := a
    obtain ⟨u, hu, hs⟩ := hf' i hlen
    have hspot : spot = none := by
      obtain ⟨u0, this, _⟩ := hf' 0 (by omega)
      simpa [Addr.add] using World.cell?_spot this
    subst hspot
    have hb : b < w.heap.size := hlt (.cell b off) (List.mem_append_left _ (MemPlace.mem_row.2 ⟨0, by omega, by simp⟩))
    simp only [Addr.add_lit] at hu
    exact ⟨b, off, u, rfl, hb, hu, hs⟩

end Go.Proofs.YtgahcbhdnplnoaaDoor
