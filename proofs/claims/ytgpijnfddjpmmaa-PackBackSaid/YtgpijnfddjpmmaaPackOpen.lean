/- An argument that is a slice of items, opened: a list of items that lies in memory. -/
import Derived.Test.YtgpijnfddjpmmaaPackItems
import Derived.Deep.Slices
import Derived.Deep.Strs
import Derived.ProofKit
namespace Go.Proofs.Ytgpijnfddjpmmaa
open Go.ChangeShapes Go.WideShapes Go.RowKit Go.Deep

theorem item_cells : Try.prog.cellsOf 40 = 3 := by kernel_rfl
theorem int_cells : Try.prog.cellsOf 3 = 1 := by kernel_rfl
theorem string_cells : Try.prog.cellsOf 9 = 1 := by kernel_rfl

/-- One item's three cells. -/
theorem open_item {H : Type} {enc : TypeId × Value → H} {w : World} {base n : Nat} {spare : Nat → Bool} {held : Bool} {cs : List Value} {x : DataW H × List MemPlace}
    (h : DataW.trod enc Try.prog w base spare held n 40 cs = some x) : ∃ it : It, cs = [.int .i64 it.1, .int .i64 it.2.1, .string it.2.2] := by
  obtain ⟨y0, y1, y2, m, _, hl, t0, t1, t2⟩ := trod_struct3 Try.underlying40 h
  rw [item_cells] at hl
  match cs, hl with
  | [c0, c1, c2], _ =>
    simp only [int_cells, string_cells] at t0 t1 t2
    obtain ⟨a, e0, _⟩ := DataW.trod_int Try.underlying3 t0
    obtain ⟨b, e1, _⟩ := DataW.trod_int Try.underlying3 t1
    obtain ⟨s, e2, _⟩ := DataW.trod_string Try.underlying9 t2
    simp at e0 e1 e2
    exact ⟨(a, b, s), by simp [e0, e1, e2]⟩

theorem open_items {H : Type} {enc : TypeId × Value → H} {w : World} {a0 : Option Addr} {len cap B : Nat} {d : DataW H} {ps : List MemPlace}
    (h : DataW.Trod enc Try.prog w 0 (fun _ => true) true 31 (.slice a0 len cap) d ps) (hlt : ∀ y ∈ ps, y.block < B) : ∃ l : List It, l.length = len ∧ Items w B a0 l := by
  obtain ⟨fuel, hf⟩ := h
  rcases open_slice Try.underlying31 hf with ⟨hcs, _⟩ | ⟨a, len', cap', m, n, D, Pl, hcs, _, hl, _, hm, hx, hi⟩
  · simp [Value.cells] at hcs
    obtain ⟨rfl, rfl, rfl⟩ := hcs
    exact ⟨[], rfl, fun i it hi => by simp at hi⟩
  · simp [Value.cells] at hcs
    obtain ⟨rfl, rfl, rfl⟩ := hcs
    simp only [if_true] at hm
    subst hm
    simp only [Prod.mk.injEq] at hx
    obtain ⟨_, rfl⟩ := hx
    rw [item_cells] at hi hlt
    obtain ⟨f, hf'⟩ := choose_lt (α := It) (n := len) (p := fun i it => ∀ j u, [Value.int .i64 it.1, .int .i64 it.2.1, .string it.2.2][j]? = some u → w.cell? (a.add (i * 3 + j)) = some u) (fun i hlen => by
      obtain ⟨cs', h1, h2⟩ := hi i (by omega)
      obtain ⟨it, rfl⟩ := open_item h2
      obtain ⟨_, _, hat⟩ := World.cells?_some h1
      refine ⟨it, fun j u hj => ?_⟩
      have hj3 : j < 3 := by
        have := (List.getElem?_eq_some_iff.1 hj).1
        simpa using this
      rw [← Go.Deep.add_add, hat j hj3]
      exact hj)
    refine ⟨(List.range len).map f, by simp, fun i it hit => ?_⟩
    obtain ⟨hlen, rfl⟩ : ∃ h : i < len, f i = it := by
      have h1 := (List.getElem?_eq_some_iff.1 hit).1
      simp only [List.length_map, List.length_range] at h1
      refine ⟨h1, ?_⟩
      simpa [h1] using hit
    obtain ⟨b, off, spot⟩ := a
    have hspot : spot = none := by
      have := hf' 0 (by omega) 0 _ rfl
      simpa [Addr.add] using World.cell?_spot this
    subst hspot
    have hb : b < B := hlt (.cell b off) (List.mem_append_left _ (MemPlace.mem_row.2 ⟨0, by omega, by simp⟩))
    have c0 := hf' i hlen 0 _ rfl
    have c1 := hf' i hlen 1 _ rfl
    have c2 := hf' i hlen 2 _ rfl
    simp only [Addr.add_lit] at c0 c1 c2
    exact ⟨b, off, rfl, hb, c0, c1, c2⟩

end Go.Proofs.Ytgpijnfddjpmmaa
