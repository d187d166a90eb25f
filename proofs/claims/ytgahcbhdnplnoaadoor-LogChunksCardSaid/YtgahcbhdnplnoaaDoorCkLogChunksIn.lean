/- Slices of chunks and of bytes that come in. -/
import Derived.Test.YtgahcbhdnplnoaaDoorCkLogInputs
import Derived.Test.YtgahcbhdnplnoaaDoorCkBase
import Derived.Lib.SmallJoins
namespace Go.Proofs.YtgahcbhdnplnoaaDoor
open Go.ChangeShapes Go.WideShapes Go.RowKit Go.Deep Go.Joins

/-- A chunk, with its data as a text. -/
structure Ck where
  e : Int
  q : Int
  f : Bool
  l : Bool
  s : ByteArray
instance : Inhabited Ck := ⟨⟨0, 0, false, false, ByteArray.empty⟩⟩

/-- The chunk. -/
def Ck.c (x : Ck) : Cn.Chu := ⟨x.e, x.q, x.f, x.l, x.s.data.toList⟩

/-- In the world w the value v is a slice of chunks that reads as l. -/
def Cks (w : World) (v : Value) (l : List Ck) : Prop :=
  ∃ A cap, v = .slice A l.length cap ∧ ∀ (j : Nat) (x : Ck), l[j]? = some x → ∃ b off, A = some ⟨b, off, none⟩ ∧ b < w.heap.size ∧
    w.cell? ⟨b, off + j * 5, none⟩ = some (.int .i64 x.e) ∧ w.cell? ⟨b, off + j * 5 + 1, none⟩ = some (.int .i64 x.q) ∧ w.cell? ⟨b, off + j * 5 + 2, none⟩ = some (.bool x.f) ∧ w.cell? ⟨b, off + j * 5 + 3, none⟩ = some (.bool x.l) ∧ w.cell? ⟨b, off + j * 5 + 4, none⟩ = some (.string x.s)

theorem ck_cells : Tryd.prog.cellsOf 45 = 5 := by kernel_rfl
theorem ck_int : Tryd.prog.cellsOf 3 = 1 := by kernel_rfl
theorem ck_bool : Tryd.prog.cellsOf 4 = 1 := by kernel_rfl
theorem ck_string : Tryd.prog.cellsOf 9 = 1 := by kernel_rfl
theorem ck_u8 : Tryd.prog.cellsOf 5 = 1 := by kernel_rfl

section
variable {H : Type} {enc : TypeId × Value → H} {P : Program} {w : World} {base : Nat} {spare : Nat → Bool} {held : Bool}
theorem trod_five {t : TypeId} {f0 f1 f2 f3 f4 : Field} {fuel : Nat} {cs : List Value} {x : DataW H × List MemPlace} (ht : P.underlying t = some (.struct #[f0, f1, f2, f3, f4])) (h : DataW.trod enc P w base spare held fuel t cs = some x) :
    ∃ y0 y1 y2 y3 y4 n, cs.length = P.cellsOf t ∧ DataW.trod enc P w base spare held n f0.type ((cs.drop f0.offset).take (P.cellsOf f0.type)) = some y0 ∧
      DataW.trod enc P w base spare held n f1.type ((cs.drop f1.offset).take (P.cellsOf f1.type)) = some y1 ∧ DataW.trod enc P w base spare held n f2.type ((cs.drop f2.offset).take (P.cellsOf f2.type)) = some y2 ∧
      DataW.trod enc P w base spare held n f3.type ((cs.drop f3.offset).take (P.cellsOf f3.type)) = some y3 ∧ DataW.trod enc P w base spare held n f4.type ((cs.drop f4.offset).take (P.cellsOf f4.type)) = some y4 := by
  obtain ⟨xs, n, _, rfl, hl, hlen, hf⟩ := DataW.trod_struct ht h
  match xs, hlen with
  | [y0, y1, y2, y3, y4], _ => exact ⟨y0, y1, y2, y3, y4, n, hl, by simpa using hf 0 f0 rfl, by simpa using hf 1 f1 rfl, by simpa using hf 2 f2 rfl, by simpa using hf 3 f3 rfl, by simpa using hf 4 f4 rfl⟩
end

set_option maxRecDepth 100000 in
/-- One chunk's five cells. -/
theorem open_ck {H : Type} {enc : TypeId × Value → H} {w : World} {base n : Nat} {spare : Nat → Bool} {held : Bool} {cs : List Value} {x : DataW H × List MemPlace}
    (h : DataW.trod enc Tryd.prog w base spare held n 45 cs = some x) : ∃ it : Ck, cs = [.int .i64 it.e, .int .i64 it.q, .bool it.f, .bool it.l, .string it.s] := by
  obtain ⟨y0, y1, y2, y3, y4, m, hl, t0, t1, t2, t3, t4⟩ := trod_five Tryd.underlying45 h
  rw [ck_cells] at hl
  match cs, hl with
  | [c0, c1, c2, c3, c4], _ =>
    simp only [ck_int, ck_string, ck_bool] at t0 t1 t2 t3 t4
    obtain ⟨a, e0, _, _⟩ := DataW.trod_int Tryd.underlying3 t0
    obtain ⟨b, e1, _, _⟩ := DataW.trod_int Tryd.underlying3 t1
    obtain ⟨c, e2, _⟩ := DataW.trod_bool Tryd.underlying4 t2
    obtain ⟨d, e3, _⟩ := DataW.trod_bool Tryd.underlying4 t3
    obtain ⟨s, e4, _⟩ := DataW.trod_string Tryd.underlying9 t4
    simp at e0 e1 e2 e3 e4
    exact ⟨⟨a, b, c, d, s⟩, by simp [e0, e1, e2, e3, e4]⟩

set_option maxRecDepth 20000 in
theorem open_chunks {H : Type} {enc : TypeId × Value → H} {w : World} {v : Value} {d : DataW H} {ps : List MemPlace}
    (h : DataW.Trod enc Tryd.prog w 0 (fun _ => true) true 43 v d ps) (hlt : ∀ y ∈ ps, y.block < w.heap.size) (hv : ∃ A len cap, v = .slice A len cap) : ∃ l : List Ck, Cks w v l := by
  obtain ⟨fuel, hf⟩ := h
  obtain ⟨A0, len0, cap0, rfl⟩ := hv
  rcases open_slice Tryd.underlying43 hf with ⟨hcs, _⟩ | ⟨a, len', cap', m, n, D, Pl, hcs, _, hl, _, hm, hx, hi⟩
  · simp [Value.cells] at hcs
    obtain ⟨rfl, rfl, rfl⟩ := hcs
    exact ⟨[], none, 0, rfl, fun i it hi => by simp at hi⟩
  · simp [Value.cells] at hcs
    obtain ⟨rfl, rfl, rfl⟩ := hcs
    simp only [if_true] at hm
    subst hm
    simp only [Prod.mk.injEq] at hx
    obtain ⟨_, rfl⟩ := hx
    rw [ck_cells] at hi hlt
    obtain ⟨f, hf'⟩ := choose_lt (α := Ck) (n := len0) (p := fun i it => ∀ (j : Nat) (u : Value), [Value.int .i64 it.e, .int .i64 it.q, .bool it.f, .bool it.l, .string it.s][j]? = some u → w.cell? (a.add (i * 5 + j)) = some u) (fun i hlen => by
      obtain ⟨cs', h1, h2⟩ := hi i (by omega)
      obtain ⟨it, rfl⟩ := open_ck h2
      obtain ⟨_, _, hat⟩ := World.cells?_some h1
      refine ⟨it, fun j u hj => ?_⟩
      have hj5 : j < 5 := by
        have := (List.getElem?_eq_some_iff.1 hj).1
        simpa using this
      rw [← Go.Deep.add_add, hat j hj5]
      exact hj)
    refine ⟨(List.range len0).map f, some a, m, by simp, fun i it hit => ?_⟩
    obtain ⟨hlen, rfl⟩ : ∃ h : i < len0, f i = it := by
      have h1 := (List.getElem?_eq_some_iff.1 hit).1
      simp only [List.length_map, List.length_range] at h1
      refine ⟨h1, ?_⟩
      simpa [h1] using hit
    obtain ⟨b, off, spot⟩ := a
    have hspot : spot = none := by
      have := (hf' 0 (by omega)) 0 _ rfl
      simpa [Addr.add] using World.cell?_spot this
    subst hspot
    have hb : b < w.heap.size := hlt (.cell b off) (List.mem_append_left _ (MemPlace.mem_row.2 ⟨0, by omega, by simp⟩))
    have c0 := (hf' i hlen) 0 _ rfl
    have c1 := (hf' i hlen) 1 _ rfl
    have c2 := (hf' i hlen) 2 _ rfl
    have c3 := (hf' i hlen) 3 _ rfl
    have c4 := (hf' i hlen) 4 _ rfl
    simp only [Addr.add_lit] at c0 c1 c2 c3 c4
    exact ⟨b, off, rfl, hb, c0, c1, c2, c3, c4⟩

theorem open_u8s {H : Type} {enc : TypeId × Value → H} {w : World} {v : Value} {d : DataW H} {ps : List MemPlace}
    (h : DataW.Trod enc Tryd.prog w 0 (fun _ => true) true 38 v d ps) (hlt : ∀ y ∈ ps, y.block < w.heap.size) (hv : ∃ A len cap, v = .slice A len cap) : ∃ l : List Int, Ints .u8 w v l :=
  open_ints Tryd.underlying38 Tryd.underlying5 ck_u8 h hlt hv

end Go.Proofs.YtgahcbhdnplnoaaDoor
