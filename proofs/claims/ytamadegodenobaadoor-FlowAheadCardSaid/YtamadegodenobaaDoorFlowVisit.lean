/- Order of the program: its closure that calls itself. -/
import Derived.Test.YtamadegodenobaaDoorFlowSuccs
import Derived.Test.YtamadegodenobaaDoorFlowDfs
namespace Go.Proofs.YtamadegodenobaaDoor
open Go.ChangeShapes Go.WideShapes Go.RowKit Go.Deep

/-- From W to W' nothing else has changed than which blocks were met, the list, and what is new. u, u': the list. -/
structure Vch (H : Nat) (u : Value) (W W' : World) (u' : Value) : Prop where
  os : W'.os = W.os
  tape : W'.tape = W.tape
  output : W'.output = W.output
  size : W.heap.size ≤ W'.heap.size
  blk : ∀ b, b < W.heap.size → b ≠ H + 1 → b ≠ H + 2 → u.ownBlock ≠ some b → W'.heap[b]? = W.heap[b]?
  own : ∀ b, u'.ownBlock = some b → u.ownBlock = some b ∨ W.heap.size ≤ b
theorem Vch.refl (H : Nat) (u : Value) (W : World) : Vch H u W W u := ⟨rfl, rfl, rfl, Nat.le_refl _, fun _ _ _ _ _ => rfl, fun _ h => .inl h⟩
theorem Vch.trans {H : Nat} {u u1 u2 : Value} {W W1 W2 : World} (h : Vch H u W W1 u1) (k : Vch H u1 W1 W2 u2) : Vch H u W W2 u2 where
  os := k.os.trans h.os
  tape := k.tape.trans h.tape
  output := k.output.trans h.output
  size := Nat.le_trans h.size k.size
  blk b hb h1 h2 h3 := by
    rw [k.blk b (Nat.lt_of_lt_of_le hb h.size) h1 h2 (fun e => by rcases h.own b e with e2 | e2; exact h3 e2; omega), h.blk b hb h1 h2 h3]
  own b e := by
    rcases k.own b e with e2 | e2
    · exact h.own b e2
    · exact .inr (Nat.le_trans h.size e2)
theorem Vch.below {H : Nat} {u : Value} {W W' : World} (h : Below W.heap.size W W') : Vch H u W W' u := ⟨h.os, h.tape, h.output, h.size, fun b hb _ _ _ => h.block b hb, fun _ e => .inl e⟩

/-- What a visit finds in memory. H: the blocks; w0: the world in which Order was called. -/
structure Vs (bs : List (List Ir.In)) (A : Option Addr) (cap : Nat) (w0 W : World) (s : Fl.St) (u : Value) : Prop where
  bx : Blk W w0.heap.size 22 #[.slice A bs.length cap]
  ord : Blk W (w0.heap.size + 1) 24 #[u]
  mb : ∃ cs : Array Value, Blk W (w0.heap.size + 2) 4 cs ∧ ∀ k : Nat, k < bs.length → cs[k]? = some (.bool (decide ((k : Int) ∈ s.1)))
  mv : Blk W (w0.heap.size + 3) 29 #[.slice (some ⟨w0.heap.size + 2, 0, none⟩) bs.length bs.length]
  vv : Blk W (w0.heap.size + 4) 39 #[.func (.func 20) #[] #[.pointer (some ⟨w0.heap.size + 3, 0, none⟩), .pointer (some ⟨w0.heap.size, 0, none⟩), .pointer (some ⟨w0.heap.size + 4, 0, none⟩), .pointer (some ⟨w0.heap.size + 1, 0, none⟩)]]
  row : RowI W (w0.heap.size + 5) u s.2
  old : Below w0.heap.size w0 W

section
variable {bs : List (List Ir.In)} {A : Option Addr} {cap : Nat} {w0 W W' : World} {s : Fl.St} {u : Value}
theorem Vs.below (h : Vs bs A cap w0 W s u) (hb : Below W.heap.size W W') : Vs bs A cap w0 W' s u where
  bx := h.bx.older hb h.bx.lt
  ord := h.ord.older hb h.ord.lt
  mb := by
    obtain ⟨cs, h1, h2⟩ := h.mb
    exact ⟨cs, h1.older hb h1.lt, h2⟩
  mv := h.mv.older hb h.mv.lt
  vv := h.vv.older hb h.vv.lt
  row := h.row.below hb
  old := h.old.trans (hb.mono h.old.size)
theorem Vs.own (h : Vs bs A cap w0 W s u) (b : Nat) (e : u.ownBlock = some b) : w0.heap.size + 5 ≤ b ∧ b < W.heap.size := World.ownsRow.lt h.row b e
/-- Block k is met. -/
theorem Vs.meet (h : Vs bs A cap w0 W s u) (k : Nat) : Vs bs A cap w0 (W.setCell ⟨w0.heap.size + 2, k, none⟩ (.bool true)) (s.1 ++ [(k : Int)], s.2) u where
  bx := h.bx.apart (p := ⟨w0.heap.size + 2, k, none⟩) (by show w0.heap.size ≠ w0.heap.size + 2; omega) _
  ord := h.ord.apart (p := ⟨w0.heap.size + 2, k, none⟩) (by show w0.heap.size + 1 ≠ w0.heap.size + 2; omega) _
  mb := by
    obtain ⟨cs, h1, h2⟩ := h.mb
    refine ⟨_, h1.set k _, fun j hj => ?_⟩
    have h3 := h2 j hj
    by_cases hjk : j = k
    · subst hjk
      have h4 := (Array.getElem?_eq_some_iff.1 h3).1
      rw [Array.getElem?_setIfInBounds_self_of_lt h4]
      simp
    · rw [Array.getElem?_setIfInBounds_ne (fun e => hjk e.symm), h3]
      have : ((j : Int) ∈ s.1 ++ [(k : Int)]) ↔ (j : Int) ∈ s.1 := by simp; omega
      simp only [this]
  mv := h.mv.apart (p := ⟨w0.heap.size + 2, k, none⟩) (by show w0.heap.size + 3 ≠ w0.heap.size + 2; omega) _
  vv := h.vv.apart (p := ⟨w0.heap.size + 2, k, none⟩) (by show w0.heap.size + 4 ≠ w0.heap.size + 2; omega) _
  row := World.ownsRow.kept (row := some (w0.heap.size + 2)) h.row (Lib.grownBy_setCell _ _ _ _) (.inr fun e => by have := h.own _ e; omega)
  old := h.old.setCell (p := ⟨w0.heap.size + 2, k, none⟩) (by show w0.heap.size ≤ w0.heap.size + 2; omega) _
theorem Vch.meet {H : Nat} {W : World} {u : Value} (k : Nat) (x : Value) : Vch H u W (W.setCell ⟨H + 2, k, none⟩ x) u :=
  ⟨rfl, rfl, rfl, by simp [World.setCell], fun b _ _ h2 _ => heap_setCell_other W ⟨H + 2, k, none⟩ b x (by show b ≠ H + 2; exact h2), fun _ e => .inl e⟩
/-- The list has grown, and is stored. -/
theorem Vs.put (h : Vs bs A cap w0 W s u) {o : Obj} {v : Value} {i : Int} (hr : RowI W' (w0.heap.size + 5) v (s.2 ++ [i])) (hg : (W.alloc o).grownBy W' u.ownBlock) :
    Vs bs A cap w0 (W'.setCell ⟨w0.heap.size + 1, 0, none⟩ v) (s.1, s.2 ++ [i]) v := by
  have ho : ∀ b, b < w0.heap.size + 5 → u.ownBlock ≠ some b := fun b hb e => by have := h.own b e; omega
  have hB : ∀ {g t cs}, Blk W g t cs → g < w0.heap.size + 5 → Blk W' g t cs := fun hk hg5 => (hk.alloc o).grown hg (fun e => ho _ hg5 e.symm)
  obtain ⟨cs, m1, m2⟩ := h.mb
  refine ⟨(hB h.bx (by omega)).apart (p := ⟨w0.heap.size + 1, 0, none⟩) (by show w0.heap.size ≠ w0.heap.size + 1; omega) _, (hB h.ord (by omega)).set_one v,
    ⟨cs, (hB m1 (by omega)).apart (p := ⟨w0.heap.size + 1, 0, none⟩) (by show w0.heap.size + 2 ≠ w0.heap.size + 1; omega) _, m2⟩,
    (hB h.mv (by omega)).apart (p := ⟨w0.heap.size + 1, 0, none⟩) (by show w0.heap.size + 3 ≠ w0.heap.size + 1; omega) _,
    (hB h.vv (by omega)).apart (p := ⟨w0.heap.size + 1, 0, none⟩) (by show w0.heap.size + 4 ≠ w0.heap.size + 1; omega) _, ?_, ?_⟩
  · exact World.ownsRow.kept (row := some (w0.heap.size + 1)) hr (Lib.grownBy_setCell _ _ _ _) (.inr fun e => by have := World.ownsRow.lt hr _ e; omega)
  · have h1 : Below w0.heap.size w0 (W.alloc o) := h.old.alloc h.old.size _
    have h2 : Below w0.heap.size w0 W' := h1.grown hg h1.size (fun k e => by have := h.own k e; omega)
    exact h2.setCell (p := ⟨w0.heap.size + 1, 0, none⟩) (by show w0.heap.size ≤ w0.heap.size + 1; omega) _
theorem Vch.put {H : Nat} {o : Obj} {v : Value} (hg : (W.alloc o).grownBy W' u.ownBlock) (hv : v.ownBlock = u.ownBlock ∨ v.ownBlock = some (W.alloc o).heap.size) : Vch H u W (W'.setCell ⟨H + 1, 0, none⟩ v) v where
  os := hg.os
  tape := hg.tape
  output := hg.output
  size := by
    have h1 := hg.size
    have h2 : (W.alloc o).heap.size = W.heap.size + 1 := by simp
    simp [World.setCell]
    omega
  blk b hb h1 h2 h3 := by
    rw [heap_setCell_other W' ⟨H + 1, 0, none⟩ b v (by show b ≠ H + 1; exact h1), hg.block b (by simp; omega) (fun e => h3 e.symm)]
    exact Below.heap_alloc W o b hb
  own b e := by
    rcases hv with hv | hv
    · exact .inl (hv.symm.trans e)
    · rw [hv] at e
      injection e with e
      have h2 : (W.alloc o).heap.size = W.heap.size + 1 := by simp
      exact .inr (by omega)
end
/-- A row of numbers stays where its block stays. -/
theorem nums_move {w w' : World} {A : Option Addr} {n cap : Nat} {l : List Int} (h : Nums w (.slice A n cap) l) (hs : w.heap.size ≤ w'.heap.size) (hr : ∀ a, A = some a → a.block < w.heap.size → w'.heap[a.block]? = w.heap[a.block]?) : Nums w' (.slice A n cap) l := by
  obtain ⟨A', cap', e, h2, h3⟩ := h
  simp at e
  obtain ⟨rfl, rfl, rfl⟩ := e
  refine ⟨_, _, rfl, h2, fun j x hj => ?_⟩
  obtain ⟨b, off, cs, h4, h5, h6, h7, h8⟩ := h3 j x hj
  refine ⟨b, off, cs, h4, Nat.lt_of_lt_of_le h5 hs, h6, fun i u hu => ?_, h8⟩
  have hb := hr _ h4 h5
  have := h7 i u hu
  simp only [World.cell?] at this ⊢
  rw [hb]
  exact this
end Go.Proofs.YtamadegodenobaaDoor
