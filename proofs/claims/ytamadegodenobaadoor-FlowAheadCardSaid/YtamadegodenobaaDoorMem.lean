/- Blocks of memory that are known whole, and what changes of a memory when only blocks of some kinds, from a place on, may: laws on memory alone. -/
import Derived.Test.YtamadegodenobaaDoorRows
import Derived.WalkKit
import Derived.WalkSpells
import Derived.WalkLawsBesides
import Derived.Deep.Draws
import Derived.Deep.OwnRows
import Derived.Lib.Hide
import Derived.Lib.BufferWrite
import Derived.OneCell
import Derived.OwnWalk
import Derived.Laws.Rows
namespace Go.Proofs.YtamadegodenobaaDoor
open Go.RowKit

/-- In the world w the block g holds cs, of type t, and nothing of it is frozen. -/
def Blk (w : World) (g : Nat) (t : TypeId) (cs : Array Value) : Prop := w.heap[g]? = some (.cells cs t (0, 0))

section
variable {w w' : World} {g : Nat} {t : TypeId} {cs : Array Value}
theorem Blk.move (h : Blk w g t cs) (e : w'.heap[g]? = w.heap[g]?) : Blk w' g t cs := Eq.trans e h
theorem Blk.lt (h : Blk w g t cs) : g < w.heap.size := lt_of_block h
theorem Blk.cell (h : Blk w g t cs) (i : Nat) : w.cell? ⟨g, i, none⟩ = cs[i]? := cell_of_row w g i cs t _ h
theorem Blk.frozen (h : Blk w g t cs) (i : Nat) : w.frozen? ⟨g, i, none⟩ = false := frozen_of_row w g i cs t h
theorem Blk.new (w : World) (t : TypeId) (cs : Array Value) : Blk (w.alloc (.cells cs t)) w.heap.size t cs := heap_alloc_new w _
theorem Blk.drew (h : Blk w g t cs) : Blk w.drew g t cs := h.move rfl
theorem Blk.alloc (h : Blk w g t cs) (o : Obj) : Blk (w.alloc o) g t cs := h.move (Below.heap_alloc w o g h.lt)
theorem Blk.set (h : Blk w g t cs) (i : Nat) (u : Value) : Blk (w.setCell ⟨g, i, none⟩ u) g t (cs.setIfInBounds i u) := heap_setCell_same w g i cs t u h
theorem Blk.set_fst {x y : Value} (h : Blk w g t #[x, y]) (u : Value) : Blk (w.setCell ⟨g, 0, none⟩ u) g t #[u, y] := by
  have e := heap_setCell_same w g 0 _ t u h
  simpa [Blk] using e
theorem Blk.set_snd {x y : Value} (h : Blk w g t #[x, y]) (u : Value) : Blk (w.setCell ⟨g, 1, none⟩ u) g t #[x, u] := by
  have e := heap_setCell_same w g 1 _ t u h
  simpa [Blk] using e
theorem Blk.set_one {x : Value} (h : Blk w g t #[x]) (u : Value) : Blk (w.setCell ⟨g, 0, none⟩ u) g t #[u] := by
  have e := heap_setCell_same w g 0 _ t u h
  simpa [Blk] using e
theorem Blk.apart (h : Blk w g t cs) {p : Addr} (hp : g ≠ p.block) (u : Value) : Blk (w.setCell p u) g t cs := h.move (heap_setCell_other w p g u hp)
theorem Blk.older {B : Nat} (h : Blk w g t cs) (hb : Below B w w') (hg : g < B) : Blk w' g t cs := h.move (hb.block g hg)
theorem Blk.grown {row : Option Nat} (h : Blk w g t cs) (hb : w.grownBy w' row) (hg : some g ≠ row) : Blk w' g t cs := h.move (hb.block g h.lt hg)
end

/-! ### What has changed: one block, and what is new -/
section
variable {a b c : World} {row : Option Nat} {g : Nat}
theorem gr_refl (w : World) (row : Option Nat) : w.grownBy w row := World.grownBy.refl w row
theorem gr_trans (h : a.grownBy b row) (k : b.grownBy c row) : a.grownBy c row where
  os := k.os.trans h.os
  tape := k.tape.trans h.tape
  output := k.output.trans h.output
  size := Nat.le_trans h.size k.size
  block i hi hne := by
    have h1 := h.block i hi hne
    have h2 := k.block i (by have := h.size; omega) hne
    rw [h2, h1]
theorem gr_alloc (h : a.grownBy b row) (o : Obj) : a.grownBy (b.alloc o) row := gr_trans h (World.grownBy_alloc b o row)
theorem gr_set (h : a.grownBy b (some g)) (i : Nat) (u : Value) : a.grownBy (b.setCell ⟨g, i, none⟩ u) (some g) := gr_trans h (Lib.grownBy_setCell b g i u)
/-- A store into what is newer. -/
theorem gr_set_new (h : a.grownBy b row) {k : Nat} (hk : a.heap.size ≤ k) (i : Nat) (u : Value) : a.grownBy (b.setCell ⟨k, i, none⟩ u) row where
  os := h.os
  tape := h.tape
  output := h.output
  size := by have := h.size; simpa [World.setCell] using this
  block j hj hne := by
    rw [heap_setCell_other b ⟨k, i, none⟩ j u (by show j ≠ k; omega)]
    exact h.block j hj hne
theorem gr_drew (h : a.grownBy b row) : a.grownBy b.drew row := gr_trans h ⟨rfl, rfl, rfl, Nat.le_refl _, fun _ _ _ => rfl⟩
theorem gr_of_below (h : Below a.heap.size a b) (row : Option Nat) : a.grownBy b row where
  os := h.os
  tape := h.tape
  output := h.output
  size := h.size
  block i hi _ := h.block i hi
/-- What changed is block g alone, or newer than a: seen from a world in which g was not there, nothing. -/
theorem gr_new {o : World} (h : o.grownBy a none) (k : a.grownBy b (some g)) (hg : o.heap.size ≤ g) : o.grownBy b none where
  os := k.os.trans h.os
  tape := k.tape.trans h.tape
  output := k.output.trans h.output
  size := Nat.le_trans h.size k.size
  block i hi _ := by
    have h1 := h.block i hi (by simp)
    have h2 := k.block i (by have := h.size; omega) (by simp; omega)
    rw [h2, h1]
theorem gr_to_below (h : a.grownBy b none) : Below a.heap.size a b := ⟨h.os, h.tape, h.output, h.size, fun i hi => h.block i hi (by simp)⟩
end

/-! ### What has changed: blocks of kind T from B on, and what is new -/

/-- Blocks that no call may change. -/
class Keep where
  p : Nat → Prop
instance (priority := low) noKeep : Keep := ⟨fun _ => False⟩

structure Chg (K : Keep) (T : Obj → Bool) (B : Nat) (w w' : World) : Prop where
  os : w'.os = w.os
  tape : w'.tape = w.tape
  output : w'.output = w.output
  size : w.heap.size ≤ w'.heap.size
  all : ∀ i, i < w.heap.size → (B ≤ i → ¬ K.p i → ∀ o, w.heap[i]? = some o → T o = false) → w'.heap[i]? = w.heap[i]?
abbrev Ch [K : Keep] (T : Obj → Bool) (B : Nat) (w w' : World) : Prop := Chg K T B w w'

section
variable {T : Obj → Bool} {B : Nat} {a b c w : World}
theorem Chg.block {K : Keep} (h : @Ch K T B a b) : ∀ i, i < a.heap.size → (B ≤ i → ∀ o, a.heap[i]? = some o → T o = false) → b.heap[i]? = a.heap[i]? := fun i hi hT => h.all i hi (fun hB _ => hT hB)
/-- What is kept stays. -/
theorem Chg.keep {K : Keep} (h : @Ch K T B a b) {i : Nat} (hi : i < a.heap.size) (hk : K.p i) : b.heap[i]? = a.heap[i]? := h.all i hi (fun _ hn => absurd hk hn)
theorem Ch.refl [K : Keep] (T : Obj → Bool) (B : Nat) (w : World) : @Ch K T B w w := ⟨rfl, rfl, rfl, Nat.le_refl _, fun _ _ _ => rfl⟩
theorem Chg.trans {K : Keep} (h : @Ch K T B a b) (k : @Ch K T B b c) : @Ch K T B a c where
  os := k.os.trans h.os
  tape := k.tape.trans h.tape
  output := k.output.trans h.output
  size := Nat.le_trans h.size k.size
  all i hi hT := by
    have h1 := h.all i hi hT
    rw [← h1]
    exact k.all i (Nat.lt_of_lt_of_le hi h.size) (fun hB hK o ho => hT hB hK o (by rw [← h1]; exact ho))
theorem Chg.drew {K : Keep} (h : @Ch K T B a b) : @Ch K T B a b.drew := h.trans ⟨rfl, rfl, rfl, Nat.le_refl _, fun _ _ _ => rfl⟩
theorem Chg.alloc {K : Keep} (h : @Ch K T B a b) (o : Obj) : @Ch K T B a (b.alloc o) :=
  h.trans ⟨rfl, rfl, rfl, by simp, fun i hi _ => Below.heap_alloc b o i hi⟩
theorem Ch.of_grownK {K : Keep} {row : Option Nat} (hg : a.grownBy b row) (hr : ∀ g, row = some g → B ≤ g ∧ ¬ K.p g ∧ ∃ o, a.heap[g]? = some o ∧ T o = true) : @Ch K T B a b where
  os := hg.os
  tape := hg.tape
  output := hg.output
  size := hg.size
  all i hi hT := hg.block i hi (fun e => by
    obtain ⟨h1, h0, o, h2, h3⟩ := hr i e.symm
    rw [hT h1 h0 o h2] at h3
    cases h3)
theorem Ch.of_grown {row : Option Nat} (hg : a.grownBy b row) (hr : ∀ g, row = some g → B ≤ g ∧ ∃ o, a.heap[g]? = some o ∧ T o = true) : @Ch noKeep T B a b :=
  Ch.of_grownK hg (fun g h => ⟨(hr g h).1, id, (hr g h).2⟩)
theorem Ch.setK {K : Keep} {g : Nat} {t : TypeId} {cs : Array Value} (hb : Blk w g t cs) (hB : B ≤ g) (hK : ¬ K.p g) (hT : T (.cells cs t (0, 0)) = true) (i : Nat) (u : Value) : @Ch K T B w (w.setCell ⟨g, i, none⟩ u) :=
  Ch.of_grownK (row := some g) (Lib.grownBy_setCell w g i u) (fun k hk => by injection hk with hk; subst hk; exact ⟨hB, hK, _, hb, hT⟩)
theorem Ch.set {g : Nat} {t : TypeId} {cs : Array Value} (hb : Blk w g t cs) (hB : B ≤ g) (hT : T (.cells cs t (0, 0)) = true) (i : Nat) (u : Value) : @Ch noKeep T B w (w.setCell ⟨g, i, none⟩ u) := Ch.setK hb hB id hT i u
theorem Ch.of_below [K : Keep] (h : Below a.heap.size a b) : @Ch K T B a b := ⟨h.os, h.tape, h.output, h.size, fun i hi _ => h.block i hi⟩
theorem Chg.to_below {K : Keep} (h : @Ch K T B a b) (hB : B ≤ a.heap.size) : Below B a b := ⟨h.os, h.tape, h.output, h.size, fun i hi => h.block i (by omega) (fun h2 => by omega)⟩
theorem Chg.blk {K : Keep} (h : @Ch K T B a b) {g : Nat} {t : TypeId} {cs : Array Value} (hb : Blk a g t cs) (hT : T (.cells cs t (0, 0)) = false) : Blk b g t cs :=
  hb.move (h.block g hb.lt (fun _ o ho => by rw [show a.heap[g]? = some (.cells cs t (0, 0)) from hb] at ho; injection ho with ho; rw [← ho]; exact hT))
/-- What keeps less says less. -/
theorem Chg.less {K K' : Keep} (h : @Ch K T B a b) (hk : ∀ i, K'.p i → K.p i) : @Ch K' T B a b := ⟨h.os, h.tape, h.output, h.size, fun i hi hT => h.all i hi (fun hB hn => hT hB (fun h' => hn (hk i h')))⟩
theorem Chg.bare {K : Keep} (h : @Ch K T B a b) : @Ch noKeep T B a b := h.less (fun _ h => h.elim)
end

/-- A row that is owned stays while blocks of another kind change. -/
theorem owns_ch {K : Keep} {T : Obj → Bool} {B base : Nat} {a b : World} {e : TypeId} {size n : Nat} {v : Value} {xs : List Value} (h : a.ownsRow base e size v n xs) (hc : @Ch K T B a b) (hT : ∀ cs, T (.cells cs e (0, 0)) = false) : b.ownsRow base e size v n xs := by
  refine ⟨h.1, ?_⟩
  rcases h.2 with hn | ⟨g, cap, cur, rfl, hb, hg, rest⟩
  · exact .inl hn
  · exact .inr ⟨g, cap, cur, rfl, hb, hc.blk hg (hT cur), rest⟩

theorem ch_of_appendK {K : Keep} {T : Obj → Bool} {B : Nat} {a b : World} {e : TypeId} {size n : Nat} {v : Value} {xs : List Value} (h : a.ownsRow B e size v n xs) (hg : a.grownBy b v.ownBlock) (hK : ∀ g, v.ownBlock = some g → ¬ K.p g) (hT : ∀ cs, T (.cells cs e (0, 0)) = true) : @Ch K T B a b :=
  Ch.of_grownK hg (fun g hk => by
    rcases h.2 with ⟨rfl, _⟩ | ⟨g', cap, cur, rfl, hb, hgg, _⟩
    · cases hk
    · have hk2 := hk
      simp [Value.ownBlock] at hk
      subst hk
      exact ⟨hb, hK _ hk2, _, hgg, hT cur⟩)
theorem ch_of_append {T : Obj → Bool} {B : Nat} {a b : World} {e : TypeId} {size n : Nat} {v : Value} {xs : List Value} (h : a.ownsRow B e size v n xs) (hg : a.grownBy b v.ownBlock) (hT : ∀ cs, T (.cells cs e (0, 0)) = true) : @Ch noKeep T B a b :=
  ch_of_appendK h hg (fun _ _ => id) hT

end Go.Proofs.YtamadegodenobaaDoor
