/- What memory holds of a pack.Writer (a chain of pieces) and of a pack.Reader, and what changes of it: laws on memory alone. -/
import Derived.Test.YtgpijnfddjpmmaaRows
import Derived.Test.YtgpijnfddjpmmaaPackPlain
import Derived.WalkKit
import Derived.WalkSpells
import Derived.WalkLawsBesides
import Derived.Deep.Draws
import Derived.Deep.OwnRows
import Derived.Lib.Hide
import Derived.Lib.BufferWrite
import Derived.OneCell
import Derived.OwnWalk
import Derived.Laws.Rows
namespace Go.Proofs.Ytgpijnfddjpmmaa
open Go.RowKit

/-- In the world w the block g holds cs, of type t, and nothing of it is frozen. -/
def Blk (w : World) (g : Nat) (t : TypeId) (cs : Array Value) : Prop := w.heap[g]? = some (.cells cs t (0, 0))

section
variable {w w' : World} {g : Nat} {t : TypeId} {cs : Array Value}
/-- What a block holds goes with the block. -/
theorem Blk.move (h : Blk w g t cs) (e : w'.heap[g]? = w.heap[g]?) : Blk w' g t cs := Eq.trans e h
theorem Blk.lt (h : Blk w g t cs) : g < w.heap.size := lt_of_block h
theorem Blk.cell (h : Blk w g t cs) (i : Nat) : w.cell? ⟨g, i, none⟩ = cs[i]? := cell_of_row w g i cs t _ h
theorem Blk.frozen (h : Blk w g t cs) (i : Nat) : w.frozen? ⟨g, i, none⟩ = false := frozen_of_row w g i cs t h
theorem Blk.new (w : World) (t : TypeId) (cs : Array Value) : Blk (w.alloc (.cells cs t)) w.heap.size t cs := heap_alloc_new w _
theorem Blk.drew (h : Blk w g t cs) : Blk w.drew g t cs := h.move rfl
theorem Blk.alloc (h : Blk w g t cs) (o : Obj) : Blk (w.alloc o) g t cs := h.move (Below.heap_alloc w o g h.lt)
theorem Blk.set_fst {x y : Value} (h : Blk w g t #[x, y]) (u : Value) : Blk (w.setCell ⟨g, 0, none⟩ u) g t #[u, y] := by
  have e := heap_setCell_same w g 0 _ t u h
  simpa [Blk] using e
theorem Blk.set_snd {x y : Value} (h : Blk w g t #[x, y]) (u : Value) : Blk (w.setCell ⟨g, 1, none⟩ u) g t #[x, u] := by
  have e := heap_setCell_same w g 1 _ t u h
  simpa [Blk] using e
theorem Blk.set_one {x : Value} (h : Blk w g t #[x]) (u : Value) : Blk (w.setCell ⟨g, 0, none⟩ u) g t #[u] := by
  have e := heap_setCell_same w g 0 _ t u h
  simpa [Blk] using e
theorem Blk.apart (h : Blk w g t cs) {p : Addr} (hp : g ≠ p.block) (u : Value) : Blk (w.setCell p u) g t cs := h.move (heap_setCell_other w p g u hp)
theorem Blk.older {B : Nat} (h : Blk w g t cs) (hb : Below B w w') (hg : g < B) : Blk w' g t cs := h.move (hb.block g hg)
theorem Blk.grown {row : Option Nat} (h : Blk w g t cs) (hb : w.grownBy w' row) (hg : some g ≠ row) : Blk w' g t cs := h.move (hb.block g h.lt hg)
end

/-! ### What has changed: one block, and what is new -/
section
variable {a b c : World} {row : Option Nat} {g : Nat}
theorem gr_refl (w : World) (row : Option Nat) : w.grownBy w row := World.grownBy.refl w row
theorem gr_trans (h : a.grownBy b row) (k : b.grownBy c row) : a.grownBy c row where
  os := k.os.trans h.os
  tape := k.tape.trans h.tape
  output := k.output.trans h.output
  size := Nat.le_trans h.size k.size
  block i hi hne := by
    have h1 := h.block i hi hne
    have h2 := k.block i (by have := h.size; omega) hne
    rw [h2, h1]
theorem gr_alloc (h : a.grownBy b row) (o : Obj) : a.grownBy (b.alloc o) row := gr_trans h (World.grownBy_alloc b o row)
theorem gr_set (h : a.grownBy b (some g)) (i : Nat) (u : Value) : a.grownBy (b.setCell ⟨g, i, none⟩ u) (some g) := gr_trans h (Lib.grownBy_setCell b g i u)
/-- A store into what is newer. -/
theorem gr_set_new (h : a.grownBy b row) {k : Nat} (hk : a.heap.size ≤ k) (i : Nat) (u : Value) : a.grownBy (b.setCell ⟨k, i, none⟩ u) row where
  os := h.os
  tape := h.tape
  output := h.output
  size := by have := h.size; simpa [World.setCell] using this
  block j hj hne := by
    rw [heap_setCell_other b ⟨k, i, none⟩ j u (by show j ≠ k; omega)]
    exact h.block j hj hne
theorem gr_drew (h : a.grownBy b row) : a.grownBy b.drew row := gr_trans h ⟨rfl, rfl, rfl, Nat.le_refl _, fun _ _ _ => rfl⟩
theorem gr_of_below (h : Below a.heap.size a b) (row : Option Nat) : a.grownBy b row where
  os := h.os
  tape := h.tape
  output := h.output
  size := h.size
  block i hi _ := h.block i hi
/-- What changed is block g alone, or newer than a: seen from a world in which g was not there, nothing. -/
theorem gr_new {o : World} (h : o.grownBy a none) (k : a.grownBy b (some g)) (hg : o.heap.size ≤ g) : o.grownBy b none where
  os := k.os.trans h.os
  tape := k.tape.trans h.tape
  output := k.output.trans h.output
  size := Nat.le_trans h.size k.size
  block i hi _ := by
    have h1 := h.block i hi (by simp)
    have h2 := k.block i (by have := h.size; omega) (by simp; omega)
    rw [h2, h1]
theorem gr_to_below (h : a.grownBy b none) : Below a.heap.size a b := ⟨h.os, h.tape, h.output, h.size, fun i hi => h.block i hi (by simp)⟩
end

/-! ### A Writer -/

/-- A chain of pieces, the last one first, each in a block newer than bw. -/
def Chain (w : World) (bw : Nat) : Option Addr → List ByteArray → Prop
  | p, [] => p = none
  | p, s :: ss => ∃ b p', p = some ⟨b, 0, none⟩ ∧ bw < b ∧ Blk w b 59 #[.pointer p', .string s] ∧ Chain w bw p' ss

/-- The bytes of pieces, the last one first. -/
def bytesOf : List ByteArray → List UInt8
  | [] => []
  | s :: ss => bytesOf ss ++ s.data.toList

/-- Block bw is a Writer (or a gather) that has the bytes l. -/
def Wr (w : World) (bw : Nat) (l : List UInt8) : Prop :=
  ∃ p ss, Blk w bw 38 #[.pointer p, .int .i64 (l.length : Int)] ∧ Chain w bw p ss ∧ bytesOf ss = l

theorem Chain.grown {w w' : World} {bw : Nat} (hb : w.grownBy w' (some bw)) : ∀ {ss : List ByteArray} {p : Option Addr}, Chain w bw p ss → Chain w' bw p ss
  | [], _, h => h
  | _ :: _, _, ⟨b, p', hp, hlt, hblk, hc⟩ => ⟨b, p', hp, hlt, hblk.grown hb (by intro e; injection e; omega), Chain.grown hb hc⟩

theorem Chain.kept {w w' : World} {bw : Nat} {row : Option Nat} (hb : w.grownBy w' row) (hr : ∀ g, row = some g → g < bw) : ∀ {ss : List ByteArray} {p : Option Addr}, Chain w bw p ss → Chain w' bw p ss
  | [], _, h => h
  | _ :: _, _, ⟨b, p', hp, hlt, hblk, hc⟩ => ⟨b, p', hp, hlt, hblk.grown hb (by intro e; have := hr b e.symm; omega), Chain.kept hb hr hc⟩

theorem Wr.lt {w : World} {bw : Nat} {l : List UInt8} (h : Wr w bw l) : bw < w.heap.size := by
  obtain ⟨p, ss, h, _⟩ := h
  exact h.lt

/-- A Writer stays as it is while a block older than it, or none, is changed. -/
theorem Wr.kept {w w' : World} {bw : Nat} {l : List UInt8} {row : Option Nat} (h : Wr w bw l) (hb : w.grownBy w' row) (hr : ∀ g, row = some g → g < bw) : Wr w' bw l := by
  obtain ⟨p, ss, h1, h2, h3⟩ := h
  exact ⟨p, ss, h1.grown hb (by intro e; have := hr bw e.symm; omega), h2.kept hb hr, h3⟩

theorem Wr.quiet {w w' : World} {bw : Nat} {l : List UInt8} (h : Wr w bw l) (hb : w.grownBy w' none) : Wr w' bw l := h.kept hb (by simp)

/-- A Writer's zero value. -/
theorem Wr.new (w : World) : Wr (w.alloc (.cells #[.pointer none, .int .i64 0] 38)) w.heap.size [] :=
  ⟨none, [], Blk.new _ _ _, rfl, rfl⟩

/-- What put does: the Writer's two cells, and a piece in a new block. -/
theorem Wr.put {w : World} {bw : Nat} {p : Option Addr} {ss : List ByteArray} {n : Int} (s : ByteArray)
    (h1 : Blk w bw 38 #[.pointer p, .int .i64 n]) (h2 : Chain w bw p ss) (hn : n = ((bytesOf ss).length : Int)) :
    Wr (((w.setCell ⟨bw, 0, none⟩ (.pointer (some ⟨w.heap.size, 0, none⟩))).setCell ⟨bw, 1, none⟩ (.int .i64 (n + (s.size : Int)))).alloc (.cells #[.pointer p, .string s] 59)) bw (bytesOf ss ++ s.data.toList) ∧
    w.grownBy (((w.setCell ⟨bw, 0, none⟩ (.pointer (some ⟨w.heap.size, 0, none⟩))).setCell ⟨bw, 1, none⟩ (.int .i64 (n + (s.size : Int)))).alloc (.cells #[.pointer p, .string s] 59)) (some bw) := by
  have hlt := h1.lt
  obtain ⟨q, hq⟩ : ∃ q : Value, q = .pointer (some ⟨w.heap.size, 0, none⟩) := ⟨_, rfl⟩
  obtain ⟨m, hm⟩ : ∃ m : Int, m = n + (s.size : Int) := ⟨_, rfl⟩
  rw [← hq, ← hm]
  have hg0 : w.grownBy ((w.setCell ⟨bw, 0, none⟩ q).setCell ⟨bw, 1, none⟩ (.int .i64 m)) (some bw) :=
    gr_set (gr_set (gr_refl w _) 0 _) 1 _
  have hw0 := (h1.set_fst q).set_snd (.int .i64 m)
  have hz : ((w.setCell ⟨bw, 0, none⟩ q).setCell ⟨bw, 1, none⟩ (.int .i64 m)).heap.size = w.heap.size := by simp [World.setCell]
  generalize (w.setCell ⟨bw, 0, none⟩ q).setCell ⟨bw, 1, none⟩ (.int .i64 m) = w1 at hg0 hw0 hz ⊢
  have hg1 : w.grownBy (w1.alloc (.cells #[.pointer p, .string s] 59)) (some bw) := gr_alloc hg0 _
  have hw1 := hw0.alloc (.cells #[.pointer p, .string s] 59)
  have hp1 := Blk.new w1 59 #[.pointer p, .string s]
  rw [hz] at hp1
  generalize w1.alloc (.cells #[.pointer p, .string s] 59) = w2 at hg1 hw1 hp1 ⊢
  have e : m = ((bytesOf ss ++ s.data.toList).length : Int) := by
    have e2 : s.data.toList.length = s.size := Array.length_toList
    rw [hm, hn, List.length_append, e2]
    omega
  rw [e, hq] at hw1
  exact ⟨⟨some ⟨w.heap.size, 0, none⟩, s :: ss, hw1, ⟨w.heap.size, p, rfl, hlt, hp1, Chain.grown hg1 h2⟩, rfl⟩, hg1⟩

/-! ### A Reader -/

/-- Block br is a Reader to which the bytes l are left. -/
def Rd (w : World) (br : Nat) (l : List UInt8) : Prop := ∃ s : ByteArray, s.data.toList = l ∧ Blk w br 55 #[.string s]

theorem Rd.new (w : World) (s : ByteArray) : Rd (w.alloc (.cells #[.string s] 55)) w.heap.size s.data.toList := ⟨s, rfl, Blk.new _ _ _⟩

theorem Rd.kept {w w' : World} {br : Nat} {l : List UInt8} {row : Option Nat} (h : Rd w br l) (hb : w.grownBy w' row) (hr : some br ≠ row) : Rd w' br l := by
  obtain ⟨s, h1, h2⟩ := h
  exact ⟨s, h1, h2.grown hb hr⟩

theorem Rd.lt {w : World} {br : Nat} {l : List UInt8} (h : Rd w br l) : br < w.heap.size := by
  obtain ⟨s, _, h⟩ := h
  exact h.lt

end Go.Proofs.Ytgpijnfddjpmmaa
