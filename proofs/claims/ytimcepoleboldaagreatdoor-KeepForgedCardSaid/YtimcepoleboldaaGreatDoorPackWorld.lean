/- What memory holds of a pack.Writer (a chain of pieces) and of a pack.Reader, and what changes of it: laws on memory alone. -/
import Derived.Test.YtimcepoleboldaaGreatDoorMem
import Derived.Test.YtimcepoleboldaaGreatDoorPackPlain
namespace Go.Proofs.YtimcepoleboldaaGreatDoor
open Go.RowKit

/-! ### A Writer -/

/-- A chain of pieces, the last one first, each in a block newer than bw. -/
def Chain (w : World) (bw : Nat) : Option Addr → List ByteArray → Prop
  | p, [] => p = none
  | p, s :: ss => ∃ b p', p = some ⟨b, 0, none⟩ ∧ bw < b ∧ Blk w b 194 #[.pointer p', .string s] ∧ Chain w bw p' ss

/-- The bytes of pieces, the last one first. -/
def bytesOf : List ByteArray → List UInt8
  | [] => []
  | s :: ss => bytesOf ss ++ s.data.toList

/-- Block bw is a Writer (or a gather) that has the bytes l. -/
def Wr (w : World) (bw : Nat) (l : List UInt8) : Prop :=
  ∃ p ss, Blk w bw 155 #[.pointer p, .int .i64 (l.length : Int)] ∧ Chain w bw p ss ∧ bytesOf ss = l

theorem Chain.grown {w w' : World} {bw : Nat} (hb : w.grownBy w' (some bw)) : ∀ {ss : List ByteArray} {p : Option Addr}, Chain w bw p ss → Chain w' bw p ss
  | [], _, h => h
  | _ :: _, _, ⟨b, p', hp, hlt, hblk, hc⟩ => ⟨b, p', hp, hlt, hblk.grown hb (by intro e; injection e; omega), Chain.grown hb hc⟩

theorem Chain.kept {w w' : World} {bw : Nat} {row : Option Nat} (hb : w.grownBy w' row) (hr : ∀ g, row = some g → g < bw) : ∀ {ss : List ByteArray} {p : Option Addr}, Chain w bw p ss → Chain w' bw p ss
  | [], _, h => h
  | _ :: _, _, ⟨b, p', hp, hlt, hblk, hc⟩ => ⟨b, p', hp, hlt, hblk.grown hb (by intro e; have := hr b e.symm; omega), Chain.kept hb hr hc⟩

theorem Wr.lt {w : World} {bw : Nat} {l : List UInt8} (h : Wr w bw l) : bw < w.heap.size := by
  obtain ⟨p, ss, h, _⟩ := h
  exact h.lt

/-- A Writer stays as it is while a block older than it, or none, is changed. -/
theorem Wr.kept {w w' : World} {bw : Nat} {l : List UInt8} {row : Option Nat} (h : Wr w bw l) (hb : w.grownBy w' row) (hr : ∀ g, row = some g → g < bw) : Wr w' bw l := by
  obtain ⟨p, ss, h1, h2, h3⟩ := h
  exact ⟨p, ss, h1.grown hb (by intro e; have := hr bw e.symm; omega), h2.kept hb hr, h3⟩

theorem Wr.quiet {w w' : World} {bw : Nat} {l : List UInt8} (h : Wr w bw l) (hb : w.grownBy w' none) : Wr w' bw l := h.kept hb (by simp)

/-- A Writer's zero value. -/
theorem Wr.new (w : World) : Wr (w.alloc (.cells #[.pointer none, .int .i64 0] 155)) w.heap.size [] :=
  ⟨none, [], Blk.new _ _ _, rfl, rfl⟩

/-- What put does: the Writer's two cells, and a piece in a new block. -/
theorem Wr.put {w : World} {bw : Nat} {p : Option Addr} {ss : List ByteArray} {n : Int} (s : ByteArray)
    (h1 : Blk w bw 155 #[.pointer p, .int .i64 n]) (h2 : Chain w bw p ss) (hn : n = ((bytesOf ss).length : Int)) :
    Wr (((w.setCell ⟨bw, 0, none⟩ (.pointer (some ⟨w.heap.size, 0, none⟩))).setCell ⟨bw, 1, none⟩ (.int .i64 (n + (s.size : Int)))).alloc (.cells #[.pointer p, .string s] 194)) bw (bytesOf ss ++ s.data.toList) ∧
    w.grownBy (((w.setCell ⟨bw, 0, none⟩ (.pointer (some ⟨w.heap.size, 0, none⟩))).setCell ⟨bw, 1, none⟩ (.int .i64 (n + (s.size : Int)))).alloc (.cells #[.pointer p, .string s] 194)) (some bw) := by
  have hlt := h1.lt
  obtain ⟨q, hq⟩ : ∃ q : Value, q = .pointer (some ⟨w.heap.size, 0, none⟩) := ⟨_, rfl⟩
  obtain ⟨m, hm⟩ : ∃ m : Int, m = n + (s.size : Int) := ⟨_, rfl⟩
  rw [← hq, ← hm]
  have hg0 : w.grownBy ((w.setCell ⟨bw, 0, none⟩ q).setCell ⟨bw, 1, none⟩ (.int .i64 m)) (some bw) :=
    gr_set (gr_set (gr_refl w _) 0 _) 1 _
  have hw0 := (h1.set_fst q).set_snd (.int .i64 m)
  have hz : ((w.setCell ⟨bw, 0, none⟩ q).setCell ⟨bw, 1, none⟩ (.int .i64 m)).heap.size = w.heap.size := by simp [World.setCell]
  generalize (w.setCell ⟨bw, 0, none⟩ q).setCell ⟨bw, 1, none⟩ (.int .i64 m) = w1 at hg0 hw0 hz ⊢
  have hg1 : w.grownBy (w1.alloc (.cells #[.pointer p, .string s] 194)) (some bw) := gr_alloc hg0 _
  have hw1 := hw0.alloc (.cells #[.pointer p, .string s] 194)
  have hp1 := Blk.new w1 194 #[.pointer p, .string s]
  rw [hz] at hp1
  generalize w1.alloc (.cells #[.pointer p, .string s] 194) = w2 at hg1 hw1 hp1 ⊢
  have e : m = ((bytesOf ss ++ s.data.toList).length : Int) := by
    have e2 : s.data.toList.length = s.size := Array.length_toList
    rw [hm, hn, List.length_append, e2]
    omega
  rw [e, hq] at hw1
  exact ⟨⟨some ⟨w.heap.size, 0, none⟩, s :: ss, hw1, ⟨w.heap.size, p, rfl, hlt, hp1, Chain.grown hg1 h2⟩, rfl⟩, hg1⟩

/-! ### A Reader -/

/-- Block br is a Reader to which the bytes l are left. -/
def Rd (w : World) (br : Nat) (l : List UInt8) : Prop := ∃ s : ByteArray, s.data.toList = l ∧ Blk w br 148 #[.string s]

theorem Rd.new (w : World) (s : ByteArray) : Rd (w.alloc (.cells #[.string s] 148)) w.heap.size s.data.toList := ⟨s, rfl, Blk.new _ _ _⟩

theorem Rd.kept {w w' : World} {br : Nat} {l : List UInt8} {row : Option Nat} (h : Rd w br l) (hb : w.grownBy w' row) (hr : some br ≠ row) : Rd w' br l := by
  obtain ⟨s, h1, h2⟩ := h
  exact ⟨s, h1, h2.grown hb hr⟩

theorem Rd.lt {w : World} {br : Nat} {l : List UInt8} (h : Rd w br l) : br < w.heap.size := by
  obtain ⟨s, _, h⟩ := h
  exact h.lt

end Go.Proofs.YtimcepoleboldaaGreatDoor
