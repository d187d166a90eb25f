/- What fits and flags come to: may a number be a chunk's; first and last as one number. -/
import Derived.Test.YtimcepoleboldaaGreatDoorMem
import Derived.Test.YtimcepoleboldaaGreatDoorChunkPlain
import Derived.Outline
import Derived.Laws.BitsAllLaws
namespace Go.Proofs.YtimcepoleboldaaGreatDoor
open Go.RowKit

/-- A chunk, as it is handed by value. -/
abbrev ChV (e q : Int) (f l : Bool) (d : ByteArray) : Value := .agg #[.int .i64 e, .int .i64 q, .bool f, .bool l, .string d]

/-- The cells of a chunk in memory. -/
abbrev ChC (e q : Int) (f l : Bool) (d : ByteArray) : Array Value := #[.int .i64 e, .int .i64 q, .bool f, .bool l, .string d]

theorem five {w : World} {g : Nat} {t : TypeId} {a b c d e : Value} (h : Blk w g t #[a, b, c, d, e]) :
    w.cell? ⟨g, 0, none⟩ = some a ∧ w.cell? ⟨g, 1, none⟩ = some b ∧ w.cell? ⟨g, 2, none⟩ = some c ∧ w.cell? ⟨g, 3, none⟩ = some d ∧ w.cell? ⟨g, 4, none⟩ = some e := by
  have c0 := h.cell 0
  have c1 := h.cell 1
  have c2 := h.cell 2
  have c3 := h.cell 3
  have c4 := h.cell 4
  simp at c0 c1 c2 c3 c4
  exact ⟨c0, c1, c2, c3, c4⟩

theorem fits_yes (n : Int) (w : World) (h : 0 ≤ n ∧ n ≤ 1099511627776) :
    Calls Tryz.prog 137 #[.int .i64 n] w fun e w' => e = .returned (.bool true) ∧ w = w' := by
  obtain ⟨h1, h2⟩ := h
  go_enter Tryz.func137, Tryz.ntmps137
  go_wp2_with fail
  go_ret
  exact ⟨by simp, rfl⟩

theorem fits_no (n : Int) (w : World) (h : ¬ (0 ≤ n ∧ n ≤ 1099511627776)) :
    Calls Tryz.prog 137 #[.int .i64 n] w fun e w' => e = .returned (.bool false) ∧ w = w' := by
  rcases (show n < 0 ∨ (0 ≤ n ∧ 1099511627776 < n) by omega) with h1 | ⟨h1, h2⟩
  all_goals
    go_enter Tryz.func137, Tryz.ntmps137
    go_wp2_with fail
    go_ret
    first
      | exact ⟨rfl, rfl⟩
      | exact ⟨by simp; omega, rfl⟩

theorem flags_any (e q : Int) (f l : Bool) (d : ByteArray) (w : World) :
    Calls Tryz.prog 138 #[ChV e q f l d] w fun x w' => x = .returned (.int .i64 ((Cn.flags f l : Nat) : Int)) ∧ Below w.heap.size w w' := by
  have hB := five (Blk.new w 95 (ChC e q f l d))
  obtain ⟨c0, c1, c2, c3, c4⟩ := hB
  clear c0 c1 c4
  cases f <;> cases l
  all_goals
    go_enter Tryz.func138, Tryz.ntmps138
    go_wp2_with fail
    go_ret
    exact ⟨rfl, (Below.refl _ _).alloc (Nat.le_refl _) _⟩

end Go.Proofs.YtimcepoleboldaaGreatDoor
