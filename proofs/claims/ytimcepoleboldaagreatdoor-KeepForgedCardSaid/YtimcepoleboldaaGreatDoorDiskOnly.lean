/- What has changed: of the blocks that hold strings only block b (or new ones). For a document's disk beside rows of texts. -/
import Derived.Test.YtimcepoleboldaaGreatDoorMem
namespace Go.Proofs.YtimcepoleboldaaGreatDoor
open Go.RowKit

/-- No block of strings that was there has changed, but block b. -/
def Only (b : Nat) (w w' : World) : Prop := ∀ k cs z, k ≠ b → w.heap[k]? = some (.cells cs 9 z) → w'.heap[k]? = some (.cells cs 9 z)

section
variable {b : Nat} {w w1 w2 : World}
theorem Only.refl (b : Nat) (w : World) : Only b w w := fun _ _ _ _ h => h
theorem Only.trans (h : Only b w w1) (k : Only b w1 w2) : Only b w w2 := fun i cs z hi h0 => k i cs z hi (h i cs z hi h0)
theorem Only.drew (h : Only b w w1) : Only b w w1.drew := h.trans fun _ _ _ _ h => h
theorem Only.alloc (h : Only b w w1) (o : Obj) : Only b w (w1.alloc o) := h.trans fun i cs z _ h0 => (Below.heap_alloc w1 o i (by
  rcases Nat.lt_or_ge i w1.heap.size with h2 | h2
  · exact h2
  · rw [Array.getElem?_eq_none h2] at h0; cases h0)).trans h0
theorem Only.of_below (h : Below w.heap.size w w1) : Only b w w1 := fun i cs z _ h0 => (h.block i (by
  rcases Nat.lt_or_ge i w.heap.size with h2 | h2
  · exact h2
  · rw [Array.getElem?_eq_none h2] at h0; cases h0)).trans h0
theorem Only.of_grown {row : Option Nat} (hg : w.grownBy w1 row) (hr : ∀ g, row = some g → g = b ∨ ∃ cs t z, w.heap[g]? = some (.cells cs t z) ∧ t ≠ 9) : Only b w w1 := fun i cs z hi h0 => (hg.block i (by
  rcases Nat.lt_or_ge i w.heap.size with h2 | h2
  · exact h2
  · rw [Array.getElem?_eq_none h2] at h0; cases h0) (fun e => by
    rcases hr i e.symm with h | ⟨cs', t, z', h1, h2⟩
    · exact hi h
    · rw [h1] at h0
      injection h0 with h0
      injection h0 with _ h0
      exact h2 h0)).trans h0
/-- A cell of block b. -/
theorem Only.set_own (i : Nat) (u : Value) : Only b w (w.setCell ⟨b, i, none⟩ u) :=
  Only.of_grown (row := some b) (Lib.grownBy_setCell w b i u) (fun k hk => by injection hk with hk; exact .inl hk.symm)
/-- A cell of a block of another type. -/
theorem Only.set {g : Nat} {t : TypeId} {cs : Array Value} (hb : Blk w g t cs) (ht : t ≠ 9) (i : Nat) (u : Value) : Only b w (w.setCell ⟨g, i, none⟩ u) :=
  Only.of_grown (row := some g) (Lib.grownBy_setCell w g i u) (fun k hk => by injection hk with hk; subst hk; exact .inr ⟨_, _, _, hb, ht⟩)
/-- An append to a row of another type. -/
theorem Only.of_append {B : Nat} {e : TypeId} {size n : Nat} {v : Value} {xs : List Value} (h : w.ownsRow B e size v n xs) (hg : w.grownBy w1 v.ownBlock) (he : e ≠ 9) : Only b w w1 :=
  Only.of_grown hg (fun g hk => by
    rcases h.2 with ⟨rfl, _⟩ | ⟨g', cap, cur, rfl, hb, hgg, _⟩
    · cases hk
    · simp [Value.ownBlock] at hk
      subst hk
      exact .inr ⟨cur, e, _, hgg, he⟩)
/-- A row of strings behind block b stays. -/
theorem owns_only {base size n : Nat} {v : Value} {xs : List Value} (h : w.ownsRow base 9 size v n xs) (hc : Only b w w1) (hb : b < base) : w1.ownsRow base 9 size v n xs := by
  refine ⟨h.1, ?_⟩
  rcases h.2 with hn | ⟨g, cap, cur, rfl, hg, hgg, rest⟩
  · exact .inl hn
  · exact .inr ⟨g, cap, cur, rfl, hg, hc g _ _ (by omega) hgg, rest⟩
end

end Go.Proofs.YtimcepoleboldaaGreatDoor
