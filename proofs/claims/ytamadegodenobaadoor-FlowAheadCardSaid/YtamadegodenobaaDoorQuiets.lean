/- What only reads; small words. -/
import Derived.Test.YtamadegodenobaaDoorMem
import Derived.LoopTactic
import Derived.Outline
import Derived.Deep.Slices
import Derived.Deep.Strs
import Derived.ProofKit
import Derived.Deep.QuietTactic
import Derived.BigQuiet
import Derived.LoopN
import Derived.Laws.OwnMore
import Derived.Maps.AppendAt
namespace Go.Proofs.YtamadegodenobaaDoor
open Go.ChangeShapes Go.WideShapes Go.RowKit Go.Deep

/-- Nothing but the tape's place has changed. -/
def Quiet (w w' : World) : Prop := Ch (fun _ => false) 0 w w'

theorem Quiet.refl (w : World) : Quiet w w := Ch.refl _ _ _
theorem Quiet.drewN (w : World) (n : Nat) : Quiet w (w.drewN n) := ⟨rfl, rfl, rfl, Nat.le_refl _, fun _ _ _ => rfl⟩
theorem Quiet.below {w w' : World} (h : Quiet w w') : Below w.heap.size w w' := ⟨h.os, h.tape, h.output, h.size, fun i hi => h.block i hi (fun _ _ _ => rfl)⟩

theorem take_ext {α : Type} {a b : List α} {k : Nat} {x y : α} (h : a.take k = b.take k) (ha : a[k]? = some x) (hb : b[k]? = some y) (hxy : x = y) : a.take (k + 1) = b.take (k + 1) := by
  obtain ⟨h1, rfl⟩ := List.getElem?_eq_some_iff.1 ha
  obtain ⟨h2, rfl⟩ := List.getElem?_eq_some_iff.1 hb
  rw [List.take_succ_eq_append_getElem h1, List.take_succ_eq_append_getElem h2, h, hxy]

theorem bytes_neq {a b : ByteArray} (h : ¬ a = b) : (a.toList == b.toList) = false := by
  rw [beq_eq_false_iff_ne, ByteArray.toList_eq, ByteArray.toList_eq]
  intro e
  apply h
  have e1 : ∀ u : ByteArray, (⟨u.data.toList.toArray⟩ : ByteArray) = u := fun u => by simp
  rw [← e1 a, e, e1 b]

theorem said_true {p : Prop} [Decidable p] (h : p) : Ending.returned (Value.bool true) = .returned (.bool (decide p)) := by rw [decide_eq_true h]
theorem said_false {p : Prop} [Decidable p] (h : ¬ p) : Ending.returned (Value.bool false) = .returned (.bool (decide p)) := by rw [decide_eq_false h]

end Go.Proofs.YtamadegodenobaaDoor
