/- Loops over rows of numbers: below, within, same, Equal. -/
import Derived.Test.YtamadegodenobaaDoorIrRow
namespace Go.Proofs.YtamadegodenobaaDoor
open Go.ChangeShapes Go.WideShapes Go.RowKit Go.Deep

theorem Nums.at {w : World} {A : Option Addr} {n cap : Nat} {l : List Int} (h : Nums w (.slice A n cap) l) {k : Nat} {x : Int} (hx : l[k]? = some x) : ∃ b off, A = some ⟨b, off, none⟩ ∧ b < w.heap.size ∧ w.cell? ⟨b, off + k, none⟩ = some (.int .i64 x) := by
  obtain ⟨A', cap', e, -, h3⟩ := h
  simp at e
  obtain ⟨rfl, rfl, rfl⟩ := e
  obtain ⟨b, off, cs, h4, h5, -, h7, h8⟩ := h3 k x hx
  have := h7 0 (.int .i64 x) (by rw [h8.1]; rfl)
  rw [Nat.mul_one, Nat.add_zero] at this
  exact ⟨b, off, h4, h5, this⟩

theorem within_up {l : List Int} {k : Nat} {x n : Int} (h : l[k]? = some x) (ht : Ir.within (l.take k) n = true) (hx : 0 ≤ x ∧ x < n) : Ir.within (l.take (k + 1)) n = true := by
  obtain ⟨h1, rfl⟩ := List.getElem?_eq_some_iff.1 h
  unfold Ir.within at *
  rw [List.take_succ_eq_append_getElem h1, List.all_append, ht]
  simp
  exact hx
theorem within_bad {l : List Int} {k : Nat} {x n : Int} (h : l[k]? = some x) (hx : ¬ (0 ≤ x ∧ x < n)) : Ir.within l n = false := by
  unfold Ir.within
  rw [List.all_eq_false]
  exact ⟨x, List.mem_of_getElem? h, by simpa using fun h0 => Int.not_lt.1 (fun h1 => hx ⟨h0, h1⟩)⟩

theorem retb {a b : Bool} (h : a = b) : Ending.returned (Value.bool a) = .returned (.bool b) := by rw [h]

theorem beq_bad {a b : List Int} {k : Nat} {x y : Int} (ha : a[k]? = some x) (hb : b[k]? = some y) (h : ¬ x = y) : (a == b) = false := by
  rw [beq_eq_false_iff_ne]
  rintro rfl
  rw [ha] at hb
  exact h (Option.some.inj hb)
theorem beq_len {a b : List Int} (h : ¬ a.length = b.length) : (a == b) = false := by
  rw [beq_eq_false_iff_ne]
  rintro rfl
  exact h rfl
theorem beq_all {a b : List Int} (hl : a.length = b.length) (h : a.take a.length = b.take a.length) : (a == b) = true := by
  rw [beq_iff_eq]
  rw [List.take_of_length_le (Nat.le_refl _), List.take_of_length_le (by omega)] at h
  exact h




end Go.Proofs.YtamadegodenobaaDoor
