/- What memory holds of a disk, the program's and the document's, and what changes of it: laws on memory alone. -/
import Derived.Test.YtgahcbhdnplnoaaDoorCkBase
import Derived.Maps.Own
import Derived.Maps.OwnSet
import Derived.Maps.StringElems
namespace Go.Proofs.YtgahcbhdnplnoaaDoor
open Go.RowKit
open Go.Maps (Keyed)

/-! ### Sectors in a row -/
def sect (is : Nat → ByteArray) : List Value := (List.range 256).map fun i => Value.string (is i)

theorem sect_len (is : Nat → ByteArray) : (sect is).length = 256 := by simp [sect]
theorem sect_get (is : Nat → ByteArray) {i : Nat} (h : i < 256) : (sect is)[i]? = some (.string (is i)) := by
  unfold sect
  rw [List.getElem?_map, List.getElem?_range h]
  rfl
theorem sect_set (is : Nat → ByteArray) {i : Nat} (h : i < 256) (s : ByteArray) : (sect is).set i (.string s) = sect (Dk.up is i s) := by
  apply List.ext_getElem?
  intro j
  by_cases hj : j < 256
  · rw [sect_get _ hj]
    by_cases e : i = j
    · subst e
      rw [List.getElem?_set_self (by rw [sect_len]; exact h), Dk.up_same]
    · rw [List.getElem?_set_ne e, sect_get _ hj, Dk.up_other _ (fun e2 => e e2.symm)]
  · rw [List.getElem?_eq_none (by rw [List.length_set, sect_len]; omega), List.getElem?_eq_none (by rw [sect_len]; omega)]

/-! ### The program's disk -/
/-- Its fields. -/
structure Raw where
  is : Nat → ByteArray
  m : Nat
  lv : Value
  off : Bool
  many : Int
  tc : Int
  tf : Int
  keep : Int

def Raw.rest (r : Raw) : List Value := [.map (some r.m), r.lv, .bool r.off, .int .i64 r.many, .int .i64 r.tc, .int .i64 r.tf, .int .u64 r.keep]
def Raw.cells (r : Raw) : Array Value := (sect r.is ++ r.rest).toArray

theorem Raw.get_rest (r : Raw) (j : Nat) : r.cells[256 + j]? = r.rest[j]? := by
  unfold Raw.cells
  rw [List.getElem?_toArray, List.getElem?_append_right (by rw [sect_len]; omega), sect_len, Nat.add_sub_cancel_left]
theorem Raw.get_sect (r : Raw) {i : Nat} (h : i < 256) : r.cells[i]? = some (.string (r.is i)) := by
  unfold Raw.cells
  rw [List.getElem?_toArray, List.getElem?_append_left (by rw [sect_len]; exact h), sect_get _ h]
theorem Raw.set_rest (r : Raw) (j : Nat) (u : Value) : r.cells.setIfInBounds (256 + j) u = (sect r.is ++ r.rest.set j u).toArray := by
  unfold Raw.cells
  rw [List.setIfInBounds_toArray, List.set_append_right _ _ (by rw [sect_len]; omega), sect_len, Nat.add_sub_cancel_left]
theorem Raw.set_sect (r : Raw) {i : Nat} (h : i < 256) (s : ByteArray) : r.cells.setIfInBounds i (.string s) = { r with is := Dk.up r.is i s }.cells := by
  unfold Raw.cells
  rw [List.setIfInBounds_toArray, List.set_append_left _ _ (by rw [sect_len]; exact h), sect_set _ h]
  rfl

section
variable {w : World} {g : Nat} {r : Raw}
theorem dk_cells (h : Blk w g 61 r.cells) :
    w.cell? ⟨g, 256, none⟩ = some (.map (some r.m)) ∧ w.cell? ⟨g, 257, none⟩ = some r.lv ∧ w.cell? ⟨g, 258, none⟩ = some (.bool r.off) ∧ w.cell? ⟨g, 259, none⟩ = some (.int .i64 r.many) ∧
    w.cell? ⟨g, 260, none⟩ = some (.int .i64 r.tc) ∧ w.cell? ⟨g, 261, none⟩ = some (.int .i64 r.tf) ∧ w.cell? ⟨g, 262, none⟩ = some (.int .u64 r.keep) :=
  ⟨(h.cell 256).trans (r.get_rest 0), (h.cell 257).trans (r.get_rest 1), (h.cell 258).trans (r.get_rest 2), (h.cell 259).trans (r.get_rest 3), (h.cell 260).trans (r.get_rest 4), (h.cell 261).trans (r.get_rest 5), (h.cell 262).trans (r.get_rest 6)⟩
theorem dk_sect (h : Blk w g 61 r.cells) {i : Nat} (hi : i < 256) : w.cell? ⟨g, i, none⟩ = some (.string (r.is i)) := (h.cell i).trans (r.get_sect hi)
theorem dk_frozen (h : Blk w g 61 r.cells) (i : Nat) : w.frozen? ⟨g, i, none⟩ = false := h.frozen i
theorem dk_set_lv (h : Blk w g 61 r.cells) (v : Value) : Blk (w.setCell ⟨g, 257, none⟩ v) g 61 { r with lv := v }.cells := by
  have := h.set 257 v
  rw [show (257 : Nat) = 256 + 1 from rfl, r.set_rest] at this
  exact this
theorem dk_set_off (h : Blk w g 61 r.cells) (v : Bool) : Blk (w.setCell ⟨g, 258, none⟩ (.bool v)) g 61 { r with off := v }.cells := by
  have := h.set 258 (.bool v)
  rw [show (258 : Nat) = 256 + 2 from rfl, r.set_rest] at this
  exact this
theorem dk_set_many (h : Blk w g 61 r.cells) (v : Int) : Blk (w.setCell ⟨g, 259, none⟩ (.int .i64 v)) g 61 { r with many := v }.cells := by
  have := h.set 259 (.int .i64 v)
  rw [show (259 : Nat) = 256 + 3 from rfl, r.set_rest] at this
  exact this
theorem dk_set_tc (h : Blk w g 61 r.cells) (v : Int) : Blk (w.setCell ⟨g, 260, none⟩ (.int .i64 v)) g 61 { r with tc := v }.cells := by
  have := h.set 260 (.int .i64 v)
  rw [show (260 : Nat) = 256 + 4 from rfl, r.set_rest] at this
  exact this
theorem dk_set_tf (h : Blk w g 61 r.cells) (v : Int) : Blk (w.setCell ⟨g, 261, none⟩ (.int .i64 v)) g 61 { r with tf := v }.cells := by
  have := h.set 261 (.int .i64 v)
  rw [show (261 : Nat) = 256 + 5 from rfl, r.set_rest] at this
  exact this
theorem dk_set_keep (h : Blk w g 61 r.cells) (v : Int) : Blk (w.setCell ⟨g, 262, none⟩ (.int .u64 v)) g 61 { r with keep := v }.cells := by
  have := h.set 262 (.int .u64 v)
  rw [show (262 : Nat) = 256 + 6 from rfl, r.set_rest] at this
  exact this
theorem dk_set_sect (h : Blk w g 61 r.cells) {i : Nat} (hi : i < 256) (s : ByteArray) : Blk (w.setCell ⟨g, i, none⟩ (.string s)) g 61 { r with is := Dk.up r.is i s }.cells := by
  have := h.set i (.string s)
  rw [r.set_sect hi] at this
  exact this
end

/-! ### What lasts: a map -/
theorem key_int : Keyed Tryd.prog 3 := Maps.int_keyed Tryd.underlying3
theorem key_wf {i : Nat} (h : i < 256) : (Lit.int .i64 (i : Int)).wf = true := by
  simp [Lit.wf, IntKind.min, IntKind.max, IntKind.bits, IntKind.signed]
  omega

/-- Block m is a map, of at most n entries, that has what lasts of the loose sectors l. -/
def MapIs (w : World) (m n : Nat) (l : List (Nat × ByteArray)) : Prop :=
  ∃ D : DataW Unit, w.ownsMap Tryd.prog 3 (plainElem Tryd.prog 9) m n D ∧ Maps.IsMap D ∧
    (∀ i : Nat, i < 256 → ∀ z, D.atKey (.int .i64 (i : Int)) z = match Dk.was l i with | some s => .lit (.string s.data.toList) | none => z)

theorem zero_string (w : World) : (zeroValue 9).run Tryd.prog w = .ok (.string ByteArray.empty) w := by kernel_rfl
theorem ba_ext {a b : ByteArray} (h : a.data.toList = b.data.toList) : a = b := by
  cases a with | mk x => cases b with | mk y => exact congrArg ByteArray.mk (Array.ext' h)

section
variable {w w' : World} {m n : Nat} {l : List (Nat × ByteArray)}
theorem MapIs.lt (h : MapIs w m n l) : m < w.heap.size := by
  obtain ⟨D, h1, _⟩ := h
  exact h1.lt
theorem MapIs.drew (h : MapIs w m n l) : MapIs w.drew m n l := h
theorem MapIs.new (w : World) : MapIs (w.alloc (.map #[] 0)) w.heap.size 0 [] :=
  ⟨.map [], World.ownsMap_made w _ _ _, Maps.isMap_empty, fun _ _ _ => rfl⟩
theorem MapIs.move (h : MapIs w m n l) (e : w'.heap[m]? = w.heap[m]?) : MapIs w' m n l := by
  obtain ⟨D, ⟨es, clock, h1, h2⟩, h3⟩ := h
  exact ⟨D, ⟨es, clock, e.trans h1, h2⟩, h3⟩
theorem MapIs.block (h : MapIs w m n l) : ∃ es clock, w.heap[m]? = some (.map es clock) := by
  obtain ⟨D, ⟨es, clock, h1, h2⟩, h3⟩ := h
  exact ⟨es, clock, h1⟩
theorem MapIs.ne (h : MapIs w m n l) {g : Nat} {t : TypeId} {cs : Array Value} (hb : Blk w g t cs) : m ≠ g := by
  intro e
  obtain ⟨es, clock, h1⟩ := h.block
  rw [e, show w.heap[g]? = some (.cells cs t (0, 0)) from hb] at h1
  cases h1
theorem MapIs.grown {row : Option Nat} (h : MapIs w m n l) (hg : w.grownBy w' row) (hne : some m ≠ row) : MapIs w' m n l := h.move (hg.block m h.lt hne)
theorem MapIs.mono {n' : Nat} (h : MapIs w m n l) (hn : n ≤ n') : MapIs w m n' l := by
  obtain ⟨D, h1, h2⟩ := h
  exact ⟨D, h1.mono hn, h2⟩

theorem MapIs.look (h : MapIs w m n l) {i : Nat} (hi : i < 256) :
    (Instr.lookup 57 (.map (some m)) (.int .i64 (i : Int)) false).run Tryd.prog w = .ok (.string ((Dk.was l i).getD ByteArray.empty)) w := by
  obtain ⟨D, h1, h2, h3⟩ := h
  obtain ⟨v, ps, hrun, hv⟩ := h1.lookup key_int Tryd.underlying57 (zero_string w) (plainElem_string Tryd.underlying9 (by decide)) (Maps.keyOf_int_mk Tryd.underlying3 (key_wf hi))
  obtain ⟨s, rfl, hz, _⟩ := plainElem_string_inv Tryd.underlying9 hv
  have e := congrArg Prod.fst hz
  simp only [h3 i hi] at e
  rw [hrun]
  have : s = (Dk.was l i).getD ByteArray.empty := by
    cases hw : Dk.was l i with
    | none => rw [hw] at e; simp at e; exact ba_ext (by simpa using e.symm)
    | some x => rw [hw] at e; simp at e; exact ba_ext (by simpa using e.symm)
  rw [this]

theorem MapIs.look_ok (h : MapIs w m n l) {i : Nat} (hi : i < 256) :
    (Instr.lookup 57 (.map (some m)) (.int .i64 (i : Int)) true).run Tryd.prog w = .ok (.tuple #[.string ((Dk.was l i).getD ByteArray.empty), .bool (Dk.was l i).isSome]) w := by
  obtain ⟨D, h1, h2, h3⟩ := h
  obtain ⟨v, ps, hrun, hv⟩ := h1.look_ok key_int Tryd.underlying57 (zero_string w) (plainElem_string Tryd.underlying9 (by decide)) (Maps.keyOf_int_mk Tryd.underlying3 (key_wf hi))
  obtain ⟨s, rfl, hz, _⟩ := plainElem_string_inv Tryd.underlying9 hv
  have e := congrArg Prod.fst hz
  simp only [h3 i hi] at e
  rw [hrun]
  cases hw : Dk.was l i with
  | none =>
    have hh : Maps.has D (.int .i64 (i : Int)) = false := Maps.has_false_of_atKey (fun z => by rw [h3 i hi, hw])
    rw [hw] at e; simp at e
    rw [hh, show s = ByteArray.empty from ba_ext (by simpa using e.symm)]
    rfl
  | some x =>
    have hh : Maps.has D (.int .i64 (i : Int)) = true := Maps.has_true_of_atKey (y := .lit (.string x.data.toList)) (fun z => by rw [h3 i hi, hw])
    rw [hw] at e; simp at e
    rw [hh, show s = x from ba_ext (by simpa using e.symm)]
    rfl

theorem lit_ne {i j : Nat} (h : i ≠ j) : (Lit.int .i64 (j : Int)) ≠ .int .i64 (i : Int) := by
  intro e
  injection e with _ e
  omega

theorem MapIs.put (h : MapIs w m n l) (hn : n < maxLen) {i : Nat} (hi : i < 256) (hw : Dk.was l i = none) {s : ByteArray} (hs : s.size ≤ 128) :
    ∃ w', (Instr.mapUpdate 57 (.map (some m)) (.int .i64 (i : Int)) (.string s)).run Tryd.prog w = .ok () w' ∧ MapIs w' m (n + 1) (l ++ [(i, s)]) ∧ w.grownBy w' (some m) := by
  obtain ⟨D, h1, h2, h3⟩ := h
  obtain ⟨w', hrun, r1, r2⟩ := h1.update key_int Tryd.underlying57 hn (Maps.keyOf_int_mk Tryd.underlying3 (key_wf hi)) (plainElem_string Tryd.underlying9 (s := s) (by unfold maxLen; omega))
  refine ⟨w', hrun, ⟨_, r1, h2.put _ _, ?_⟩, r2⟩
  intro j hj z
  rw [Dk.was_append hw]
  by_cases e : i = j
  · subst e
    rw [if_pos rfl, Maps.atKey_put_same h2 (by trivial)]
  · rw [if_neg e, Maps.atKey_put_other (lit_ne e), h3 j hj]
end

end Go.Proofs.YtgahcbhdnplnoaaDoor
