/- Several texts in one: DiskWorld, DiskDsk, DiskFasten, DiskCall, DiskPut, DiskWrite, LogFuncs, LogDo, ChunkCut. -/
import Derived.Test.YtimcepoleboldaaGreatDoorMem
import Derived.Test.YtimcepoleboldaaGreatDoorDiskPlain
import Derived.Maps.Own
import Derived.Maps.OwnSet
import Derived.Maps.StringElems
import Derived.Outline
import Derived.Carry
import Derived.LoopTactic
import Derived.RegionTactic
import Derived.Laws.Shifts
import Derived.Laws.ShiftsVarLaws
import Derived.Laws.BitsAllLaws
import Derived.Deep.RegionWith
import Derived.Deep.RegionLaw
import Derived.Deep.AppendLies
import Derived.Test.YtimcepoleboldaaGreatDoorLogSmall
import Derived.Defers
import Derived.RangeFuncBox
import Derived.RangeFuncLeaves
import Derived.Shelf.Abstract
import Derived.WalkKit
import Derived.OwnWalkIn
import Derived.TacticsInMore
import Derived.LoopNIn
import Derived.LoopIn
import Derived.Maps.AppendAt
import Derived.Test.YtimcepoleboldaaGreatDoorChunkPlain
/- What memory holds of a disk, the program's and the document's, and what changes of it: laws on memory alone. -/
namespace Go.Proofs.YtimcepoleboldaaGreatDoor
open Go.RowKit
open Go.Maps (Keyed)

/-! ### Sectors in a row -/
def sect (is : Nat → ByteArray) : List Value := (List.range 256).map fun i => Value.string (is i)

theorem sect_len (is : Nat → ByteArray) : (sect is).length = 256 := by simp [sect]
theorem sect_get (is : Nat → ByteArray) {i : Nat} (h : i < 256) : (sect is)[i]? = some (.string (is i)) := by
  unfold sect
  rw [List.getElem?_map, List.getElem?_range h]
  rfl
theorem sect_set (is : Nat → ByteArray) {i : Nat} (h : i < 256) (s : ByteArray) : (sect is).set i (.string s) = sect (Dk.up is i s) := by
  apply List.ext_getElem?
  intro j
  by_cases hj : j < 256
  · rw [sect_get _ hj]
    by_cases e : i = j
    · subst e
      rw [List.getElem?_set_self (by rw [sect_len]; exact h), Dk.up_same]
    · rw [List.getElem?_set_ne e, sect_get _ hj, Dk.up_other _ (fun e2 => e e2.symm)]
  · rw [List.getElem?_eq_none (by rw [List.length_set, sect_len]; omega), List.getElem?_eq_none (by rw [sect_len]; omega)]

/-! ### The program's disk -/
/-- Its fields. -/
structure Raw where
  is : Nat → ByteArray
  m : Nat
  lv : Value
  off : Bool
  many : Int
  tc : Int
  tf : Int
  keep : Int

def Raw.rest (r : Raw) : List Value := [.map (some r.m), r.lv, .bool r.off, .int .i64 r.many, .int .i64 r.tc, .int .i64 r.tf, .int .u64 r.keep]
def Raw.cells (r : Raw) : Array Value := (sect r.is ++ r.rest).toArray

theorem Raw.get_rest (r : Raw) (j : Nat) : r.cells[256 + j]? = r.rest[j]? := by
  unfold Raw.cells
  rw [List.getElem?_toArray, List.getElem?_append_right (by rw [sect_len]; omega), sect_len, Nat.add_sub_cancel_left]
theorem Raw.get_sect (r : Raw) {i : Nat} (h : i < 256) : r.cells[i]? = some (.string (r.is i)) := by
  unfold Raw.cells
  rw [List.getElem?_toArray, List.getElem?_append_left (by rw [sect_len]; exact h), sect_get _ h]
theorem Raw.set_rest (r : Raw) (j : Nat) (u : Value) : r.cells.setIfInBounds (256 + j) u = (sect r.is ++ r.rest.set j u).toArray := by
  unfold Raw.cells
  rw [List.setIfInBounds_toArray, List.set_append_right _ _ (by rw [sect_len]; omega), sect_len, Nat.add_sub_cancel_left]
theorem Raw.set_sect (r : Raw) {i : Nat} (h : i < 256) (s : ByteArray) : r.cells.setIfInBounds i (.string s) = { r with is := Dk.up r.is i s }.cells := by
  unfold Raw.cells
  rw [List.setIfInBounds_toArray, List.set_append_left _ _ (by rw [sect_len]; exact h), sect_set _ h]
  rfl

section
variable {w : World} {g : Nat} {r : Raw}
theorem dk_cells (h : Blk w g 81 r.cells) :
    w.cell? ⟨g, 256, none⟩ = some (.map (some r.m)) ∧ w.cell? ⟨g, 257, none⟩ = some r.lv ∧ w.cell? ⟨g, 258, none⟩ = some (.bool r.off) ∧ w.cell? ⟨g, 259, none⟩ = some (.int .i64 r.many) ∧
    w.cell? ⟨g, 260, none⟩ = some (.int .i64 r.tc) ∧ w.cell? ⟨g, 261, none⟩ = some (.int .i64 r.tf) ∧ w.cell? ⟨g, 262, none⟩ = some (.int .u64 r.keep) :=
  ⟨(h.cell 256).trans (r.get_rest 0), (h.cell 257).trans (r.get_rest 1), (h.cell 258).trans (r.get_rest 2), (h.cell 259).trans (r.get_rest 3), (h.cell 260).trans (r.get_rest 4), (h.cell 261).trans (r.get_rest 5), (h.cell 262).trans (r.get_rest 6)⟩
theorem dk_sect (h : Blk w g 81 r.cells) {i : Nat} (hi : i < 256) : w.cell? ⟨g, i, none⟩ = some (.string (r.is i)) := (h.cell i).trans (r.get_sect hi)
theorem dk_frozen (h : Blk w g 81 r.cells) (i : Nat) : w.frozen? ⟨g, i, none⟩ = false := h.frozen i
theorem dk_set_lv (h : Blk w g 81 r.cells) (v : Value) : Blk (w.setCell ⟨g, 257, none⟩ v) g 81 { r with lv := v }.cells := by
  have := h.set 257 v
  rw [show (257 : Nat) = 256 + 1 from rfl, r.set_rest] at this
  exact this
theorem dk_set_off (h : Blk w g 81 r.cells) (v : Bool) : Blk (w.setCell ⟨g, 258, none⟩ (.bool v)) g 81 { r with off := v }.cells := by
  have := h.set 258 (.bool v)
  rw [show (258 : Nat) = 256 + 2 from rfl, r.set_rest] at this
  exact this
theorem dk_set_many (h : Blk w g 81 r.cells) (v : Int) : Blk (w.setCell ⟨g, 259, none⟩ (.int .i64 v)) g 81 { r with many := v }.cells := by
  have := h.set 259 (.int .i64 v)
  rw [show (259 : Nat) = 256 + 3 from rfl, r.set_rest] at this
  exact this
theorem dk_set_tc (h : Blk w g 81 r.cells) (v : Int) : Blk (w.setCell ⟨g, 260, none⟩ (.int .i64 v)) g 81 { r with tc := v }.cells := by
  have := h.set 260 (.int .i64 v)
  rw [show (260 : Nat) = 256 + 4 from rfl, r.set_rest] at this
  exact this
theorem dk_set_tf (h : Blk w g 81 r.cells) (v : Int) : Blk (w.setCell ⟨g, 261, none⟩ (.int .i64 v)) g 81 { r with tf := v }.cells := by
  have := h.set 261 (.int .i64 v)
  rw [show (261 : Nat) = 256 + 5 from rfl, r.set_rest] at this
  exact this
theorem dk_set_keep (h : Blk w g 81 r.cells) (v : Int) : Blk (w.setCell ⟨g, 262, none⟩ (.int .u64 v)) g 81 { r with keep := v }.cells := by
  have := h.set 262 (.int .u64 v)
  rw [show (262 : Nat) = 256 + 6 from rfl, r.set_rest] at this
  exact this
theorem dk_set_sect (h : Blk w g 81 r.cells) {i : Nat} (hi : i < 256) (s : ByteArray) : Blk (w.setCell ⟨g, i, none⟩ (.string s)) g 81 { r with is := Dk.up r.is i s }.cells := by
  have := h.set i (.string s)
  rw [r.set_sect hi] at this
  exact this
end

/-! ### What lasts: a map -/
theorem key_int : Keyed Tryz.prog 3 := Maps.int_keyed Tryz.underlying3
theorem key_wf {i : Nat} (h : i < 256) : (Lit.int .i64 (i : Int)).wf = true := by
  simp [Lit.wf, IntKind.min, IntKind.max, IntKind.bits, IntKind.signed]
  omega

/-- Block m is a map, of at most n entries, that has what lasts of the loose sectors l. -/
def MapIs (w : World) (m n : Nat) (l : List (Nat × ByteArray)) : Prop :=
  ∃ D : DataW Unit, w.ownsMap Tryz.prog 3 (plainElem Tryz.prog 9) m n D ∧ Maps.IsMap D ∧
    (∀ i : Nat, i < 256 → ∀ z, D.atKey (.int .i64 (i : Int)) z = match Dk.was l i with | some s => .lit (.string s.data.toList) | none => z)

theorem zero_string (w : World) : (zeroValue 9).run Tryz.prog w = .ok (.string ByteArray.empty) w := by kernel_rfl
theorem ba_ext {a b : ByteArray} (h : a.data.toList = b.data.toList) : a = b := by
  cases a with | mk x => cases b with | mk y => exact congrArg ByteArray.mk (Array.ext' h)

section
variable {w w' : World} {m n : Nat} {l : List (Nat × ByteArray)}
theorem MapIs.lt (h : MapIs w m n l) : m < w.heap.size := by
  obtain ⟨D, h1, _⟩ := h
  exact h1.lt
theorem MapIs.drew (h : MapIs w m n l) : MapIs w.drew m n l := h
theorem MapIs.new (w : World) : MapIs (w.alloc (.map #[] 0)) w.heap.size 0 [] :=
  ⟨.map [], World.ownsMap_made w _ _ _, Maps.isMap_empty, fun _ _ _ => rfl⟩
theorem MapIs.move (h : MapIs w m n l) (e : w'.heap[m]? = w.heap[m]?) : MapIs w' m n l := by
  obtain ⟨D, ⟨es, clock, h1, h2⟩, h3⟩ := h
  exact ⟨D, ⟨es, clock, e.trans h1, h2⟩, h3⟩
theorem MapIs.block (h : MapIs w m n l) : ∃ es clock, w.heap[m]? = some (.map es clock) := by
  obtain ⟨D, ⟨es, clock, h1, h2⟩, h3⟩ := h
  exact ⟨es, clock, h1⟩
theorem MapIs.ne (h : MapIs w m n l) {g : Nat} {t : TypeId} {cs : Array Value} (hb : Blk w g t cs) : m ≠ g := by
  intro e
  obtain ⟨es, clock, h1⟩ := h.block
  rw [e, show w.heap[g]? = some (.cells cs t (0, 0)) from hb] at h1
  cases h1
theorem MapIs.grown {row : Option Nat} (h : MapIs w m n l) (hg : w.grownBy w' row) (hne : some m ≠ row) : MapIs w' m n l := h.move (hg.block m h.lt hne)
theorem MapIs.mono {n' : Nat} (h : MapIs w m n l) (hn : n ≤ n') : MapIs w m n' l := by
  obtain ⟨D, h1, h2⟩ := h
  exact ⟨D, h1.mono hn, h2⟩

theorem MapIs.look (h : MapIs w m n l) {i : Nat} (hi : i < 256) :
    (Instr.lookup 77 (.map (some m)) (.int .i64 (i : Int)) false).run Tryz.prog w = .ok (.string ((Dk.was l i).getD ByteArray.empty)) w := by
  obtain ⟨D, h1, h2, h3⟩ := h
  obtain ⟨v, ps, hrun, hv⟩ := h1.lookup key_int Tryz.underlying77 (zero_string w) (plainElem_string Tryz.underlying9 (by decide)) (Maps.keyOf_int_mk Tryz.underlying3 (key_wf hi))
  obtain ⟨s, rfl, hz, _⟩ := plainElem_string_inv Tryz.underlying9 hv
  have e := congrArg Prod.fst hz
  simp only [h3 i hi] at e
  rw [hrun]
  have : s = (Dk.was l i).getD ByteArray.empty := by
    cases hw : Dk.was l i with
    | none => rw [hw] at e; simp at e; exact ba_ext (by simpa using e.symm)
    | some x => rw [hw] at e; simp at e; exact ba_ext (by simpa using e.symm)
  rw [this]

theorem MapIs.look_ok (h : MapIs w m n l) {i : Nat} (hi : i < 256) :
    (Instr.lookup 77 (.map (some m)) (.int .i64 (i : Int)) true).run Tryz.prog w = .ok (.tuple #[.string ((Dk.was l i).getD ByteArray.empty), .bool (Dk.was l i).isSome]) w := by
  obtain ⟨D, h1, h2, h3⟩ := h
  obtain ⟨v, ps, hrun, hv⟩ := h1.look_ok key_int Tryz.underlying77 (zero_string w) (plainElem_string Tryz.underlying9 (by decide)) (Maps.keyOf_int_mk Tryz.underlying3 (key_wf hi))
  obtain ⟨s, rfl, hz, _⟩ := plainElem_string_inv Tryz.underlying9 hv
  have e := congrArg Prod.fst hz
  simp only [h3 i hi] at e
  rw [hrun]
  cases hw : Dk.was l i with
  | none =>
    have hh : Maps.has D (.int .i64 (i : Int)) = false := Maps.has_false_of_atKey (fun z => by rw [h3 i hi, hw])
    rw [hw] at e; simp at e
    rw [hh, show s = ByteArray.empty from ba_ext (by simpa using e.symm)]
    rfl
  | some x =>
    have hh : Maps.has D (.int .i64 (i : Int)) = true := Maps.has_true_of_atKey (y := .lit (.string x.data.toList)) (fun z => by rw [h3 i hi, hw])
    rw [hw] at e; simp at e
    rw [hh, show s = x from ba_ext (by simpa using e.symm)]
    rfl

theorem lit_ne {i j : Nat} (h : i ≠ j) : (Lit.int .i64 (j : Int)) ≠ .int .i64 (i : Int) := by
  intro e
  injection e with _ e
  omega

theorem MapIs.put (h : MapIs w m n l) (hn : n < maxLen) {i : Nat} (hi : i < 256) (hw : Dk.was l i = none) {s : ByteArray} (hs : s.size ≤ 128) :
    ∃ w', (Instr.mapUpdate 77 (.map (some m)) (.int .i64 (i : Int)) (.string s)).run Tryz.prog w = .ok () w' ∧ MapIs w' m (n + 1) (l ++ [(i, s)]) ∧ w.grownBy w' (some m) := by
  obtain ⟨D, h1, h2, h3⟩ := h
  obtain ⟨w', hrun, r1, r2⟩ := h1.update key_int Tryz.underlying77 hn (Maps.keyOf_int_mk Tryz.underlying3 (key_wf hi)) (plainElem_string Tryz.underlying9 (s := s) (by unfold maxLen; omega))
  refine ⟨w', hrun, ⟨_, r1, h2.put _ _, ?_⟩, r2⟩
  intro j hj z
  rw [Dk.was_append hw]
  by_cases e : i = j
  · subst e
    rw [if_pos rfl, Maps.atKey_put_same h2 (by trivial)]
  · rw [if_neg e, Maps.atKey_put_other (lit_ne e), h3 j hj]
end

end Go.Proofs.YtimcepoleboldaaGreatDoor

/- What the small calls of the program's disk come to: New, Dead, Calls, Fail, Cut, Power, Read; and reach, due. -/
namespace Go.Proofs.YtimcepoleboldaaGreatDoor
open Go.RowKit

def ints (l : List (Nat × ByteArray)) : List Value := l.map fun p => .int .i64 (p.1 : Int)

def rawOf (st : Dk.St) (m : Nat) (lv : Value) (tc tf : Int) : Raw := ⟨st.is, m, lv, st.off, st.many, tc, tf, st.keep⟩

/-- Block g is a disk of the program's that is as st is; all of it lies from B on; n bounds its map. -/
structure DskAtg (K : Keep) (w : World) (B g : Nat) (st : Dk.St) (m : Nat) (lv : Value) (tc tf : Int) (n : Nat) : Prop where
  blk : Blk w g 81 (rawOf st m lv tc tf).cells
  map : MapIs w m n st.loose
  row : w.ownsRow B 3 1 lv st.loose.length (ints st.loose)
  atg : B ≤ g
  atm : B ≤ m
  cuts : tc.toNat = st.cuts
  tcle : -9223372036854775808 ≤ tc ∧ tc ≤ 9223372036854775807
  fails : tf.toNat = st.fails
  tfle : -9223372036854775808 ≤ tf ∧ tf ≤ 9223372036854775807
  keep : st.keep < 18446744073709551616
  inv : Dk.Inv st
  free : ∀ k, K.p k → k < w.heap.size ∧ k ≠ g ∧ k ≠ m ∧ lv.ownBlock ≠ some k
abbrev DskAt [K : Keep] (w : World) (B g : Nat) (st : Dk.St) (m : Nat) (lv : Value) (tc tf : Int) (n : Nat) : Prop := DskAtg K w B g st m lv tc tf n

def Dsk [Keep] (w : World) (B g : Nat) (st : Dk.St) : Prop := ∃ m lv tc tf n, DskAt w B g st m lv tc tf n ∧ n ≤ st.many

/-- The kinds of blocks that a disk of the program's has. -/
def Td : Obj → Bool
  | .cells _ t _ => t == 81 || t == 3
  | .map _ _ => true
  | _ => false

/-- Likewise, but the rows of numbers: only put writes into one. -/
def Td0 : Obj → Bool
  | .cells _ t _ => t == 81
  | .map _ _ => true
  | _ => false

theorem Chg.d {K : Keep} {B : Nat} {w w' : World} (h : @Ch K Td0 B w w') : @Ch K Td B w w' where
  os := h.os
  tape := h.tape
  output := h.output
  size := h.size
  all i hi hT := h.all i hi (fun hB hK o ho => by
    have h1 := hT hB hK o ho
    cases o with
    | cells cs t z => simp [Td] at h1; simp [Td0]; exact h1.1
    | map es c => cases h1
    | _ => rfl)

/-- What a call leaves of the rows of numbers: the loose ones' row is the one that was, or a new one; no other one has changed. -/
structure Lvs (w : World) (lv : Value) (w' : World) (lv' : Value) : Prop where
  size : w.heap.size ≤ w'.heap.size
  own : ∀ k, lv'.ownBlock = some k → lv.ownBlock = some k ∨ w.heap.size ≤ k
  block : ∀ k cs z, lv.ownBlock ≠ some k → w.heap[k]? = some (.cells cs 3 z) → w'.heap[k]? = some (.cells cs 3 z)

theorem lt_of_at {w : World} {k : Nat} {o : Obj} (h : w.heap[k]? = some o) : k < w.heap.size := by
  rcases Nat.lt_or_ge k w.heap.size with h2 | h2
  · exact h2
  · rw [Array.getElem?_eq_none h2] at h; cases h
theorem Lvs.refl (w : World) (lv : Value) : Lvs w lv w lv := ⟨Nat.le_refl _, fun _ h => .inl h, fun _ _ _ _ h => h⟩
theorem Lvs.trans {a b c : World} {u v x : Value} (h : Lvs a u b v) (k : Lvs b v c x) : Lvs a u c x where
  size := Nat.le_trans h.size k.size
  own i hi := by
    rcases k.own i hi with h1 | h1
    · exact h.own i h1
    · exact .inr (Nat.le_trans h.size h1)
  block i cs z hne ho := k.block i cs z (fun e => by
    rcases h.own i e with h1 | h1
    · exact hne h1
    · have := lt_of_at ho; omega) (h.block i cs z hne ho)
theorem Lvs.of_ch {K : Keep} {T : Obj → Bool} {B : Nat} {w w' : World} {lv lv' : Value} (hc : @Ch K T B w w') (hT : ∀ cs z, T (.cells cs 3 z) = false) (he : lv'.ownBlock = lv.ownBlock) : Lvs w lv w' lv' :=
  ⟨hc.size, fun k h => .inl (by rw [← he]; exact h), fun k cs z _ ho => (hc.block k (lt_of_at ho) (fun _ o h => by rw [ho] at h; injection h with h; rw [← h]; exact hT cs z)).trans ho⟩
theorem td0_int : ∀ cs z, Td0 (.cells cs 3 z) = false := fun _ _ => rfl

section
variable {w w' : World} {B g m n : Nat} {st : Dk.St} {lv : Value} {tc tf : Int}
theorem DskAt.kept {K K' : Keep} {T : Obj → Bool} {B' : Nat} (h : @DskAt K w B g st m lv tc tf n) (hc : @Ch K' T B' w w') (h1 : ∀ cs, T (.cells cs 81 (0, 0)) = false) (h2 : ∀ es c, T (.map es c) = false) (h3 : ∀ cs, T (.cells cs 3 (0, 0)) = false) :
    @DskAt K w' B g st m lv tc tf n :=
  { h with
    blk := hc.blk h.blk (h1 _)
    map := h.map.move (hc.block m h.map.lt (fun _ o ho => by
      obtain ⟨es, c, e⟩ := h.map.block
      rw [e] at ho; injection ho with ho; rw [← ho]; exact h2 _ _))
    row := owns_ch h.row hc h3
    free := fun k hk => ⟨Nat.lt_of_lt_of_le (h.free k hk).1 hc.size, (h.free k hk).2⟩ }
theorem DskAt.drew [Keep] (h : DskAt w B g st m lv tc tf n) : DskAt w.drew B g st m lv tc tf n := { h with blk := h.blk.drew, map := h.map, row := h.row }

/-- A store into one field, and the state that it leaves. -/
theorem DskAt.field [Keep] {st' : Dk.St} {tc' tf' : Int} {n' : Nat} (h : DskAt w B g st m lv tc tf n) {i : Nat} {u : Value} (hb : Blk (w.setCell ⟨g, i, none⟩ u) g 81 (rawOf st' m lv tc' tf').cells)
    (hl : st'.loose = st.loose) (hn : n ≤ n') (hc : tc'.toNat = st'.cuts) (hc' : -9223372036854775808 ≤ tc' ∧ tc' ≤ 9223372036854775807) (hf : tf'.toNat = st'.fails) (hf' : -9223372036854775808 ≤ tf' ∧ tf' ≤ 9223372036854775807) (hk : st'.keep < 18446744073709551616) (hi : Dk.Inv st') :
    DskAt (w.setCell ⟨g, i, none⟩ u) B g st' m lv tc' tf' n' :=
  have hg := Lib.grownBy_setCell w g i u
  { blk := hb
    map := by rw [hl]; exact (h.map.mono hn).grown hg (by intro e; injection e with e; exact h.map.ne h.blk e)
    row := by
      rw [hl]
      refine h.row.kept hg ?_
      rcases h.row.2 with ⟨rfl, _⟩ | ⟨b, cap, cur, rfl, _, hh, _⟩
      · exact .inl rfl
      · refine .inr ?_
        intro e
        simp [Value.ownBlock] at e
        subst e
        rw [show w.heap[b]? = some (.cells _ 81 (0, 0)) from h.blk] at hh
        injection hh with hh
        injection hh with _ hh
        cases hh
    atg := h.atg
    atm := h.atm
    cuts := hc
    tcle := hc'
    fails := hf
    tfle := hf'
    keep := hk
    inv := hi
    free := fun k hk => ⟨by have := (h.free k hk).1; simpa [World.setCell] using this, (h.free k hk).2⟩ }
theorem DskAt.ch [Keep] (h : DskAt w B g st m lv tc tf n) (i : Nat) (u : Value) : Ch Td0 B w (w.setCell ⟨g, i, none⟩ u) := Ch.setK h.blk h.atg (fun hk => (h.free g hk).2.1 rfl) rfl i u
end

theorem Dsk.kept {K K' : Keep} {w w' : World} {B g : Nat} {st : Dk.St} {T : Obj → Bool} {B' : Nat} (h : @Dsk K w B g st) (hc : @Ch K' T B' w w') (h1 : ∀ cs, T (.cells cs 81 (0, 0)) = false) (h2 : ∀ es c, T (.map es c) = false) (h3 : ∀ cs, T (.cells cs 3 (0, 0)) = false) : @Dsk K w' B g st := by
  obtain ⟨m, lv, tc, tf, n, h, hn⟩ := h
  exact ⟨m, lv, tc, tf, n, h.kept hc h1 h2 h3, hn⟩
theorem Dsk.inv [Keep] {w : World} {B g : Nat} {st : Dk.St} (h : Dsk w B g st) : Dk.Inv st := by
  obtain ⟨m, lv, tc, tf, n, h, hn⟩ := h
  exact h.inv

/-! ### Dead, Calls, Fail, Cut, Power -/
theorem toNat_le {n : Int} {k : Nat} (h : n.toNat = k) (hn : n ≤ 9223372036854775807) : (k : Int) ≤ 9223372036854775807 := by omega

set_option maxHeartbeats 400000 in
theorem cut_any [Keep] (B g : Nat) (st : Dk.St) (x : Int) (keep : Nat) (w : World) (h : Dsk w B g st) (hx : -9223372036854775808 ≤ x ∧ x ≤ 9223372036854775807) (hk : keep < 18446744073709551616) :
    Calls Tryz.prog 26 #[.pointer (some ⟨g, 0, none⟩), .int .i64 x, .int .u64 (keep : Int)] w fun e w' => e = .returned (.tuple #[]) ∧ Dsk w' B g (st.cut x keep) ∧ Ch Td B w w' := by
  obtain ⟨m, lv, tc, tf, n, h, hn⟩ := h
  obtain ⟨-, -, -, -, c1, -, c2⟩ := dk_cells h.blk
  have f1 := dk_frozen h.blk 260
  have f2 := dk_frozen h.blk 262
  have R1 : DskAt (w.setCell ⟨g, 260, none⟩ (.int .i64 x)) B g { st with cuts := x.toNat } m lv x tf n := h.field (dk_set_tc h.blk x) rfl (Nat.le_refl _) rfl hx h.fails h.tfle h.keep ⟨h.inv.nodup, h.inv.keys, h.inv.texts, h.inv.few⟩
  have R2 : DskAt ((w.setCell ⟨g, 260, none⟩ (.int .i64 x)).setCell ⟨g, 262, none⟩ (.int .u64 (keep : Int))) B g (st.cut x keep) m lv x tf n := R1.field (dk_set_keep R1.blk (keep : Int)) rfl (Nat.le_refl _) rfl hx h.fails h.tfle hk ⟨h.inv.nodup, h.inv.keys, h.inv.texts, h.inv.few⟩
  have HR := Lib.hid (And.intro R2 ((h.ch 260 (.int .i64 x)).trans (R1.ch 262 (.int .u64 (keep : Int)))))
  have HN := Lib.hid hn
  clear h R1 R2 hn
  go_enter Tryz.func26, Tryz.ntmps26
  go_wp2_with fail
  go_end0
  exact ⟨rfl, ⟨m, lv, x, tf, n, HR.out.1, HN.out⟩, HR.out.2.d⟩

theorem power_on {st : Dk.St} (h : st.off = false) : st.power = st := by unfold Dk.St.power; rw [h]; rfl
theorem power_off {st : Dk.St} (h : st.off = true) : st.power = { st with off := false, cuts := 0, fails := 0 } := by unfold Dk.St.power; rw [if_pos h]

set_option maxHeartbeats 400000 in
theorem power_any [Keep] (B g : Nat) (st : Dk.St) (w : World) (h : Dsk w B g st) :
    Calls Tryz.prog 27 #[.pointer (some ⟨g, 0, none⟩)] w fun e w' => e = .returned (.tuple #[]) ∧ Dsk w' B g st.power ∧ Ch Td B w w' := by
  obtain ⟨m, lv, tc, tf, n, h, hn⟩ := h
  obtain ⟨-, -, c0, -, c1, c2, -⟩ := dk_cells h.blk
  cases ho : st.off with
  | false =>
    rw [power_on ho]
    have HR := Lib.hid h
    have HN := Lib.hid hn
    simp only [rawOf, ho] at c0
    clear h hn c1 c2 ho
    go_enter Tryz.func27, Tryz.ntmps27
    go_wp2_with fail
    go_end0
    exact ⟨rfl, ⟨m, lv, tc, tf, n, HR.out, HN.out⟩, Ch.refl _ _ _⟩
  | true =>
    rw [power_off ho]
    simp only [rawOf, ho] at c0
    have f0 := dk_frozen h.blk 258
    have f1 := dk_frozen h.blk 260
    have f2 := dk_frozen h.blk 261
    have R0 : DskAt (w.setCell ⟨g, 258, none⟩ (.bool false)) B g { st with off := false } m lv tc tf n := h.field (dk_set_off h.blk false) rfl (Nat.le_refl _) h.cuts h.tcle h.fails h.tfle h.keep ⟨h.inv.nodup, h.inv.keys, h.inv.texts, h.inv.few⟩
    have R1 : DskAt ((w.setCell ⟨g, 258, none⟩ (.bool false)).setCell ⟨g, 260, none⟩ (.int .i64 0)) B g { st with off := false, cuts := 0 } m lv 0 tf n := R0.field (dk_set_tc R0.blk 0) rfl (Nat.le_refl _) rfl (by decide) h.fails h.tfle h.keep ⟨h.inv.nodup, h.inv.keys, h.inv.texts, h.inv.few⟩
    have R2 : DskAt (((w.setCell ⟨g, 258, none⟩ (.bool false)).setCell ⟨g, 260, none⟩ (.int .i64 0)).setCell ⟨g, 261, none⟩ (.int .i64 0)) B g { st with off := false, cuts := 0, fails := 0 } m lv 0 0 n := R1.field (dk_set_tf R1.blk 0) rfl (Nat.le_refl _) rfl (by decide) rfl (by decide) h.keep ⟨h.inv.nodup, h.inv.keys, h.inv.texts, h.inv.few⟩
    have HR := Lib.hid (And.intro R2 (((h.ch 258 (.bool false)).trans (R0.ch 260 (.int .i64 0))).trans (R1.ch 261 (.int .i64 0))))
    have HN := Lib.hid hn
    clear h hn R0 R1 R2 ho
    go_enter Tryz.func27, Tryz.ntmps27
    go_wp2_with fail
    go_end0
    exact ⟨rfl, ⟨m, lv, 0, 0, n, HR.out.1, HN.out⟩, HR.out.2.d⟩

/-! ### reach, Read, due -/
set_option maxHeartbeats 400000 in
theorem reach_any [Keep] (B g : Nat) (st : Dk.St) (i : Int) (w : World) (h : Dsk w B g st) :
    Calls Tryz.prog 48 #[.pointer (some ⟨g, 0, none⟩), .int .i64 i] w fun e w' => e = .returned (.int .i64 (st.reach i)) ∧ w = w' := by
  obtain ⟨m, lv, tc, tf, n, h, -⟩ := h
  obtain ⟨-, -, c0, -⟩ := dk_cells h.blk
  clear h
  cases ho : st.off with
  | true =>
    simp only [rawOf, ho] at c0
    rw [show st.reach i = 33 by unfold Dk.St.reach; rw [if_pos ho]]
    clear ho
    go_enter Tryz.func48, Tryz.ntmps48
    go_wp2_with fail
    go_ret
    exact ⟨rfl, rfl⟩
  | false =>
    simp only [rawOf, ho] at c0
    by_cases h1 : i < 0
    · rw [show st.reach i = 30 by unfold Dk.St.reach; rw [if_neg (by rw [ho]; decide), if_pos (.inl h1)]]
      clear ho
      go_enter Tryz.func48, Tryz.ntmps48
      go_wp2_with fail
      go_ret
      exact ⟨rfl, rfl⟩
    · by_cases h2 : 256 ≤ i
      · rw [show st.reach i = 30 by unfold Dk.St.reach; rw [if_neg (by rw [ho]; decide), if_pos (.inr h2)]]
        clear ho
        go_enter Tryz.func48, Tryz.ntmps48
        go_wp2_with fail
        go_ret
        exact ⟨rfl, rfl⟩
      · rw [show st.reach i = 0 by unfold Dk.St.reach; rw [if_neg (by rw [ho]; decide), if_neg (by omega)]]
        clear ho
        go_enter Tryz.func48, Tryz.ntmps48
        go_wp2_with fail
        go_ret
        exact ⟨rfl, rfl⟩

set_option maxHeartbeats 400000 in
theorem dread_any [Keep] (B g : Nat) (st : Dk.St) (i : Int) (w : World) (h : Dsk w B g st) :
    Calls Tryz.prog 89 #[.pointer (some ⟨g, 0, none⟩), .int .i64 i] w fun e w' => e = .returned (.tuple #[.string (st.read i), .int .i64 (st.reach i)]) ∧ w = w' := by
  have H := Lib.hid (reach_any B g st i w h)
  by_cases hr : st.reach i = 0
  · obtain ⟨h1, h2, h3⟩ := Dk.reach_ok hr
    obtain ⟨m, lv, tc, tf, n, h, -⟩ := h
    have c := dk_sect h.blk (i := i.toNat) (by omega)
    obtain ⟨k, rfl⟩ : ∃ k : Nat, i = (k : Int) := ⟨i.toNat, by omega⟩
    rw [show st.read (k : Int) = st.is k by unfold Dk.St.read; rw [if_pos hr]; rfl, hr]
    simp only [Int.toNat_natCast, rawOf] at c
    have hk : k < 256 := by omega
    have HR := Lib.hid hr
    clear h hr h1
    go_enter Tryz.func89, Tryz.ntmps89
    go_wp2_with fail
    refine H.out.mono ?_
    rintro e w' ⟨rfl, rfl⟩
    rw [HR.out]
    go_wp2_with fail
    go_ret2
    exact ⟨rfl, rfl⟩
  · rw [show st.read i = ByteArray.empty by unfold Dk.St.read; rw [if_neg hr]]
    have HR := Lib.hid hr
    clear hr h
    generalize st.reach i = x at *
    have hx := HR.out
    go_enter Tryz.func89, Tryz.ntmps89
    go_wp2_with fail
    refine H.out.mono ?_
    rintro e w' ⟨rfl, rfl⟩
    go_wp2_with fail
    go_ret2
    exact ⟨rfl, rfl⟩

set_option maxHeartbeats 400000 in
theorem due_any (p : Addr) (n : Int) (w : World) (hc : w.cell? p = some (.int .i64 n)) (hf : w.frozen? p = false) (hn : -9223372036854775808 ≤ n ∧ n ≤ 9223372036854775807) :
    Calls Tryz.prog 82 #[.pointer (some p)] w fun e w' => e = .returned (.bool (decide (n = 1))) ∧ w' = if n < 1 then w else w.setCell p (.int .i64 (n - 1)) := by
  obtain ⟨hn1, hn2⟩ := hn
  by_cases h : n < 1
  · rw [if_pos h, decide_eq_false (by omega)]
    go_enter Tryz.func82, Tryz.ntmps82
    go_wp2_with fail
    go_ret
    exact ⟨rfl, rfl⟩
  · rw [if_neg h, show decide (n = 1) = decide (n - 1 = 0) by by_cases e : n = 1 <;> simp [e]; omega]
    go_enter Tryz.func82, Tryz.ntmps82
    go_wp2_with fail
    go_ret
    exact ⟨rfl, rfl⟩

end Go.Proofs.YtimcepoleboldaaGreatDoor

/- What fasten and goDark come to: loops over the loose sectors. -/
namespace Go.Proofs.YtimcepoleboldaaGreatDoor
open Go.RowKit

theorem MapIs.del {w : World} {m n k : Nat} {l : List (Nat × ByteArray)} {p : Nat × ByteArray} (h : MapIs w m n (l.drop k)) (hl : (l.map (·.1)).Nodup) (hk : l[k]? = some p) (hp : p.1 < 256) (ty : TypeId) :
    ∃ w', (Builtin.delete_ #[77, 3] ty #[.map (some m), .int .i64 (p.1 : Int)]).run Tryz.prog w = .ok (.tuple #[]) w' ∧ MapIs w' m n (l.drop (k + 1)) ∧ w.grownBy w' (some m) := by
  obtain ⟨D, h1, h2, h3⟩ := h
  obtain ⟨w', hrun, r1, r2⟩ := h1.drop key_int Tryz.underlying77 (Maps.keyOf_int_mk Tryz.underlying3 (key_wf hp)) ty
  refine ⟨w', hrun, ⟨_, r1, h2.del _, ?_⟩, r2.grown⟩
  intro j hj z
  rw [Dk.was_drop hl hk]
  by_cases e : p.1 = j
  · subst e
    rw [if_pos rfl, Maps.atKey_del_same]
  · rw [if_neg e, Maps.atKey_del_other (lit_ne e), h3 j hj]

theorem wpList_delete_is (w : World) {ops : Array Oper} {rest : List Oper} {o : Oper} {a : Act} {Q : Exit → Act → World → Prop}
    (hg : o.guard = none) (mo x : Operand) (hop : o.op = Op.call { callee := Callee.builtin Builtin.delete, args := #[mo, x], argTypes := #[77, 3] })
    {m n k : Nat} {l : List (Nat × ByteArray)} {p : Nat × ByteArray} (h : MapIs w m n (l.drop k)) (hl : (l.map (·.1)).Nodup) (hk : l[k]? = some p) (hp : p.1 < 256)
    (hm : a.eval mo = .map (some m)) (hx : a.eval x = .int .i64 (p.1 : Int))
    (hK : ∀ w', MapIs w' m n (l.drop (k + 1)) → w.grownBy w' (some m) → wpList Tryz.prog ops Q rest (a.put o.dst (.tuple #[])) w') :
    wpList Tryz.prog ops Q (o :: rest) a w := by
  refine wpList_plain hg fun K' hK' => ?_
  obtain ⟨w', hrun, r1, r2⟩ := h.del hl hk hp o.type
  unfold Oper.wp
  simp [execOp, hop, resolve, invoke, builtin, hm, hx, hrun, Result.andThen]
  exact hK' _ _ (hK w' r1 r2)

/-- How the row of the loose ones lies. -/
theorem loose_row {w : World} {B : Nat} {lv : Value} {l : List (Nat × ByteArray)} (h : w.ownsRow B 3 1 lv l.length (ints l)) :
    ∃ A cap, lv = .slice A l.length cap ∧ (∀ k p, l[k]? = some p → ∃ b cur, A = some ⟨b, 0, none⟩ ∧ Blk w b 3 cur ∧ w.cell? ⟨b, k, none⟩ = some (.int .i64 (p.1 : Int))) ∧ w.ownsRow B 3 1 (.slice A 0 cap) 0 [] := by
  rcases h.2 with ⟨rfl, h0⟩ | ⟨g, cap, cur, rfl, hb, hg, hnc, hcm, hcs, htk⟩
  · refine ⟨none, 0, by rw [h0], ?_, World.ownsRow_nil _ _ _ _⟩
    intro k p hk
    have := (List.getElem?_eq_some_iff.1 hk).1
    omega
  · refine ⟨some ⟨g, 0, none⟩, cap, rfl, ?_, ⟨by simp, .inr ⟨g, cap, cur, rfl, hb, hg, by omega, hcm, hcs, by simp⟩⟩⟩
    intro k p hk
    refine ⟨g, cur, rfl, hg, ?_⟩
    have h1 : (ints l)[k]? = some (.int .i64 (p.1 : Int)) := by simp [ints, hk]
    have h2 := h.cells (g := g) rfl k _ h1
    rw [Addr.add_lit, Nat.zero_add] at h2
    exact h2

theorem row_apart {w : World} {B n size g : Nat} {e t : TypeId} {v : Value} {xs : List Value} {cs : Array Value} (h : w.ownsRow B e size v n xs) (hb : Blk w g t cs) (ht : t ≠ e) : v.ownBlock = none ∨ v.ownBlock ≠ some g := by
  rcases h.2 with ⟨rfl, _⟩ | ⟨b, cap, cur, rfl, _, hh, _⟩
  · exact .inl rfl
  · refine .inr ?_
    intro e
    simp [Value.ownBlock] at e
    subst e
    rw [show w.heap[b]? = some (.cells _ t (0, 0)) from hb] at hh
    injection hh with hh
    injection hh with _ hh
    exact ht hh
theorem row_apart_map {w : World} {B n size m k : Nat} {e : TypeId} {v : Value} {xs : List Value} {l : List (Nat × ByteArray)} (h : w.ownsRow B e size v n xs) (hm : MapIs w m k l) : v.ownBlock = none ∨ v.ownBlock ≠ some m := by
  rcases h.2 with ⟨rfl, _⟩ | ⟨b, cap, cur, rfl, _, hh, _⟩
  · exact .inl rfl
  · refine .inr ?_
    intro e
    simp [Value.ownBlock] at e
    exact hm.ne hh e.symm

/-- The disk behind fasten. -/
theorem fasten_end [Keep] {w wr : World} {B g m n : Nat} {st : Dk.St} {lv : Value} {tc tf : Int} {A : Option Addr} {cap : Nat} (h : DskAt w B g st m lv tc tf n) (hE : w.ownsRow B 3 1 (.slice A 0 cap) 0 []) (hmap : MapIs wr m n []) (hgr : w.grownBy wr (some m)) (ho : (Value.slice A 0 cap).ownBlock = lv.ownBlock) :
    DskAt (wr.setCell ⟨g, 257, none⟩ (.slice A 0 cap)) B g st.fasten m (.slice A 0 cap) tc tf n ∧ Ch Td0 B w (wr.setCell ⟨g, 257, none⟩ (.slice A 0 cap)) := by
  have hmg := h.map.ne h.blk
  have hb := h.blk.grown hgr (by intro e; injection e with e; exact hmg e.symm)
  have hs := Lib.grownBy_setCell wr g 257 (.slice A 0 cap)
  have hr := hE.kept hgr (row_apart_map hE h.map)
  refine ⟨{ blk := dk_set_lv hb (.slice A 0 cap), map := hmap.grown hs (by intro e; injection e with e; exact hmg e), row := hr.kept hs (row_apart hr hb (by decide)), atg := h.atg, atm := h.atm, cuts := h.cuts, tcle := h.tcle, fails := h.fails, tfle := h.tfle, keep := h.keep, inv := h.inv.fasten, free := fun k hk => ⟨by have := (h.free k hk).1; have := hgr.size; simp [World.setCell]; omega, (h.free k hk).2.1, (h.free k hk).2.2.1, by rw [ho]; exact (h.free k hk).2.2.2⟩ }, ?_⟩
  obtain ⟨es, c, e⟩ := h.map.block
  exact (Ch.of_grownK hgr (fun k hk => by injection hk with hk; subst hk; exact ⟨h.atm, fun hk => (h.free _ hk).2.2.1 rfl, _, e, rfl⟩)).trans (Ch.setK hb h.atg (fun hk => (h.free g hk).2.1 rfl) rfl 257 _)

/-- What the loop of fasten knows behind k sectors. -/
def FastLoop (w : World) (m n : Nat) (l : List (Nat × ByteArray)) (v : Value) (wr : World) : Prop :=
  ∃ k : Nat, k ≤ l.length ∧ v = .int .i64 (k : Int) ∧ MapIs wr m n (l.drop k) ∧ w.grownBy wr (some m)

set_option maxHeartbeats 400000 in
theorem fasten_any [Keep] (B g : Nat) (st : Dk.St) (m : Nat) (lv : Value) (tc tf : Int) (n : Nat) (w : World) (h : DskAt w B g st m lv tc tf n) (hm : st.many ≤ 1099511627776) :
    Calls Tryz.prog 52 #[.pointer (some ⟨g, 0, none⟩)] w fun e w' => e = .returned (.tuple #[]) ∧ (∃ lv', lv'.ownBlock = lv.ownBlock ∧ DskAt w' B g st.fasten m lv' tc tf n) ∧ Ch Td0 B w w' := by
  have hnd := Lib.hid h.inv.nodup
  have hky := Lib.hid h.inv.keys
  have hfew : st.loose.length ≤ 1099511627776 := Nat.le_trans h.inv.few hm
  obtain ⟨A, cap, rfl, hrow, hemp⟩ := loose_row h.row
  obtain ⟨c0, c1, -⟩ := dk_cells h.blk
  have f1 := dk_frozen h.blk 257
  simp only [rawOf] at c0 c1
  have hmg := h.map.ne h.blk
  have hgm := fun e : g = m => hmg e.symm
  have HR := Lib.hid hrow; have HE := Lib.hid hemp; clear hrow hemp
  have HD := Lib.hid h
  have hst : MapIs w m n (st.loose.drop 0) := h.map
  clear h hm
  go_enter Tryz.func52, Tryz.ntmps52
  go_wp2_with fail
  go_loopw [9] (FastLoop w m n st.loose) (fun v _ => st.loose.length - (intOf v).toNat)
  case atStart => exact ⟨0, Nat.zero_le _, rfl, hst, World.grownBy.refl _ _⟩
  case round =>
    obtain ⟨k, hk, rfl, hmap, hgr⟩ := hrel
    have d0 := hgr.cell c0 (by simpa using hgm)
    have d1 := hgr.cell c1 (by simpa using hgm)
    by_cases hlt : k < st.loose.length
    · obtain ⟨p, hp⟩ : ∃ p, st.loose[k]? = some p := ⟨_, List.getElem?_eq_getElem hlt⟩
      obtain ⟨b, cur, rfl, hb, hc⟩ := HR.out k p hp
      have hbm : m ≠ b := (HD.out).map.ne hb
      have d2 := hgr.cell hc (by simpa using fun e : b = m => hbm e.symm)
      have hp256 := (hky.out p (List.mem_of_getElem? hp)).1
      have HP := Lib.hid hp; clear hp hc hb
      go_wp2_with (at_delete; refine wpList_delete_is _ rfl _ _ rfl hmap hnd.out HP.out hp256 rfl rfl ?_; intro w1 hmap1 hgr1)
      go_roundw
      case rel => exact ⟨k + 1, by omega, by go_num, hmap1, gr_trans hgr hgr1⟩
      case measure => simp [intOf]; omega
    · obtain rfl : k = st.loose.length := by omega
      rw [List.drop_length] at hmap
      have f2 : wr.frozen? ⟨g, 257, none⟩ = false := ((HD.out).blk.grown hgr (by simpa using hgm)).frozen 257
      have R := fasten_end HD.out HE.out hmap hgr (by cases A <;> rfl)
      have HF := Lib.hid R; clear R hmap
      go_wp2_with fail
      go_end0
      exact ⟨rfl, ⟨.slice A 0 cap, by cases A <;> rfl, HF.out.1⟩, HF.out.2⟩

/-! ### goDark -/

/-- The state when the first k loose sectors have been gone through. -/
def stTo (st : Dk.St) (k : Nat) : Dk.St := { st with is := Dk.dieTo st.is st.keep st.loose k }

theorem stTo_inv {st : Dk.St} (h : Dk.Inv st) (k : Nat) : Dk.Inv (stTo st k) := ⟨h.nodup, h.keys, fun j => Dk.dieTo_size h k j, h.few⟩

theorem stTo_keep {st : Dk.St} {k : Nat} (h : Dk.bit st.keep k = true) : stTo st (k + 1) = stTo st k := by
  unfold stTo; rw [Dk.dieTo_keep h]

theorem dark_and (keep k : Nat) (h : keep < 18446744073709551616) : bits .and .u64 ((keep : Int) / 2 ^ (k % 64)) 1 = ((keep / 2 ^ (k % 64) % 2 : Nat) : Int) := by
  have e : ((keep : Int) / 2 ^ (k % 64)) = ((keep / 2 ^ (k % 64) : Nat) : Int) := by simp
  have hle := Nat.div_le_self keep (2 ^ (k % 64))
  rw [e, show (1 : Int) = ((1 : Nat) : Int) from rfl, u64_and_nat _ _ (by omega) (by decide), nat_mask1]
theorem dark_one {keep k : Nat} (h : keep < 18446744073709551616) (hb : Dk.bit keep k = true) : bits .and .u64 ((keep : Int) / 2 ^ (k % 64)) 1 = 1 := by
  rw [dark_and _ _ h, of_decide_eq_true hb]; rfl
theorem dark_zero {keep k : Nat} (h : keep < 18446744073709551616) (hb : Dk.bit keep k = false) : bits .and .u64 ((keep : Int) / 2 ^ (k % 64)) 1 = 0 := by
  have := of_decide_eq_false hb
  have h2 : keep / 2 ^ (k % 64) % 2 = 0 := by omega
  rw [dark_and _ _ h, h2]; rfl

/-- A sector back to what lasted. -/
theorem dark_back [Keep] {w : World} {B g m n k : Nat} {st : Dk.St} {lv : Value} {tc tf : Int} {p : Nat × ByteArray} (h : DskAt w B g (stTo st k) m lv tc tf n) (hp : st.loose[k]? = some p) (h256 : p.1 < 256) (hb : Dk.bit st.keep k = false) (hi : Dk.Inv st) :
    DskAt (w.drew.setCell ⟨g, p.1, none⟩ (.string p.2)) B g (stTo st (k + 1)) m lv tc tf n ∧ Ch Td0 B w (w.drew.setCell ⟨g, p.1, none⟩ (.string p.2)) := by
  have e : stTo st (k + 1) = { stTo st k with is := Dk.up (stTo st k).is p.1 p.2 } := by
    unfold stTo
    rw [Dk.dieTo_back hp hb]
  have h1 : DskAt w.drew B g (stTo st k) m lv tc tf n := h.drew
  refine ⟨?_, ((Ch.refl _ _ _).drew).trans (h1.ch _ _)⟩
  have h2 := stTo_inv hi (k + 1)
  rw [e] at h2 ⊢
  exact h1.field (dk_set_sect h1.blk h256 p.2) rfl (Nat.le_refl _) h1.cuts h1.tcle h1.fails h1.tfle h1.keep h2

/-- What goDark's loop knows. -/
def DarkLoop [Keep] (w : World) (B g : Nat) (st : Dk.St) (m : Nat) (lv : Value) (tc tf : Int) (n : Nat) (v : Value) (wr : World) : Prop :=
  ∃ k : Nat, k ≤ st.loose.length ∧ v = .int .i64 (k : Int) ∧ DskAt wr B g (stTo st k) m lv tc tf n ∧ Ch Td0 B w wr

set_option maxHeartbeats 400000 in
theorem dark_any [Keep] (B g : Nat) (st : Dk.St) (m : Nat) (lv : Value) (tc tf : Int) (n : Nat) (w : World) (h : DskAt w B g st m lv tc tf n) (hm : st.many ≤ 1099511627776) :
    Calls Tryz.prog 51 #[.pointer (some ⟨g, 0, none⟩)] w fun e w' => e = .returned (.tuple #[]) ∧ (∃ lv', lv'.ownBlock = lv.ownBlock ∧ DskAt w' B g st.die m lv' tc tf n) ∧ Ch Td0 B w w' := by
  have hnd := Lib.hid h.inv.nodup
  have hky := Lib.hid h.inv.keys
  have hfew : st.loose.length ≤ 1099511627776 := Nat.le_trans h.inv.few hm
  have hst : DskAt w B g (stTo st 0) m lv tc tf n := h
  obtain ⟨A, cap, rfl, -⟩ := loose_row h.row
  obtain ⟨c0, c1, -⟩ := dk_cells h.blk
  simp only [rawOf] at c0 c1
  have HM := Lib.hid hm
  have HK := Lib.hid h.keep
  have HI := Lib.hid h.inv
  clear h hm
  go_enter Tryz.func51, Tryz.ntmps51
  go_wp2_with fail
  go_loopw [9] (DarkLoop w B g st m (.slice A st.loose.length cap) tc tf n) (fun v _ => st.loose.length - (intOf v).toNat)
  case atStart => exact ⟨0, Nat.zero_le _, rfl, hst, Ch.refl _ _ _⟩
  case round =>
    obtain ⟨k, hk, rfl, hD, hch⟩ := hrel
    by_cases hlt : k < st.loose.length
    · obtain ⟨p, hp⟩ : ∃ p, st.loose[k]? = some p := ⟨_, List.getElem?_eq_getElem hlt⟩
      have hp256 := (hky.out p (List.mem_of_getElem? hp)).1
      obtain ⟨A', cap', e, hrow, -⟩ := loose_row hD.row
      obtain ⟨b, cur, e2, hb, hc⟩ := hrow k p hp
      subst e2
      injection e with e3 e4 e5
      obtain ⟨d0, -, -, -, -, -, d6⟩ := dk_cells hD.blk
      simp only [rawOf, stTo] at d0 d6
      have hkp : (stTo st k).keep = st.keep := rfl
      have f0 := dk_frozen hD.blk p.1
      have s0 := dk_sect hD.blk hp256
      have hlook := (hD.map.drew).look hp256
      clear hkp hrow
      subst e3 e5
      clear e4 c0 c1
      have HP := Lib.hid hp; have HD := Lib.hid hD
      clear hp hb hD
      rw [show (stTo st k).loose = st.loose from rfl, Dk.was_at hnd.out HP.out] at hlook
      simp only [Option.getD_some] at hlook
      clear hst
      cases hbit : Dk.bit st.keep k with
      | true =>
        have hone := dark_one HK.out hbit
        have HE := Lib.hid (stTo_keep hbit); clear hbit
        go_wp2_with fail
        go_roundw
        case rel => exact ⟨k + 1, by omega, by go_num, by rw [HE.out]; exact HD.out, hch⟩
        case measure => simp [intOf]; omega
      | false =>
        have hzero := dark_zero HK.out hbit
        have HE := Lib.hid (dark_back HD.out HP.out hp256 hbit HI.out); clear hbit
        go_wp2_with fail
        go_region
        all_goals
          go_wp2_with fail
          go_roundw
          case rel => exact ⟨k + 1, by omega, by go_num, HE.out.1, hch.trans HE.out.2⟩
          case measure => simp [intOf]; omega
    · obtain rfl : k = st.loose.length := by omega
      have HD := Lib.hid hD
      clear hD hst c0 c1
      go_wp2_with fail
      refine (fasten_any B g _ m _ tc tf n wr HD.out HM.out).mono ?_
      rintro e w1 ⟨rfl, ⟨lv1, ho1, h1⟩, hch1⟩
      obtain ⟨-, -, d2, -⟩ := dk_cells h1.blk
      have f2 := dk_frozen h1.blk 258
      have R : DskAt (w1.setCell ⟨g, 258, none⟩ (.bool true)) B g st.die m lv1 tc tf n := h1.field (dk_set_off h1.blk true) rfl (Nat.le_refl _) h1.cuts h1.tcle h1.fails h1.tfle h1.keep HI.out.die
      have HF := Lib.hid (And.intro R ((hch.trans hch1).trans (h1.ch 258 (.bool true))))
      clear R h1 hch1
      go_wp2_with fail
      go_end0
      exact ⟨rfl, ⟨_, ho1.trans rfl, HF.out.1⟩, HF.out.2⟩

end Go.Proofs.YtimcepoleboldaaGreatDoor

/- What call comes to: a call is counted, and it is told what is to come of it. -/
namespace Go.Proofs.YtimcepoleboldaaGreatDoor
open Go.RowKit

theorem dec_nat {n : Int} {k : Nat} (h : n.toNat = k) : (decide (n = 1)) = decide (k = 1) := by
  by_cases e : k = 1
  · rw [decide_eq_true e, decide_eq_true (by omega)]
  · rw [decide_eq_false e, decide_eq_false (by omega)]

/-- What a number is behind due. -/
def less (n : Int) : Int := if n < 1 then n else n - 1
theorem less_nat {n : Int} {k : Nat} (h : n.toNat = k) : (less n).toNat = k - 1 := by unfold less; split <;> omega
theorem less_in {n : Int} (h : -9223372036854775808 ≤ n ∧ n ≤ 9223372036854775807) : -9223372036854775808 ≤ less n ∧ less n ≤ 9223372036854775807 := by unfold less; split <;> omega

/-- due, of the calls until the power goes. -/
theorem due_cut [Keep] {B g m n : Nat} {st : Dk.St} {lv : Value} {tc tf : Int} {w : World} (h : DskAt w B g st m lv tc tf n) :
    Calls Tryz.prog 82 #[.pointer (some ⟨g, 260, none⟩)] w fun e w' => e = .returned (.bool (decide (st.cuts = 1))) ∧ DskAt w' B g { st with cuts := st.cuts - 1 } m lv (less tc) tf n ∧ Ch Td0 B w w' := by
  obtain ⟨-, -, -, -, c, -⟩ := dk_cells h.blk
  refine (due_any ⟨g, 260, none⟩ tc w c (dk_frozen h.blk 260) h.tcle).mono ?_
  rintro e w' ⟨rfl, rfl⟩
  have hi : Dk.Inv { st with cuts := st.cuts - 1 } := ⟨h.inv.nodup, h.inv.keys, h.inv.texts, h.inv.few⟩
  refine ⟨by rw [dec_nat h.cuts], ?_⟩
  by_cases hn : tc < 1
  · rw [if_pos hn, show less tc = tc from if_pos hn]
    exact ⟨{ h with cuts := by show tc.toNat = st.cuts - 1; have := h.cuts; omega, inv := hi }, Ch.refl _ _ _⟩
  · rw [if_neg hn, show less tc = tc - 1 from if_neg hn]
    have hl := less_in h.tcle
    rw [show less tc = tc - 1 from if_neg hn] at hl
    exact ⟨h.field (dk_set_tc h.blk (tc - 1)) rfl (Nat.le_refl _) (by show (tc - 1).toNat = st.cuts - 1; have := h.cuts; omega) hl h.fails h.tfle h.keep hi, h.ch _ _⟩

/-- due, of the calls until one fails. -/
theorem due_fail [Keep] {B g m n : Nat} {st : Dk.St} {lv : Value} {tc tf : Int} {w : World} (h : DskAt w B g st m lv tc tf n) :
    Calls Tryz.prog 82 #[.pointer (some ⟨g, 261, none⟩)] w fun e w' => e = .returned (.bool (decide (st.fails = 1))) ∧ DskAt w' B g { st with fails := st.fails - 1 } m lv tc (less tf) n ∧ Ch Td0 B w w' := by
  obtain ⟨-, -, -, -, -, c, -⟩ := dk_cells h.blk
  refine (due_any ⟨g, 261, none⟩ tf w c (dk_frozen h.blk 261) h.tfle).mono ?_
  rintro e w' ⟨rfl, rfl⟩
  have hi : Dk.Inv { st with fails := st.fails - 1 } := ⟨h.inv.nodup, h.inv.keys, h.inv.texts, h.inv.few⟩
  refine ⟨by rw [dec_nat h.fails], ?_⟩
  by_cases hn : tf < 1
  · rw [if_pos hn, show less tf = tf from if_pos hn]
    exact ⟨{ h with fails := by show tf.toNat = st.fails - 1; have := h.fails; omega, inv := hi }, Ch.refl _ _ _⟩
  · rw [if_neg hn, show less tf = tf - 1 from if_neg hn]
    have hl := less_in h.tfle
    rw [show less tf = tf - 1 from if_neg hn] at hl
    exact ⟨h.field (dk_set_tf h.blk (tf - 1)) rfl (Nat.le_refl _) h.cuts h.tcle (by show (tf - 1).toNat = st.fails - 1; have := h.fails; omega) hl h.keep hi, h.ch _ _⟩

def CallPost [Keep] (B g : Nat) (st : Dk.St) (m : Nat) (lv : Value) (tc tf : Int) (n : Nat) (w : World) (e : Ending) (w' : World) : Prop :=
  e = .returned (.int .i64 st.due) ∧ DskAt w' B g st.tick m lv (less tc) (less tf) n ∧ Ch Td0 B w w'

set_option maxHeartbeats 400000 in
theorem call_any [Keep] (B g : Nat) (st : Dk.St) (m : Nat) (lv : Value) (tc tf : Int) (n : Nat) (w : World) (h : DskAt w B g st m lv tc tf n) (hm : st.many ≤ 1099511627776) :
    Calls Tryz.prog 49 #[.pointer (some ⟨g, 0, none⟩)] w (CallPost B g st m lv tc tf n w) := by
  obtain ⟨-, -, -, c0, -⟩ := dk_cells h.blk
  have f0 := dk_frozen h.blk 259
  simp only [rawOf] at c0
  have hi1 : Dk.Inv { st with many := st.many + 1 } := ⟨h.inv.nodup, h.inv.keys, h.inv.texts, Nat.le_succ_of_le h.inv.few⟩
  have R1 : DskAt (w.setCell ⟨g, 259, none⟩ (.int .i64 ((st.many : Int) + 1))) B g { st with many := st.many + 1 } m lv tc tf n :=
    h.field (by have := dk_set_many h.blk ((st.many : Int) + 1); exact this) rfl (Nat.le_refl _) h.cuts h.tcle h.fails h.tfle h.keep hi1
  have R2 := h.ch 259 (.int .i64 ((st.many : Int) + 1))
  clear h hi1
  have HR1 := Lib.hid R1
  have HR2 := Lib.hid R2
  clear R1 R2
  go_enter Tryz.func49, Tryz.ntmps49
  go_wp2_with fail
  generalize w.setCell ⟨g, 259, none⟩ (.int .i64 ((st.many : Int) + 1)) = w1 at *
  have h1 := HR1.out
  go_region_with (first
    | (go_at_call 82; (with_reducible refine (due_cut h1.drew).mono ?_); rintro e w2 ⟨rfl, h2, hc2⟩)
    | (go_at_call 82; (with_reducible refine (due_fail h2).mono ?_); rintro e w3 ⟨rfl, h3, hc3⟩))
  have HF := Lib.hid (And.intro h3 (((HR2.out.drew).trans hc2).trans hc3))
  clear h1 h2 h3 hc2 hc3
  by_cases hc : st.cuts = 1
  · have hd := Lib.hid (show st.due = 33 from if_pos hc)
    go_wp2_with fail
    go_ret
    exact ⟨by rw [hd.out]; rfl, HF.out⟩
  · by_cases hf : st.fails = 1
    · have hd := Lib.hid (show st.due = 32 by unfold Dk.St.due; rw [if_neg hc, if_pos hf])
      go_wp2_with fail
      go_ret
      exact ⟨by rw [hd.out]; rfl, HF.out⟩
    · have hd := Lib.hid (show st.due = 0 by unfold Dk.St.due; rw [if_neg hc, if_neg hf])
      go_wp2_with fail
      go_ret
      exact ⟨by rw [hd.out]; rfl, HF.out⟩

end Go.Proofs.YtimcepoleboldaaGreatDoor

/- What put comes to: a sector has its text, and is loose. -/
namespace Go.Proofs.YtimcepoleboldaaGreatDoor
open Go.RowKit

theorem info_int : (Tryz.prog.info? 3).map (fun i => (i.zero, i.size, i.bytes)) = some (some (.int .i64 0), 1, 8) := by kernel_rfl
theorem cell_one_new (w : World) (x : Value) (t : TypeId) : ∀ j u, [x][j]? = some u → (w.alloc (.cells #[x] t)).cell? ((⟨w.heap.size, 0, none⟩ : Addr).add j) = some u := by
  intro j u hj
  have hj0 : j = 0 := by
    have := (List.getElem?_eq_some_iff.1 hj).1
    simpa using this
  subst hj0
  simp at hj
  subst hj
  exact (Blk.new w t #[x]).cell 0
theorem one_int (x : Int) : ∀ u ∈ [Value.int .i64 x], u.oneCell' = true := by
  intro u hu; simp at hu; subst hu; rfl
theorem room_max_int (k : Nat) (h : k ≤ 1099511627776) : k + 1 ≤ maxLen := by unfold maxLen; omega
theorem room_bytes_int (k : Nat) (h : k ≤ 1099511627776) : (k + 1) * 8 ≤ 140737488355328 := by omega
theorem base_alloc {B : Nat} {w : World} (h : B ≤ w.heap.size) (o : Obj) : B ≤ (w.alloc o).heap.size := by
  show B ≤ (w.heap.push o).size
  rw [Array.size_push]; omega

section
variable {w w1 w2 : World} {B g m n i : Nat} {st : Dk.St} {lv v : Value} {tc tf : Int} {s : ByteArray} {o : Obj}
theorem put_w1 [Keep] (h : DskAt w B g st m lv tc tf n) (hg : w.drew.grownBy w1 (some m)) : Blk w1 g 81 (rawOf st m lv tc tf).cells ∧ w1.ownsRow B 3 1 lv st.loose.length (ints st.loose) ∧ B ≤ w1.heap.size :=
  ⟨h.blk.drew.grown hg (by intro e; injection e with e; exact h.map.ne h.blk e.symm), World.ownsRow.kept (w := w.drew) h.row hg (row_apart_map (w := w.drew) h.row h.map.drew), by have := hg.size; have h2 := h.blk.lt; have h3 := h.atg; simp at this; omega⟩
theorem put_w2 [Keep] (h : DskAt w B g st m lv tc tf n) (hg : w.drew.grownBy w1 (some m)) (hg2 : (w1.alloc o).grownBy w2 lv.ownBlock) : Blk w2 g 81 (rawOf st m lv tc tf).cells := by
  obtain ⟨h1, h2, _⟩ := put_w1 h hg
  refine (h1.alloc o).grown hg2 ?_
  rcases row_apart h2 h1 (by decide) with e | e
  · rw [e]; simp
  · exact fun e2 => e e2.symm
theorem put_more [K : Keep] (h : DskAt w B g st m lv tc tf n) (hi : i < 256) (hs : s.size ≤ 128) (hw : Dk.was st.loose i = none) (hf : st.loose.length < st.many) (hmap : MapIs w1 m (n + 1) (st.loose ++ [(i, st.is i)])) (hg : w.drew.grownBy w1 (some m))
    (hown : w2.ownsRow B 3 1 v (st.loose.length + 1) (ints st.loose ++ [.int .i64 (i : Int)])) (hg2 : (w1.alloc o).grownBy w2 lv.ownBlock) (hv : v.ownBlock = lv.ownBlock ∨ ∃ k, v.ownBlock = some k ∧ (w1.alloc o).heap.size ≤ k) :
    DskAt ((w2.setCell ⟨g, 257, none⟩ v).setCell ⟨g, i, none⟩ (.string s)) B g (st.put i s) m v tc tf (n + 1) ∧ Ch Td B w ((w2.setCell ⟨g, 257, none⟩ v).setCell ⟨g, i, none⟩ (.string s)) := by
  obtain ⟨h1, h2, _⟩ := put_w1 h hg
  have h3 := put_w2 h hg hg2
  have hb := dk_set_lv h3 v
  have hb2 := dk_set_sect hb hi s
  have s1 := Lib.grownBy_setCell w2 g 257 v
  have s2 := Lib.grownBy_setCell (w2.setCell ⟨g, 257, none⟩ v) g i (.string s)
  have hm2 : MapIs w2 m (n + 1) (st.loose ++ [(i, st.is i)]) := by
    have hma : MapIs (w1.alloc o) m (n + 1) (st.loose ++ [(i, st.is i)]) := hmap.grown (World.grownBy_alloc w1 o none) (by simp)
    refine hma.grown hg2 ?_
    rcases row_apart_map h2 hmap with e | e
    · rw [e]; simp
    · exact fun e2 => e e2.symm
  have e1 : (st.put i s).loose = st.loose ++ [(i, st.is i)] := if_pos hw
  have e2 : (st.put i s).loose.length = st.loose.length + 1 := by rw [e1]; simp
  have e3 : ints (st.put i s).loose = ints st.loose ++ [.int .i64 (i : Int)] := by rw [e1]; simp [ints]
  refine ⟨{ blk := hb2
            map := by rw [e1]; exact (hm2.grown s1 (by intro e; injection e with e; exact hm2.ne h3 e)).grown s2 (by intro e; injection e with e; exact hm2.ne h3 e)
            row := by
              rw [e2, e3]
              have r1 := hown.kept s1 (row_apart hown h3 (by decide))
              exact r1.kept s2 (row_apart r1 hb (by decide))
            atg := h.atg
            atm := h.atm
            cuts := h.cuts
            tcle := h.tcle
            fails := h.fails
            tfle := h.tfle
            keep := h.keep
            inv := h.inv.put hf hi hs
            free := fun k hk => by
              have f := h.free k hk
              have hs := hg.size
              have hs2 := hg2.size
              have hsz : (w1.alloc o).heap.size = w1.heap.size + 1 := by simp
              have hw : w.drew.heap.size = w.heap.size := rfl
              refine ⟨by simp only [World.setCell, Array.size_modify]; omega, f.2.1, f.2.2.1, fun e => ?_⟩
              rcases hv with e2 | ⟨k', e2, h2⟩
              · exact f.2.2.2 (e2 ▸ e)
              · rw [e2] at e; injection e with e; omega
            }, ?_⟩
  obtain ⟨es, c, e⟩ := h.map.block
  have c1 : Ch Td B w w1 := (Ch.refl _ _ _).drew.trans (Ch.of_grownK hg (fun k hk => by injection hk with hk; subst hk; exact ⟨h.atm, fun hk => (h.free _ hk).2.2.1 rfl, _, e, rfl⟩))
  have c2 : Ch Td B (w1.alloc o) w2 := ch_of_appendK (h2.alloc o) hg2 (fun g' e hk => (h.free g' hk).2.2.2 e) (fun _ => rfl)
  have ng : ¬ K.p g := fun hk => (h.free g hk).2.1 rfl
  exact (((c1.alloc o).trans c2).trans (Ch.setK h3 h.atg ng rfl 257 v)).trans (Ch.setK hb h.atg ng rfl i _)
theorem put_lvs [K : Keep] (h : DskAt w B g st m lv tc tf n) (hg : w.drew.grownBy w1 (some m)) (hg2 : (w1.alloc o).grownBy w2 lv.ownBlock) (hv : v.ownBlock = lv.ownBlock ∨ ∃ k, v.ownBlock = some k ∧ (w1.alloc o).heap.size ≤ k) :
    Lvs w lv ((w2.setCell ⟨g, 257, none⟩ v).setCell ⟨g, i, none⟩ (.string s)) v := by
  obtain ⟨es, c, e⟩ := h.map.block
  have h3 := put_w2 h hg hg2
  have l1 : Lvs w lv w1 lv := Lvs.of_ch (T := Td0) ((Ch.refl _ B _).drew.trans (Ch.of_grownK hg (fun k hk => by injection hk with hk; subst hk; exact ⟨h.atm, fun hk => (h.free _ hk).2.2.1 rfl, _, e, rfl⟩))) td0_int rfl
  have l2 : Lvs w1 lv (w1.alloc o) lv := Lvs.of_ch (T := Td0) (B := B) ((Ch.refl _ B _).alloc o) td0_int rfl
  have l3 : Lvs (w1.alloc o) lv w2 v := ⟨hg2.size, fun k hk => by
      rcases hv with h1 | ⟨k', h1, h2⟩
      · exact .inl (h1 ▸ hk)
      · rw [h1] at hk; injection hk with hk; exact .inr (hk ▸ h2),
    fun k cs z hne ho => (hg2.block k (lt_of_at ho) (fun e => hne e.symm)).trans ho⟩
  have l4 : Lvs w2 v ((w2.setCell ⟨g, 257, none⟩ v).setCell ⟨g, i, none⟩ (.string s)) v :=
    Lvs.of_ch (T := Td0) (B := B) ((Ch.set h3 h.atg rfl 257 v).trans (Ch.set (dk_set_lv h3 v) h.atg rfl i _)) td0_int rfl
  exact ((l1.trans l2).trans l3).trans l4
theorem put_same [Keep] (h : DskAt w B g st m lv tc tf n) (hi : i < 256) (hs : s.size ≤ 128) (hw : Dk.was st.loose i ≠ none) (hf : st.loose.length < st.many) :
    DskAt (w.setCell ⟨g, i, none⟩ (.string s)) B g (st.put i s) m lv tc tf (n + 1) :=
  h.field (dk_set_sect h.blk hi s) (if_neg hw) (Nat.le_succ _) h.cuts h.tcle h.fails h.tfle h.keep (h.inv.put hf hi hs)
end

def PutPost [Keep] (B g : Nat) (st : Dk.St) (m : Nat) (lv : Value) (tc tf : Int) (n : Nat) (w : World) (e : Ending) (w' : World) : Prop :=
  e = .returned (.tuple #[]) ∧ (∃ lv', DskAt w' B g st m lv' tc tf n ∧ Lvs w lv w' lv') ∧ Ch Td B w w'

set_option maxRecDepth 20000 in
set_option maxHeartbeats 400000 in
theorem dput_any [Keep] (B g : Nat) (st : Dk.St) (m : Nat) (lv : Value) (tc tf : Int) (n i : Nat) (s : ByteArray) (w : World) (h : DskAt w B g st m lv tc tf n) (hi : i < 256) (hs : s.size ≤ 128) (hf : st.loose.length < st.many) (hm : st.many ≤ 1099511627776) (hn : n ≤ 1099511627776) :
    Calls Tryz.prog 50 #[.pointer (some ⟨g, 0, none⟩), .int .i64 (i : Int), .string s] w (PutPost B g (st.put i s) m lv tc tf (n + 1) w) := by
  obtain ⟨i0, hin, hz0, hz1, hz2⟩ := info_parts info_int
  obtain ⟨c0, c1, -⟩ := dk_cells h.blk
  have s0 := dk_sect h.blk hi
  have f0 := dk_frozen h.blk i
  simp only [rawOf] at c0 c1 s0
  have hlook := h.map.look_ok hi
  cases hw : Dk.was st.loose i with
  | some x =>
    rw [hw] at hlook
    simp only [Option.getD_some, Option.isSome_some] at hlook
    have HF := Lib.hid (And.intro (put_same (s := s) h hi hs (by rw [hw]; simp) hf) (h.ch i (.string s)))
    clear h hw hf hn hm
    go_enter Tryz.func50, Tryz.ntmps50
    go_wp2_with fail
    go_end0
    exact ⟨rfl, ⟨_, HF.out.1, Lvs.of_ch HF.out.2 td0_int rfl⟩, HF.out.2.d⟩
  | none =>
    rw [hw] at hlook
    simp only [Option.getD_none, Option.isSome_none] at hlook
    obtain ⟨w1, hrun, hmap, hg1⟩ := h.map.drew.put (by unfold maxLen; omega) hi hw (h.inv.texts i)
    have hlen : st.loose.length ≤ 1099511627776 := by omega
    have HW := Lib.hid hw
    have HM := Lib.hid hmap
    have HD := Lib.hid h
    have HG := Lib.hid hg1
    have HI := Lib.hid hf
    clear h hw hf hn hm hmap hg1
    go_enter Tryz.func50, Tryz.ntmps50
    go_wp2_with fail
    go_region
    clear c0 s0 f0 hlook hrun c1
    obtain ⟨hb1, hr1, hB1⟩ := put_w1 HD.out HG.out
    obtain ⟨-, c1, -⟩ := dk_cells hb1
    simp only [rawOf] at c1
    clear hb1
    go_wp2_with (at_builtin; refine wpList_append_lies _ rfl _ _ 79 rfl B 3 i0 (.int .i64 0) 1 8 Tryz.underlying79 hin hz0 hz1 hz2 rfl (by decide) lv st.loose.length _ rfl (hr1.alloc _) ⟨w1.heap.size, 0, none⟩ 1 1 [.int .i64 (i : Int)] rfl rfl (cell_one_new w1 _ 3) (one_int _) (by decide) (room_max_int _ hlen) (room_bytes_int _ hlen) (base_alloc hB1 _) _ rfl ?_; intro b2 cap2 w2 hown2 hgrow2 hx2 hy2; have hb2 := put_w2 HD.out HG.out hgrow2; obtain ⟨-, d1, -⟩ := dk_cells hb2; have g1 := dk_frozen hb2 257; have g2 := dk_frozen hb2 i; have d2 := dk_sect hb2 hi; simp only [rawOf] at d1 d2; have HO := Lib.hid hown2; have HG2 := Lib.hid hgrow2; have HX2 := Lib.hid hx2; clear hown2 hgrow2 hb2 hx2 hy2)
    go_end0
    have HV := HX2.out.imp (fun e => e.symm) (fun e => (⟨b2, rfl, Nat.le_of_eq e.symm⟩ : ∃ k, (Value.slice (some ⟨b2, 0, none⟩) (st.loose.length + 1) cap2).ownBlock = some k ∧ (w1.alloc (.cells #[.int .i64 (i : Int)] 3)).heap.size ≤ k))
    have R := put_more (s := s) HD.out hi hs HW.out HI.out HM.out HG.out HO.out HG2.out HV
    exact ⟨rfl, ⟨_, R.1, put_lvs HD.out HG.out HG2.out HV⟩, R.2⟩

end Go.Proofs.YtimcepoleboldaaGreatDoor

/- What Write, Barrier and New come to, the program's. -/
namespace Go.Proofs.YtimcepoleboldaaGreatDoor
open Go.RowKit

/-- A disk, with blocks of numbers that are none of its own. -/
def DskP [Keep] (P : Nat → Prop) (w : World) (B g : Nat) (st : Dk.St) : Prop := ∃ m lv tc tf n, DskAt w B g st m lv tc tf n ∧ n ≤ st.many ∧ ∀ k, P k → k < w.heap.size ∧ lv.ownBlock ≠ some k
/-- These are as they were. -/
def SameI (P : Nat → Prop) (w w' : World) : Prop := ∀ k, P k → ∀ cs z, w.heap[k]? = some (.cells cs 3 z) → w'.heap[k]? = some (.cells cs 3 z)

theorem DskP.dsk [Keep] {P : Nat → Prop} {w : World} {B g : Nat} {st : Dk.St} (h : DskP P w B g st) : Dsk w B g st := by
  obtain ⟨m, lv, tc, tf, n, h, hn, _⟩ := h
  exact ⟨m, lv, tc, tf, n, h, hn⟩
theorem Dsk.free [Keep] {w : World} {B g : Nat} {st : Dk.St} (h : Dsk w B g st) : DskP (fun _ => False) w B g st := by
  obtain ⟨m, lv, tc, tf, n, h, hn⟩ := h
  exact ⟨m, lv, tc, tf, n, h, hn, fun _ hk => hk.elim⟩
theorem SameI.refl (P : Nat → Prop) (w : World) : SameI P w w := fun _ _ _ _ h => h
theorem SameI.trans {P : Nat → Prop} {a b c : World} (h : SameI P a b) (k : SameI P b c) : SameI P a c := fun i hi cs z ho => k i hi cs z (h i hi cs z ho)
theorem SameI.blk {P : Nat → Prop} {w w' : World} {k : Nat} {cs : Array Value} (h : SameI P w w') (hk : P k) (hb : Blk w k 3 cs) : Blk w' k 3 cs := h k hk cs _ hb
/-- Blocks that aren't the disk's, of what is new. -/
theorem DskP.with_new [Keep] {P : Nat → Prop} {w w' : World} {B g : Nat} {st : Dk.St} (h : DskP P w B g st) (hb : Below w.heap.size w w') : DskP (fun k => P k ∨ w.heap.size ≤ k ∧ k < w'.heap.size) w' B g st := by
  obtain ⟨m, lv, tc, tf, n, h, hn, hp⟩ := h
  have hc : Ch (fun _ => false) 0 w w' := Ch.of_below hb
  refine ⟨m, lv, tc, tf, n, h.kept hc (fun _ => rfl) (fun _ _ => rfl) (fun _ => rfl), hn, fun k hk => ?_⟩
  rcases hk with hk | ⟨h1, h2⟩
  · exact ⟨Nat.lt_of_lt_of_le (hp k hk).1 hb.size, (hp k hk).2⟩
  · refine ⟨h2, fun e => ?_⟩
    rcases h.row.2 with ⟨rfl, _⟩ | ⟨b, cap, cur, rfl, _, hh, _⟩
    · cases e
    · simp [Value.ownBlock] at e
      have := lt_of_at hh
      omega
theorem DskP.kept {K K' : Keep} {P : Nat → Prop} {w w' : World} {B g : Nat} {st : Dk.St} {T : Obj → Bool} {B' : Nat} (h : @DskP K P w B g st) (hc : @Ch K' T B' w w') (h1 : ∀ cs, T (.cells cs 81 (0, 0)) = false) (h2 : ∀ es c, T (.map es c) = false) (h3 : ∀ cs, T (.cells cs 3 (0, 0)) = false) : @DskP K P w' B g st := by
  obtain ⟨m, lv, tc, tf, n, h, hn, hp⟩ := h
  exact ⟨m, lv, tc, tf, n, h.kept hc h1 h2 h3, hn, fun k hk => ⟨Nat.lt_of_lt_of_le (hp k hk).1 hc.size, (hp k hk).2⟩⟩
theorem DskP.less [Keep] {P R : Nat → Prop} {w : World} {B g : Nat} {st : Dk.St} (h : DskP P w B g st) (hr : ∀ k, R k → P k) : DskP R w B g st := by
  obtain ⟨m, lv, tc, tf, n, h, hn, hp⟩ := h
  exact ⟨m, lv, tc, tf, n, h, hn, fun k hk => hp k (hr k hk)⟩

/-- What a call leaves of the disk: where its row of loose sectors is, too. -/
def AtPost [Keep] (B g : Nat) (E : Int) (st' : Dk.St) (lv : Value) (w : World) (e : Ending) (w' : World) : Prop :=
  e = .returned (.int .i64 E) ∧ (∃ m lv' tc tf n, DskAt w' B g st' m lv' tc tf n ∧ n ≤ st'.many ∧ Lvs w lv w' lv') ∧ Ch Td B w w'
def InPost [Keep] (P : Nat → Prop) (B g : Nat) (E : Int) (st' : Dk.St) (w : World) (e : Ending) (w' : World) : Prop :=
  e = .returned (.int .i64 E) ∧ DskP P w' B g st' ∧ SameI P w w' ∧ Ch Td B w w'
theorem AtPost.into [Keep] {P : Nat → Prop} {B g : Nat} {E : Int} {st' : Dk.St} {lv : Value} {w w' : World} {e : Ending} (h : AtPost B g E st' lv w e w') (hp : ∀ k, P k → k < w.heap.size ∧ lv.ownBlock ≠ some k) : InPost P B g E st' w e w' := by
  obtain ⟨he, ⟨m, lv', tc, tf, n, h1, h2, h3⟩, hc⟩ := h
  refine ⟨he, ⟨m, lv', tc, tf, n, h1, h2, fun k hk => ⟨Nat.lt_of_lt_of_le (hp k hk).1 hc.size, fun e => ?_⟩⟩, fun k hk cs z ho => h3.block k cs z (hp k hk).2 ho, hc⟩
  rcases h3.own k e with h4 | h4
  · exact (hp k hk).2 h4
  · have := (hp k hk).1
    omega

def WritePost [Keep] (B g : Nat) (st : Dk.St) (i : Int) (s : ByteArray) (w : World) (e : Ending) (w' : World) : Prop :=
  e = .returned (.int .i64 (st.writeE i s)) ∧ Dsk w' B g (st.write i s) ∧ Ch Td B w w'

theorem write_bars {st : Dk.St} {i : Int} {s : ByteArray} (h : st.bars i s ≠ 0) : st.writeE i s = st.bars i s ∧ st.write i s = st := by
  unfold Dk.St.writeE Dk.St.write
  rw [if_pos h, if_pos h]
  exact ⟨rfl, rfl⟩
theorem write_cut {st : Dk.St} {i : Int} {s : ByteArray} (h : st.bars i s = 0) (hd : st.due = 33) : st.writeE i s = 33 ∧ st.write i s = (st.tick.put i.toNat s).die := by
  unfold Dk.St.writeE Dk.St.write
  rw [if_neg (by simp [h]), if_neg (by simp [h]), if_pos hd]
  exact ⟨hd, rfl⟩
theorem write_fail {st : Dk.St} {i : Int} {s : ByteArray} (h : st.bars i s = 0) (hd : st.due = 32) : st.writeE i s = 32 ∧ st.write i s = st.tick := by
  unfold Dk.St.writeE Dk.St.write
  rw [if_neg (by simp [h]), if_neg (by simp [h]), if_neg (by rw [hd]; decide), if_pos hd]
  exact ⟨hd, rfl⟩
theorem write_ok {st : Dk.St} {i : Int} {s : ByteArray} (h : st.bars i s = 0) (hd : st.due = 0) : st.writeE i s = 0 ∧ st.write i s = st.tick.put i.toNat s := by
  unfold Dk.St.writeE Dk.St.write
  rw [if_neg (by simp [h]), if_neg (by simp [h]), if_neg (by rw [hd]; decide), if_neg (by rw [hd]; decide)]
  exact ⟨hd, rfl⟩
theorem due_three (st : Dk.St) : st.due = 33 ∨ st.due = 32 ∨ st.due = 0 := by
  unfold Dk.St.due
  split
  · exact .inl rfl
  · split
    · exact .inr (.inl rfl)
    · exact .inr (.inr rfl)

set_option maxRecDepth 20000 in
set_option maxHeartbeats 400000 in
theorem write_at [Keep] (B g : Nat) (st : Dk.St) (m : Nat) (lv : Value) (tc tf : Int) (n : Nat) (i : Int) (s : ByteArray) (w : World) (h : DskAt w B g st m lv tc tf n) (hn : n ≤ st.many) (hm : st.many ≤ 1073741824) :
    Calls Tryz.prog 20 #[.pointer (some ⟨g, 0, none⟩), .int .i64 i, .string s] w (AtPost B g (st.writeE i s) (st.write i s) lv w) := by
  have HR := Lib.hid (reach_any B g st i w ⟨m, lv, tc, tf, n, h, hn⟩)
  have HN0 := Lib.hid hn
  by_cases hr : st.reach i = 0
  · by_cases hs : 128 < s.size
    · have hb : st.bars i s = 31 := by unfold Dk.St.bars; rw [if_neg (by simp [hr]), if_pos hs]
      have HB := Lib.hid (write_bars (st := st) (i := i) (s := s) (by rw [hb]; decide))
      have HD := Lib.hid h
      have HBB := Lib.hid hb
      have HRR := Lib.hid hr
      clear h hb hr hn
      go_enter Tryz.func20, Tryz.ntmps20
      go_wp2_with fail
      refine HR.out.mono ?_
      rintro e w1 ⟨rfl, rfl⟩
      rw [HRR.out]
      go_wp2_with fail
      go_ret
      exact ⟨by rw [HB.out.1, HBB.out]; rfl, by rw [HB.out.2]; exact ⟨m, lv, tc, tf, n, HD.out, HN0.out, Lvs.refl _ _⟩, Ch.refl _ _ _⟩
    · have hb : st.bars i s = 0 := by unfold Dk.St.bars; rw [if_neg (by simp [hr]), if_neg hs]
      obtain ⟨-, h0, h1, h2⟩ := Dk.bars_ok hb
      obtain ⟨k, rfl⟩ : ∃ k : Nat, i = (k : Int) := ⟨i.toNat, by omega⟩
      have hk : k < 256 := by omega
      have HC := Lib.hid (call_any B g st m lv tc tf n w h (by omega))
      have hfew := h.inv.few
      have hf1 : st.tick.loose.length < st.tick.many := by show st.loose.length < st.many + 1; omega
      have hm1 : st.tick.many ≤ 1099511627776 := by show st.many + 1 ≤ 1099511627776; omega
      have hm2 : (st.tick.put k s).many ≤ 1099511627776 := hm1
      have hn1 : n ≤ 1099511627776 := by omega
      have HN := Lib.hid hn
      have HRR := Lib.hid hr
      clear h hr hfew hm hn
      rcases due_three st with hd | hd | hd
      · have HB := Lib.hid (write_cut hb hd)
        have HDU := Lib.hid hd
        clear hb hd
        go_enter Tryz.func20, Tryz.ntmps20
        go_wp2_with fail
        refine HR.out.mono ?_
        rintro e w1 ⟨rfl, rfl⟩
        rw [HRR.out]
        go_wp2_with fail
        refine HC.out.mono ?_
        rintro e w1 ⟨rfl, h1, hc1⟩
        rw [HDU.out]
        go_wp2_with fail
        refine (dput_any B g _ m lv _ _ n k s w1 h1 hk (by omega) hf1 hm1 hn1).mono ?_
        rintro e w2 ⟨rfl, ⟨lv2, h2, l2⟩, hc2⟩
        go_wp2_with fail
        refine (dark_any B g _ m lv2 _ _ (n + 1) w2 h2 hm2).mono ?_
        rintro e w3 ⟨rfl, ⟨lv3, o3, h3⟩, hc3⟩
        go_wp2_with fail
        go_ret
        exact ⟨by rw [HB.out.1]; rfl, by rw [HB.out.2]; exact ⟨m, lv3, _, _, n + 1, h3, Nat.succ_le_succ HN.out, ((Lvs.of_ch hc1 td0_int rfl).trans l2).trans (Lvs.of_ch hc3 td0_int o3)⟩, (hc1.d.trans hc2).trans hc3.d⟩
      · have HB := Lib.hid (write_fail hb hd)
        have HDU := Lib.hid hd
        clear hb hd
        go_enter Tryz.func20, Tryz.ntmps20
        go_wp2_with fail
        refine HR.out.mono ?_
        rintro e w1 ⟨rfl, rfl⟩
        rw [HRR.out]
        go_wp2_with fail
        refine HC.out.mono ?_
        rintro e w1 ⟨rfl, h1, hc1⟩
        rw [HDU.out]
        go_wp2_with fail
        go_ret
        exact ⟨by rw [HB.out.1]; rfl, by rw [HB.out.2]; exact ⟨m, lv, _, _, n, h1, Nat.le_succ_of_le HN.out, Lvs.of_ch hc1 td0_int rfl⟩, hc1.d⟩
      · have HB := Lib.hid (write_ok hb hd)
        have HDU := Lib.hid hd
        clear hb hd
        go_enter Tryz.func20, Tryz.ntmps20
        go_wp2_with fail
        refine HR.out.mono ?_
        rintro e w1 ⟨rfl, rfl⟩
        rw [HRR.out]
        go_wp2_with fail
        refine HC.out.mono ?_
        rintro e w1 ⟨rfl, h1, hc1⟩
        rw [HDU.out]
        go_wp2_with fail
        refine (dput_any B g _ m lv _ _ n k s w1 h1 hk (by omega) hf1 hm1 hn1).mono ?_
        rintro e w2 ⟨rfl, ⟨lv2, h2, l2⟩, hc2⟩
        go_wp2_with fail
        go_ret
        exact ⟨by rw [HB.out.1]; rfl, by rw [HB.out.2]; exact ⟨m, lv2, _, _, n + 1, h2, Nat.succ_le_succ HN.out, (Lvs.of_ch hc1 td0_int rfl).trans l2⟩, hc1.d.trans hc2⟩
  · have hb : st.bars i s = st.reach i := by unfold Dk.St.bars; rw [if_pos hr]
    have HB := Lib.hid (write_bars (st := st) (i := i) (s := s) (by rw [hb]; exact hr))
    rw [hb] at HB
    have HD := Lib.hid h
    clear h hb hn
    have HRR := Lib.hid hr
    clear hr
    generalize st.reach i = x at *
    have hx := HRR.out
    go_enter Tryz.func20, Tryz.ntmps20
    go_wp2_with fail
    refine HR.out.mono ?_
    rintro e w1 ⟨rfl, rfl⟩
    go_wp2_with fail
    go_ret
    exact ⟨by rw [HB.out.1]; rfl, by rw [HB.out.2]; exact ⟨m, lv, tc, tf, n, HD.out, HN0.out, Lvs.refl _ _⟩, Ch.refl _ _ _⟩

theorem write_in [Keep] (P : Nat → Prop) (B g : Nat) (st : Dk.St) (i : Int) (s : ByteArray) (w : World) (h : DskP P w B g st) (hm : st.many ≤ 1073741824) :
    Calls Tryz.prog 20 #[.pointer (some ⟨g, 0, none⟩), .int .i64 i, .string s] w (InPost P B g (st.writeE i s) (st.write i s) w) := by
  obtain ⟨m, lv, tc, tf, n, h, hn, hp⟩ := h
  exact (write_at B g st m lv tc tf n i s w h hn hm).mono fun _ _ h => h.into hp
theorem write_any [Keep] (B g : Nat) (st : Dk.St) (i : Int) (s : ByteArray) (w : World) (h : Dsk w B g st) (hm : st.many ≤ 1073741824) :
    Calls Tryz.prog 20 #[.pointer (some ⟨g, 0, none⟩), .int .i64 i, .string s] w (WritePost B g st i s w) :=
  (write_in _ B g st i s w h.free hm).mono fun _ _ h => ⟨h.1, h.2.1.dsk, h.2.2.2⟩

def BarrierPost [Keep] (B g : Nat) (st : Dk.St) (w : World) (e : Ending) (w' : World) : Prop :=
  e = .returned (.int .i64 st.barrierE) ∧ Dsk w' B g st.barrier ∧ Ch Td B w w'

theorem barrier_off {st : Dk.St} (h : st.off = true) : st.barrierE = 33 ∧ st.barrier = st := by
  unfold Dk.St.barrierE Dk.St.barrier
  rw [if_pos h, if_pos h]
  exact ⟨rfl, rfl⟩
theorem barrier_cut {st : Dk.St} (h : st.off = false) (hd : st.due = 33) : st.barrierE = 33 ∧ st.barrier = st.tick.die := by
  unfold Dk.St.barrierE Dk.St.barrier
  rw [if_neg (by simp [h]), if_neg (by simp [h]), if_pos hd]
  exact ⟨hd, rfl⟩
theorem barrier_fail {st : Dk.St} (h : st.off = false) (hd : st.due = 32) : st.barrierE = 32 ∧ st.barrier = st.tick := by
  unfold Dk.St.barrierE Dk.St.barrier
  rw [if_neg (by simp [h]), if_neg (by simp [h]), if_neg (by rw [hd]; decide), if_pos hd]
  exact ⟨hd, rfl⟩
theorem barrier_ok {st : Dk.St} (h : st.off = false) (hd : st.due = 0) : st.barrierE = 0 ∧ st.barrier = st.tick.fasten := by
  unfold Dk.St.barrierE Dk.St.barrier
  rw [if_neg (by simp [h]), if_neg (by simp [h]), if_neg (by rw [hd]; decide), if_neg (by rw [hd]; decide)]
  exact ⟨hd, rfl⟩

set_option maxRecDepth 20000 in
set_option maxHeartbeats 400000 in
theorem barrier_at [Keep] (B g : Nat) (st : Dk.St) (m : Nat) (lv : Value) (tc tf : Int) (n : Nat) (w : World) (h : DskAt w B g st m lv tc tf n) (hn : n ≤ st.many) (hm : st.many ≤ 1073741824) :
    Calls Tryz.prog 21 #[.pointer (some ⟨g, 0, none⟩)] w (AtPost B g st.barrierE st.barrier lv w) := by
  obtain ⟨-, -, c2, -⟩ := dk_cells h.blk
  cases ho : st.off with
  | true =>
    simp only [rawOf, ho] at c2
    have HB := Lib.hid (barrier_off ho)
    have HD := Lib.hid h; have HN := Lib.hid hn
    clear h hn ho
    go_enter Tryz.func21, Tryz.ntmps21
    go_wp2_with fail
    go_ret
    exact ⟨by rw [HB.out.1]; rfl, by rw [HB.out.2]; exact ⟨m, lv, tc, tf, n, HD.out, HN.out, Lvs.refl _ _⟩, Ch.refl _ _ _⟩
  | false =>
    simp only [rawOf, ho] at c2
    have HC := Lib.hid (call_any B g st m lv tc tf n w h (by omega))
    have hm1 : st.tick.many ≤ 1099511627776 := by show st.many + 1 ≤ 1099511627776; omega
    have HN := Lib.hid hn
    clear h hn hm
    rcases due_three st with hd | hd | hd
    · have HB := Lib.hid (barrier_cut ho hd)
      have HDU := Lib.hid hd
      clear hd ho
      go_enter Tryz.func21, Tryz.ntmps21
      go_wp2_with fail
      refine HC.out.mono ?_
      rintro e w1 ⟨rfl, h1, hc1⟩
      rw [HDU.out]
      go_wp2_with fail
      refine (dark_any B g _ m lv _ _ n w1 h1 hm1).mono ?_
      rintro e w3 ⟨rfl, ⟨lv3, o3, h3⟩, hc3⟩
      go_wp2_with fail
      go_ret
      exact ⟨by rw [HB.out.1]; rfl, by rw [HB.out.2]; exact ⟨m, lv3, _, _, n, h3, Nat.le_succ_of_le HN.out, (Lvs.of_ch hc1 td0_int rfl).trans (Lvs.of_ch hc3 td0_int o3)⟩, (hc1.trans hc3).d⟩
    · have HB := Lib.hid (barrier_fail ho hd)
      have HDU := Lib.hid hd
      clear hd ho
      go_enter Tryz.func21, Tryz.ntmps21
      go_wp2_with fail
      refine HC.out.mono ?_
      rintro e w1 ⟨rfl, h1, hc1⟩
      rw [HDU.out]
      go_wp2_with fail
      go_ret
      exact ⟨by rw [HB.out.1]; rfl, by rw [HB.out.2]; exact ⟨m, lv, _, _, n, h1, Nat.le_succ_of_le HN.out, Lvs.of_ch hc1 td0_int rfl⟩, hc1.d⟩
    · have HB := Lib.hid (barrier_ok ho hd)
      have HDU := Lib.hid hd
      clear hd ho
      go_enter Tryz.func21, Tryz.ntmps21
      go_wp2_with fail
      refine HC.out.mono ?_
      rintro e w1 ⟨rfl, h1, hc1⟩
      rw [HDU.out]
      go_wp2_with fail
      refine (fasten_any B g _ m lv _ _ n w1 h1 hm1).mono ?_
      rintro e w3 ⟨rfl, ⟨lv3, o3, h3⟩, hc3⟩
      go_wp2_with fail
      go_ret
      exact ⟨by rw [HB.out.1]; rfl, by rw [HB.out.2]; exact ⟨m, lv3, _, _, n, h3, Nat.le_succ_of_le HN.out, (Lvs.of_ch hc1 td0_int rfl).trans (Lvs.of_ch hc3 td0_int o3)⟩, (hc1.trans hc3).d⟩

theorem barrier_in [Keep] (P : Nat → Prop) (B g : Nat) (st : Dk.St) (w : World) (h : DskP P w B g st) (hm : st.many ≤ 1073741824) :
    Calls Tryz.prog 21 #[.pointer (some ⟨g, 0, none⟩)] w (InPost P B g st.barrierE st.barrier w) := by
  obtain ⟨m, lv, tc, tf, n, h, hn, hp⟩ := h
  exact (barrier_at B g st m lv tc tf n w h hn hm).mono fun _ _ h => h.into hp
theorem barrier_any [Keep] (B g : Nat) (st : Dk.St) (w : World) (h : Dsk w B g st) (hm : st.many ≤ 1073741824) :
    Calls Tryz.prog 21 #[.pointer (some ⟨g, 0, none⟩)] w (BarrierPost B g st w) :=
  (barrier_in _ B g st w h.free hm).mono fun _ _ h => ⟨h.1, h.2.1.dsk, h.2.2.2⟩

end Go.Proofs.YtimcepoleboldaaGreatDoor

/- Calls that are handed on: what the program's log makes of them: putChunk, putHead, do. -/
namespace Go.Proofs.YtimcepoleboldaaGreatDoor
open Go.RowKit

/-- A call that is handed on: a chunk into a sector, or a barrier. -/
inductive Cl where
  | wr (i : Nat) (c : Cn.Chu)
  | ba

/-- Calls, one behind the other, till one goes wrong. -/
def clR : Dk.St → List Cl → Int × Dk.St
  | st, [] => (0, st)
  | st, .wr i c :: l => if st.writeE (i : Int) (Lg.encs c) = 0 then clR (st.write (i : Int) (Lg.encs c)) l else (st.writeE (i : Int) (Lg.encs c), st.write (i : Int) (Lg.encs c))
  | st, .ba :: l => if st.barrierE = 0 then clR st.barrier l else (st.barrierE, st.barrier)

/-- What may be handed on. -/
def Cl.fit : Cl → Prop
  | .wr i c => i < 256 ∧ Cn.ok c
  | .ba => True

theorem clR_wr {st : Dk.St} {i : Nat} {c : Cn.Chu} {l : List Cl} (h : st.writeE (i : Int) (Lg.encs c) = 0) : clR st (.wr i c :: l) = clR (st.write (i : Int) (Lg.encs c)) l := if_pos h
theorem clR_wr_no {st : Dk.St} {i : Nat} {c : Cn.Chu} {l : List Cl} (h : ¬ st.writeE (i : Int) (Lg.encs c) = 0) : clR st (.wr i c :: l) = (st.writeE (i : Int) (Lg.encs c), st.write (i : Int) (Lg.encs c)) := if_neg h
theorem clR_ba {st : Dk.St} {l : List Cl} (h : st.barrierE = 0) : clR st (.ba :: l) = clR st.barrier l := if_pos h
theorem clR_ba_no {st : Dk.St} {l : List Cl} (h : ¬ st.barrierE = 0) : clR st (.ba :: l) = (st.barrierE, st.barrier) := if_neg h

/-- The value v is that call, of the log at block q. P: blocks of numbers that aren't the disk's. -/
def IsCl (P : Nat → Prop) (w : World) (q g : Nat) (v : Value) : Cl → Prop
  | .ba => v = .func (.func 21) #[.pointer (some ⟨g, 0, none⟩)] #[]
  | .wr i c => ∃ (a b n : Nat) (s : ByteArray), v = .func (.func 118) #[] #[.pointer (some ⟨a, 0, none⟩), .pointer (some ⟨b, 0, none⟩), .pointer (some ⟨n, 0, none⟩)] ∧
      Blk w a 95 (ChC c.e c.q c.f c.l s) ∧ s.data.toList = c.d ∧ Blk w b 68 #[.pointer (some ⟨q, 0, none⟩)] ∧ Blk w n 3 #[.int .i64 (i : Int)] ∧ P n

section
variable {P R : Nat → Prop} {w w' : World} {q g : Nat} {v : Value} {k : Cl}
theorem IsCl.kept {K' : Keep} {T : Obj → Bool} {B : Nat} (h : IsCl P w q g v k) (hc : @Ch K' T B w w') (hs : SameI P w w') (h1 : ∀ cs, T (.cells cs 95 (0, 0)) = false) (h2 : ∀ cs, T (.cells cs 68 (0, 0)) = false) : IsCl P w' q g v k := by
  cases k with
  | ba => exact h
  | wr i c =>
    obtain ⟨a, b, n, s, e, ha, hs', hb, hn, hp⟩ := h
    exact ⟨a, b, n, s, e, hc.blk ha (h1 _), hs', hc.blk hb (h2 _), hs.blk hp hn, hp⟩
theorem IsCl.up (h : IsCl P w q g v k) (hb : Below w.heap.size w w') (hp : ∀ j, P j → R j) : IsCl R w' q g v k := by
  cases k with
  | ba => exact h
  | wr i c =>
    obtain ⟨a, b, n, s, e, ha, hs', hb', hn, hpn⟩ := h
    exact ⟨a, b, n, s, e, ha.older hb ha.lt, hs', hb'.older hb hb'.lt, hn.older hb hn.lt, hp n hpn⟩
end

/-! ### do's own deferred function -/
theorem done_any (R L q : Nat) (E : Int) (a b c d e f : Value) (u : FrameMode) (w : World) (hR : Blk w R 24 #[.int .i64 E]) (hL : Blk w L 68 #[.pointer (some ⟨q, 0, none⟩)]) (hq : Blk w q 114 #[a, b, c, d, e, f]) :
    CallsD Tryz.prog 94 #[.pointer (some ⟨R, 0, none⟩), .pointer (some ⟨L, 0, none⟩)] u w fun x u' w' => u' = u ∧ (x = .returned (.tuple #[]) ∧ w' = w.setCell ⟨q, 5, none⟩ (.int .i64 E)) := by
  have c0 : w.cell? ⟨R, 0, none⟩ = some (.int .i64 E) := hR.cell 0
  have c1 : w.cell? ⟨L, 0, none⟩ = some (.pointer (some ⟨q, 0, none⟩)) := hL.cell 0
  obtain ⟨⟨-, -, -, -, -, c5⟩, -, -, -, -, -, f5⟩ := six hq
  clear hR hL hq
  go_enter_d Tryz.func94, Tryz.ntmps94
  go_wp2_with fail
  go_end0
  exact ⟨rfl, rfl⟩

/-! ### putChunk -/
/-- What putChunk makes: three variables of its own. -/
theorem boxes (w : World) (q : Nat) (i : Int) (a b c d e : Value) :
    let W := ((w.alloc (.cells #[.pointer (some ⟨q, 0, none⟩)] 68)).alloc (.cells #[.int .i64 i] 3)).alloc (.cells #[a, b, c, d, e] 95)
    Blk W w.heap.size 68 #[.pointer (some ⟨q, 0, none⟩)] ∧ Blk W (w.heap.size + 1) 3 #[.int .i64 i] ∧ Blk W (w.heap.size + 1 + 1) 95 #[a, b, c, d, e] ∧ Below w.heap.size w W ∧ W.heap.size = w.heap.size + 3 := by
  have e1 : (w.alloc (.cells #[.pointer (some ⟨q, 0, none⟩)] 68)).heap.size = w.heap.size + 1 := by simp
  have e2 : ((w.alloc (.cells #[.pointer (some ⟨q, 0, none⟩)] 68)).alloc (.cells #[.int .i64 i] 3)).heap.size = w.heap.size + 1 + 1 := by simp
  have h1 := Blk.new w 68 #[.pointer (some ⟨q, 0, none⟩)]
  have h2 := Blk.new (w.alloc (.cells #[.pointer (some ⟨q, 0, none⟩)] 68)) 3 #[.int .i64 i]
  have h3 := Blk.new ((w.alloc (.cells #[.pointer (some ⟨q, 0, none⟩)] 68)).alloc (.cells #[.int .i64 i] 3)) 95 #[a, b, c, d, e]
  rw [e1] at h2
  rw [e2] at h3
  exact ⟨(h1.alloc _).alloc _, h2.alloc _, h3, (((Below.refl _ _).alloc (Nat.le_refl _) _).alloc (by rw [e1]; omega) _).alloc (by rw [e2]; omega) _, by simp⟩

def PcPost (R : Nat → Prop) (q g i : Nat) (c : Cn.Chu) (w : World) (x : Ending) (w' : World) : Prop :=
  ∃ v, x = .returned v ∧ IsCl R w' q g v (.wr i c) ∧ Below w.heap.size w w' ∧ w'.heap.size = w.heap.size + 3

theorem putchunk_any (q g i : Nat) (c : Cn.Chu) (s : ByteArray) (hs : s.data.toList = c.d) (w : World) (R : Nat → Prop) (hR : R (w.heap.size + 1)) :
    Calls Tryz.prog 96 #[.pointer (some ⟨q, 0, none⟩), .int .i64 (i : Int), ChV c.e c.q c.f c.l s] w (PcPost R q g i c w) := by
  have hmf : ∀ (fn : Fn) (first cap : Array Value) (w : World), (Instr.makeFunc fn first cap).run Tryz.prog w = .ok (.func fn first cap) w := fun _ _ _ _ => rfl
  have HB := Lib.hid (boxes w q (i : Int) (.int .i64 c.e) (.int .i64 c.q) (.bool c.f) (.bool c.l) (.string s))
  go_enter Tryz.func96, Tryz.ntmps96
  go_wp2_with fail
  go_ret
  obtain ⟨h1, h2, h3, h4, h5⟩ := HB.out
  exact ⟨_, rfl, ⟨w.heap.size + 1 + 1, w.heap.size, w.heap.size + 1, s, rfl, h3, hs, h1, h2, hR⟩, h4, h5⟩

/-! ### What putChunk makes, when it is called -/
/-- The log's disk. -/
def OnDisk (w : World) (q g : Nat) : Prop := ∃ a b c d e, Blk w q 114 #[.pointer (some ⟨g, 0, none⟩), a, b, c, d, e]

theorem encs_data (c : Cn.Chu) (h : Cn.ok c) : EncV c = .tuple #[.string (Lg.encs c), .int .i64 0] := by
  unfold EncV
  rw [Cn.encE_of_ok h]
  rfl

set_option maxHeartbeats 400000 in
theorem put1_any [Keep] (P : Nat → Prop) (B q g i : Nat) (c : Cn.Chu) (st : Dk.St) (a b n : Nat) (s : ByteArray) (w : World) (hd : DskP P w B g st) (hm : st.many ≤ 1073741824) (hq : OnDisk w q g)
    (ha : Blk w a 95 (ChC c.e c.q c.f c.l s)) (hs : s.data.toList = c.d) (hb : Blk w b 68 #[.pointer (some ⟨q, 0, none⟩)]) (hn : Blk w n 3 #[.int .i64 (i : Int)]) (hc : Cn.ok c) :
    Calls Tryz.prog 118 #[.pointer (some ⟨a, 0, none⟩), .pointer (some ⟨b, 0, none⟩), .pointer (some ⟨n, 0, none⟩)] w (InPost P B g (st.writeE (i : Int) (Lg.encs c)) (st.write (i : Int) (Lg.encs c)) w) := by
  obtain ⟨x1, x2, x3, x4, x5, hq⟩ := hq
  obtain ⟨a0, a1, a2, a3, a4⟩ := five ha
  have hV := encs_data c hc
  have he : (⟨c.e, c.q, c.f, c.l, s.data.toList⟩ : Cn.Chu) = c := by rw [hs]
  have HE := Lib.hid (encode_any c.e c.q c.f c.l s w)
  rw [he, hV] at HE
  have HD := Lib.hid hd
  have HM := Lib.hid hm
  have HB := Lib.hid (And.intro hb (And.intro hn hq))
  clear hd hV he hc hs ha hb hn hq hm
  go_enter Tryz.func118, Tryz.ntmps118
  go_wp2_with fail
  refine HE.out.mono ?_
  rintro x w1 ⟨rfl, hb1⟩
  obtain ⟨hb, hn, hq⟩ := HB.out
  have b0 : w1.cell? ⟨b, 0, none⟩ = some (.pointer (some ⟨q, 0, none⟩)) := (hb.older hb1 hb.lt).cell 0
  have n0 : w1.cell? ⟨n, 0, none⟩ = some (.int .i64 (i : Int)) := (hn.older hb1 hn.lt).cell 0
  have q0 : w1.cell? ⟨q, 0, none⟩ = some (.pointer (some ⟨g, 0, none⟩)) := (hq.older hb1 hq.lt).cell 0
  have hc1 : Ch (fun _ => false) 0 w w1 := Ch.of_below hb1
  have hd1 := HD.out.kept hc1 (fun _ => rfl) (fun _ _ => rfl) (fun _ => rfl)
  have hs1 : SameI P w w1 := fun k _ cs z ho => (hb1.block k (lt_of_at ho)).trans ho
  have HS := Lib.hid (And.intro hs1 hb1)
  clear hb hn hq hc1 hs1 hb1
  go_wp2_with fail
  go_region_with (go_at_call 20; refine (write_in P B g st (i : Int) (Lg.encs c) _ (hd1.kept (T := fun _ => false) (B' := 0) (Ch.refl _ _ _).drew (fun _ => rfl) (fun _ _ => rfl) (fun _ => rfl)) HM.out).mono ?_; rintro x w2 ⟨rfl, h2, s2, c2⟩)
  all_goals
    go_wp2_with fail
    go_ret
    exact ⟨rfl, h2, HS.out.1.trans (SameI.trans (fun _ _ _ _ h => h) s2), (Ch.of_below HS.out.2).trans ((Ch.refl _ _ _).drew.trans c2)⟩

end Go.Proofs.YtimcepoleboldaaGreatDoor

/- What do comes to, the program's: calls that are handed on, one behind the other, till one goes wrong; what went wrong is kept. -/
namespace Go.Proofs.YtimcepoleboldaaGreatDoor
open Go.RowKit

/-- The kinds of blocks that a log's calls change. -/
def Tl : Obj → Bool
  | .cells cs t z => Td (.cells cs t z) || t == 114
  | o => Td o

theorem Chg.l {K : Keep} {B : Nat} {w w' : World} (h : @Ch K Td B w w') : @Ch K Tl B w w' where
  os := h.os
  tape := h.tape
  output := h.output
  size := h.size
  all i hi hT := h.all i hi (fun hB hK o ho => by
    have h1 := hT hB hK o ho
    cases o with
    | cells cs t z => simp [Tl] at h1; exact h1.1
    | _ => exact h1)
theorem Chg.set_new {K : Keep} {T : Obj → Bool} {B : Nat} {a b : World} (h : @Ch K T B a b) {k : Nat} (hk : a.heap.size ≤ k) (i : Nat) (u : Value) : @Ch K T B a (b.setCell ⟨k, i, none⟩ u) where
  os := h.os
  tape := h.tape
  output := h.output
  size := by have := h.size; simpa [World.setCell] using this
  all j hj hT := by
    rw [heap_setCell_other b ⟨k, i, none⟩ j u (by show j ≠ k; omega)]
    exact h.all j hj hT
theorem SameI.set_new {P : Nat → Prop} {a b : World} (h : SameI P a b) {k : Nat} (hk : a.heap.size ≤ k) (i : Nat) (u : Value) : SameI P a (b.setCell ⟨k, i, none⟩ u) := fun j hj cs z ho => by
  have := lt_of_at ho
  rw [heap_setCell_other b ⟨k, i, none⟩ j u (by show j ≠ k; omega)]
  exact h j hj cs z ho
theorem SameI.below {P : Nat → Prop} {a b : World} (h : Below a.heap.size a b) : SameI P a b := fun _ _ _ _ ho => (h.block _ (lt_of_at ho)).trans ho

/-- Blocks of errors' numbers. -/
def Te : Obj → Bool
  | .cells _ t _ => t == 24
  | _ => false

theorem clR_many : ∀ (l : List Cl) (st : Dk.St), (clR st l).2.many ≤ st.many + l.length := by
  intro l
  induction l with
  | nil => intro st; exact Nat.le_refl _
  | cons k l ih =>
    intro st
    simp only [List.length_cons]
    cases k with
    | wr i c =>
      have h1 := Dk.many_write st (i : Int) (Lg.encs c)
      by_cases h : st.writeE (i : Int) (Lg.encs c) = 0
      · rw [clR_wr h]; have := ih (st.write (i : Int) (Lg.encs c)); omega
      · rw [clR_wr_no h]; show (st.write (i : Int) (Lg.encs c)).many ≤ _; omega
    | ba =>
      have h1 := Dk.many_barrier st
      by_cases h : st.barrierE = 0
      · rw [clR_ba h]; have := ih st.barrier; omega
      · rw [clR_ba_no h]; show st.barrier.many ≤ _; omega

/-- A row of calls that are handed on. -/
def ClRow (P : Nat → Prop) (w : World) (base q g : Nat) (v : Value) (l : List Cl) : Prop :=
  ∃ vals : List Value, w.ownsRow base 54 1 v vals.length vals ∧ vals.length = l.length ∧ ∀ (j : Nat) (u : Value) (k : Cl), vals[j]? = some u → l[j]? = some k → IsCl P w q g u k

/-- The row laid open. -/
theorem ClRow.cells {P : Nat → Prop} {w : World} {base q g : Nat} {v : Value} {l : List Cl} (h : ClRow P w base q g v l) :
    ∃ A cap, v = .slice A l.length cap ∧ ∀ (j : Nat) (k : Cl), l[j]? = some k → ∃ (b : Nat) (u : Value) (cur : Array Value), A = some ⟨b, 0, none⟩ ∧ Blk w b 54 cur ∧ cur[j]? = some u ∧ IsCl P w q g u k := by
  obtain ⟨vals, h1, h2, h3⟩ := h
  have h1' := h1
  rcases h1.2 with ⟨rfl, h0⟩ | ⟨b, cap, cur, rfl, hb, hg, rest⟩
  · refine ⟨none, 0, by rw [← h2, h0], fun j k hk => ?_⟩
    have := (List.getElem?_eq_some_iff.1 hk).1
    omega
  · refine ⟨some ⟨b, 0, none⟩, cap, by rw [h2], fun j k hk => ?_⟩
    have hj := (List.getElem?_eq_some_iff.1 hk).1
    obtain ⟨u, hu⟩ : ∃ u, vals[j]? = some u := ⟨_, List.getElem?_eq_getElem (by rw [h2]; exact hj)⟩
    have e := h1'.cells (g := b) rfl j u hu
    rw [Addr.add_lit, Nat.zero_add] at e
    have hc : Blk w b 54 cur := hg
    rw [hc.cell j] at e
    exact ⟨b, u, cur, rfl, hc, e, h3 j u k hu hk⟩

theorem results_err {fn : Func} (h : fn.results = #[.cell 4 24]) (tmps : Array Value) (W : World) (B : Nat) (a : Value)
    (hp : tmps.getD 4 undef = .pointer (some ⟨B, 0, none⟩)) (hb : Blk W B 24 #[a]) :
    (results fn tmps).run Tryz.prog W = .ok a W := by
  have hp' : tmps[4]?.getD undef = .pointer (some ⟨B, 0, none⟩) := by simpa using hp
  have hc : W.cell? ⟨B, 0, none⟩ = some a := hb.cell 0
  simp [results, h, hp', asAddr, go_sem, hc]

structure DoPost [Keep] (P : Nat → Prop) (B q g : Nat) (r : Int × Dk.St) (x1 x2 x3 x4 : Value) (w : World) (e : Ending) (w' : World) : Prop where
  ret : e = .returned (.int .i64 r.1)
  disk : DskP P w' B g r.2
  same : SameI P w w'
  log : Blk w' q 114 #[.pointer (some ⟨g, 0, none⟩), x1, x2, x3, x4, .int .i64 r.1]
  ch : Ch Tl B w w'
  last : ∃ W, Ch Td B w W ∧ w' = W.setCell ⟨q, 5, none⟩ (.int .i64 r.1)

/-- What do's loop knows behind k calls. R: the error's block; L: the block of the log's pointer. -/
structure DoLoop [Keep] (P : Nat → Prop) (B q g R L : Nat) (st : Dk.St) (l : List Cl) (w : World) (k : Nat) (st' : Dk.St) (wr : World) : Prop where
  run : clR st l = clR st' (l.drop k)
  disk : DskP P wr B g st'
  many : st'.many ≤ st.many + k
  same : SameI P w wr
  ch : Ch Td B w wr
  err : Blk wr R 24 #[.int .i64 0]
  ptr : Blk wr L 68 #[.pointer (some ⟨q, 0, none⟩)]

section
variable {P : Nat → Prop} {B q g R L : Nat} {st st' st2 : Dk.St} {l : List Cl} {w wr w2 : World} {k : Nat} {E : Int} {x1 x2 x3 x4 x5 : Value}

/-- One call behind them. -/
theorem DoLoop.next [Keep] (h : DoLoop P B q g R L st l w k st' wr) (hd : DskP P w2 B g st2) (hs : SameI P wr w2) (hc : Ch Td B wr w2) (hm : st2.many ≤ st'.many + 1) (hr : clR st' (l.drop k) = clR st2 (l.drop (k + 1))) (hR : w.heap.size ≤ R) :
    DoLoop P B q g R L st l w (k + 1) st2 (w2.setCell ⟨R, 0, none⟩ (.int .i64 0)) := by
  have e2 : Blk w2 R 24 #[.int .i64 0] := hc.blk h.err rfl
  exact { run := h.run.trans hr
          disk := hd.kept (T := Te) (B' := 0) (Ch.set e2 (Nat.zero_le _) rfl 0 _) (fun _ => rfl) (fun _ _ => rfl) (fun _ => rfl)
          many := by have := h.many; omega
          same := (h.same.trans hs).set_new hR 0 _
          ch := (h.ch.trans hc).set_new hR 0 _
          err := e2.set_one _
          ptr := (Ch.set (T := Te) (B := 0) e2 (Nat.zero_le _) rfl 0 _).blk (hc.blk h.ptr rfl) rfl }

/-- At the door: what is stored then. -/
theorem DoLoop.last [K : Keep] (h : DoLoop P B q g R L st l w k st' wr) (hd : DskP P w2 B g st2) (hs : SameI P wr w2) (hc : Ch Td B wr w2) (hr : clR st' (l.drop k) = (E, st2)) (hR : w.heap.size ≤ R) (hq : Blk w q 114 #[.pointer (some ⟨g, 0, none⟩), x1, x2, x3, x4, x5]) (hB : B ≤ q ∧ ¬ K.p q) (W : World)
    (hW : W = w2.setCell ⟨R, 0, none⟩ (.int .i64 E) ∨ W = (w2.setCell ⟨R, 0, none⟩ (.int .i64 E)).setCell ⟨R, 0, none⟩ (.int .i64 E)) :
    Blk W R 24 #[.int .i64 E] ∧ Blk W L 68 #[.pointer (some ⟨q, 0, none⟩)] ∧ Blk W q 114 #[.pointer (some ⟨g, 0, none⟩), x1, x2, x3, x4, x5] ∧
      Blk (W.setCell ⟨q, 5, none⟩ (.int .i64 E)) R 24 #[.int .i64 E] ∧ DoPost P B q g (clR st l) x1 x2 x3 x4 w (.returned (.int .i64 E)) (W.setCell ⟨q, 5, none⟩ (.int .i64 E)) := by
  have e2 : Blk w2 R 24 #[.int .i64 0] := hc.blk h.err rfl
  have c2 : @Ch noKeep Te 0 w2 W ∧ Blk W R 24 #[.int .i64 E] ∧ SameI P w W ∧ Ch Td B w W := by
    rcases hW with rfl | rfl
    · exact ⟨Ch.set e2 (Nat.zero_le _) rfl 0 _, e2.set_one _, (h.same.trans hs).set_new hR 0 _, (h.ch.trans hc).set_new hR 0 _⟩
    · exact ⟨(Ch.set e2 (Nat.zero_le _) rfl 0 _).trans (Ch.set (e2.set_one _) (Nat.zero_le _) rfl 0 _), (e2.set_one _).set_one _, ((h.same.trans hs).set_new hR 0 _).set_new hR 0 _, ((h.ch.trans hc).set_new hR 0 _).set_new hR 0 _⟩
  obtain ⟨c3, e3, s3, d3⟩ := c2
  have q3 : Blk W q 114 #[.pointer (some ⟨g, 0, none⟩), x1, x2, x3, x4, x5] := d3.blk hq rfl
  have hne : R ≠ q := fun e => by have := hq.lt; omega
  have cq : @Ch noKeep (fun o => match o with | .cells _ t _ => t == 114 | _ => false) B W (W.setCell ⟨q, 5, none⟩ (.int .i64 E)) := Ch.set q3 hB.1 rfl 5 _
  refine ⟨e3, c3.blk (hc.blk h.ptr rfl) rfl, q3, e3.apart (by show R ≠ q; exact hne) _, { ret := by rw [h.run, hr], disk := ?_, same := ?_, log := ?_, ch := ?_, last := ⟨W, d3, by rw [h.run, hr]⟩ }⟩
  · rw [h.run, hr]
    exact (hd.kept c3 (fun _ => rfl) (fun _ _ => rfl) (fun _ => rfl)).kept cq (fun _ => rfl) (fun _ _ => rfl) (fun _ => rfl)
  · refine s3.trans fun j hj cs z ho => ?_
    rw [heap_setCell_other W ⟨q, 5, none⟩ j _ (by
      intro e
      have e' : j = q := e
      rw [e', show W.heap[q]? = _ from q3] at ho
      injection ho with ho
      injection ho with _ ho
      cases ho)]
    exact ho
  · rw [h.run, hr]
    exact q3.l5 _
  · exact d3.l.trans (Ch.setK q3 hB.1 hB.2 rfl 5 _)
end

set_option maxRecDepth 20000 in
set_option maxHeartbeats 1000000 in
theorem do_any [K : Keep] (P : Nat → Prop) (B base q g : Nat) (st : Dk.St) (l : List Cl) (v x1 x2 x3 x4 x5 : Value) (w : World) (hd : DskP P w B g st) (hm : st.many + l.length ≤ 1073741824) (hq : Blk w q 114 #[.pointer (some ⟨g, 0, none⟩), x1, x2, x3, x4, x5]) (hB : B ≤ q ∧ ¬ K.p q)
    (hr : ClRow P w base q g v l) (hf : ∀ k ∈ l, k.fit) :
    Calls Tryz.prog 60 #[.pointer (some ⟨q, 0, none⟩), v] w (DoPost P B q g (clR st l) x1 x2 x3 x4 w) := by
  have hmf : ∀ (fn : Fn) (first cap : Array Value) (w : World), (Instr.makeFunc fn first cap).run Tryz.prog w = .ok (.func fn first cap) w := fun _ _ _ _ => rfl
  obtain ⟨A, cap, rfl, hcells⟩ := hr.cells
  have HC := Lib.hid hcells
  have HF := Lib.hid hf
  have HQ := Lib.hid hq
  have HBq := Lib.hid hB
  have HM := Lib.hid hm
  have hlen : l.length ≤ 1073741824 := by omega
  have h0 : DoLoop P B q g (w.heap.size + 1) w.heap.size st l w 0 st ((w.alloc (.cells #[.pointer (some ⟨q, 0, none⟩)] 68)).alloc (.cells #[.int .i64 0] 24)) := by
    have hb : Below w.heap.size w ((w.alloc (.cells #[.pointer (some ⟨q, 0, none⟩)] 68)).alloc (.cells #[.int .i64 0] 24)) := ((Below.refl _ _).alloc (Nat.le_refl _) _).alloc (by simp) _
    have n1 := Blk.new w 68 #[.pointer (some ⟨q, 0, none⟩)]
    have n2 := Blk.new (w.alloc (.cells #[.pointer (some ⟨q, 0, none⟩)] 68)) 24 #[.int .i64 0]
    have e1 : (w.alloc (.cells #[.pointer (some ⟨q, 0, none⟩)] 68)).heap.size = w.heap.size + 1 := by simp
    rw [e1] at n2
    exact { run := rfl, disk := hd.kept (T := fun _ => false) (B' := 0) (Ch.of_below hb) (fun _ => rfl) (fun _ _ => rfl) (fun _ => rfl), many := by omega, same := SameI.below hb, ch := Ch.of_below hb, err := n2, ptr := n1.alloc _ }
  clear hcells hd hm hq hB hr hf
  go_enter_defers Tryz.func60, Tryz.ntmps60
  go_wp2_with fail
  go_loopw [10] (fun v wr => ∃ k st', k ≤ l.length ∧ v = .int .i64 (k : Int) ∧ DoLoop P B q g (w.heap.size + 1) w.heap.size st l w k st' wr) (fun v _ => l.length - (intOf v).toNat)
  case atStart => exact ⟨0, st, Nat.zero_le _, rfl, h0⟩
  case round =>
    obtain ⟨k, st', hk, rfl, hL⟩ := hrel
    clear h0
    have HL := Lib.hid hL
    have f0 := hL.err.frozen 0
    have r0 : wr.cell? ⟨w.heap.size + 1, 0, none⟩ = some (.int .i64 0) := hL.err.cell 0
    clear hL
    by_cases hlt : k < l.length
    · obtain ⟨kk, hkk⟩ : ∃ kk, l[k]? = some kk := ⟨_, List.getElem?_eq_getElem hlt⟩
      obtain ⟨b, u, cur, rfl, hbk, hcu, hu⟩ := HC.out k kk hkk
      have d0 : wr.cell? ⟨b, k, none⟩ = some u := (HL.out.ch.blk hbk rfl).cell k |>.trans hcu
      have hu2 := hu.kept HL.out.ch HL.out.same (fun _ => rfl) (fun _ => rfl)
      have HD := Lib.hid (show l.drop k = kk :: l.drop (k + 1) by
        obtain ⟨h1, h2⟩ := List.getElem?_eq_some_iff.1 hkk
        rw [List.drop_eq_getElem_cons h1, h2])
      have HFit := Lib.hid (HF.out kk (List.mem_of_getElem? hkk))
      clear hbk hcu hu hkk
      have hsz : w.heap.size ≤ w.heap.size + 1 := Nat.le_succ _
      cases kk with
      | ba =>
        obtain rfl : u = _ := hu2
        have HB := Lib.hid (barrier_in P B g st' wr HL.out.disk (by have := HL.out.many; have := HM.out; omega))
        by_cases hE : st'.barrierE = 0
        · have HR := Lib.hid (show clR st' (l.drop k) = clR st'.barrier (l.drop (k + 1)) by rw [HD.out, clR_ba hE])
          go_wp2_with fail
          refine HB.out.mono ?_
          rintro e w3 ⟨rfl, h3, s3, c3⟩
          rw [hE]
          clear hE
          have HN := Lib.hid (HL.out.next h3 s3 c3 (Dk.many_barrier st') HR.out hsz)
          have r3 : w3.cell? ⟨w.heap.size + 1, 0, none⟩ = some (.int .i64 0) := (c3.blk HL.out.err rfl).cell 0
          have f3 := (c3.blk HL.out.err rfl).frozen 0
          clear h3 s3 c3 hsz f0 r0 d0
          go_wp2_with fail
          go_roundw
          case rel => exact ⟨k + 1, _, by omega, by go_num, HN.out⟩
          case measure => simp [intOf]; omega
        · have HR := Lib.hid (show clR st' (l.drop k) = (st'.barrierE, st'.barrier) by rw [HD.out, clR_ba_no hE])
          go_wp2_with fail
          refine HB.out.mono ?_
          rintro e w3 ⟨rfl, h3, s3, c3⟩
          have HN := Lib.hid (HL.out.last h3 s3 c3 HR.out hsz HQ.out HBq.out)
          have r3 : w3.cell? ⟨w.heap.size + 1, 0, none⟩ = some (.int .i64 0) := (c3.blk HL.out.err rfl).cell 0
          have f3 := (c3.blk HL.out.err rfl).frozen 0
          clear h3 s3 c3 hsz f0 r0 d0 HB HR
          generalize st'.barrierE = E at *
          go_wp2_with fail
          refine leaves_cons (f := 94) (args := #[.pointer (some ⟨w.heap.size + 1, 0, none⟩), .pointer (some ⟨w.heap.size, 0, none⟩)]) (by simp) (by simp [go_sem]) ?_
          obtain ⟨e1, e2, e3, e4, e5⟩ := HN.out _ (.inr rfl)
          refine (done_any _ _ _ _ _ _ _ _ _ _ .returning _ e1 e2 e3).mono ?_
          rintro e u' w4 ⟨rfl, rfl, rfl⟩
          exact ⟨_, results_err rfl _ _ _ _ rfl e4, e5⟩
      | wr i c =>
        obtain ⟨a, b2, n, s, rfl, ha, hs, hb, hn, hp⟩ := hu2
        have hon : OnDisk wr q g := ⟨_, _, _, _, _, HL.out.ch.blk HQ.out rfl⟩
        have HB := Lib.hid (put1_any P B q g i c st' a b2 n s wr HL.out.disk (by have := HL.out.many; have := HM.out; omega) hon ha hs hb hn HFit.out.2)
        clear ha hs hb hn hp hon
        by_cases hE : st'.writeE (i : Int) (Lg.encs c) = 0
        · have HR := Lib.hid (show clR st' (l.drop k) = clR (st'.write (i : Int) (Lg.encs c)) (l.drop (k + 1)) by rw [HD.out, clR_wr hE])
          go_wp2_with fail
          refine HB.out.mono ?_
          rintro e w3 ⟨rfl, h3, s3, c3⟩
          rw [hE]
          clear hE
          have HN := Lib.hid (HL.out.next h3 s3 c3 (Dk.many_write st' _ _) HR.out hsz)
          have r3 : w3.cell? ⟨w.heap.size + 1, 0, none⟩ = some (.int .i64 0) := (c3.blk HL.out.err rfl).cell 0
          have f3 := (c3.blk HL.out.err rfl).frozen 0
          clear h3 s3 c3 hsz f0 r0 d0
          go_wp2_with fail
          go_roundw
          case rel => exact ⟨k + 1, _, by omega, by go_num, HN.out⟩
          case measure => simp [intOf]; omega
        · have HR := Lib.hid (show clR st' (l.drop k) = (st'.writeE (i : Int) (Lg.encs c), st'.write (i : Int) (Lg.encs c)) by rw [HD.out, clR_wr_no hE])
          go_wp2_with fail
          refine HB.out.mono ?_
          rintro e w3 ⟨rfl, h3, s3, c3⟩
          have HN := Lib.hid (HL.out.last h3 s3 c3 HR.out hsz HQ.out HBq.out)
          have r3 : w3.cell? ⟨w.heap.size + 1, 0, none⟩ = some (.int .i64 0) := (c3.blk HL.out.err rfl).cell 0
          have f3 := (c3.blk HL.out.err rfl).frozen 0
          clear h3 s3 c3 hsz f0 r0 d0 HB HR
          generalize st'.writeE (i : Int) (Lg.encs c) = E at *
          go_wp2_with fail
          refine leaves_cons (f := 94) (args := #[.pointer (some ⟨w.heap.size + 1, 0, none⟩), .pointer (some ⟨w.heap.size, 0, none⟩)]) (by simp) (by simp [go_sem]) ?_
          obtain ⟨e1, e2, e3, e4, e5⟩ := HN.out _ (.inr rfl)
          refine (done_any _ _ _ _ _ _ _ _ _ _ .returning _ e1 e2 e3).mono ?_
          rintro e u' w4 ⟨rfl, rfl, rfl⟩
          exact ⟨_, results_err rfl _ _ _ _ rfl e4, e5⟩
    · obtain rfl : k = l.length := by omega
      have HR := Lib.hid (show clR st' (l.drop l.length) = (0, st') by rw [List.drop_length]; rfl)
      have HN := Lib.hid (HL.out.last HL.out.disk (SameI.refl _ _) (Ch.refl _ _ _) HR.out (Nat.le_succ _) HQ.out HBq.out)
      go_wp2_with fail
      refine leaves_cons (f := 94) (args := #[.pointer (some ⟨w.heap.size + 1, 0, none⟩), .pointer (some ⟨w.heap.size, 0, none⟩)]) (by simp) (by simp [go_sem]) ?_
      obtain ⟨e1, e2, e3, e4, e5⟩ := HN.out _ (.inl rfl)
      refine (done_any _ _ _ _ _ _ _ _ _ _ .returning _ e1 e2 e3).mono ?_
      rintro e u' w4 ⟨rfl, rfl, rfl⟩
      exact ⟨_, results_err rfl _ _ _ _ rfl e4, e5⟩

end Go.Proofs.YtimcepoleboldaaGreatDoor

/- What Cut comes to, the program's: a slice of its own with the document's pieces; the pieces come out of a function that is ranged over. -/
namespace Go.Proofs.YtimcepoleboldaaGreatDoor
open Go.RowKit Go.Shelf

attribute [local go_sem] Oper.semAt_some

/-- The pieces of a text. -/
def cutB (s : ByteArray) : List ByteArray := (Cn.cut s.data.toList).map fun l => ⟨l.toArray⟩

theorem cutB_long (s : ByteArray) (h : 96 < s.size) : cutB s = s.extract 0 96 :: cutB (s.extract 96 s.size) := by
  have h1 : (s.extract 0 96).data.toList = s.data.toList.take 96 := by
    rw [ByteArray.data_extract, Array.toList_extract]; simp [List.extract]
  have h2 : (s.extract 96 s.size).data.toList = s.data.toList.drop 96 := by
    rw [ByteArray.data_extract, Array.toList_extract]
    simp only [List.extract]
    exact List.take_of_length_le (by simp)
  unfold cutB
  rw [Cn.cut_long _ (by simpa using h), List.map_cons, h2, ← h1]

theorem cutB_short (s : ByteArray) (h : s.size ≤ 96) : cutB s = [s] := by
  unfold cutB
  rw [Cn.cut_short _ (by simpa using h)]
  simp

theorem cutB_pos (s : ByteArray) : 0 < (cutB s).length := by
  unfold cutB; rw [List.length_map]; exact Cn.cut_pos _

theorem cutB_len : ∀ (k : Nat) (s : ByteArray), s.size ≤ k → (cutB s).length ≤ k + 1 := by
  intro k
  induction k using Nat.strongRecOn with
  | _ k ih =>
    intro s hs
    by_cases h : 96 < s.size
    · rw [cutB_long s h]
      have h1 : (s.extract 96 s.size).size = s.size - 96 := by rw [ByteArray.size_extract]; omega
      have := ih (k - 96) (by omega) (s.extract 96 s.size) (by omega)
      simp only [List.length_cons]; omega
    · rw [cutB_short s (by omega)]; simp

/-- A string's length. -/
def strLen : Value → Nat
  | .string s => s.size
  | _ => 0

set_option maxRecDepth 100000 in
set_option maxHeartbeats 1000000 in
/-- The iterator: all pieces, one behind the other; or a beginning of them. -/
theorem pieces1_in (F : Fence) (n : Nat) (h6 : F.fn 159) (hro : F.round = none) (hn : 1 ≤ n) (l Bn n₀ : Nat) (s : ByteArray) (hs : s.size ≤ 1048576) (J Jx : List ByteArray → World → Prop)
    (hY : ∀ pre x W, J pre W → pre.length < (cutB s).length → YieldAt F (n - 1) Tryz.prog l #[.string x] W fun e W' =>
      (e = .returned (.bool true) ∧ J (pre ++ [x]) W' ∧ Below n₀ W W') ∨ (e = .returned (.bool false) ∧ Jx (pre ++ [x]) W'))
    (W : World) (hBn : W.cell? ⟨Bn, 0, none⟩ = some (.string s)) (h0 : J [] W) :
    CallsIn F n Tryz.prog 159 #[.func (.yield l) #[] #[], .pointer (some ⟨Bn, 0, none⟩)] W fun e W' => (∃ v, e = .returned v) ∧
      ((∃ ys, ys = cutB s ∧ J ys W') ∨ (∃ pre, pre <+: cutB s ∧ Jx pre W')) := by
  refine callsIn_of_wp Tryz.func159 rfl h6 ?_ hro
  simp only [Tryz.ntmps159, List.size_toArray, List.length_cons, List.length_nil, Nat.reduceAdd, Nat.reduceSub, Array.replicate_succ, Array.replicate_zero, List.push_toArray, List.append_toArray, List.nil_append, List.cons_append]
  gi_wp2
  gi_loopw [3] (fun p wr => ∃ (pre : List ByteArray) (r : ByteArray), p = .string r ∧ r.size ≤ 1048576 ∧ pre ++ cutB r = cutB s ∧ J pre wr)
    (fun p _ => strLen p)
  case atStart => exact ⟨[], s, rfl, hs, rfl, h0⟩
  case round =>
    obtain ⟨pre, r, rfl, hr, hx, hJs⟩ := hrel
    by_cases hl : 96 < r.size
    · rw [cutB_long r hl] at hx
      have hli : 96 < (r.size : Int) := by omega
      obtain ⟨fn, tmps, assign, body, hy, hR⟩ := hY pre (r.extract 0 96) wr hJs (by rw [← hx]; simp)
      have HX := Lib.hid hx; clear hx
      gi_wp2
      refine hR.mono ?_
      rintro e W3 (⟨rfl, hJ3, hk3⟩ | ⟨rfl, hJx3⟩)
      · gi_wp2
        go_roundw
        case rel => exact ⟨pre ++ [r.extract 0 96], r.extract 96 r.size, rfl, by rw [ByteArray.size_extract]; omega, by rw [← HX.out]; simp, hJ3⟩
        case measure => simp only [strLen]; rw [ByteArray.size_extract]; omega
      · gi_wp2
        refine bodyPost_ret (results_none rfl _ _ _) rfl ?_
        exact ⟨⟨_, rfl⟩, .inr ⟨pre ++ [r.extract 0 96], ⟨cutB (r.extract 96 r.size), by rw [← HX.out]; simp⟩, hJx3⟩⟩
    · rw [cutB_short r (by omega)] at hx
      have hli : (r.size : Int) ≤ 96 := by omega
      obtain ⟨fn, tmps, assign, body, hy, hR⟩ := hY pre r wr hJs (by rw [← hx]; simp)
      have HX := Lib.hid hx; clear hx
      gi_wp2
      refine hR.mono ?_
      rintro e W3 (⟨rfl, hJ3, hk3⟩ | ⟨rfl, hJx3⟩)
      · gi_wp2
        go_end0
        exact ⟨⟨_, rfl⟩, .inl ⟨pre ++ [r], HX.out, hJ3⟩⟩
      · gi_wp2
        go_end0
        exact ⟨⟨_, rfl⟩, .inr ⟨pre ++ [r], ⟨[], by rw [← HX.out]; simp⟩, hJx3⟩⟩

set_option maxHeartbeats 1000000 in
theorem pieces_in (F : Fence) (n : Nat) (h5 : F.fn 152) (hro : F.round = none) (s : ByteArray) (w : World) :
    CallsIn F n Tryz.prog 152 #[.string s] w fun e w' => e = .returned (.func (.func 159) #[] #[.pointer (some ⟨w.heap.size, 0, none⟩)]) ∧ w' = w.alloc (.cells #[.string s] 9) := by
  refine callsIn_of_wp Tryz.func152 rfl h5 ?_ hro
  simp only [Tryz.ntmps152, List.size_toArray, List.length_cons, List.length_nil, Nat.reduceAdd, Nat.reduceSub, Array.replicate_succ, Array.replicate_zero, List.push_toArray, List.append_toArray, List.nil_append, List.cons_append]
  gi_wp2
  go_ret
  exact ⟨rfl, rfl⟩

theorem pieces_stops (F : Fence) (n : Nat) (h6 : F.fn 159) (hro : F.round = none) (hn : 1 ≤ n) (Bn n₀ : Nat) (s : ByteArray) (hs : s.size ≤ 1048576) (w : World) (hBn : Bn < w.heap.size)
    (hc : w.cell? ⟨Bn, 0, none⟩ = some (.string s)) :
    SeqStopsK F n Tryz.prog 159 #[.pointer (some ⟨Bn, 0, none⟩)] (fun x : ByteArray => #[Value.string x]) (Below n₀) (fun ys => ys = cutB s) (fun pre => pre <+: cutB s) (cutB s).length w := fun l J Jx W hW _ _ hY h0 =>
  pieces1_in F n h6 hro hn l Bn n₀ s hs J Jx hY W ((hW.cell (p := ⟨Bn, 0, none⟩) hBn).trans hc) h0

theorem info_str : (Tryz.prog.info? 9).map (fun i => (i.zero, i.size, i.bytes)) = some (some (.string ⟨#[]⟩), 1, 16) := by kernel_rfl

set_option maxRecDepth 100000 in
set_option maxHeartbeats 2000000 in
theorem chunkcut_in (F : Fence) (n : Nat) (h3 : F.fn 141) (h4 : F.fn 152) (h5 : F.fn 159) (hro : F.round = none) (hn : 3 ≤ n) (s : ByteArray) (hs : s.size ≤ 1048576) (w : World) :
    CallsIn F n Tryz.prog 141 #[.string s] w fun e W' => ∃ v, e = .returned v ∧ W'.ownsRow w.heap.size 9 1 v (cutB s).length ((cutB s).map Value.string) ∧ Below w.heap.size w W' := by
  have h1 : 1 ≤ n := by omega
  have hlen := cutB_len _ s hs
  obtain ⟨i0, hi, hz0, hz1, hz2⟩ := info_parts info_str
  refine callsIn_of_wp_marks Tryz.func141 rfl h3 ?_ hro
  simp only [Tryz.ntmps141, List.size_toArray, List.length_cons, List.length_nil, Nat.reduceAdd, Nat.reduceSub, Array.replicate_succ, Array.replicate_zero, List.push_toArray, List.append_toArray, List.nil_append, List.cons_append]
  gi_wp2_with (gi_at_call 152; refine (pieces_in F (n - 1) h4 hro _ _).mono ?_; rintro e w' ⟨rfl, rfl⟩)
  have bO := Boxed.new w 22 (.slice none 0 0)
  have bN := Boxed.new (w.alloc (.cells #[.slice none 0 0] 22)) 9 (.string s)
  rw [World.size_alloc] at bN
  have hB0 : Below w.heap.size w ((w.alloc (.cells #[.slice none 0 0] 22)).alloc (.cells #[.string s] 9)) := ((Below.refl _ w).alloc (Nat.le_refl _) _).alloc (by simp) _
  refine wpIn_rangeFunc_ownG hro h1 (gf := 159) (lb := #[.pointer (some ⟨w.heap.size + 1, 0, none⟩)]) rfl h5 (enters_of Tryz.func159 (by kernel_rfl) rfl)
    (pieces_stops F (n - 1) h5 hro (by omega) (w.heap.size + 1) w.heap.size s hs _ (by simp) bN.cell) belowK_t (belowK_b (by simp; omega)) (Below.refl _ _) (fun _ => rfl)
    (fun pre W => (∃ v, Boxed W w.heap.size 22 v ∧ W.ownsRow w.heap.size 9 1 v pre.length (pre.map Value.string) ∧ True) ∧ Below w.heap.size w W)
    (fun _ _ _ => False)
    (OwnFrom.and (Own.from (holdsRow_own w.heap.size w.heap.size 22 9 1 (fun pre : List ByteArray => pre.length) (fun pre : List ByteArray => pre.map Value.string) (fun _ _ => True)) _) (ownFrom_below (Nat.le_refl _) (by simp; omega)))
    (fun _ _ _ _ _ hs _ _ => hs)
    ⟨⟨_, bO.alloc _, World.ownsRow_nil _ _ _ _, trivial⟩, hB0⟩
    (fun x => { tmps := #[.string s, undef, .slice none 0 0, .pointer (some ⟨w.heap.size, 0, none⟩), .string x, .string s, .func (.func 159) #[] #[.pointer (some ⟨w.heap.size + 1, 0, none⟩)], .string x, undef, undef, undef, undef, undef], defers := [] }) ?assign ?body ?done ?stop
  case assign =>
    intro l x W K hK
    gi_wp2
    exact hK
  case body =>
    rintro l pre x W ⟨⟨v, hv, hrow, -⟩, hB⟩ hlt
    have hc := hv.cell
    gi_wp2_with (gi_at_builtin; refine wpListIn_append_own _ rfl _ _ 22 rfl w.heap.size 9 i0 (.string ⟨#[]⟩) 1 16 Tryz.underlying22 hi hz0 hz1 hz2 rfl (by decide) _ _ _ rfl (hrow.alloc _) ⟨W.heap.size, 0, none⟩ 1 1 [.string x] rfl rfl (cell_one_new _ _ _) (by simp [Value.oneCell']) (by unfold maxLen; omega) (by omega) (by have := hB.size; simp; omega) ?_; intro v' w1 hown' hgrow _; obtain ⟨g', cap', rfl⟩ := ownsRow_succ hown'; obtain ⟨hv1, hv2, hr2, hk2, hb2⟩ := hv.appended (by decide) hrow hB.size (Nat.le_refl _) hown' hgrow; have hc1 := hv1.cell; have hf1 := hv1.frozen)
    exact ⟨hk2.from _, hb2, ⟨_, hv2, by simpa using hr2, trivial⟩, hB.trans hb2⟩
  case done =>
    rintro D ys W hD rfl ⟨⟨v, hv, hrow, -⟩, hB⟩ hK
    have hc := hv.cell
    gi_wp2
    refine ⟨by simp, .inl ⟨_, _, rfl, run_takeDeferred hK, ?_⟩⟩
    exact ⟨_, results_tmp rfl _ _ _, v, rfl, ownsRow_putObj hrow _ hK rfl, hB.trans (belowK_b (w := w) (Nat.le_refl _) W D _ _ (by simp at hD; omega) hK rfl rfl)⟩
  case stop =>
    rintro D c pre W _ _ h _
    exact h.elim

/-- Cut, the program's. -/
theorem chunkcut_any (s : ByteArray) (w : World) (hs : s.size ≤ 1048576) :
    Calls Tryz.prog 141 #[.string s] w fun e W' => ∃ v, e = .returned v ∧ W'.ownsRow w.heap.size 9 1 v (cutB s).length ((cutB s).map Value.string) ∧ Below w.heap.size w W' :=
  (callsIn_wide (n := 3)).1 (chunkcut_in Fence.wide 3 trivial trivial trivial rfl (Nat.le_refl _) s hs w)

end Go.Proofs.YtimcepoleboldaaGreatDoor
