/- Several texts in one: Mem, LogTexts, PackPlain, SumPlain, ChunkPlain, ChunkFits, DiskPlain, LogScan, LogGood, LogDisk, SumBits, SumCrc, PackWorld, PackBytes, ChunkCrc, PackPut, PackNumber, PackAll. -/
import Derived.Test.YtgahcbhdnplnoaaDoorRows
import Derived.WalkKit
import Derived.WalkSpells
import Derived.WalkLawsBesides
import Derived.Deep.Draws
import Derived.Deep.OwnRows
import Derived.Lib.Hide
import Derived.Lib.BufferWrite
import Derived.OneCell
import Derived.OwnWalk
import Derived.Laws.Rows
import Derived.LoopTactic
import Derived.Outline
import Derived.Deep.Slices
import Derived.Deep.Strs
import Derived.ProofKit
import Derived.Deep.QuietTactic
import Derived.BigQuiet
import Derived.LoopN
import Derived.Laws.OwnMore
import Derived.Maps.AppendAt
import Derived.Laws.BitsAllLaws
import Derived.Deep.AppendLies
import Derived.Lib.SlBytesRow
import Derived.Deep.RegionLaw
import Derived.Deep.LoopGhost
/- Blocks of memory that are known whole, and what changes of a memory when only blocks of some kinds, from a place on, may: laws on memory alone. -/
namespace Go.Proofs.YtgahcbhdnplnoaaDoor
open Go.RowKit

/-- In the world w the block g holds cs, of type t, and nothing of it is frozen. -/
def Blk (w : World) (g : Nat) (t : TypeId) (cs : Array Value) : Prop := w.heap[g]? = some (.cells cs t (0, 0))

section
variable {w w' : World} {g : Nat} {t : TypeId} {cs : Array Value}
theorem Blk.move (h : Blk w g t cs) (e : w'.heap[g]? = w.heap[g]?) : Blk w' g t cs := Eq.trans e h
theorem Blk.lt (h : Blk w g t cs) : g < w.heap.size := lt_of_block h
theorem Blk.cell (h : Blk w g t cs) (i : Nat) : w.cell? ⟨g, i, none⟩ = cs[i]? := cell_of_row w g i cs t _ h
theorem Blk.frozen (h : Blk w g t cs) (i : Nat) : w.frozen? ⟨g, i, none⟩ = false := frozen_of_row w g i cs t h
theorem Blk.new (w : World) (t : TypeId) (cs : Array Value) : Blk (w.alloc (.cells cs t)) w.heap.size t cs := heap_alloc_new w _
theorem Blk.drew (h : Blk w g t cs) : Blk w.drew g t cs := h.move rfl
theorem Blk.alloc (h : Blk w g t cs) (o : Obj) : Blk (w.alloc o) g t cs := h.move (Below.heap_alloc w o g h.lt)
theorem Blk.set (h : Blk w g t cs) (i : Nat) (u : Value) : Blk (w.setCell ⟨g, i, none⟩ u) g t (cs.setIfInBounds i u) := heap_setCell_same w g i cs t u h
theorem Blk.set_fst {x y : Value} (h : Blk w g t #[x, y]) (u : Value) : Blk (w.setCell ⟨g, 0, none⟩ u) g t #[u, y] := by
  have e := heap_setCell_same w g 0 _ t u h
  simpa [Blk] using e
theorem Blk.set_snd {x y : Value} (h : Blk w g t #[x, y]) (u : Value) : Blk (w.setCell ⟨g, 1, none⟩ u) g t #[x, u] := by
  have e := heap_setCell_same w g 1 _ t u h
  simpa [Blk] using e
theorem Blk.set_one {x : Value} (h : Blk w g t #[x]) (u : Value) : Blk (w.setCell ⟨g, 0, none⟩ u) g t #[u] := by
  have e := heap_setCell_same w g 0 _ t u h
  simpa [Blk] using e
theorem Blk.apart (h : Blk w g t cs) {p : Addr} (hp : g ≠ p.block) (u : Value) : Blk (w.setCell p u) g t cs := h.move (heap_setCell_other w p g u hp)
theorem Blk.older {B : Nat} (h : Blk w g t cs) (hb : Below B w w') (hg : g < B) : Blk w' g t cs := h.move (hb.block g hg)
theorem Blk.grown {row : Option Nat} (h : Blk w g t cs) (hb : w.grownBy w' row) (hg : some g ≠ row) : Blk w' g t cs := h.move (hb.block g h.lt hg)
end

/-! ### What has changed: one block, and what is new -/
section
variable {a b c : World} {row : Option Nat} {g : Nat}
theorem gr_refl (w : World) (row : Option Nat) : w.grownBy w row := World.grownBy.refl w row
theorem gr_trans (h : a.grownBy b row) (k : b.grownBy c row) : a.grownBy c row where
  os := k.os.trans h.os
  tape := k.tape.trans h.tape
  output := k.output.trans h.output
  size := Nat.le_trans h.size k.size
  block i hi hne := by
    have h1 := h.block i hi hne
    have h2 := k.block i (by have := h.size; omega) hne
    rw [h2, h1]
theorem gr_alloc (h : a.grownBy b row) (o : Obj) : a.grownBy (b.alloc o) row := gr_trans h (World.grownBy_alloc b o row)
theorem gr_set (h : a.grownBy b (some g)) (i : Nat) (u : Value) : a.grownBy (b.setCell ⟨g, i, none⟩ u) (some g) := gr_trans h (Lib.grownBy_setCell b g i u)
/-- A store into what is newer. -/
theorem gr_set_new (h : a.grownBy b row) {k : Nat} (hk : a.heap.size ≤ k) (i : Nat) (u : Value) : a.grownBy (b.setCell ⟨k, i, none⟩ u) row where
  os := h.os
  tape := h.tape
  output := h.output
  size := by have := h.size; simpa [World.setCell] using this
  block j hj hne := by
    rw [heap_setCell_other b ⟨k, i, none⟩ j u (by show j ≠ k; omega)]
    exact h.block j hj hne
theorem gr_drew (h : a.grownBy b row) : a.grownBy b.drew row := gr_trans h ⟨rfl, rfl, rfl, Nat.le_refl _, fun _ _ _ => rfl⟩
theorem gr_of_below (h : Below a.heap.size a b) (row : Option Nat) : a.grownBy b row where
  os := h.os
  tape := h.tape
  output := h.output
  size := h.size
  block i hi _ := h.block i hi
/-- What changed is block g alone, or newer than a: seen from a world in which g was not there, nothing. -/
theorem gr_new {o : World} (h : o.grownBy a none) (k : a.grownBy b (some g)) (hg : o.heap.size ≤ g) : o.grownBy b none where
  os := k.os.trans h.os
  tape := k.tape.trans h.tape
  output := k.output.trans h.output
  size := Nat.le_trans h.size k.size
  block i hi _ := by
    have h1 := h.block i hi (by simp)
    have h2 := k.block i (by have := h.size; omega) (by simp; omega)
    rw [h2, h1]
theorem gr_to_below (h : a.grownBy b none) : Below a.heap.size a b := ⟨h.os, h.tape, h.output, h.size, fun i hi => h.block i hi (by simp)⟩
end

/-! ### What has changed: blocks of kind T from B on, and what is new -/

structure Ch (T : Obj → Bool) (B : Nat) (w w' : World) : Prop where
  os : w'.os = w.os
  tape : w'.tape = w.tape
  output : w'.output = w.output
  size : w.heap.size ≤ w'.heap.size
  block : ∀ i, i < w.heap.size → (B ≤ i → ∀ o, w.heap[i]? = some o → T o = false) → w'.heap[i]? = w.heap[i]?

section
variable {T : Obj → Bool} {B : Nat} {a b c w : World}
theorem Ch.refl (T : Obj → Bool) (B : Nat) (w : World) : Ch T B w w := ⟨rfl, rfl, rfl, Nat.le_refl _, fun _ _ _ => rfl⟩
theorem Ch.trans (h : Ch T B a b) (k : Ch T B b c) : Ch T B a c where
  os := k.os.trans h.os
  tape := k.tape.trans h.tape
  output := k.output.trans h.output
  size := Nat.le_trans h.size k.size
  block i hi hT := by
    have h1 := h.block i hi hT
    rw [← h1]
    exact k.block i (Nat.lt_of_lt_of_le hi h.size) (fun hB o ho => hT hB o (by rw [← h1]; exact ho))
theorem Ch.drew (h : Ch T B a b) : Ch T B a b.drew := h.trans ⟨rfl, rfl, rfl, Nat.le_refl _, fun _ _ _ => rfl⟩
theorem Ch.alloc (h : Ch T B a b) (o : Obj) : Ch T B a (b.alloc o) :=
  h.trans ⟨rfl, rfl, rfl, by simp, fun i hi _ => Below.heap_alloc b o i hi⟩
theorem Ch.of_grown {row : Option Nat} (hg : a.grownBy b row) (hr : ∀ g, row = some g → B ≤ g ∧ ∃ o, a.heap[g]? = some o ∧ T o = true) : Ch T B a b where
  os := hg.os
  tape := hg.tape
  output := hg.output
  size := hg.size
  block i hi hT := hg.block i hi (fun e => by
    obtain ⟨h1, o, h2, h3⟩ := hr i e.symm
    rw [hT h1 o h2] at h3
    cases h3)
theorem Ch.set {g : Nat} {t : TypeId} {cs : Array Value} (hb : Blk w g t cs) (hB : B ≤ g) (hT : T (.cells cs t (0, 0)) = true) (i : Nat) (u : Value) : Ch T B w (w.setCell ⟨g, i, none⟩ u) :=
  Ch.of_grown (row := some g) (Lib.grownBy_setCell w g i u) (fun k hk => by injection hk with hk; subst hk; exact ⟨hB, _, hb, hT⟩)
theorem Ch.of_below (h : Below a.heap.size a b) : Ch T B a b := ⟨h.os, h.tape, h.output, h.size, fun i hi _ => h.block i hi⟩
theorem Ch.to_below (h : Ch T B a b) (hB : B ≤ a.heap.size) : Below B a b := ⟨h.os, h.tape, h.output, h.size, fun i hi => h.block i (by omega) (fun h2 => by omega)⟩
theorem Ch.blk (h : Ch T B a b) {g : Nat} {t : TypeId} {cs : Array Value} (hb : Blk a g t cs) (hT : T (.cells cs t (0, 0)) = false) : Blk b g t cs :=
  hb.move (h.block g hb.lt (fun _ o ho => by rw [show a.heap[g]? = some (.cells cs t (0, 0)) from hb] at ho; injection ho with ho; rw [← ho]; exact hT))
end

/-- A row that is owned stays while blocks of another kind change. -/
theorem owns_ch {T : Obj → Bool} {B base : Nat} {a b : World} {e : TypeId} {size n : Nat} {v : Value} {xs : List Value} (h : a.ownsRow base e size v n xs) (hc : Ch T B a b) (hT : ∀ cs, T (.cells cs e (0, 0)) = false) : b.ownsRow base e size v n xs := by
  refine ⟨h.1, ?_⟩
  rcases h.2 with hn | ⟨g, cap, cur, rfl, hb, hg, rest⟩
  · exact .inl hn
  · exact .inr ⟨g, cap, cur, rfl, hb, hc.blk hg (hT cur), rest⟩

theorem ch_of_append {T : Obj → Bool} {B : Nat} {a b : World} {e : TypeId} {size n : Nat} {v : Value} {xs : List Value} (h : a.ownsRow B e size v n xs) (hg : a.grownBy b v.ownBlock) (hT : ∀ cs, T (.cells cs e (0, 0)) = true) : Ch T B a b :=
  Ch.of_grown hg (fun g hk => by
    rcases h.2 with ⟨rfl, _⟩ | ⟨g', cap, cur, rfl, hb, hgg, _⟩
    · cases hk
    · simp [Value.ownBlock] at hk
      subst hk
      exact ⟨hb, _, hgg, hT cur⟩)

end Go.Proofs.YtgahcbhdnplnoaaDoor

/- Lists of texts in memory: what a []string reads as, whether it came in or was made by a call; long, same, begins, used of the laws of layer 5. -/
namespace Go.Proofs.YtgahcbhdnplnoaaDoor
open Go.ChangeShapes Go.WideShapes Go.RowKit Go.Deep

/-- In the world w the value v is a []string that reads as l. -/
def Strs (w : World) (v : Value) (l : List ByteArray) : Prop :=
  ∃ A cap, v = .slice A l.length cap ∧ (l.length ≤ cap ∧ (A = none → cap = 0)) ∧ ∀ j s, l[j]? = some s → ∃ b off, A = some ⟨b, off, none⟩ ∧ b < w.heap.size ∧ w.cell? ⟨b, off + j, none⟩ = some (.string s)

/-- Nothing but the tape's place has changed. -/
def Quiet (w w' : World) : Prop := Ch (fun _ => false) 0 w w'

theorem Quiet.refl (w : World) : Quiet w w := Ch.refl _ _ _
theorem Quiet.drewN (w : World) (n : Nat) : Quiet w (w.drewN n) := ⟨rfl, rfl, rfl, Nat.le_refl _, fun _ _ _ => rfl⟩
theorem Quiet.below {w w' : World} (h : Quiet w w') : Below w.heap.size w w' := ⟨h.os, h.tape, h.output, h.size, fun i hi => h.block i hi (fun _ _ _ => rfl)⟩

theorem Strs.below {w w' : World} {v : Value} {l : List ByteArray} (h : Strs w v l) (hb : Below w.heap.size w w') : Strs w' v l := by
  obtain ⟨A, cap, h1, h2, h3⟩ := h
  refine ⟨A, cap, h1, h2, fun j s hj => ?_⟩
  obtain ⟨b, off, h4, h5, h6⟩ := h3 j s hj
  exact ⟨b, off, h4, Nat.lt_of_lt_of_le h5 hb.size, (hb.cell (p := ⟨b, _, none⟩) h5).trans h6⟩

/-- What is made by a call. -/
theorem Strs.of_row {w : World} {base : Nat} {v : Value} {l : List ByteArray} (h : w.ownsRow base 9 1 v l.length (l.map Value.string)) : Strs w v l := by
  have h' := h
  rcases h.2 with ⟨rfl, h0⟩ | ⟨g, cap, cur, rfl, hb, hg, hn, _⟩
  · refine ⟨none, 0, by rw [h0], ⟨by omega, fun _ => rfl⟩, fun j s hj => ?_⟩
    have := (List.getElem?_eq_some_iff.1 hj).1
    omega
  · refine ⟨some ⟨g, 0, none⟩, cap, rfl, ⟨hn, fun h => by cases h⟩, fun j s hj => ⟨g, 0, rfl, (h'.lt g rfl).2, ?_⟩⟩
    have e := h'.cells (g := g) rfl j (.string s) (by simp [hj])
    rw [Addr.add_lit, Nat.zero_add] at e
    rw [Nat.zero_add]
    exact e

theorem str_cells : Tryd.prog.cellsOf 9 = 1 := by kernel_rfl

/-- A row of strings at a place, opened: what the cells read as. -/
theorem open_row {H : Type} {enc : TypeId × Value → H} {w : World} {fuel : Nat} {cs : List Value} {x : DataW H × List MemPlace} {B : Nat}
    (hf : DataW.trod enc Tryd.prog w 0 (fun _ => true) true fuel 22 cs = some x) (hlt : ∀ y ∈ x.2, y.block < B) :
    ∃ A len cap, cs = [.slice A len cap] ∧ ∃ l : List ByteArray, l.length = len ∧ (len ≤ cap ∧ (A = none → cap = 0)) ∧ ∀ j s, l[j]? = some s → ∃ b off, A = some ⟨b, off, none⟩ ∧ b < B ∧ w.cell? ⟨b, off + j, none⟩ = some (.string s) := by
  rcases open_slice Tryd.underlying22 hf with ⟨hcs, _⟩ | ⟨a, len', cap', m, n, D, Pl, hcs, _, hl, _, hm, hx, hi⟩
  · exact ⟨none, 0, 0, hcs, [], rfl, ⟨Nat.le_refl _, fun _ => rfl⟩, fun i it hi => by simp at hi⟩
  · refine ⟨some a, len', cap', hcs, ?_⟩
    simp only [if_true] at hm
    subst hm
    subst hx
    rw [str_cells] at hi hlt
    obtain ⟨f, hf'⟩ := choose_lt (α := ByteArray) (n := len') (p := fun i s => w.cell? (a.add i) = some (.string s)) (fun i hlen => by
      obtain ⟨cs', h1, h2⟩ := hi i (by omega)
      obtain ⟨s, rfl, _⟩ := DataW.trod_string Tryd.underlying9 h2
      obtain ⟨_, _, hat⟩ := World.cells?_some h1
      have := hat 0 (by decide)
      rw [Go.Deep.add_add] at this
      exact ⟨s, by simpa using this⟩)
    refine ⟨(List.range len').map f, by simp, ⟨by omega, fun h => by cases h⟩, fun i s hit => ?_⟩
    obtain ⟨hlen, rfl⟩ : ∃ h : i < len', f i = s := by
      have h1 := (List.getElem?_eq_some_iff.1 hit).1
      simp only [List.length_map, List.length_range] at h1
      refine ⟨h1, ?_⟩
      simpa [h1] using hit
    obtain ⟨b, off, spot⟩ := a
    have hspot : spot = none := by
      have := hf' 0 (by omega)
      simpa [Addr.add] using World.cell?_spot this
    subst hspot
    have hb : b < B := hlt (.cell b off) (List.mem_append_left _ (MemPlace.mem_row.2 ⟨0, by omega, by simp⟩))
    have c0 := hf' i hlen
    simp only [Addr.add_lit] at c0
    exact ⟨b, off, rfl, hb, c0⟩

/-- What came in. -/
theorem open_strs {H : Type} {enc : TypeId × Value → H} {w : World} {v : Value} {d : DataW H} {ps : List MemPlace}
    (h : DataW.Trod enc Tryd.prog w 0 (fun _ => true) true 22 v d ps) (hlt : ∀ y ∈ ps, y.block < w.heap.size) (hv : ∃ A len cap, v = .slice A len cap) : ∃ l : List ByteArray, Strs w v l := by
  obtain ⟨fuel, hf⟩ := h
  obtain ⟨A0, len0, cap0, rfl⟩ := hv
  obtain ⟨A, len, cap, hcs, l, hl, hc, hat⟩ := open_row hf hlt
  simp [Value.cells] at hcs
  obtain ⟨rfl, rfl, rfl⟩ := hcs
  exact ⟨l, A0, cap0, by rw [hl], ⟨by omega, hc.2⟩, hat⟩

/-! ### append of texts -/
theorem info_texts : (Tryd.prog.info? 9).map (fun i => (i.zero, i.size, i.bytes)) = some (some (.string ⟨#[]⟩), 1, 16) := by kernel_rfl

theorem one_texts (l : List ByteArray) : ∀ u ∈ l.map Value.string, u.oneCell' = true := by
  intro u hu
  simp only [List.mem_map] at hu
  obtain ⟨b, _, rfl⟩ := hu
  rfl

set_option maxRecDepth 20000 in
theorem run_append_texts {w : World} {base : Nat} {v1 v2 : Value} {l m : List ByteArray} (h : w.ownsRow base 9 1 v1 l.length (l.map Value.string)) (hm : Strs w v2 m) (hl : l.length + m.length ≤ 1048576) (hb : base ≤ w.heap.size) (ty : TypeId) :
    ∃ v3 w', (Builtin.append_ #[22, 22] ty #[v1, v2]).run Tryd.prog w = .ok v3 w' ∧ w'.ownsRow base 9 1 v3 (l ++ m).length ((l ++ m).map Value.string) ∧ w.grownBy w' v1.ownBlock := by
  obtain ⟨i0, hi, hz0, hz1, hz2⟩ := info_parts info_texts
  obtain ⟨A, cap, rfl, ⟨hcap, hnil⟩, hat⟩ := hm
  cases A with
  | none =>
    have hc := hnil rfl
    subst hc
    have hm0 : m = [] := List.eq_nil_of_length_eq_zero (by omega)
    subst hm0
    refine ⟨v1, w, run_append_owned_none w base 22 ty 9 i0 1 Tryd.underlying22 hi v1 l.length _ h, by simpa using h, gr_refl w _⟩
  | some a =>
    obtain ⟨v3, w', hr, h2, h3, _⟩ := run_append_own_at (P := Tryd.prog) w base 22 ty 9 i0 (.string ⟨#[]⟩) 1 16 Tryd.underlying22 hi hz0 hz1 hz2 rfl (by decide) v1 l.length _ h a m.length cap (m.map Value.string) (by simp) (fun j u hj => by
      rw [List.getElem?_map] at hj
      cases hmj : m[j]? with
      | none => rw [hmj] at hj; simp at hj
      | some s =>
        rw [hmj] at hj
        simp at hj
        obtain ⟨b, off, e, h5, h6⟩ := hat j s hmj
        injection e with e
        subst e
        rw [Addr.add_lit, h6, hj]) (one_texts m) (by unfold maxLen; omega) (by omega) hb
    exact ⟨v3, w', hr, by simpa using h2, h3⟩

theorem wpList_append_texts {ops : Array Oper} {rest : List Oper} {o : Oper} {a : Act} {w : World} {Q : Exit → Act → World → Prop} (hg : o.guard = none) (s x : Operand)
    (ho : o.op = .call { callee := .builtin .append, args := #[s, x], argTypes := #[22, 22] })
    {base : Nat} {v1 v2 : Value} {l m : List ByteArray} (h : w.ownsRow base 9 1 v1 l.length (l.map Value.string)) (hm : Strs w v2 m) (hl : l.length + m.length ≤ 1048576) (hb : base ≤ w.heap.size) (hs : a.eval s = v1) (hx : a.eval x = v2)
    (hK : ∀ v3 w', w'.ownsRow base 9 1 v3 (l ++ m).length ((l ++ m).map Value.string) → w.grownBy w' v1.ownBlock → wpList Tryd.prog ops Q rest (a.put o.dst v3) w') : wpList Tryd.prog ops Q (o :: rest) a w := by
  refine wpList_plain hg fun K' hK' => ?_
  obtain ⟨v3, w', hrun, r1, r2⟩ := run_append_texts h hm hl hb o.type
  unfold Oper.wp
  simp [execOp, ho, resolve, invoke, builtin, hs, hx, hrun, Result.andThen]
  exact hK' _ _ (hK v3 w' r1 r2)

/-! ### same -/
def SamePost (a b : List ByteArray) (w : World) (e : Ending) (w' : World) : Prop := e = .returned (.bool (decide (a = b))) ∧ Quiet w w'

theorem take_ext {α : Type} {a b : List α} {k : Nat} {x y : α} (h : a.take k = b.take k) (ha : a[k]? = some x) (hb : b[k]? = some y) (hxy : x = y) : a.take (k + 1) = b.take (k + 1) := by
  obtain ⟨h1, rfl⟩ := List.getElem?_eq_some_iff.1 ha
  obtain ⟨h2, rfl⟩ := List.getElem?_eq_some_iff.1 hb
  rw [List.take_succ_eq_append_getElem h1, List.take_succ_eq_append_getElem h2, h, hxy]

theorem bytes_neq {a b : ByteArray} (h : ¬ a = b) : (a.toList == b.toList) = false := by
  rw [beq_eq_false_iff_ne, ByteArray.toList_eq, ByteArray.toList_eq]
  intro e
  apply h
  have e1 : ∀ u : ByteArray, (⟨u.data.toList.toArray⟩ : ByteArray) = u := fun u => by simp
  rw [← e1 a, e, e1 b]

theorem said_true {p : Prop} [Decidable p] (h : p) : Ending.returned (Value.bool true) = .returned (.bool (decide p)) := by rw [decide_eq_true h]
theorem said_false {p : Prop} [Decidable p] (h : ¬ p) : Ending.returned (Value.bool false) = .returned (.bool (decide p)) := by rw [decide_eq_false h]

set_option maxRecDepth 20000 in
set_option maxHeartbeats 800000 in
theorem same_any (va vb : Value) (a b : List ByteArray) (w : World) (ha : Strs w va a) (hb : Strs w vb b) (hla : a.length ≤ 1099511627776) :
    Calls Tryd.prog 17 #[va, vb] w (SamePost a b w) := by
  obtain ⟨A, ca, rfl, hca, hA⟩ := ha
  obtain ⟨B, cb, rfl, hcb, hB⟩ := hb
  by_cases hne : (a.length : Int) = (b.length : Int)
  · have hlen : a.length = b.length := by omega
    have HA := Lib.hid hA; have HB := Lib.hid hB
    have HL := Lib.hid hlen
    have hnb : ((a.length : Int) != (b.length : Int)) = false := by rw [bne_eq_false_iff_eq]; exact hne
    clear hA hB hlen
    go_enter Tryd.func17, Tryd.ntmps17
    go_wp2_with fail
    go_loopw [5] (fun v wr => ∃ k : Nat, k ≤ a.length ∧ v = .int .i64 (k : Int) ∧ a.take k = b.take k ∧ Quiet w wr) (fun v _ => a.length - (intOf v).toNat)
    case atStart => exact ⟨0, Nat.zero_le _, rfl, rfl, Quiet.refl _⟩
    case round =>
      obtain ⟨k, hk, rfl, htk, hq⟩ := hrel
      by_cases hlt : k < a.length
      · obtain ⟨x, hx⟩ : ∃ x, a[k]? = some x := ⟨_, List.getElem?_eq_getElem hlt⟩
        obtain ⟨y, hy⟩ : ∃ y, b[k]? = some y := ⟨_, List.getElem?_eq_getElem (by rw [← HL.out]; exact hlt)⟩
        obtain ⟨b1, o1, rfl, l1, c1⟩ := HA.out k x hx
        obtain ⟨b2, o2, rfl, l2, c2⟩ := HB.out k y hy
        have d1 := (hq.below.cell (p := ⟨b1, o1 + k, none⟩) l1).trans c1
        have d2 := (hq.below.cell (p := ⟨b2, o2 + k, none⟩) l2).trans c2
        have hki : (k : Int) < (a.length : Int) := by omega
        have hkb : (k : Int) < (b.length : Int) := by omega
        have HQ := Lib.hid hq
        clear c1 c2 hq
        by_cases hxy : x = y
        · have HT := Lib.hid (take_ext htk hx hy hxy)
          clear htk hx hy
          subst hxy
          go_wp2_with fail
          go_quiet (fail)
          go_wp2_with fail
          go_roundw
          case rel => exact ⟨k + 1, by omega, by go_num, HT.out, HQ.out.trans (Quiet.drewN _ _)⟩
          case measure => simp [intOf]; omega
        · have hn := bytes_neq hxy
          have HD2 := Lib.hid (show ¬ a = b from fun e2 => by
            rw [e2, hy] at hx
            injection hx with hx
            exact hxy hx.symm)
          clear htk hx hy hxy
          go_wp2_with fail
          go_quiet (fail)
          go_wp2_with fail
          go_ret
          exact ⟨said_false HD2.out, HQ.out.trans (Quiet.drewN _ _)⟩
      · have hall : a = b := by
          rw [List.take_of_length_le (by omega), List.take_of_length_le (by rw [← HL.out]; omega)] at htk
          exact htk
        have HE := Lib.hid hall
        clear htk hall
        go_wp2_with fail
        go_ret
        exact ⟨said_true HE.out, hq⟩
  · have hd : ¬ a = b := fun e => hne (by rw [e])
    have HD := Lib.hid hd
    have hnb : ((a.length : Int) != (b.length : Int)) = true := by rw [bne_iff_ne]; exact hne
    clear hA hB hd
    go_enter Tryd.func17, Tryd.ntmps17
    go_wp2_with fail
    go_ret
    exact ⟨said_false HD.out, Quiet.refl _⟩

/-! ### long -/
/-- How many texts and bytes a list has. -/
def size (l : List ByteArray) : Nat := l.length + (l.map ByteArray.size).sum

def LongPost (l : List ByteArray) (w : World) (e : Ending) (w' : World) : Prop :=
  ∃ n : Nat, e = .returned (.int .i64 (n : Int)) ∧ n ≤ 3000000 ∧ (n ≤ 16384 → n = size l) ∧ (16384 < n → 16384 < size l) ∧ w = w'

/-- What long adds up. -/
def wsum (l : List ByteArray) : Nat := (l.map fun s => min s.size 1048576).sum
theorem wsum_up {l : List ByteArray} {k : Nat} {x : ByteArray} (h : l[k]? = some x) : wsum (l.take (k + 1)) = wsum (l.take k) + min x.size 1048576 := by
  obtain ⟨h1, rfl⟩ := List.getElem?_eq_some_iff.1 h
  unfold wsum
  rw [List.take_succ_eq_append_getElem h1, List.map_append, List.sum_append]
  simp
theorem wsum_le (l : List ByteArray) : wsum l ≤ (l.map ByteArray.size).sum := by
  induction l with
  | nil => exact Nat.le_refl _
  | cons s l ih =>
    have e : wsum (s :: l) = min s.size 1048576 + wsum l := rfl
    rw [e, List.map_cons, List.sum_cons]
    omega
theorem wsum_take (l : List ByteArray) (k : Nat) : wsum (l.take k) ≤ wsum l := by
  conv => rhs; rw [← List.take_append_drop k l]
  unfold wsum
  rw [List.map_append, List.sum_append]
  omega
theorem wsum_eq (l : List ByteArray) (h : wsum l ≤ 16384) : wsum l = (l.map ByteArray.size).sum := by
  induction l with
  | nil => rfl
  | cons s l ih =>
    have e : wsum (s :: l) = min s.size 1048576 + wsum l := rfl
    rw [e] at h ⊢
    rw [List.map_cons, List.sum_cons, ← ih (by omega)]
    omega

/-- What long's loop comes to. -/
theorem long_end {a : List ByteArray} {k : Nat} (h : a.length ≤ k ∨ 16384 < a.length + wsum (a.take k)) :
    (a.length + wsum (a.take k) ≤ 16384 → a.length + wsum (a.take k) = size a) ∧ (16384 < a.length + wsum (a.take k) → 16384 < size a) := by
  have h1 := wsum_take a k
  have h2 := wsum_le a
  unfold size
  refine ⟨fun hs => ?_, fun hs => by omega⟩
  rcases h with hk | hk
  · rw [List.take_of_length_le hk] at hs ⊢
    rw [wsum_eq a (by omega)]
  · omega

set_option maxRecDepth 20000 in
set_option maxHeartbeats 800000 in
theorem long_any (va : Value) (a : List ByteArray) (w : World) (ha : Strs w va a) :
    Calls Tryd.prog 9 #[va] w (LongPost a w) := by
  obtain ⟨A, ca, rfl, hca, hA⟩ := ha
  have HA := Lib.hid hA
  clear hA
  by_cases hbig : 1048576 < a.length
  · have hb1 : 1048576 < (a.length : Int) := by omega
    have HL := Lib.hid (show 16384 < size a by unfold size; omega)
    clear hca
    go_enter Tryd.func9, Tryd.ntmps9
    go_wp2_with fail
    refine wp_loop_rounds 1 ?_
    rw [rounds_succ]
    go_wp2_with fail
    go_ret
    exact ⟨1048576, by first | rfl | exact congrArg (fun z => Ending.returned (Value.int .i64 z)) (Int.min_eq_right (Int.le_of_lt hb1)), by omega, fun h => by omega, fun _ => HL.out, rfl⟩
  · have hb1 : (a.length : Int) ≤ 1048576 := by omega
    go_enter Tryd.func9, Tryd.ntmps9
    go_wp2_with fail
    go_loop [3, 4] (fun n i => ∃ k : Nat, k ≤ a.length ∧ a.length + wsum (a.take k) ≤ 3000000 ∧ i = .int .i64 (k : Int) ∧ n = .int .i64 ((a.length + wsum (a.take k) : Nat) : Int)) (fun _ i => a.length - (intOf i).toNat)
    case atStart => exact ⟨0, Nat.zero_le _, by simp [wsum]; omega, rfl, by first | (simp [wsum]; done) | (simp [wsum]; omega)⟩
    case round =>
      obtain ⟨k, hk, hsz, rfl, rfl⟩ := hrel
      by_cases hn : a.length + wsum (a.take k) ≤ 16384
      · by_cases hlt : k < a.length
        · obtain ⟨x, hx⟩ : ∃ x, a[k]? = some x := ⟨_, List.getElem?_eq_getElem hlt⟩
          obtain ⟨b1, o1, rfl, l1, c1⟩ := HA.out k x hx
          have hup := Lib.hid (wsum_up hx)
          clear hx
          go_wp2_with fail
          all_goals
            go_round
            case rel => exact ⟨k + 1, by omega, by rw [hup.out]; omega, by go_num, congrArg (Value.int .i64) (by rw [hup.out]; omega)⟩
            case measure => simp [intOf]; omega
        · obtain ⟨e1, e2⟩ := long_end (a := a) (k := k) (.inl (by omega))
          have HE := Lib.hid (And.intro e1 e2)
          clear e1 e2
          go_wp2_with fail
          go_ret
          exact ⟨_, rfl, hsz, HE.out.1, HE.out.2, rfl⟩
      · obtain ⟨e1, e2⟩ := long_end (a := a) (k := k) (.inr (by omega))
        have HE := Lib.hid (And.intro e1 e2)
        clear e1 e2
        by_cases hlt : k < a.length
        · go_wp2_with fail
          go_ret
          exact ⟨_, rfl, hsz, HE.out.1, HE.out.2, rfl⟩
        · go_wp2_with fail
          go_ret
          exact ⟨_, rfl, hsz, HE.out.1, HE.out.2, rfl⟩

end Go.Proofs.YtgahcbhdnplnoaaDoor

/- Plain mathematics of layer 2: a number's digits as bytes, what comes next of some bytes, texts, records. It speaks of no program. -/
namespace Go.Proofs.YtgahcbhdnplnoaaDoor.Pk

/-- A number's code, with fuel. -/
def codeF : Nat → Nat → List UInt8
  | 0, n => [UInt8.ofNat n]
  | f + 1, n => if n < 128 then [UInt8.ofNat n] else UInt8.ofNat (n % 128 + 128) :: codeF f (n / 128)

/-- A number's code. -/
def code (n : Nat) : List UInt8 := codeF n n

theorem codeF_eq : ∀ (f g n : Nat), n ≤ f → n ≤ g → codeF f n = codeF g n := by
  intro f
  induction f with
  | zero =>
    intro g n hf hg
    obtain rfl : n = 0 := by omega
    cases g with
    | zero => rfl
    | succ g => simp [codeF]
  | succ f ih =>
    intro g n hf hg
    cases g with
    | zero =>
      obtain rfl : n = 0 := by omega
      simp [codeF]
    | succ g =>
      simp only [codeF]
      by_cases h : n < 128
      · rw [if_pos h, if_pos h]
      · rw [if_neg h, if_neg h, ih g (n / 128) (by omega) (by omega)]

theorem code_lt (n : Nat) (h : n < 128) : code n = [UInt8.ofNat n] := by
  unfold code
  cases n with
  | zero => rfl
  | succ n => simp [codeF, h]

theorem code_ge (n : Nat) (h : 128 ≤ n) : code n = UInt8.ofNat (n % 128 + 128) :: code (n / 128) := by
  unfold code
  cases n with
  | zero => omega
  | succ n =>
    simp only [codeF]
    rw [if_neg (by omega), codeF_eq n ((n + 1) / 128) ((n + 1) / 128) (by omega) (Nat.le_refl _)]

theorem code_pos (n : Nat) : 0 < (code n).length := by
  by_cases h : n < 128
  · rw [code_lt n h]; simp
  · rw [code_ge n (by omega)]; simp

theorem code_ne (n : Nat) : code n ≠ [] := by
  intro h
  have := code_pos n
  rw [h] at this
  simp at this

theorem code_len : ∀ (k n : Nat), n < 128 ^ (k + 1) → (code n).length ≤ k + 1 := by
  intro k
  induction k with
  | zero => intro n h; rw [code_lt n (by simpa using h)]; simp
  | succ k ih =>
    intro n h
    by_cases h1 : n < 128
    · rw [code_lt n h1]; simp
    · rw [code_ge n (by omega)]
      have h2 : n / 128 < 128 ^ (k + 1) := by
        rw [Nat.div_lt_iff_lt_mul (by omega)]
        rwa [Nat.pow_succ] at h
      have := ih (n / 128) h2
      simp only [List.length_cons]
      omega

theorem code_len_ge : ∀ (k n : Nat), 128 ^ (k + 1) ≤ n → k + 1 < (code n).length := by
  intro k
  induction k with
  | zero =>
    intro n h
    rw [code_ge n (by simpa using h)]
    have := code_pos (n / 128)
    simp only [List.length_cons]
    omega
  | succ k ih =>
    intro n h
    have hp : 128 ^ (k + 1 + 1) = 128 ^ (k + 1) * 128 := Nat.pow_succ ..
    have h1 : 0 < 128 ^ (k + 1) := Nat.pow_pos (by omega)
    rw [code_ge n (by omega)]
    have h2 : 128 ^ (k + 1) ≤ n / 128 := by
      rw [Nat.le_div_iff_mul_le (by omega)]
      omega
    have := ih (n / 128) h2
    simp only [List.length_cons]
    omega

/-- 2^56 - 1. -/
def most : Nat := 72057594037927935

/-- What an int counts as. -/
def cl (n : Int) : Nat := (max 0 (min n 72057594037927935)).toNat

theorem cl_le (n : Int) : cl n ≤ 72057594037927935 := by unfold cl; omega
theorem cl_cast (n : Int) : ((cl n : Nat) : Int) = max 0 (min n 72057594037927935) := by unfold cl; omega
theorem cl_nat (n : Nat) (h : n ≤ 72057594037927935) : cl (n : Int) = n := by unfold cl; omega

theorem code_len8 (n : Nat) (h : n ≤ 72057594037927935) : (code n).length ≤ 8 := code_len 7 n (by omega)

/-- The longer code is the greater number's. -/
theorem code_sorts (m n : Nat) (h : m ≤ n) : (code m).length ≤ (code n).length := by
  revert m
  induction n using Nat.strongRecOn with
  | _ n ih =>
    intro m h
    by_cases h1 : m < 128
    · rw [code_lt m h1]
      exact code_pos n
    · rw [code_ge m (by omega), code_ge n (by omega)]
      simp only [List.length_cons]
      have := ih (n / 128) (by omega) (m / 128) (by omega)
      omega

theorem code_one (n : Nat) : (code n).length = 1 ↔ n < 128 := by
  constructor
  · intro h
    by_cases h1 : n < 128
    · exact h1
    · rw [code_ge n (by omega)] at h
      have := code_pos (n / 128)
      simp only [List.length_cons] at h
      omega
  · intro h; rw [code_lt n h]; rfl

/-! ### What comes next of some bytes -/

/-- From the digit i on, acc so far: the number, the error, what is left. -/
def numGo : Nat → Nat → List UInt8 → Nat × Nat × List UInt8
  | _, _, [] => (0, 20, [])
  | i, acc, b :: t =>
    if i = 8 then (0, 21, [])
    else if 128 ≤ b.toNat then numGo (i + 1) (acc + b.toNat % 128 * 2 ^ (7 * i)) t
    else if b.toNat = 0 ∧ 0 < i then (0, 21, [])
    else (acc + b.toNat % 128 * 2 ^ (7 * i), 0, t)

/-- The number whose code comes next, the error, what is left. -/
def num (l : List UInt8) : Nat × Nat × List UInt8 :=
  if (numGo 0 0 l).2.1 = 0 then numGo 0 0 l else (0, (numGo 0 0 l).2.1, l)

/-- The text that comes next, the error, what is left. -/
def text (l : List UInt8) : List UInt8 × Nat × List UInt8 :=
  if (num l).2.1 = 0 then
    if (num l).1 ≤ (num l).2.2.length then ((num l).2.2.take (num l).1, 0, (num l).2.2.drop (num l).1)
    else ([], 20, l)
  else ([], (num l).2.1, l)

theorem toNat_more (n : Nat) : (UInt8.ofNat (n % 128 + 128)).toNat = n % 128 + 128 := by
  rw [UInt8.toNat_ofNat']; omega
theorem toNat_last (n : Nat) (h : n < 128) : (UInt8.ofNat n).toNat = n := by
  rw [UInt8.toNat_ofNat']; omega

theorem numGo_code : ∀ (n i acc : Nat) (r : List UInt8), i + (code n).length ≤ 8 → (0 < n ∨ i = 0) →
    numGo i acc (code n ++ r) = (acc + n * 2 ^ (7 * i), 0, r) := by
  intro n
  induction n using Nat.strongRecOn with
  | _ n ih =>
    intro i acc r hl hz
    by_cases h1 : n < 128
    · rw [code_lt n h1] at hl ⊢
      simp only [List.length_singleton] at hl
      simp only [List.singleton_append, numGo, toNat_last n h1]
      rw [if_neg (by omega), if_neg (by omega), if_neg (by omega), Nat.mod_eq_of_lt h1]
    · rw [code_ge n (by omega)] at hl ⊢
      simp only [List.length_cons] at hl
      have hp := code_pos (n / 128)
      simp only [List.cons_append, numGo, toNat_more]
      rw [if_neg (by omega), if_pos (by omega), ih (n / 128) (by omega) (i + 1) _ r (by omega) (.inl (by omega))]
      have e1 : (n % 128 + 128) % 128 = n % 128 := by omega
      have e2 : 2 ^ (7 * (i + 1)) = 128 * 2 ^ (7 * i) := by
        rw [show 7 * (i + 1) = 7 * i + 7 by omega, Nat.pow_add, Nat.mul_comm]
      rw [e1, e2]
      have e3 : n / 128 * (128 * 2 ^ (7 * i)) = (n / 128 * 128) * 2 ^ (7 * i) := by rw [Nat.mul_assoc]
      rw [e3, Nat.add_assoc, ← Nat.add_mul]
      have e4 : n % 128 + n / 128 * 128 = n := by omega
      rw [e4]

theorem numGo_cut : ∀ (n i acc k : Nat), k < (code n).length → i + k ≤ 8 → numGo i acc ((code n).take k) = (0, 20, []) := by
  intro n
  induction n using Nat.strongRecOn with
  | _ n ih =>
    intro i acc k hk hi
    cases k with
    | zero => rfl
    | succ k =>
      by_cases h1 : n < 128
      · rw [code_lt n h1] at hk
        simp at hk
      · rw [code_ge n (by omega)] at hk ⊢
        simp only [List.length_cons] at hk
        simp only [List.take_succ_cons, numGo, toNat_more]
        rw [if_neg (by omega), if_pos (by omega), ih (n / 128) (by omega) (i + 1) _ k (by omega) (by omega)]

/-! ### The loop's ways, one by one -/

theorem num_end {l : List UInt8} {i acc : Nat} (h : numGo 0 0 l = numGo i acc []) : num l = (0, 20, l) := by
  unfold num; rw [h]; simp [numGo]
theorem num_eight {l : List UInt8} {acc : Nat} {b : UInt8} {t : List UInt8} (h : numGo 0 0 l = numGo 8 acc (b :: t)) : num l = (0, 21, l) := by
  unfold num; rw [h]; simp [numGo]
theorem num_more {l : List UInt8} {i acc : Nat} {b : UInt8} {t : List UInt8} (h : numGo 0 0 l = numGo i acc (b :: t)) (hi : i < 8) (hb : 128 ≤ b.toNat) : numGo 0 0 l = numGo (i + 1) (acc + b.toNat % 128 * 2 ^ (7 * i)) t := by
  rw [h, numGo, if_neg (by omega), if_pos hb]
theorem num_zero {l : List UInt8} {i acc : Nat} {b : UInt8} {t : List UInt8} (h : numGo 0 0 l = numGo i acc (b :: t)) (hi : i < 8) (hb : b.toNat = 0) (h0 : 0 < i) : num l = (0, 21, l) := by
  rw [numGo, if_neg (by omega), if_neg (by omega), if_pos ⟨hb, h0⟩] at h
  unfold num; rw [h]; rfl
theorem num_last {l : List UInt8} {i acc : Nat} {b : UInt8} {t : List UInt8} (h : numGo 0 0 l = numGo i acc (b :: t)) (hi : i < 8) (hb : b.toNat < 128) (h0 : ¬ (b.toNat = 0 ∧ 0 < i)) : num l = (acc + b.toNat % 128 * 2 ^ (7 * i), 0, t) := by
  rw [numGo, if_neg (by omega), if_neg (by omega), if_neg h0] at h
  unfold num; rw [h]; rfl

theorem pow_le (i : Nat) (hi : i < 8) : 2 ^ (7 * i) ≤ 562949953421312 := by
  have h : 2 ^ (7 * i) ≤ 2 ^ 49 := Nat.pow_le_pow_right (by omega) (by omega)
  exact h
theorem sum_lt (acc i b : Nat) (ha : acc < 2 ^ (7 * i)) : acc + b % 128 * 2 ^ (7 * i) < 2 ^ (7 * (i + 1)) := by
  have e : 2 ^ (7 * (i + 1)) = 128 * 2 ^ (7 * i) := by
    rw [show 7 * (i + 1) = 7 * i + 7 by omega, Nat.pow_add, Nat.mul_comm]
  have h1 : b % 128 * 2 ^ (7 * i) ≤ 127 * 2 ^ (7 * i) := Nat.mul_le_mul_right _ (by omega)
  rw [e]
  generalize 2 ^ (7 * i) = p at *
  generalize b % 128 * p = m at *
  omega
theorem sum_small (acc i b : Nat) (hi : i < 8) (ha : acc < 2 ^ (7 * i)) : b % 128 * 2 ^ (7 * i) ≤ 71494644084506624 ∧ acc + b % 128 * 2 ^ (7 * i) < 72057594037927936 := by
  have h1 : b % 128 * 2 ^ (7 * i) ≤ 127 * 562949953421312 := Nat.mul_le_mul (by omega) (pow_le i hi)
  have h2 := sum_lt acc i b ha
  have h3 : 2 ^ (7 * (i + 1)) ≤ 2 ^ 56 := Nat.pow_le_pow_right (by omega) (by omega)
  exact ⟨h1, Nat.lt_of_lt_of_le h2 h3⟩

theorem num_code (n : Nat) (h : n ≤ 72057594037927935) (r : List UInt8) : num (code n ++ r) = (n, 0, r) := by
  have := numGo_code n 0 0 r (by have := code_len8 n h; omega) (.inr rfl)
  unfold num
  rw [this]
  simp

theorem num_cut (n : Nat) (h : n ≤ 72057594037927935) (k : Nat) (hk : k < (code n).length) : num ((code n).take k) = (0, 20, (code n).take k) := by
  have := numGo_cut n 0 0 k hk (by have := code_len8 n h; omega)
  unfold num
  rw [this]
  simp

theorem num_wrong (l : List UInt8) (h : (num l).2.1 ≠ 0) : (num l).2.2 = l := by
  unfold num at h ⊢
  by_cases h1 : (numGo 0 0 l).2.1 = 0
  · rw [if_pos h1] at h; exact absurd h1 h
  · rw [if_neg h1]
theorem numGo_most : ∀ (l : List UInt8) (i acc : Nat), i ≤ 8 → acc < 2 ^ (7 * i) → (numGo i acc l).1 ≤ 72057594037927935 := by
  intro l
  induction l with
  | nil => intro i acc _ _; simp [numGo]
  | cons b t ih =>
    intro i acc hi ha
    unfold numGo
    split
    · simp
    · rename_i h8
      have h7 : i < 8 := by omega
      split
      · exact ih _ _ (by omega) (sum_lt acc i b.toNat ha)
      · split
        · simp
        · have := (sum_small acc i b.toNat h7 ha).2
          show acc + b.toNat % 128 * 2 ^ (7 * i) ≤ 72057594037927935
          omega
/-- What is read is no more than the most. -/
theorem num_most (l : List UInt8) : (num l).1 ≤ 72057594037927935 := by
  unfold num
  split
  · exact numGo_most l 0 0 (by omega) (by omega)
  · simp

theorem num_nil : num [] = (0, 20, []) := rfl

/-- Two numbers with one code are one. -/
theorem code_inj (m n : Nat) (hm : m ≤ 72057594037927935) (hn : n ≤ 72057594037927935) (h : code m = code n) : m = n := by
  have h1 := num_code m hm []
  have h2 := num_code n hn []
  rw [h, h2] at h1
  exact (congrArg Prod.fst h1).symm

theorem code_same (m n : Nat) (hm : m ≤ 72057594037927935) (hn : n ≤ 72057594037927935) : (code m == code n) = ((m : Int) == (n : Int)) := by
  by_cases h : m = n
  · subst h; simp
  · have h1 : ¬ code m = code n := fun e => h (code_inj m n hm hn e)
    have h2 : ¬ (m : Int) = (n : Int) := by omega
    rw [beq_eq_false_iff_ne.2 h1, beq_eq_false_iff_ne.2 h2]

theorem code_one_b (n : Nat) : (decide ((n : Int) < 128) == (((code n).length : Int) == 1)) = true := by
  have h := code_one n
  by_cases h1 : n < 128
  · have h2 : ((code n).length : Int) = 1 := by have := h.2 h1; omega
    rw [h2]
    simp
    omega
  · have h2 : ¬ ((code n).length : Int) = 1 := fun e => h1 (h.1 (by omega))
    rw [beq_eq_false_iff_ne.2 h2, decide_eq_false (by omega)]
    rfl

def texted (s : List UInt8) : List UInt8 := code s.length ++ s

theorem text_texted (s r : List UInt8) (h : s.length ≤ 72057594037927935) : text (texted s ++ r) = (s, 0, r) := by
  unfold text texted
  rw [List.append_assoc, num_code _ h]
  simp

theorem text_wrong (l : List UInt8) (h : (text l).2.1 ≠ 0) : (text l).1 = [] ∧ (text l).2.2 = l := by
  unfold text at h ⊢
  by_cases h1 : (num l).2.1 = 0
  · by_cases h2 : (num l).1 ≤ (num l).2.2.length
    · simp [h1, h2] at h
    · simp [h1, h2]
  · simp [h1]

theorem take_append_cases {α : Type} (a b : List α) (k : Nat) (h : k < (a ++ b).length) :
    (k < a.length ∧ (a ++ b).take k = a.take k) ∨ ∃ j, j < b.length ∧ (a ++ b).take k = a ++ b.take j := by
  by_cases h1 : k < a.length
  · exact .inl ⟨h1, by rw [List.take_append_of_le_length (by omega)]⟩
  · right
    rw [List.length_append] at h
    refine ⟨k - a.length, by omega, ?_⟩
    rw [List.take_append, List.take_of_length_le (by omega)]

theorem text_cut (s : List UInt8) (h : s.length ≤ 72057594037927935) (k : Nat) (hk : k < (texted s).length) : text ((texted s).take k) = ([], 20, (texted s).take k) := by
  unfold texted at hk ⊢
  rcases take_append_cases _ _ k hk with ⟨h1, e⟩ | ⟨j, hj, e⟩
  · rw [e]; unfold text; rw [num_cut _ h k h1]; simp
  · rw [e]
    unfold text
    rw [num_code _ h]
    have : ¬ s.length ≤ (s.take j).length := by simp; omega
    simp only [this, if_true, if_false]

/-! ### Records -/

/-- A record's bytes. -/
def recd (k : Int) (key val : List UInt8) : List UInt8 := code (cl k) ++ texted key ++ (if k = 1 then texted val else [])

/-- A record out of bytes: its kind, key and value, and the error. -/
def unrec (l : List UInt8) : Nat × List UInt8 × List UInt8 × Nat :=
  if (num l).2.1 ≠ 0 then (0, [], [], (num l).2.1)
  else if (num l).1 ≠ 1 ∧ (num l).1 ≠ 2 then (0, [], [], 21)
  else if (text (num l).2.2).2.1 ≠ 0 then (0, [], [], (text (num l).2.2).2.1)
  else if (num l).1 = 1 then
    if (text (text (num l).2.2).2.2).2.1 ≠ 0 then (0, [], [], (text (text (num l).2.2).2.2).2.1)
    else if (text (text (num l).2.2).2.2).2.2 ≠ [] then (0, [], [], 21)
    else (1, (text (num l).2.2).1, (text (text (num l).2.2).2.2).1, 0)
  else if (text (num l).2.2).2.2 ≠ [] then (0, [], [], 21)
  else (2, (text (num l).2.2).1, [], 0)

theorem numGo_len : ∀ (l : List UInt8) (i acc : Nat), (numGo i acc l).2.2.length ≤ l.length := by
  intro l
  induction l with
  | nil => intro i acc; simp [numGo]
  | cons b t ih =>
    intro i acc
    unfold numGo
    split
    · simp
    · split
      · exact Nat.le_trans (ih _ _) (by simp)
      · split
        · simp
        · simp
theorem num_len (l : List UInt8) : (num l).2.2.length ≤ l.length := by
  unfold num
  split
  · exact numGo_len l 0 0
  · exact Nat.le_refl _
theorem text_len (l : List UInt8) : (text l).2.2.length ≤ l.length := by
  have h := num_len l
  unfold text
  split
  · split
    · simp only [List.length_drop]; omega
    · exact Nat.le_refl _
  · exact Nat.le_refl _

/-! the ways of unrec, one by one -/
theorem unrec_num {l : List UInt8} (h : (num l).2.1 ≠ 0) : unrec l = (0, [], [], (num l).2.1) := by
  unfold unrec; rw [if_pos h]
theorem unrec_kind {l : List UInt8} (h : (num l).2.1 = 0) (h1 : (num l).1 ≠ 1) (h2 : (num l).1 ≠ 2) : unrec l = (0, [], [], 21) := by
  unfold unrec; rw [if_neg (by omega), if_pos ⟨h1, h2⟩]
theorem unrec_key {l : List UInt8} (h : (num l).2.1 = 0) (hk : (num l).1 = 1 ∨ (num l).1 = 2) (h2 : (text (num l).2.2).2.1 ≠ 0) : unrec l = (0, [], [], (text (num l).2.2).2.1) := by
  unfold unrec; rw [if_neg (by omega), if_neg (by omega), if_pos h2]
theorem unrec_val {l : List UInt8} (h : (num l).2.1 = 0) (hk : (num l).1 = 1) (h2 : (text (num l).2.2).2.1 = 0) (h3 : (text (text (num l).2.2).2.2).2.1 ≠ 0) : unrec l = (0, [], [], (text (text (num l).2.2).2.2).2.1) := by
  unfold unrec; rw [if_neg (by omega), if_neg (by omega), if_neg (by omega), if_pos hk, if_pos h3]
theorem unrec_put {l : List UInt8} (h : (num l).2.1 = 0) (hk : (num l).1 = 1) (h2 : (text (num l).2.2).2.1 = 0) (h3 : (text (text (num l).2.2).2.2).2.1 = 0) :
    unrec l = if (text (text (num l).2.2).2.2).2.2 ≠ [] then (0, [], [], 21) else (1, (text (num l).2.2).1, (text (text (num l).2.2).2.2).1, 0) := by
  unfold unrec; rw [if_neg (by omega), if_neg (by omega), if_neg (by omega), if_pos hk, if_neg (by omega)]
theorem unrec_del {l : List UInt8} (h : (num l).2.1 = 0) (hk : (num l).1 = 2) (h2 : (text (num l).2.2).2.1 = 0) :
    unrec l = if (text (num l).2.2).2.2 ≠ [] then (0, [], [], 21) else (2, (text (num l).2.2).1, [], 0) := by
  unfold unrec; rw [if_neg (by omega), if_neg (by omega), if_neg (by omega), if_neg (by omega)]

theorem cl_one : cl 1 = 1 := by decide
theorem cl_two : cl 2 = 2 := by decide

theorem recd_put (key val : List UInt8) : recd 1 key val = code 1 ++ (texted key ++ texted val) := by
  unfold recd; rw [cl_one, if_pos rfl, List.append_assoc]
theorem recd_del (key val : List UInt8) : recd 2 key val = code 2 ++ texted key := by
  unfold recd; rw [cl_two, if_neg (by omega), List.append_nil]

theorem recd_len (k : Int) (key val : List UInt8) : 0 < (recd k key val).length := by
  unfold recd
  have := code_pos (cl k)
  simp only [List.length_append]
  omega

theorem unrec_back_put (key val r : List UInt8) (hk : key.length ≤ 72057594037927935) (hv : val.length ≤ 72057594037927935) :
    unrec (recd 1 key val ++ r) = if r = [] then (1, key, val, 0) else (0, [], [], 21) := by
  rw [recd_put]
  unfold unrec
  rw [List.append_assoc, num_code 1 (by omega), List.append_assoc]
  simp only [text_texted key _ hk, text_texted val _ hv]
  by_cases h : r = [] <;> simp [h]

theorem unrec_back_del (key val r : List UInt8) (hk : key.length ≤ 72057594037927935) :
    unrec (recd 2 key val ++ r) = if r = [] then (2, key, [], 0) else (0, [], [], 21) := by
  rw [recd_del]
  unfold unrec
  rw [List.append_assoc, num_code 2 (by omega)]
  simp only [text_texted key _ hk]
  by_cases h : r = [] <;> simp [h]

theorem unrec_cut_put (key val : List UInt8) (hk : key.length ≤ 72057594037927935) (hv : val.length ≤ 72057594037927935) (k : Nat) (h : k < (recd 1 key val).length) :
    unrec ((recd 1 key val).take k) = (0, [], [], 20) := by
  rw [recd_put] at h ⊢
  rcases take_append_cases _ _ k h with ⟨h1, e⟩ | ⟨j, hj, e⟩
  · rw [e]; unfold unrec; rw [num_cut 1 (by omega) k h1]; simp
  · rw [e]
    unfold unrec
    rw [num_code 1 (by omega)]
    rcases take_append_cases _ _ j hj with ⟨h2, e2⟩ | ⟨i, hi, e2⟩
    · simp only [e2, text_cut key hk j h2]; simp
    · simp only [e2, text_texted key _ hk, text_cut val hv i hi]; simp

theorem unrec_cut_del (key val : List UInt8) (hk : key.length ≤ 72057594037927935) (k : Nat) (h : k < (recd 2 key val).length) :
    unrec ((recd 2 key val).take k) = (0, [], [], 20) := by
  rw [recd_del] at h ⊢
  rcases take_append_cases _ _ k h with ⟨h1, e⟩ | ⟨j, hj, e⟩
  · rw [e]; unfold unrec; rw [num_cut 2 (by omega) k h1]; simp
  · rw [e]
    unfold unrec
    rw [num_code 2 (by omega)]
    simp only [text_cut key hk j hj]; simp

end Go.Proofs.YtgahcbhdnplnoaaDoor.Pk

/- Plain mathematics of the check sums, on natural numbers: one shift, a byte's step, a text's sum; linear and one to one. It speaks of no program. -/
namespace Go.Proofs.YtgahcbhdnplnoaaDoor.Plain

/-- One bit: shifted down; mixed where the bit that went was 1. -/
def bit (c : Nat) : Nat := if c % 2 = 1 then (c / 2) ^^^ 3988292384 else c / 2

/-- Bit by bit, k times. -/
def bitsN : Nat → Nat → Nat
  | 0, c => c
  | k + 1, c => bit (bitsN k c)

def step (c b : Nat) : Nat := bitsN 8 (c ^^^ b)

def crcFrom (c : Nat) (l : List UInt8) : Nat := l.foldl (fun c b => step c b.toNat) c
def crc (l : List UInt8) : Nat := crcFrom 4294967295 l ^^^ 4294967295

def mixStep (m b : Nat) : Nat := (m ^^^ b) * 1099511628211 % 18446744073709551616
def mixFrom (m : Nat) (l : List UInt8) : Nat := l.foldl (fun m b => mixStep m b.toNat) m
def mix (l : List UInt8) : Nat := mixFrom 14695981039346656037 l

theorem bit_lt (c : Nat) (h : c < 4294967296) : bit c < 4294967296 := by
  unfold bit
  split
  · have : c / 2 ^^^ 3988292384 < 2 ^ 32 := Nat.xor_lt_two_pow (by omega) (by omega)
    omega
  · omega

theorem bitsN_lt (k c : Nat) (h : c < 4294967296) : bitsN k c < 4294967296 := by
  induction k with
  | zero => exact h
  | succ k ih => exact bit_lt _ ih

theorem xor_lt32 (a b : Nat) (h : a < 4294967296) (h' : b < 4294967296) : a ^^^ b < 4294967296 := by
  have : a ^^^ b < 2 ^ 32 := Nat.xor_lt_two_pow (by omega) (by omega)
  omega

theorem step_lt (c b : Nat) (h : c < 4294967296) (h' : b < 256) : step c b < 4294967296 :=
  bitsN_lt _ _ (xor_lt32 _ _ h (by omega))

theorem xor_cancel (a b x : Nat) (h : a ^^^ x = b ^^^ x) : a = b := by
  have h2 : (a ^^^ x) ^^^ x = (b ^^^ x) ^^^ x := by rw [h]
  rwa [Nat.xor_assoc, Nat.xor_assoc, Nat.xor_self, Nat.xor_zero, Nat.xor_zero] at h2

theorem xor_cancel_left (a b x : Nat) (h : x ^^^ a = x ^^^ b) : a = b := by
  rw [Nat.xor_comm x a, Nat.xor_comm x b] at h; exact xor_cancel a b x h

theorem top_xor (c : Nat) (h : c < 4294967296) (x : Nat) (hx : x < 2147483648) : c / 2 ^^^ 3988292384 ≠ x := by
  intro e
  have t1 : (c / 2 ^^^ 3988292384).testBit 31 = true := by
    rw [Nat.testBit_xor, Nat.testBit_lt_two_pow (x := c / 2) (i := 31) (by omega)]
    decide
  have t2 : x.testBit 31 = false := Nat.testBit_lt_two_pow (by omega)
  rw [e, t2] at t1
  exact absurd t1 (by decide)

theorem bit_inj (c d : Nat) (hc : c < 4294967296) (hd : d < 4294967296) (h : bit c = bit d) : c = d := by
  unfold bit at h
  by_cases h1 : c % 2 = 1
  · by_cases h2 : d % 2 = 1
    · rw [if_pos h1, if_pos h2] at h
      have := xor_cancel _ _ _ h
      omega
    · rw [if_pos h1, if_neg h2] at h
      exact absurd h (top_xor c hc _ (by omega))
  · by_cases h2 : d % 2 = 1
    · rw [if_neg h1, if_pos h2] at h
      exact absurd h.symm (top_xor d hd _ (by omega))
    · rw [if_neg h1, if_neg h2] at h
      omega

theorem bitsN_inj (k c d : Nat) (hc : c < 4294967296) (hd : d < 4294967296) (h : bitsN k c = bitsN k d) : c = d := by
  induction k with
  | zero => exact h
  | succ k ih => exact ih (bit_inj _ _ (bitsN_lt _ _ hc) (bitsN_lt _ _ hd) h)

theorem step_inj (c d b : Nat) (hc : c < 4294967296) (hd : d < 4294967296) (hb : b < 256) (h : step c b = step d b) : c = d :=
  xor_cancel _ _ _ (bitsN_inj 8 _ _ (xor_lt32 _ _ hc (by omega)) (xor_lt32 _ _ hd (by omega)) h)

theorem step_inj_byte (c a b : Nat) (hc : c < 4294967296) (ha : a < 256) (hb : b < 256) (h : step c a = step c b) : a = b :=
  xor_cancel_left _ _ _ (bitsN_inj 8 _ _ (xor_lt32 _ _ hc (by omega)) (xor_lt32 _ _ hc (by omega)) h)

theorem bit_xor (a b : Nat) : bit (a ^^^ b) = bit a ^^^ bit b := by
  have hd : (a ^^^ b) / 2 = a / 2 ^^^ b / 2 := Nat.xor_div_two
  have hm : (a ^^^ b) % 2 = (a % 2 + b % 2) % 2 := by
    have := @Nat.xor_mod_two_eq_one a b; omega
  unfold bit
  rw [hd, hm]
  by_cases h1 : a % 2 = 1 <;> by_cases h2 : b % 2 = 1
  · rw [if_neg (by omega), if_pos h1, if_pos h2]
    rw [Nat.xor_assoc, Nat.xor_comm 3988292384 (b / 2 ^^^ 3988292384), Nat.xor_assoc (b / 2), Nat.xor_self, Nat.xor_zero]
  · rw [if_pos (by omega), if_pos h1, if_neg h2]
    rw [Nat.xor_assoc, Nat.xor_comm (b / 2), ← Nat.xor_assoc]
  · rw [if_pos (by omega), if_neg h1, if_pos h2, Nat.xor_assoc]
  · rw [if_neg (by omega), if_neg h1, if_neg h2]

theorem bitsN_xor (k a b : Nat) : bitsN k (a ^^^ b) = bitsN k a ^^^ bitsN k b := by
  induction k with
  | zero => rfl
  | succ k ih => show bit _ = _; rw [ih, bit_xor]; rfl

theorem xor4 (a b x y : Nat) : (a ^^^ b) ^^^ (x ^^^ y) = (a ^^^ x) ^^^ (b ^^^ y) := by
  rw [Nat.xor_assoc, ← Nat.xor_assoc b x y, Nat.xor_comm b x, Nat.xor_assoc x b y, ← Nat.xor_assoc]

theorem step_xor (a b x y : Nat) : step (a ^^^ b) (x ^^^ y) = step a x ^^^ step b y := by
  unfold step; rw [xor4, bitsN_xor]

theorem crcFrom_cons (b : UInt8) (m : List UInt8) (c : Nat) : crcFrom c (b :: m) = crcFrom (step c b.toNat) m := by
  simp only [crcFrom, List.foldl_cons]

theorem byte_lt (b : UInt8) : b.toNat < 256 := b.toNat_lt

theorem crcFrom_lt (l : List UInt8) : ∀ c, c < 4294967296 → crcFrom c l < 4294967296 := by
  induction l with
  | nil => intro c h; simpa only [crcFrom, List.foldl_nil] using h
  | cons b l ih => intro c h; rw [crcFrom_cons]; exact ih _ (step_lt _ _ h (byte_lt b))

theorem crc_lt (l : List UInt8) : crc l < 4294967296 := by
  have h := crcFrom_lt l 4294967295 (by omega)
  unfold crc
  exact xor_lt32 _ _ h (by omega)

theorem crcFrom_append (l m : List UInt8) (c : Nat) : crcFrom c (l ++ m) = crcFrom (crcFrom c l) m := by
  unfold crcFrom; rw [List.foldl_append]

theorem crcFrom_inj (l : List UInt8) : ∀ c d, c < 4294967296 → d < 4294967296 → crcFrom c l = crcFrom d l → c = d := by
  induction l with
  | nil => intro c d _ _ h; simpa only [crcFrom, List.foldl_nil] using h
  | cons b l ih =>
    intro c d hc hd h
    rw [crcFrom_cons, crcFrom_cons] at h
    exact step_inj c d b.toNat hc hd (byte_lt b) (ih _ _ (step_lt _ _ hc (byte_lt b)) (step_lt _ _ hd (byte_lt b)) h)

/-- One byte is another one: another sum. -/
theorem crc_one (l m : List UInt8) (a b : UInt8) (h : crc (l ++ a :: m) = crc (l ++ b :: m)) : a = b := by
  have h1 := xor_cancel _ _ _ h
  rw [crcFrom_append, crcFrom_append, crcFrom_cons, crcFrom_cons] at h1
  have hl := crcFrom_lt l 4294967295 (by omega)
  have h2 := crcFrom_inj m _ _ (step_lt _ _ hl (byte_lt a)) (step_lt _ _ hl (byte_lt b)) h1
  exact UInt8.toNat_inj.1 (step_inj_byte _ _ _ hl (byte_lt a) (byte_lt b) h2)

theorem xor_ff (x : Nat) : (x ^^^ 4294967295) ^^^ 4294967295 = x := by
  rw [Nat.xor_assoc, Nat.xor_self, Nat.xor_zero]

theorem crc_append (l m : List UInt8) : crc (l ++ m) = crcFrom (crc l ^^^ 4294967295) m ^^^ 4294967295 := by
  unfold crc; rw [xor_ff, crcFrom_append]

/-- Three texts of one length, mixed byte by byte. -/
def mixed : List UInt8 → List UInt8 → List UInt8 → List UInt8
  | a :: s, b :: t, c :: u => (a ^^^ b ^^^ c) :: mixed s t u
  | _, _, _ => []

theorem crcFrom_mixed (s : List UInt8) : ∀ (t u : List UInt8) (a b c : Nat), s.length = t.length → s.length = u.length →
    crcFrom (a ^^^ b ^^^ c) (mixed s t u) = crcFrom a s ^^^ crcFrom b t ^^^ crcFrom c u := by
  induction s with
  | nil =>
    intro t u a b c ht hu
    obtain rfl : t = [] := List.eq_nil_of_length_eq_zero ht.symm
    obtain rfl : u = [] := List.eq_nil_of_length_eq_zero hu.symm
    simp only [mixed, crcFrom, List.foldl_nil]
  | cons x s ih =>
    intro t u a b c ht hu
    cases t with
    | nil => simp at ht
    | cons y t =>
      cases u with
      | nil => simp at hu
      | cons z u =>
        simp only [mixed, crcFrom_cons, UInt8.toNat_xor, step_xor]
        exact ih t u _ _ _ (by simpa using ht) (by simpa using hu)

theorem crc_mixed (s t u : List UInt8) (ht : s.length = t.length) (hu : s.length = u.length) :
    crc (mixed s t u) = crc s ^^^ crc t ^^^ crc u := by
  have h := crcFrom_mixed s t u 4294967295 4294967295 4294967295 ht hu
  rw [Nat.xor_self, Nat.zero_xor] at h
  unfold crc
  rw [h]
  generalize crcFrom 4294967295 s = x, crcFrom 4294967295 t = y, crcFrom 4294967295 u = z
  rw [xor4 x 4294967295 y 4294967295, Nat.xor_self, Nat.xor_zero, Nat.xor_assoc (x ^^^ y)]

theorem mixStep_lt (m b : Nat) : mixStep m b < 18446744073709551616 := by unfold mixStep; omega

theorem mixFrom_snoc (m : Nat) (l : List UInt8) (b : UInt8) : mixFrom m (l ++ [b]) = mixStep (mixFrom m l) b.toNat := by
  unfold mixFrom
  generalize mixStep = f
  rw [List.foldl_append, List.foldl_cons, List.foldl_nil]

theorem mix_snoc (l : List UInt8) (b : UInt8) : mix (l ++ [b]) = mixStep (mix l) b.toNat := mixFrom_snoc _ l b

theorem mix_lt (l : List UInt8) : mix l < 18446744073709551616 := by
  rcases List.eq_nil_or_concat l with rfl | ⟨m, b, rfl⟩
  · simp only [mix, mixFrom, List.foldl_nil]; omega
  · rw [List.concat_eq_append, mix_snoc]; exact mixStep_lt _ _

end Go.Proofs.YtgahcbhdnplnoaaDoor.Plain

/- Plain mathematics of layer 4: a chunk's bytes, the chunk of some bytes, pieces. It speaks of no program. -/
namespace Go.Proofs.YtgahcbhdnplnoaaDoor.Cn

/-- A chunk: its epoch, its number, first, last, its data. -/
structure Chu where
  e : Int
  q : Int
  f : Bool
  l : Bool
  d : List UInt8

@[ext] theorem Chu.ext' {a b : Chu} (h1 : a.e = b.e) (h2 : a.q = b.q) (h3 : a.f = b.f) (h4 : a.l = b.l) (h5 : a.d = b.d) : a = b := by
  cases a; cases b; simp_all

/-- The zero chunk. -/
def zero : Chu := ⟨0, 0, false, false, []⟩

/-- First and last as one number. -/
def flags (f l : Bool) : Nat := (if f then 1 else 0) + (if l then 2 else 0)

theorem flags_le (f l : Bool) : flags f l ≤ 3 := by cases f <;> cases l <;> decide

/-- Four bytes, the lowest first. -/
def le4 (k : Nat) : List UInt8 := [UInt8.ofNat (k % 256), UInt8.ofNat (k / 256 % 256), UInt8.ofNat (k / 65536 % 256), UInt8.ofNat (k / 16777216 % 256)]

theorem le4_length (k : Nat) : (le4 k).length = 4 := rfl

theorem le4_inj (a b : Nat) (ha : a < 4294967296) (hb : b < 4294967296) (h : le4 a = le4 b) : a = b := by
  unfold le4 at h
  simp only [List.cons.injEq, and_true] at h
  obtain ⟨h0, h1, h2, h3⟩ := h
  have g0 := congrArg UInt8.toNat h0
  have g1 := congrArg UInt8.toNat h1
  have g2 := congrArg UInt8.toNat h2
  have g3 := congrArg UInt8.toNat h3
  simp only [UInt8.toNat_ofNat'] at g0 g1 g2 g3
  omega

/-- A chunk's bytes ahead of the check sum. -/
def body (c : Chu) : List UInt8 := Pk.code (Pk.cl c.e) ++ Pk.code (Pk.cl c.q) ++ Pk.code (flags c.f c.l) ++ Pk.texted c.d

/-- Any bytes with their check sum behind them. -/
def sealed (b : List UInt8) : List UInt8 := b ++ le4 (Plain.crc b)

/-- What may be a chunk. -/
def ok (c : Chu) : Prop := 0 ≤ c.e ∧ c.e ≤ 1099511627776 ∧ 0 ≤ c.q ∧ c.q ≤ 1099511627776 ∧ c.d.length ≤ 96

instance (c : Chu) : Decidable (ok c) := by unfold ok; infer_instance

/-- Encode's error. -/
def encE (c : Chu) : Nat := if c.e < 0 ∨ 1099511627776 < c.e ∨ c.q < 0 ∨ 1099511627776 < c.q then 1 else if 96 < c.d.length then 31 else 0

/-- Encode's bytes. -/
def encB (c : Chu) : List UInt8 := if encE c = 0 then sealed (body c) else []

theorem encE_ok (c : Chu) : encE c = 0 ↔ ok c := by
  unfold encE ok
  split
  · constructor
    · intro h; cases h
    · intro h; omega
  · split
    · constructor
      · intro h; cases h
      · intro h; omega
    · constructor
      · intro _; omega
      · intro _; rfl

theorem encE_of_ok {c : Chu} (h : ok c) : encE c = 0 := (encE_ok c).2 h
theorem encB_of_ok {c : Chu} (h : ok c) : encB c = sealed (body c) := by unfold encB; rw [if_pos (encE_of_ok h)]

theorem code_len6 (n : Nat) (h : n ≤ 1099511627776) : (Pk.code n).length ≤ 6 := Pk.code_len 5 n (by omega)

theorem cl_small {n : Int} (h0 : 0 ≤ n) (h : n ≤ 1099511627776) : Pk.cl n = n.toNat ∧ Pk.cl n ≤ 1099511627776 := by
  unfold Pk.cl; omega

theorem body_pos (c : Chu) : 0 < (body c).length := by
  unfold body
  have := Pk.code_pos (Pk.cl c.e)
  simp only [List.length_append]; omega

theorem body_le (c : Chu) (h : ok c) : (body c).length ≤ 124 := by
  obtain ⟨h1, h2, h3, h4, h5⟩ := h
  have a := code_len6 (Pk.cl c.e) (cl_small h1 h2).2
  have b := code_len6 (Pk.cl c.q) (cl_small h3 h4).2
  have d := Pk.code_one (flags c.f c.l)
  have d2 := d.2 (by have := flags_le c.f c.l; omega)
  have f := Pk.code_one c.d.length
  have f2 := f.2 (by omega)
  unfold body Pk.texted
  simp only [List.length_append]
  omega

theorem body_any (c : Chu) (h : c.d.length ≤ 549755813888) : (body c).length ≤ 549755813928 := by
  have a := Pk.code_len8 (Pk.cl c.e) (Pk.cl_le _)
  have b := Pk.code_len8 (Pk.cl c.q) (Pk.cl_le _)
  have d := Pk.code_len8 (flags c.f c.l) (by have := flags_le c.f c.l; omega)
  have f := Pk.code_len8 c.d.length (by omega)
  unfold body Pk.texted
  simp only [List.length_append]
  omega

theorem sealed_length (b : List UInt8) : (sealed b).length = b.length + 4 := by unfold sealed; rw [List.length_append, le4_length]

theorem sealed_le (c : Chu) (h : ok c) : (sealed (body c)).length ≤ 128 := by
  rw [sealed_length]; have := body_le c h; omega

/-- A chunk of small numbers has eight bytes more than its data. -/
theorem sealed_small (c : Chu) (h1 : 0 ≤ c.e) (h2 : c.e < 128) (h3 : 0 ≤ c.q) (h4 : c.q < 128) (h5 : c.d.length ≤ 96) : (sealed (body c)).length = 8 + c.d.length := by
  rw [sealed_length]
  have a := (Pk.code_one (Pk.cl c.e)).2 (by rw [(cl_small h1 (by omega)).1]; omega)
  have b := (Pk.code_one (Pk.cl c.q)).2 (by rw [(cl_small h3 (by omega)).1]; omega)
  have d := (Pk.code_one (flags c.f c.l)).2 (by have := flags_le c.f c.l; omega)
  have f := (Pk.code_one c.d.length).2 (by omega)
  unfold body Pk.texted
  simp only [List.length_append]
  omega

/-! ### Reading -/

/-- What four readings, one behind the other, come to: the numbers, the text, and the errors of all. -/
def r1 (s : List UInt8) := Pk.num s
def r2 (s : List UInt8) := Pk.num (r1 s).2.2
def r3 (s : List UInt8) := Pk.num (r2 s).2.2
def r4 (s : List UInt8) := Pk.text (r3 s).2.2

/-- The chunk that is read, whatever the bytes. -/
def got (s : List UInt8) : Chu := ⟨((r1 s).1 : Int), ((r2 s).1 : Int), (r3 s).1 % 2 = 1, (r3 s).1 / 2 % 2 = 1, (r4 s).1⟩

theorem flags_first (f l : Bool) : decide (flags f l % 2 = 1) = f := by cases f <;> cases l <;> decide
theorem flags_last (f l : Bool) : decide (flags f l / 2 % 2 = 1) = l := by cases f <;> cases l <;> decide

theorem r1_body (c : Chu) (r : List UInt8) : r1 (body c ++ r) = (Pk.cl c.e, 0, Pk.code (Pk.cl c.q) ++ (Pk.code (flags c.f c.l) ++ (Pk.texted c.d ++ r))) := by
  unfold r1 body
  simp only [List.append_assoc]
  rw [Pk.num_code _ (Pk.cl_le _)]
theorem r2_body (c : Chu) (r : List UInt8) : r2 (body c ++ r) = (Pk.cl c.q, 0, Pk.code (flags c.f c.l) ++ (Pk.texted c.d ++ r)) := by
  unfold r2
  rw [r1_body, Pk.num_code _ (Pk.cl_le _)]
theorem r3_body (c : Chu) (r : List UInt8) : r3 (body c ++ r) = (flags c.f c.l, 0, Pk.texted c.d ++ r) := by
  unfold r3
  rw [r2_body, Pk.num_code _ (by have := flags_le c.f c.l; omega)]
theorem r4_body (c : Chu) (r : List UInt8) (h : c.d.length ≤ 96) : r4 (body c ++ r) = (c.d, 0, r) := by
  unfold r4
  rw [r3_body, Pk.text_texted _ _ (by omega)]

theorem got_body (c : Chu) (r : List UInt8) (h : ok c) : got (body c ++ r) = c := by
  obtain ⟨h1, h2, h3, h4, h5⟩ := h
  unfold got
  rw [r1_body, r2_body, r3_body, r4_body c r h5]
  have a := (cl_small h1 h2).1
  have b := (cl_small h3 h4).1
  have e1 : ((Pk.cl c.e : Nat) : Int) = c.e := by omega
  have e2 : ((Pk.cl c.q : Nat) : Int) = c.q := by omega
  apply Chu.ext'
  · exact e1
  · exact e2
  · exact flags_first c.f c.l
  · exact flags_last c.f c.l
  · rfl

/-- Is s the bytes of the chunk that is read out of it? -/
def isC (s : List UInt8) : Prop := encE (got s) = 0 ∧ encB (got s) = s

instance (s : List UInt8) : Decidable (isC s) := by unfold isC; infer_instance

/-- Decode's chunk and error. -/
def decC (s : List UInt8) : Chu := if isC s then got s else zero
def decE (s : List UInt8) : Nat := if isC s then 0 else 21

/-- Bytes are a chunk's just when they are those of some chunk. -/
theorem isC_iff (s : List UInt8) : isC s ↔ ∃ c, ok c ∧ sealed (body c) = s := by
  constructor
  · rintro ⟨h1, h2⟩
    have h3 := (encE_ok _).1 h1
    exact ⟨got s, h3, by rw [← encB_of_ok h3, h2]⟩
  · rintro ⟨c, h, rfl⟩
    have e : got (sealed (body c)) = c := got_body c _ h
    unfold isC
    rw [e]
    exact ⟨encE_of_ok h, encB_of_ok h⟩

theorem dec_enc (c : Chu) (h : ok c) : isC (sealed (body c)) ∧ got (sealed (body c)) = c := ⟨(isC_iff _).2 ⟨c, h, rfl⟩, got_body c _ h⟩

theorem decC_enc (c : Chu) (h : ok c) : decC (sealed (body c)) = c := by
  unfold decC; rw [if_pos (dec_enc c h).1, (dec_enc c h).2]
theorem decE_enc (c : Chu) (h : ok c) : decE (sealed (body c)) = 0 := by
  unfold decE; rw [if_pos (dec_enc c h).1]

/-- What is decoded is a chunk whose bytes are just those. -/
theorem enc_dec (s : List UInt8) (h : decE s = 0) : ok (decC s) ∧ sealed (body (decC s)) = s := by
  unfold decE at h
  by_cases hi : isC s
  · unfold decC
    rw [if_pos hi]
    have h3 := (encE_ok _).1 hi.1
    exact ⟨h3, by rw [← encB_of_ok h3, hi.2]⟩
  · rw [if_neg hi] at h; cases h

theorem sealed_inj (c d : Chu) (hc : ok c) (hd : ok d) (h : sealed (body c) = sealed (body d)) : c = d := by
  have h1 := (dec_enc c hc).2
  have h2 := (dec_enc d hd).2
  rw [h, h2] at h1
  exact h1.symm

/-! ### The document's reading: without the last four bytes -/

/-- What is ahead of the last four bytes. -/
def cut4 (s : List UInt8) : List UInt8 := s.take (s.length - 4)

theorem cut4_sealed (b : List UInt8) : cut4 (sealed b) = b := by
  unfold cut4
  rw [sealed_length]
  unfold sealed
  rw [show b.length + 4 - 4 = b.length by omega]
  exact List.take_left' rfl

/-- May what was read be looked at further? -/
def clean (s : List UInt8) : Prop := (r1 (cut4 s)).2.1 = 0 ∧ (r2 (cut4 s)).2.1 = 0 ∧ (r3 (cut4 s)).2.1 = 0 ∧ (r4 (cut4 s)).2.1 = 0 ∧ (r3 (cut4 s)).1 ≤ 3

instance (s : List UInt8) : Decidable (clean s) := by unfold clean; infer_instance

/-- What the document decodes. -/
theorem ref_got (s : List UInt8) (h : isC s) : 4 ≤ s.length ∧ clean s ∧ got (cut4 s) = got s ∧ encE (got s) = 0 ∧ encB (got s) = s := by
  obtain ⟨c, hc, rfl⟩ := (isC_iff s).1 h
  have hcl : clean (sealed (body c)) := by
    have e := cut4_sealed (body c)
    have f : body c = body c ++ [] := (List.append_nil _).symm
    unfold clean
    rw [e, f, r1_body, r2_body, r3_body, r4_body c [] hc.2.2.2.2]
    exact ⟨rfl, rfl, rfl, rfl, flags_le _ _⟩
  refine ⟨by rw [sealed_length]; omega, hcl, ?_, h.1, h.2⟩
  rw [cut4_sealed, (dec_enc c hc).2]
  have := got_body c [] hc
  rwa [List.append_nil] at this

theorem ref_none (s : List UInt8) (h : ¬ isC s) : ¬ (encE (got (cut4 s)) = 0 ∧ encB (got (cut4 s)) = s) := by
  rintro ⟨h1, h2⟩
  have h3 := (encE_ok _).1 h1
  exact h ((isC_iff s).2 ⟨got (cut4 s), h3, by rw [← encB_of_ok h3, h2]⟩)

/-! ### Bytes of which one is another one -/

/-- One byte of b is another one, or one of the four behind: no seal. -/
theorem spoilt_seal (c d : List UInt8) (l m : List UInt8) (a b : UInt8) (hc : sealed c = l ++ a :: m) (hd : sealed d = l ++ b :: m) : a = b := by
  have hlen : c.length = d.length := by
    have h1 := sealed_length c
    have h2 := sealed_length d
    rw [hc] at h1; rw [hd] at h2
    simp only [List.length_append, List.length_cons] at h1 h2
    omega
  unfold sealed at hc hd
  by_cases hl : l.length < c.length
  · -- in the body
    have key : ∀ (x : List UInt8) (y : UInt8) (z : List UInt8), x.length = c.length → x ++ z = l ++ y :: m →
        x = l ++ y :: m.take (c.length - l.length - 1) ∧ z = m.drop (c.length - l.length - 1) := by
      intro x y z hx he
      obtain ⟨k, hk⟩ : ∃ k, c.length = l.length + k + 1 := ⟨c.length - l.length - 1, by omega⟩
      have hk2 : c.length - l.length - 1 = k := by omega
      rw [hk2]
      have h1 := congrArg (List.take (l.length + k + 1)) he
      have h2 := congrArg (List.drop (l.length + k + 1)) he
      rw [List.take_left' (by omega)] at h1
      rw [List.drop_left' (by omega)] at h2
      rw [List.take_append, List.take_of_length_le (by omega), show l.length + k + 1 - l.length = k + 1 by omega, List.take_succ_cons] at h1
      rw [List.drop_append, List.drop_of_length_le (by omega), show l.length + k + 1 - l.length = k + 1 by omega, List.drop_succ_cons, List.nil_append] at h2
      exact ⟨h1, h2⟩
    obtain ⟨e1, t1⟩ := key c a _ rfl hc
    obtain ⟨e2, t2⟩ := key d b _ hlen.symm hd
    have hcrc := le4_inj _ _ (Plain.crc_lt _) (Plain.crc_lt _) (t1.trans t2.symm)
    rw [e1, e2] at hcrc
    exact Plain.crc_one _ _ _ _ hcrc
  · -- in the four bytes
    have e : c = d := by
      have h1 := congrArg (List.take c.length) hc
      have h2 := congrArg (List.take d.length) hd
      rw [List.take_left' rfl, List.take_append_of_le_length (by omega)] at h1
      rw [List.take_left' rfl, List.take_append_of_le_length (by omega)] at h2
      rw [h1, h2, hlen]
    rw [e, hd] at hc
    have := List.append_cancel_left hc
    simp only [List.cons.injEq, and_true] at this
    exact this.symm

theorem spoilt (c : Chu) (hc : ok c) (l m : List UInt8) (a b : UInt8) (h : sealed (body c) = l ++ a :: m) : isC (l ++ b :: m) ↔ a = b := by
  constructor
  · intro hi
    obtain ⟨d, hd, e⟩ := (isC_iff _).1 hi
    exact spoilt_seal (body c) (body d) l m a b h e
  · rintro rfl
    rw [← h]
    exact (dec_enc c hc).1

/-! ### Cut short, and going on -/

theorem take_none (c : Chu) (hc : ok c) (k : Nat) (hk : k < (sealed (body c)).length) : ¬ isC ((sealed (body c)).take k) := by
  intro hi
  obtain ⟨d, hd, e⟩ := (isC_iff _).1 hi
  -- the body of d is a beginning of the body of c, in which the same is read
  have hlen : (sealed (body d)).length = k := by rw [e, List.length_take]; omega
  have h1 : body d ++ (le4 (Plain.crc (body d)) ++ (sealed (body c)).drop k) = body c ++ le4 (Plain.crc (body c)) := by
    rw [← List.append_assoc]
    show sealed (body d) ++ _ = sealed (body c)
    rw [e, List.take_append_drop]
  have h2 := got_body d (le4 (Plain.crc (body d)) ++ (sealed (body c)).drop k) hd
  rw [h1, got_body c _ hc] at h2
  subst h2
  omega

theorem more_none (c : Chu) (hc : ok c) (m : List UInt8) (hm : m ≠ []) : ¬ isC (sealed (body c) ++ m) := by
  intro hi
  obtain ⟨d, hd, e⟩ := (isC_iff _).1 hi
  have h1 : body d ++ le4 (Plain.crc (body d)) = body c ++ (le4 (Plain.crc (body c)) ++ m) := by
    rw [← List.append_assoc]; exact e
  have h2 := got_body c (le4 (Plain.crc (body c)) ++ m) hc
  rw [← h1, got_body d _ hd] at h2
  subst h2
  have := congrArg List.length e
  rw [List.length_append] at this
  have h3 : m.length = 0 := by omega
  exact hm (List.eq_nil_of_length_eq_zero h3)

/-! ### Pieces -/

/-- Pieces of 96 bytes, with fuel. -/
def cutF : Nat → List UInt8 → List (List UInt8)
  | 0, s => [s]
  | n + 1, s => if 96 < s.length then s.take 96 :: cutF n (s.drop 96) else [s]

/-- The pieces of s. -/
def cut (s : List UInt8) : List (List UInt8) := cutF s.length s

theorem cutF_eq : ∀ (m n : Nat) (s : List UInt8), s.length ≤ m → s.length ≤ n → cutF m s = cutF n s := by
  intro m
  induction m with
  | zero =>
    intro n s hm hn
    cases n with
    | zero => rfl
    | succ n => simp only [cutF]; rw [if_neg (by omega)]
  | succ m ih =>
    intro n s hm hn
    cases n with
    | zero => simp only [cutF]; rw [if_neg (by omega)]
    | succ n =>
      simp only [cutF]
      by_cases h : 96 < s.length
      · rw [if_pos h, if_pos h, ih n (s.drop 96) (by rw [List.length_drop]; omega) (by rw [List.length_drop]; omega)]
      · rw [if_neg h, if_neg h]

theorem cut_long (s : List UInt8) (h : 96 < s.length) : cut s = s.take 96 :: cut (s.drop 96) := by
  unfold cut
  obtain ⟨n, hn⟩ : ∃ n, s.length = n + 1 := ⟨s.length - 1, by omega⟩
  rw [hn]
  simp only [cutF]
  rw [if_pos h, cutF_eq n (s.drop 96).length (s.drop 96) (by rw [List.length_drop]; omega) (Nat.le_refl _)]

theorem cut_short (s : List UInt8) (h : s.length ≤ 96) : cut s = [s] := by
  unfold cut
  cases hn : s.length with
  | zero => rfl
  | succ n => simp only [cutF]; rw [if_neg (by omega)]

theorem cut_pos (s : List UInt8) : 0 < (cut s).length := by
  by_cases h : 96 < s.length
  · rw [cut_long s h]; simp
  · rw [cut_short s (by omega)]; simp

end Go.Proofs.YtgahcbhdnplnoaaDoor.Cn

/- What fits and flags come to: may a number be a chunk's; first and last as one number. -/
namespace Go.Proofs.YtgahcbhdnplnoaaDoor
open Go.RowKit

/-- A chunk, as it is handed by value. -/
abbrev ChV (e q : Int) (f l : Bool) (d : ByteArray) : Value := .agg #[.int .i64 e, .int .i64 q, .bool f, .bool l, .string d]

/-- The cells of a chunk in memory. -/
abbrev ChC (e q : Int) (f l : Bool) (d : ByteArray) : Array Value := #[.int .i64 e, .int .i64 q, .bool f, .bool l, .string d]

theorem five {w : World} {g : Nat} {t : TypeId} {a b c d e : Value} (h : Blk w g t #[a, b, c, d, e]) :
    w.cell? ⟨g, 0, none⟩ = some a ∧ w.cell? ⟨g, 1, none⟩ = some b ∧ w.cell? ⟨g, 2, none⟩ = some c ∧ w.cell? ⟨g, 3, none⟩ = some d ∧ w.cell? ⟨g, 4, none⟩ = some e := by
  have c0 := h.cell 0
  have c1 := h.cell 1
  have c2 := h.cell 2
  have c3 := h.cell 3
  have c4 := h.cell 4
  simp at c0 c1 c2 c3 c4
  exact ⟨c0, c1, c2, c3, c4⟩

theorem fits_yes (n : Int) (w : World) (h : 0 ≤ n ∧ n ≤ 1099511627776) :
    Calls Tryd.prog 78 #[.int .i64 n] w fun e w' => e = .returned (.bool true) ∧ w = w' := by
  obtain ⟨h1, h2⟩ := h
  go_enter Tryd.func78, Tryd.ntmps78
  go_wp2_with fail
  go_ret
  exact ⟨by simp, rfl⟩

theorem fits_no (n : Int) (w : World) (h : ¬ (0 ≤ n ∧ n ≤ 1099511627776)) :
    Calls Tryd.prog 78 #[.int .i64 n] w fun e w' => e = .returned (.bool false) ∧ w = w' := by
  rcases (show n < 0 ∨ (0 ≤ n ∧ 1099511627776 < n) by omega) with h1 | ⟨h1, h2⟩
  all_goals
    go_enter Tryd.func78, Tryd.ntmps78
    go_wp2_with fail
    go_ret
    first
      | exact ⟨rfl, rfl⟩
      | exact ⟨by simp; omega, rfl⟩

theorem flags_any (e q : Int) (f l : Bool) (d : ByteArray) (w : World) :
    Calls Tryd.prog 80 #[ChV e q f l d] w fun x w' => x = .returned (.int .i64 ((Cn.flags f l : Nat) : Int)) ∧ Below w.heap.size w w' := by
  have hB := five (Blk.new w 45 (ChC e q f l d))
  obtain ⟨c0, c1, c2, c3, c4⟩ := hB
  clear c0 c1 c4
  cases f <;> cases l
  all_goals
    go_enter Tryd.func80, Tryd.ntmps80
    go_wp2_with fail
    go_ret
    exact ⟨rfl, (Below.refl _ _).alloc (Nat.le_refl _) _⟩

end Go.Proofs.YtgahcbhdnplnoaaDoor

/- A disk, plainly: its sectors, the loose ones with what lasts of them, when the power goes, when a call fails. Nothing here speaks of a program. -/
namespace Go.Proofs.YtgahcbhdnplnoaaDoor
namespace Dk

/-- A disk. -/
structure St where
  is : Nat → ByteArray
  loose : List (Nat × ByteArray)
  off : Bool
  cuts : Nat
  keep : Nat
  fails : Nat
  many : Nat

def up (f : Nat → ByteArray) (i : Nat) (s : ByteArray) : Nat → ByteArray := fun j => if j = i then s else f j

theorem up_same (f : Nat → ByteArray) (i : Nat) (s : ByteArray) : up f i s i = s := if_pos rfl
theorem up_other (f : Nat → ByteArray) {i j : Nat} (h : j ≠ i) (s : ByteArray) : up f i s j = f j := if_neg h

/-- What lasts of a loose sector. -/
def was : List (Nat × ByteArray) → Nat → Option ByteArray
  | [], _ => none
  | p :: l, i => if p.1 = i then some p.2 else was l i

theorem was_none {l : List (Nat × ByteArray)} {i : Nat} : was l i = none ↔ i ∉ l.map (·.1) := by
  induction l with
  | nil => simp [was]
  | cons p l ih =>
    unfold was
    by_cases h : p.1 = i
    · simp [h]
    · simp only [if_neg h, ih, List.map_cons, List.mem_cons, not_or]
      exact ⟨fun k => ⟨fun e => h e.symm, k⟩, fun k => k.2⟩

theorem was_append {l : List (Nat × ByteArray)} {i : Nat} {s : ByteArray} (h : was l i = none) (j : Nat) : was (l ++ [(i, s)]) j = if i = j then some s else was l j := by
  induction l with
  | nil => simp [was]
  | cons p l ih =>
    unfold was at h
    by_cases hp : p.1 = i
    · rw [if_pos hp] at h; cases h
    · rw [if_neg hp] at h
      show (if p.1 = j then some p.2 else was (l ++ [(i, s)]) j) = if i = j then some s else if p.1 = j then some p.2 else was l j
      rw [ih h]
      by_cases h1 : p.1 = j
      · rw [if_pos h1, if_neg (by omega), if_pos h1]
      · rw [if_neg h1, if_neg h1]

theorem was_at {l : List (Nat × ByteArray)} (h : (l.map (·.1)).Nodup) {k : Nat} {p : Nat × ByteArray} (hk : l[k]? = some p) : was l p.1 = some p.2 := by
  induction l generalizing k with
  | nil => simp at hk
  | cons q l ih =>
    rw [List.map_cons, List.nodup_cons] at h
    cases k with
    | zero =>
      simp at hk
      subst hk
      exact if_pos rfl
    | succ k =>
      simp at hk
      have hm : p.1 ∈ l.map (·.1) := List.mem_map.2 ⟨p, List.mem_of_getElem? hk, rfl⟩
      unfold was
      rw [if_neg (fun e : q.1 = p.1 => h.1 (by rw [e]; exact hm))]
      exact ih h.2 hk

/-- What is left of the loose ones behind k that were fastened. -/
theorem was_drop {l : List (Nat × ByteArray)} (h : (l.map (·.1)).Nodup) {k : Nat} {p : Nat × ByteArray} (hk : l[k]? = some p) (j : Nat) : was (l.drop (k + 1)) j = if p.1 = j then none else was (l.drop k) j := by
  induction l generalizing k with
  | nil => simp at hk
  | cons q l ih =>
    rw [List.map_cons, List.nodup_cons] at h
    cases k with
    | zero =>
      simp at hk
      subst hk
      by_cases e : q.1 = j
      · rw [if_pos e]
        exact was_none.2 (by simpa [e] using h.1)
      · rw [if_neg e]
        show was l j = was (q :: l) j
        exact (if_neg e).symm
    | succ k =>
      simp at hk
      simpa using ih h.2 hk

/-- Is the k-th loose sector kept? -/
def bit (keep k : Nat) : Bool := decide (keep / 2 ^ (k % 64) % 2 = 1)

/-- The sectors, when the first k loose ones have been gone through. -/
def dieTo (is : Nat → ByteArray) (keep : Nat) (l : List (Nat × ByteArray)) : Nat → Nat → ByteArray
  | 0 => is
  | k + 1 => match l[k]? with
    | some p => if bit keep k then dieTo is keep l k else up (dieTo is keep l k) p.1 p.2
    | none => dieTo is keep l k

theorem dieTo_keep {is : Nat → ByteArray} {keep k : Nat} {l : List (Nat × ByteArray)} (h : bit keep k = true) : dieTo is keep l (k + 1) = dieTo is keep l k := by
  show (match l[k]? with | some p => if bit keep k then dieTo is keep l k else up (dieTo is keep l k) p.1 p.2 | none => dieTo is keep l k) = _
  rw [h]
  split <;> simp
theorem dieTo_back {is : Nat → ByteArray} {keep k : Nat} {l : List (Nat × ByteArray)} {p : Nat × ByteArray} (hk : l[k]? = some p) (h : bit keep k = false) : dieTo is keep l (k + 1) = up (dieTo is keep l k) p.1 p.2 := by
  show (match l[k]? with | some p => if bit keep k then dieTo is keep l k else up (dieTo is keep l k) p.1 p.2 | none => dieTo is keep l k) = _
  rw [hk, h]
  simp

/-- What is not loose stays. -/
theorem dieTo_other (is : Nat → ByteArray) (keep : Nat) (l : List (Nat × ByteArray)) {j : Nat} (h : j ∉ l.map (·.1)) (k : Nat) : dieTo is keep l k j = is j := by
  induction k with
  | zero => rfl
  | succ k ih =>
    cases hk : l[k]? with
    | none =>
      show (match l[k]? with | some p => if bit keep k then dieTo is keep l k else up (dieTo is keep l k) p.1 p.2 | none => dieTo is keep l k) j = _
      rw [hk]; exact ih
    | some p =>
      have hne : j ≠ p.1 := fun e : j = p.1 => h (by rw [e]; exact List.mem_map.2 ⟨p, List.mem_of_getElem? hk, rfl⟩)
      cases hb : bit keep k with
      | true => rw [dieTo_keep hb]; exact ih
      | false => rw [dieTo_back hk hb, up_other _ hne]; exact ih

/-- What comes of the k-th loose sector. -/
theorem dieTo_at (is : Nat → ByteArray) (keep : Nat) {l : List (Nat × ByteArray)} (hl : (l.map (·.1)).Nodup) {k : Nat} {p : Nat × ByteArray} (hk : l[k]? = some p) (n : Nat) :
    dieTo is keep l n p.1 = if n ≤ k then is p.1 else if bit keep k then is p.1 else p.2 := by
  induction n with
  | zero => rw [if_pos (Nat.zero_le _)]; rfl
  | succ n ih =>
    by_cases hn : n = k
    · subst hn
      rw [if_pos (Nat.le_refl _)] at ih
      rw [if_neg (by omega)]
      cases hb : bit keep n with
      | true => rw [dieTo_keep hb, ih]; simp
      | false => rw [dieTo_back hk hb, up_same]; simp
    · have e : (if n + 1 ≤ k then is p.1 else if bit keep k then is p.1 else p.2) = if n ≤ k then is p.1 else if bit keep k then is p.1 else p.2 := by
        by_cases h1 : n ≤ k
        · rw [if_pos h1, if_pos (by omega)]
        · rw [if_neg h1, if_neg (by omega)]
      rw [e, ← ih]
      cases hq : l[n]? with
      | none =>
        show (match l[n]? with | some p => if bit keep n then dieTo is keep l n else up (dieTo is keep l n) p.1 p.2 | none => dieTo is keep l n) p.1 = _
        rw [hq]
      | some q =>
        have hne : p.1 ≠ q.1 := by
          intro e
          apply hn
          have h1 : (l.map (·.1))[n]? = some p.1 := by simp [hq, e]
          have h2 : (l.map (·.1))[k]? = some p.1 := by simp [hk]
          have hlt : n < (l.map (·.1)).length := (List.getElem?_eq_some_iff.1 h1).1
          exact (List.getElem?_inj hlt hl).1 (h1.trans h2.symm)
        cases hb : bit keep n with
        | true => rw [dieTo_keep hb]
        | false => rw [dieTo_back hq hb, up_other _ hne]

/-! ### The calls -/

def St.new : St := ⟨fun _ => ByteArray.empty, [], false, 0, 0, 0, 0⟩
def St.tick (st : St) : St := { st with cuts := st.cuts - 1, fails := st.fails - 1, many := st.many + 1 }
def St.put (st : St) (i : Nat) (s : ByteArray) : St := { st with is := up st.is i s, loose := if was st.loose i = none then st.loose ++ [(i, st.is i)] else st.loose }
def St.die (st : St) : St := { st with is := dieTo st.is st.keep st.loose st.loose.length, loose := [], off := true }
def St.fasten (st : St) : St := { st with loose := [] }
def St.cut (st : St) (n : Int) (keep : Nat) : St := { st with cuts := n.toNat, keep := keep }
def St.fail (st : St) (n : Int) : St := { st with fails := n.toNat }
def St.power (st : St) : St := if st.off then { st with off := false, cuts := 0, fails := 0 } else st
/-- What a call comes to: 33 the power goes, 32 it fails. -/
def St.due (st : St) : Int := if st.cuts = 1 then 33 else if st.fails = 1 then 32 else 0
def St.reach (st : St) (i : Int) : Int := if st.off then 33 else if i < 0 ∨ 256 ≤ i then 30 else 0
/-- Write's error ahead of its call. -/
def St.bars (st : St) (i : Int) (s : ByteArray) : Int := if st.reach i ≠ 0 then st.reach i else if 128 < s.size then 31 else 0
def St.write (st : St) (i : Int) (s : ByteArray) : St :=
  if st.bars i s ≠ 0 then st else if st.due = 33 then (st.tick.put i.toNat s).die else if st.due = 32 then st.tick else st.tick.put i.toNat s
def St.writeE (st : St) (i : Int) (s : ByteArray) : Int := if st.bars i s ≠ 0 then st.bars i s else st.due
def St.barrier (st : St) : St := if st.off then st else if st.due = 33 then st.tick.die else if st.due = 32 then st.tick else st.tick.fasten
def St.barrierE (st : St) : Int := if st.off then 33 else st.due
def St.read (st : St) (i : Int) : ByteArray := if st.reach i = 0 then st.is i.toNat else ByteArray.empty

/-- What holds of each disk. -/
structure Inv (st : St) : Prop where
  nodup : (st.loose.map (·.1)).Nodup
  keys : ∀ p ∈ st.loose, p.1 < 256 ∧ p.2.size ≤ 128
  texts : ∀ i, (st.is i).size ≤ 128
  few : st.loose.length ≤ st.many

theorem Inv.new : Inv St.new := ⟨List.nodup_nil, fun _ h => by simp [St.new] at h, fun _ => by simp [St.new], Nat.zero_le _⟩
theorem Inv.tick {st : St} (h : Inv st) : Inv st.tick := ⟨h.nodup, h.keys, h.texts, Nat.le_succ_of_le h.few⟩
theorem Inv.cut {st : St} (h : Inv st) (n : Int) (k : Nat) : Inv (st.cut n k) := ⟨h.nodup, h.keys, h.texts, h.few⟩
theorem Inv.fail {st : St} (h : Inv st) (n : Int) : Inv (st.fail n) := ⟨h.nodup, h.keys, h.texts, h.few⟩
theorem Inv.power {st : St} (h : Inv st) : Inv st.power := by
  unfold St.power
  split
  · exact ⟨h.nodup, h.keys, h.texts, h.few⟩
  · exact h
theorem Inv.fasten {st : St} (h : Inv st) : Inv st.fasten := ⟨List.nodup_nil, fun _ h => by simp [St.fasten] at h, h.texts, Nat.zero_le _⟩
theorem Inv.put {st : St} (h : Inv st) (hf : st.loose.length < st.many) {i : Nat} (hi : i < 256) {s : ByteArray} (hs : s.size ≤ 128) : Inv (st.put i s) := by
  refine ⟨?_, ?_, ?_, ?_⟩
  · show ((if was st.loose i = none then st.loose ++ [(i, st.is i)] else st.loose).map (·.1)).Nodup
    split
    · rename_i hw
      have hn := was_none.1 hw
      rw [List.map_append, List.nodup_append]
      refine ⟨h.nodup, by simp, ?_⟩
      intro a ha b hb e
      simp at hb
      exact hn (by rw [← hb, ← e]; exact ha)
    · exact h.nodup
  · intro p hp
    change p ∈ (if was st.loose i = none then st.loose ++ [(i, st.is i)] else st.loose) at hp
    split at hp
    · rcases List.mem_append.1 hp with hp | hp
      · exact h.keys p hp
      · simp at hp
        subst hp
        exact ⟨hi, h.texts i⟩
    · exact h.keys p hp
  · intro j
    show (up st.is i s j).size ≤ 128
    unfold up
    split
    · exact hs
    · exact h.texts j
  · show (if was st.loose i = none then st.loose ++ [(i, st.is i)] else st.loose).length ≤ st.many
    split
    · rw [List.length_append]; exact hf
    · exact Nat.le_of_lt hf
theorem dieTo_size {st : St} (h : Inv st) (k j : Nat) : (dieTo st.is st.keep st.loose k j).size ≤ 128 := by
  induction k generalizing j with
  | zero => exact h.texts j
  | succ k ih =>
    cases hk : st.loose[k]? with
    | none =>
      show ((match st.loose[k]? with | some p => if bit st.keep k then dieTo st.is st.keep st.loose k else up (dieTo st.is st.keep st.loose k) p.1 p.2 | none => dieTo st.is st.keep st.loose k) j).size ≤ 128
      rw [hk]; exact ih j
    | some p =>
      cases hb : bit st.keep k with
      | true => rw [dieTo_keep hb]; exact ih j
      | false =>
        rw [dieTo_back hk hb]
        unfold up
        split
        · exact (h.keys p (List.mem_of_getElem? hk)).2
        · exact ih j
theorem Inv.die {st : St} (h : Inv st) : Inv st.die := ⟨List.nodup_nil, fun _ h => by simp [St.die] at h, fun j => dieTo_size h _ j, Nat.zero_le _⟩

theorem reach_ok {st : St} {i : Int} (h : st.reach i = 0) : st.off = false ∧ 0 ≤ i ∧ i < 256 := by
  unfold St.reach at h
  split at h
  · cases h
  · split at h
    · cases h
    · rename_i h1 h2
      exact ⟨by simpa using h1, by omega, by omega⟩
theorem reach_mk {st : St} {i : Int} (h : st.off = false) (h0 : 0 ≤ i) (h1 : i < 256) : st.reach i = 0 := by
  unfold St.reach
  rw [if_neg (by simp [h]), if_neg (by omega)]
theorem bars_ok {st : St} {i : Int} {s : ByteArray} (h : st.bars i s = 0) : st.off = false ∧ 0 ≤ i ∧ i < 256 ∧ s.size ≤ 128 := by
  unfold St.bars at h
  split at h
  · rename_i h1; exact absurd h h1
  · rename_i h1
    split at h
    · cases h
    · have := reach_ok (st := st) (i := i) (by simpa using h1)
      exact ⟨this.1, this.2.1, this.2.2, by omega⟩
theorem bars_mk {st : St} {i : Int} {s : ByteArray} (h : st.off = false) (h0 : 0 ≤ i) (h1 : i < 256) (h2 : s.size ≤ 128) : st.bars i s = 0 := by
  unfold St.bars
  rw [reach_mk h h0 h1, if_neg (by simp), if_neg (by omega)]

theorem Inv.write {st : St} (h : Inv st) (i : Int) (s : ByteArray) : Inv (st.write i s) := by
  unfold St.write
  split
  · exact h
  · rename_i hb
    obtain ⟨_, h0, h1, h2⟩ := bars_ok (st := st) (i := i) (s := s) (by simpa using hb)
    have hp : Inv (st.tick.put i.toNat s) := h.tick.put (by show st.loose.length < st.many + 1; have := h.few; omega) (by omega) h2
    split
    · exact hp.die
    · split
      · exact h.tick
      · exact hp
theorem Inv.barrier {st : St} (h : Inv st) : Inv st.barrier := by
  unfold St.barrier
  split
  · exact h
  · split
    · exact h.tick.die
    · split
      · exact h.tick
      · exact h.tick.fasten

theorem many_write (st : St) (i : Int) (s : ByteArray) : (st.write i s).many ≤ st.many + 1 := by
  unfold St.write
  split
  · omega
  · split
    · exact Nat.le_refl _
    · split <;> exact Nat.le_refl _
theorem many_barrier (st : St) : st.barrier.many ≤ st.many + 1 := by
  unfold St.barrier
  split
  · omega
  · split
    · exact Nat.le_refl _
    · split <;> exact Nat.le_refl _
theorem many_power (st : St) : st.power.many = st.many := by
  unfold St.power
  split <;> rfl

/-! ### Disks that tell the same: what the next Cut will set anew does not matter -/
structure Alike (a b : St) : Prop where
  is : a.is = b.is
  loose : a.loose = b.loose
  off : a.off = b.off
  cuts : a.cuts = b.cuts
  fails : a.fails = b.fails
  many : a.many = b.many
  keep : a.cuts ≠ 0 → a.keep = b.keep

theorem Alike.refl (a : St) : Alike a a := ⟨rfl, rfl, rfl, rfl, rfl, rfl, fun _ => rfl⟩
theorem Alike.tick {a b : St} (h : Alike a b) : Alike a.tick b.tick :=
  ⟨h.is, h.loose, h.off, by show a.cuts - 1 = b.cuts - 1; rw [h.cuts], by show a.fails - 1 = b.fails - 1; rw [h.fails], by show a.many + 1 = b.many + 1; rw [h.many], fun hc => h.keep (fun e => hc (by show a.cuts - 1 = 0; rw [e]))⟩
theorem Alike.put {a b : St} (h : Alike a b) (i : Nat) (s : ByteArray) : Alike (a.put i s) (b.put i s) :=
  ⟨by show up a.is i s = up b.is i s; rw [h.is], by show (if was a.loose i = none then a.loose ++ [(i, a.is i)] else a.loose) = (if was b.loose i = none then b.loose ++ [(i, b.is i)] else b.loose); rw [h.loose, h.is], h.off, h.cuts, h.fails, h.many, h.keep⟩
theorem Alike.die {a b : St} (h : Alike a b) (hk : a.keep = b.keep) : Alike a.die b.die :=
  ⟨by show dieTo a.is a.keep a.loose a.loose.length = dieTo b.is b.keep b.loose b.loose.length; rw [h.is, hk, h.loose], rfl, rfl, h.cuts, h.fails, h.many, fun _ => hk⟩
theorem Alike.fasten {a b : St} (h : Alike a b) : Alike a.fasten b.fasten := ⟨h.is, rfl, h.off, h.cuts, h.fails, h.many, h.keep⟩
theorem Alike.cut {a b : St} (h : Alike a b) (n : Int) (k : Nat) : Alike (a.cut n k) (b.cut n k) := ⟨h.is, h.loose, h.off, rfl, h.fails, h.many, fun _ => rfl⟩
theorem Alike.fail {a b : St} (h : Alike a b) (n : Int) : Alike (a.fail n) (b.fail n) := ⟨h.is, h.loose, h.off, h.cuts, rfl, h.many, h.keep⟩
theorem Alike.power {a b : St} (h : Alike a b) : Alike a.power b.power := by
  unfold St.power
  rw [← h.off]
  split
  · exact ⟨h.is, h.loose, rfl, rfl, rfl, h.many, fun hc => absurd rfl hc⟩
  · exact h
theorem Alike.due {a b : St} (h : Alike a b) : a.due = b.due := by unfold St.due; rw [h.cuts, h.fails]
theorem Alike.reach {a b : St} (h : Alike a b) (i : Int) : a.reach i = b.reach i := by unfold St.reach; rw [h.off]
theorem Alike.bars {a b : St} (h : Alike a b) (i : Int) (s : ByteArray) : a.bars i s = b.bars i s := by unfold St.bars; rw [h.reach]
theorem due_cut {st : St} (h : st.due = 33) : st.cuts = 1 := by
  unfold St.due at h
  split at h
  · assumption
  · split at h <;> cases h
theorem due_fail {st : St} (h : st.due = 32) : st.cuts ≠ 1 ∧ st.fails = 1 := by
  unfold St.due at h
  split at h
  · cases h
  · split at h
    · exact ⟨by assumption, by assumption⟩
    · cases h
theorem due_ok {st : St} (h1 : st.due ≠ 33) (h2 : st.due ≠ 32) : st.due = 0 ∧ st.cuts ≠ 1 ∧ st.fails ≠ 1 := by
  unfold St.due at *
  split at h1
  · exact absurd rfl h1
  · rename_i hc
    rw [if_neg hc] at h2
    split at h2
    · exact absurd rfl h2
    · rename_i hf
      exact ⟨by rw [if_neg hc, if_neg hf], hc, hf⟩
theorem Alike.write {a b : St} (h : Alike a b) (i : Int) (s : ByteArray) : Alike (a.write i s) (b.write i s) := by
  unfold St.write
  rw [h.bars, h.due]
  split
  · exact h
  · split
    · rename_i hd
      exact (h.tick.put _ _).die (h.keep (by rw [h.cuts, due_cut hd]; decide))
    · split
      · exact h.tick
      · exact h.tick.put _ _
theorem Alike.barrier {a b : St} (h : Alike a b) : Alike a.barrier b.barrier := by
  unfold St.barrier
  rw [h.off, h.due]
  split
  · exact h
  · split
    · rename_i hd
      exact h.tick.die (h.keep (by rw [h.cuts, due_cut hd]; decide))
    · split
      · exact h.tick
      · exact h.tick.fasten
theorem Alike.writeE {a b : St} (h : Alike a b) (i : Int) (s : ByteArray) : a.writeE i s = b.writeE i s := by unfold St.writeE; rw [h.bars, h.due]
theorem Alike.barrierE {a b : St} (h : Alike a b) : a.barrierE = b.barrierE := by unfold St.barrierE; rw [h.off, h.due]
theorem Alike.read {a b : St} (h : Alike a b) (i : Int) : a.read i = b.read i := by unfold St.read; rw [h.reach, h.is]

end Dk
end Go.Proofs.YtgahcbhdnplnoaaDoor

/- Plain mathematics of layer 5, first part: what sectors hold, heads, the scan; records that lie whole, and where the scan stops. It speaks of no program. -/
namespace Go.Proofs.YtgahcbhdnplnoaaDoor.Lg
open Cn

/-! ### What a sector holds -/

/-- The chunk whose bytes a sector holds. -/
def chk (s : ByteArray) : Option Chu := if isC s.data.toList then some (got s.data.toList) else none

/-- A chunk's bytes. -/
def encs (c : Chu) : ByteArray := ⟨(encB c).toArray⟩

theorem chk_encs (c : Chu) (h : ok c) : chk (encs c) = some c := by
  unfold chk encs
  rw [encB_of_ok h]
  have e : (⟨(sealed (body c)).toArray⟩ : ByteArray).data.toList = sealed (body c) := by simp
  rw [e, if_pos (dec_enc c h).1, (dec_enc c h).2]

theorem encs_size (c : Chu) (h : ok c) : (encs c).size ≤ 128 := by
  unfold encs
  rw [encB_of_ok h]
  have e : (⟨(sealed (body c)).toArray⟩ : ByteArray).size = (sealed (body c)).length := by simp [ByteArray.size]
  rw [e]
  exact sealed_le c h

theorem chk_empty : chk ByteArray.empty = none := by
  unfold chk
  rw [if_neg]
  intro h
  have := (ref_got _ h).1
  simp at this

theorem chk_ok {s : ByteArray} {c : Chu} (h : chk s = some c) : ok c := by
  unfold chk at h
  split at h
  · rename_i hi
    injection h with h
    rw [← h]
    exact (encE_ok _).1 hi.1
  · cases h

/-- Place p of the half h. -/
def sec (h p : Nat) : Nat := 2 + 127 * h + p

theorem sec_lt {h p : Nat} (hh : h ≤ 1) (hp : p < 127) : sec h p < 256 := by unfold sec; omega
theorem sec_ge (h p : Nat) : 2 ≤ sec h p := by unfold sec; omega
theorem sec_inj {h p q : Nat} (e : sec h p = sec h q) : p = q := by unfold sec at e; omega
theorem sec_apart {h k p q : Nat} (hp : p < 127) (hq : q < 127) (hne : h ≠ k) : sec h p ≠ sec k q := by unfold sec; omega

/-! ### Heads -/

/-- Which half counts since when, and the epoch. -/
@[ext] structure Top where
  e : Int
  b : Int
  h : Nat

/-- May c be the head in the sector i? -/
def isHead (c : Chu) (i : Nat) : Prop := c.f = true ∧ c.l = true ∧ (c.d = [48] ∨ c.d = [49]) ∧ c.q ≤ c.e ∧ c.e % 2 = (i : Int)
instance (c : Chu) (i : Nat) : Decidable (isHead c i) := by unfold isHead; infer_instance

def head (f : Nat → ByteArray) (i : Nat) : Option Chu :=
  match chk (f i) with
  | some c => if isHead c i then some c else none
  | none => none

def topOf (c : Chu) : Top := ⟨c.e, c.q, if c.d = [49] then 1 else 0⟩

/-- The head that counts. -/
def top (f : Nat → ByteArray) : Top :=
  match head f 0 with
  | some a => match head f 1 with
    | some b => if a.e < b.e then topOf b else topOf a
    | none => topOf a
  | none => match head f 1 with
    | some b => topOf b
    | none => ⟨0, 0, 0⟩

/-- A head as a chunk. -/
def hd (t : Top) : Chu := ⟨t.e, t.b, true, true, if t.h = 1 then [49] else [48]⟩

theorem hd_ok (t : Top) (h0 : 0 ≤ t.b) (h1 : t.b ≤ t.e) (h2 : t.e ≤ 1099511627776) : ok (hd t) := by
  refine ⟨by show 0 ≤ t.e; omega, h2, h0, by show t.b ≤ 1099511627776; omega, ?_⟩
  show (if t.h = 1 then [49] else [48] : List UInt8).length ≤ 96
  split <;> simp

theorem topOf_hd (t : Top) (h : t.h ≤ 1) : topOf (hd t) = t := by
  unfold topOf hd
  ext
  · rfl
  · rfl
  · show (if (if t.h = 1 then [49] else [48] : List UInt8) = [49] then 1 else 0) = t.h
    rcases (show t.h = 0 ∨ t.h = 1 by omega) with e | e <;> rw [e] <;> rfl

/-- The sector of the head of an epoch. -/
def hsec (e : Int) : Nat := (e % 2).toNat

theorem hsec_lt (e : Int) : hsec e < 2 := by unfold hsec; omega

theorem head_le (f : Nat → ByteArray) (i : Nat) (hi : i < 2) (c : Chu) (h : head f i = some c) : c.e ≤ (top f).e := by
  unfold top
  rcases (show i = 0 ∨ i = 1 by omega) with rfl | rfl
  · rw [h]
    show c.e ≤ (match head f 1 with | some b => if c.e < b.e then topOf b else topOf c | none => topOf c).e
    cases h1 : head f 1 with
    | none => exact Int.le_refl _
    | some b =>
      show c.e ≤ (if c.e < b.e then topOf b else topOf c).e
      split
      · rename_i hlt; exact Int.le_of_lt hlt
      · exact Int.le_refl _
  · cases h0 : head f 0 with
    | none => rw [h]; exact Int.le_refl _
    | some a =>
      rw [h]
      show c.e ≤ (if a.e < c.e then topOf c else topOf a).e
      split
      · exact Int.le_refl _
      · rename_i hlt; show c.e ≤ a.e; omega

theorem head_hd (f : Nat → ByteArray) (t : Top) (h0 : 0 ≤ t.b) (h1 : t.b ≤ t.e) (h2 : t.e ≤ 1099511627776) (hf : f (hsec t.e) = encs (hd t)) : head f (hsec t.e) = some (hd t) := by
  unfold head
  rw [hf, chk_encs _ (hd_ok t h0 h1 h2)]
  show (if isHead (hd t) (hsec t.e) then some (hd t) else none) = some (hd t)
  rw [if_pos]
  refine ⟨rfl, rfl, ?_, h1, ?_⟩
  · show (if t.h = 1 then [49] else [48] : List UInt8) = [48] ∨ (if t.h = 1 then [49] else [48] : List UInt8) = [49]
    split
    · exact .inr rfl
    · exact .inl rfl
  · show t.e % 2 = ((t.e % 2).toNat : Int)
    omega

/-- A head of a greater epoch, written in its sector, is the one that counts. -/
theorem top_up (f g : Nat → ByteArray) (t : Top) (hh : t.h ≤ 1) (h0 : 0 ≤ t.b) (h1 : t.b ≤ t.e) (h2 : t.e ≤ 1099511627776) (hlt : (top f).e < t.e)
    (hg : g (hsec t.e) = encs (hd t)) (hfg : ∀ i, i < 2 → i ≠ hsec t.e → g i = f i) : top g = t := by
  have hhd := head_hd g t h0 h1 h2 hg
  have hother : ∀ i, i < 2 → i ≠ hsec t.e → ∀ c, head g i = some c → c.e < t.e := by
    intro i hi hne c hc
    have e : head g i = head f i := by unfold head; rw [hfg i hi hne]
    rw [e] at hc
    exact Int.lt_of_le_of_lt (head_le f i hi c hc) hlt
  have hs := hsec_lt t.e
  rcases (show hsec t.e = 0 ∨ hsec t.e = 1 by omega) with e | e
  · rw [e] at hhd
    unfold top
    rw [hhd]
    show (match head g 1 with | some b => if (hd t).e < b.e then topOf b else topOf (hd t) | none => topOf (hd t)) = t
    cases hb : head g 1 with
    | none => exact topOf_hd t hh
    | some b =>
      have := hother 1 (by omega) (by omega) b hb
      show (if t.e < b.e then topOf b else topOf (hd t)) = t
      rw [if_neg (by omega)]
      exact topOf_hd t hh
  · rw [e] at hhd
    unfold top
    cases ha : head g 0 with
    | none =>
      rw [hhd]
      exact topOf_hd t hh
    | some a =>
      have := hother 0 (by omega) (by omega) a ha
      rw [hhd]
      show (if a.e < t.e then topOf (hd t) else topOf a) = t
      rw [if_pos this]
      exact topOf_hd t hh

theorem top_congr {f g : Nat → ByteArray} (h : ∀ i, i < 2 → g i = f i) : top g = top f := by
  have e : ∀ i, i < 2 → head g i = head f i := fun i hi => by unfold head; rw [h i hi]
  unfold top
  rw [e 0 (by omega), e 1 (by omega)]

/-! ### The scan -/

/-- From the place p on, n places: the records, and the place behind the last chunk of the last one (nx so far). op: the record that is open. -/
def scanGo (g : Nat → Option Chu) (E : Int) : Nat → Nat → Int → Option (List UInt8) → Nat → List (List UInt8) × Nat
  | 0, _, _, _, nx => ([], nx)
  | n + 1, p, ep, op, nx =>
    match g p with
    | some c =>
      if c.q = (p : Int) ∧ ep ≤ c.e ∧ c.e ≤ E ∧ c.f = op.isNone ∧ (op.isSome = true → c.e = ep) then
        if c.l then ((op.getD [] ++ c.d) :: (scanGo g E n (p + 1) c.e none (p + 1)).1, (scanGo g E n (p + 1) c.e none (p + 1)).2)
        else scanGo g E n (p + 1) c.e (some (op.getD [] ++ c.d)) nx
      else ([], nx)
    | none => ([], nx)

/-- What the half that counts holds. -/
def half (f : Nat → ByteArray) (h : Nat) : Nat → Option Chu := fun p => chk (f (sec h p))

/-- The scan of the half that counts. -/
def scan (f : Nat → ByteArray) (t : Top) : List (List UInt8) × Nat := scanGo (half f t.h) t.e 127 0 t.b none 0

theorem scan_none {g : Nat → Option Chu} {E : Int} {n p : Nat} {ep : Int} {op : Option (List UInt8)} {nx : Nat} (h : g p = none) : scanGo g E (n + 1) p ep op nx = ([], nx) := by
  rw [scanGo, h]
theorem scan_bad {g : Nat → Option Chu} {E : Int} {n p : Nat} {ep : Int} {op : Option (List UInt8)} {nx : Nat} {c : Chu} (h : g p = some c) (hb : ¬ (c.q = (p : Int) ∧ ep ≤ c.e ∧ c.e ≤ E ∧ c.f = op.isNone ∧ (op.isSome = true → c.e = ep))) : scanGo g E (n + 1) p ep op nx = ([], nx) := by
  rw [scanGo, h]
  exact if_neg hb
theorem scan_last {g : Nat → Option Chu} {E : Int} {n p : Nat} {ep : Int} {op : Option (List UInt8)} {nx : Nat} {c : Chu} (h : g p = some c) (hb : c.q = (p : Int) ∧ ep ≤ c.e ∧ c.e ≤ E ∧ c.f = op.isNone ∧ (op.isSome = true → c.e = ep)) (hl : c.l = true) :
    scanGo g E (n + 1) p ep op nx = ((op.getD [] ++ c.d) :: (scanGo g E n (p + 1) c.e none (p + 1)).1, (scanGo g E n (p + 1) c.e none (p + 1)).2) := by
  rw [scanGo, h]
  show (if _ then if c.l = true then _ else _ else _) = _
  rw [if_pos hb, if_pos hl]
theorem scan_more {g : Nat → Option Chu} {E : Int} {n p : Nat} {ep : Int} {op : Option (List UInt8)} {nx : Nat} {c : Chu} (h : g p = some c) (hb : c.q = (p : Int) ∧ ep ≤ c.e ∧ c.e ≤ E ∧ c.f = op.isNone ∧ (op.isSome = true → c.e = ep)) (hl : c.l = false) :
    scanGo g E (n + 1) p ep op nx = scanGo g E n (p + 1) c.e (some (op.getD [] ++ c.d)) nx := by
  rw [scanGo, h]
  show (if _ then if c.l = true then _ else _ else _) = _
  rw [if_pos hb, if_neg (by rw [hl]; exact Bool.false_ne_true)]

/-- The scan looks at its own places alone. -/
theorem scan_congr {g g' : Nat → Option Chu} (E : Int) : ∀ (n p : Nat) (ep : Int) (op : Option (List UInt8)) (nx : Nat), (∀ i, p ≤ i → i < p + n → g' i = g i) → scanGo g' E n p ep op nx = scanGo g E n p ep op nx := by
  intro n
  induction n with
  | zero => intro p ep op nx _; rfl
  | succ n ih =>
    intro p ep op nx h
    have h0 := h p (Nat.le_refl _) (by omega)
    have hn : ∀ i, p + 1 ≤ i → i < p + 1 + n → g' i = g i := fun i hi hj => h i (by omega) (by omega)
    cases hg : g p with
    | none => rw [scan_none hg, scan_none (by rw [h0, hg])]
    | some c =>
      have hg' : g' p = some c := by rw [h0, hg]
      by_cases hb : c.q = (p : Int) ∧ ep ≤ c.e ∧ c.e ≤ E ∧ c.f = op.isNone ∧ (op.isSome = true → c.e = ep)
      · cases hl : c.l with
        | true => rw [scan_last hg hb hl, scan_last hg' hb hl, ih _ _ _ _ hn]
        | false => rw [scan_more hg hb hl, scan_more hg' hb hl, ih _ _ _ _ hn]
      · rw [scan_bad hg hb, scan_bad hg' hb]

/-- Nor at epochs that no chunk has. -/
theorem scan_epoch {g : Nat → Option Chu} (E E' : Int) : ∀ (n p : Nat) (ep : Int) (op : Option (List UInt8)) (nx : Nat), (∀ i c, p ≤ i → i < p + n → g i = some c → (c.e ≤ E ↔ c.e ≤ E')) → scanGo g E n p ep op nx = scanGo g E' n p ep op nx := by
  intro n
  induction n with
  | zero => intro p ep op nx _; rfl
  | succ n ih =>
    intro p ep op nx h
    have hn : ∀ i c, p + 1 ≤ i → i < p + 1 + n → g i = some c → (c.e ≤ E ↔ c.e ≤ E') := fun i c hi hj => h i c (by omega) (by omega)
    cases hg : g p with
    | none => rw [scan_none hg, scan_none hg]
    | some c =>
      have h0 := h p c (Nat.le_refl _) (by omega) hg
      by_cases hb : c.q = (p : Int) ∧ ep ≤ c.e ∧ c.e ≤ E ∧ c.f = op.isNone ∧ (op.isSome = true → c.e = ep)
      · have hb' : c.q = (p : Int) ∧ ep ≤ c.e ∧ c.e ≤ E' ∧ c.f = op.isNone ∧ (op.isSome = true → c.e = ep) := ⟨hb.1, hb.2.1, h0.1 hb.2.2.1, hb.2.2.2⟩
        cases hl : c.l with
        | true => rw [scan_last hg hb hl, scan_last hg hb' hl, ih _ _ _ _ hn]
        | false => rw [scan_more hg hb hl, scan_more hg hb' hl, ih _ _ _ _ hn]
      · have hb' : ¬ (c.q = (p : Int) ∧ ep ≤ c.e ∧ c.e ≤ E' ∧ c.f = op.isNone ∧ (op.isSome = true → c.e = ep)) := fun h => hb ⟨h.1, h.2.1, h0.2 h.2.2.1, h.2.2.2⟩
        rw [scan_bad hg hb, scan_bad hg hb']

/-! ### Records as chunks -/

/-- Pieces as chunks, from the place p on; fst: is the first one the record's first? -/
def cksGo (e : Int) : Nat → Bool → List (List UInt8) → List Chu
  | _, _, [] => []
  | p, fst, d :: ds => ⟨e, (p : Int), fst, ds.isEmpty, d⟩ :: cksGo e (p + 1) false ds

/-- How many places a record takes. -/
def plc (r : List UInt8) : Nat := (cut r).length

theorem plc_pos (r : List UInt8) : 0 < plc r := cut_pos r

/-- A record as chunks. -/
def cks (e : Int) (p : Nat) (r : List UInt8) : List Chu := cksGo e p true (cut r)

/-- Records as chunks, one behind the other. -/
def cksAll (e : Int) : Nat → List (List UInt8) → List Chu
  | _, [] => []
  | p, r :: rs => cks e p r ++ cksAll e (p + plc r) rs

/-- How many places records take. -/
def many : List (List UInt8) → Nat
  | [] => 0
  | r :: rs => plc r + many rs

theorem many_append (a b : List (List UInt8)) : many (a ++ b) = many a + many b := by
  induction a with
  | nil => simp [many]
  | cons r a ih => simp only [List.cons_append, many, ih]; omega

theorem cksGo_length (e : Int) : ∀ (ds : List (List UInt8)) (p : Nat) (fst : Bool), (cksGo e p fst ds).length = ds.length := by
  intro ds
  induction ds with
  | nil => intro p fst; rfl
  | cons d ds ih => intro p fst; simp [cksGo, ih]

theorem cks_length (e : Int) (p : Nat) (r : List UInt8) : (cks e p r).length = plc r := cksGo_length e _ p true

theorem cksAll_length (e : Int) : ∀ (rs : List (List UInt8)) (p : Nat), (cksAll e p rs).length = many rs := by
  intro rs
  induction rs with
  | nil => intro p; rfl
  | cons r rs ih => intro p; simp only [cksAll, List.length_append, cks_length, ih, many]

theorem cksGo_at (e : Int) : ∀ (ds : List (List UInt8)) (p : Nat) (fst : Bool) (i : Nat) (c : Chu), (cksGo e p fst ds)[i]? = some c → c.e = e ∧ c.q = ((p + i : Nat) : Int) ∧ c.d ∈ ds := by
  intro ds
  induction ds with
  | nil => intro p fst i c h; simp [cksGo] at h
  | cons d ds ih =>
    intro p fst i c h
    cases i with
    | zero =>
      simp only [cksGo, List.getElem?_cons_zero, Option.some.injEq] at h
      subst h
      exact ⟨rfl, rfl, List.mem_cons_self ..⟩
    | succ i =>
      simp only [cksGo, List.getElem?_cons_succ] at h
      obtain ⟨h1, h2, h3⟩ := ih (p + 1) false i c h
      exact ⟨h1, by rw [h2]; omega, List.mem_cons_of_mem _ h3⟩

theorem cut_le (n : Nat) : ∀ (s : List UInt8), s.length ≤ n → ∀ d ∈ cut s, d.length ≤ 96 := by
  induction n using Nat.strongRecOn with
  | _ n ih =>
    intro s hs d hd
    by_cases h : 96 < s.length
    · rw [cut_long s h] at hd
      rcases List.mem_cons.1 hd with rfl | hd
      · rw [List.length_take]; omega
      · exact ih (n - 96) (by omega) (s.drop 96) (by rw [List.length_drop]; omega) d hd
    · rw [cut_short s (by omega)] at hd
      simp at hd
      subst hd
      omega

theorem cut_join (n : Nat) : ∀ (s : List UInt8), s.length ≤ n → (cut s).flatten = s := by
  induction n using Nat.strongRecOn with
  | _ n ih =>
    intro s hs
    by_cases h : 96 < s.length
    · rw [cut_long s h, List.flatten_cons, ih (n - 96) (by omega) (s.drop 96) (by rw [List.length_drop]; omega), List.take_append_drop]
    · rw [cut_short s (by omega)]
      simp

theorem cks_at (e : Int) (p : Nat) (r : List UInt8) (i : Nat) (c : Chu) (h : (cks e p r)[i]? = some c) : c.e = e ∧ c.q = ((p + i : Nat) : Int) ∧ c.d.length ≤ 96 := by
  obtain ⟨h1, h2, h3⟩ := cksGo_at e _ p true i c h
  exact ⟨h1, h2, cut_le _ r (Nat.le_refl _) _ h3⟩

theorem cksAll_at (e : Int) : ∀ (rs : List (List UInt8)) (p i : Nat) (c : Chu), (cksAll e p rs)[i]? = some c → c.e = e ∧ c.q = ((p + i : Nat) : Int) ∧ c.d.length ≤ 96 := by
  intro rs
  induction rs with
  | nil => intro p i c h; simp [cksAll] at h
  | cons r rs ih =>
    intro p i c h
    simp only [cksAll] at h
    by_cases hi : i < plc r
    · rw [List.getElem?_append_left (by rw [cks_length]; exact hi)] at h
      exact cks_at e p r i c h
    · rw [List.getElem?_append_right (by rw [cks_length]; omega), cks_length] at h
      obtain ⟨h1, h2, h3⟩ := ih (p + plc r) (i - plc r) c h
      exact ⟨h1, by rw [h2]; omega, h3⟩

/-! ### Records that lie whole -/

/-- From the place p on, behind the epoch ep, the records of L lie one behind the other, each with its epoch; behind them is the place N, and the epoch ep'. -/
def Laid (g : Nat → Option Chu) : Nat → Int → List (Int × List UInt8) → Nat → Int → Prop
  | p, ep, [], N, ep' => N = p ∧ ep' = ep
  | p, ep, (a, r) :: L, N, ep' => ep ≤ a ∧ (∀ i c, (cks a p r)[i]? = some c → g (p + i) = some c) ∧ Laid g (p + plc r) a L N ep'

/-- From the place p on no record is whole. -/
def Stuck (g : Nat → Option Chu) (E : Int) (p : Nat) (ep : Int) : Prop := ∀ n nx, p + n ≤ 127 → scanGo g E n p ep none nx = ([], nx)

theorem Laid.le {g : Nat → Option Chu} : ∀ {L : List (Int × List UInt8)} {p : Nat} {ep : Int} {N : Nat} {ep' : Int}, Laid g p ep L N ep' → p ≤ N ∧ ep ≤ ep'
  | [], _, _, _, _, h => ⟨Nat.le_of_eq h.1.symm, Int.le_of_eq h.2.symm⟩
  | (a, r) :: L, p, ep, N, ep', h => by
    have := Laid.le h.2.2
    have h1 := h.1
    omega

theorem Laid.num {g : Nat → Option Chu} : ∀ {L : List (Int × List UInt8)} {p : Nat} {ep : Int} {N : Nat} {ep' : Int}, Laid g p ep L N ep' → N = p + many (L.map (·.2))
  | [], _, _, _, _, h => by rw [h.1]; rfl
  | (a, r) :: L, p, ep, N, ep', h => by
    have := Laid.num h.2.2
    simp only [List.map_cons, many]
    omega

theorem Laid.congr {g g' : Nat → Option Chu} : ∀ {L : List (Int × List UInt8)} {p : Nat} {ep : Int} {N : Nat} {ep' : Int}, Laid g p ep L N ep' → (∀ i, p ≤ i → i < N → g' i = g i) → Laid g' p ep L N ep'
  | [], _, _, _, _, h, _ => h
  | (a, r) :: L, p, ep, N, ep', h, hc => by
    have hN := (Laid.le h.2.2).1
    refine ⟨h.1, fun i c hi => ?_, Laid.congr h.2.2 (fun i h1 h2 => hc i (by have := plc_pos r; omega) h2)⟩
    have hlt : i < (cks a p r).length := (List.getElem?_eq_some_iff.1 hi).1
    rw [cks_length] at hlt
    rw [hc (p + i) (by omega) (by omega)]
    exact h.2.1 i c hi

theorem Laid.append {g : Nat → Option Chu} : ∀ {L M : List (Int × List UInt8)} {p : Nat} {ep : Int} {N : Nat} {ep' : Int} {N2 : Nat} {ep2 : Int}, Laid g p ep L N ep' → Laid g N ep' M N2 ep2 → Laid g p ep (L ++ M) N2 ep2
  | [], _, _, _, _, _, _, _, h, k => by obtain ⟨rfl, rfl⟩ := h; exact k
  | (_, _) :: _, _, _, _, _, _, _, _, h, k => ⟨h.1, h.2.1, Laid.append h.2.2 k⟩

/-- Pieces of an open record. -/
theorem scan_pieces {g : Nat → Option Chu} {E e : Int} (hE : e ≤ E) : ∀ (ds : List (List UInt8)) (p n : Nat) (t : List UInt8) (nx : Nat), ds ≠ [] → ds.length ≤ n →
    (∀ i c, (cksGo e p false ds)[i]? = some c → g (p + i) = some c) →
    scanGo g E n p e (some t) nx = ((t ++ ds.flatten) :: (scanGo g E (n - ds.length) (p + ds.length) e none (p + ds.length)).1, (scanGo g E (n - ds.length) (p + ds.length) e none (p + ds.length)).2) := by
  intro ds
  induction ds with
  | nil => intro p n t nx h; exact absurd rfl h
  | cons d ds ih =>
    intro p n t nx _ hn hg
    obtain ⟨m, rfl⟩ : ∃ m, n = m + 1 := ⟨n - 1, by simp only [List.length_cons] at hn; omega⟩
    have h0 : g p = some (⟨e, (p : Int), false, ds.isEmpty, d⟩ : Chu) := hg 0 _ rfl
    have hb : ((⟨e, (p : Int), false, ds.isEmpty, d⟩ : Chu).q = (p : Int) ∧ e ≤ (⟨e, (p : Int), false, ds.isEmpty, d⟩ : Chu).e ∧ (⟨e, (p : Int), false, ds.isEmpty, d⟩ : Chu).e ≤ E ∧ (⟨e, (p : Int), false, ds.isEmpty, d⟩ : Chu).f = (some t).isNone ∧ ((some t).isSome = true → (⟨e, (p : Int), false, ds.isEmpty, d⟩ : Chu).e = e)) :=
      ⟨rfl, Int.le_refl _, hE, rfl, fun _ => rfl⟩
    cases ds with
    | nil =>
      rw [scan_last h0 hb rfl]
      simp
    | cons d2 ds =>
      rw [scan_more h0 hb rfl]
      have hrec := ih (p + 1) m (t ++ d) nx (by simp) (by simp only [List.length_cons] at hn ⊢; omega) (fun i c hi => by
        have := hg (i + 1) c (by simp only [cksGo, List.getElem?_cons_succ] at hi ⊢; exact hi)
        rw [← this]; congr 1; omega)
      show scanGo g E m (p + 1) e (some (t ++ d)) nx = _
      rw [hrec]
      have e1 : m - (d2 :: ds).length = m + 1 - (d :: d2 :: ds).length := by simp only [List.length_cons]; omega
      have e2 : p + 1 + (d2 :: ds).length = p + (d :: d2 :: ds).length := by simp only [List.length_cons]; omega
      rw [e1, e2, List.flatten_cons, List.append_assoc]
      rfl

/-- A record that lies whole is read. -/
theorem scan_rec {g : Nat → Option Chu} {E a ep : Int} {p n nx : Nat} {r : List UInt8} (hE : a ≤ E) (hep : ep ≤ a) (hn : plc r ≤ n) (hg : ∀ i c, (cks a p r)[i]? = some c → g (p + i) = some c) :
    scanGo g E n p ep none nx = (r :: (scanGo g E (n - plc r) (p + plc r) a none (p + plc r)).1, (scanGo g E (n - plc r) (p + plc r) a none (p + plc r)).2) := by
  have hpos := plc_pos r
  have hj := cut_join _ r (Nat.le_refl _)
  unfold plc at *
  unfold cks at hg
  generalize cut r = ds at *
  cases ds with
  | nil => simp at hpos
  | cons d ds =>
    obtain ⟨m, rfl⟩ : ∃ m, n = m + 1 := ⟨n - 1, by omega⟩
    have h0 : g p = some (⟨a, (p : Int), true, ds.isEmpty, d⟩ : Chu) := hg 0 _ rfl
    have hb : ((⟨a, (p : Int), true, ds.isEmpty, d⟩ : Chu).q = (p : Int) ∧ ep ≤ (⟨a, (p : Int), true, ds.isEmpty, d⟩ : Chu).e ∧ (⟨a, (p : Int), true, ds.isEmpty, d⟩ : Chu).e ≤ E ∧ (⟨a, (p : Int), true, ds.isEmpty, d⟩ : Chu).f = (none : Option (List UInt8)).isNone ∧ ((none : Option (List UInt8)).isSome = true → (⟨a, (p : Int), true, ds.isEmpty, d⟩ : Chu).e = ep)) :=
      ⟨rfl, hep, hE, rfl, fun h => by cases h⟩
    cases ds with
    | nil =>
      rw [scan_last h0 hb rfl]
      simp at hj
      simp [hj]
    | cons d2 ds =>
      rw [scan_more h0 hb rfl]
      have hrec := scan_pieces (g := g) hE (d2 :: ds) (p + 1) m d nx (by simp) (by simp only [List.length_cons] at hn ⊢; omega) (fun i c hi => by
        have := hg (i + 1) c (by simp only [cksGo, List.getElem?_cons_succ] at hi ⊢; exact hi)
        rw [← this]; congr 1; omega)
      show scanGo g E m (p + 1) a (some ([] ++ d)) nx = _
      rw [List.nil_append, hrec]
      have e1 : m - (d2 :: ds).length = m + 1 - (d :: d2 :: ds).length := by simp only [List.length_cons]; omega
      have e2 : p + 1 + (d2 :: ds).length = p + (d :: d2 :: ds).length := by simp only [List.length_cons]; omega
      have e3 : d ++ (d2 :: ds).flatten = r := hj
      rw [e1, e2, e3]

/-- Records that lie whole are read, one behind the other. -/
theorem scan_laid {g : Nat → Option Chu} {E : Int} : ∀ {L : List (Int × List UInt8)} {p n : Nat} {ep : Int} {N : Nat} {ep' : Int}, Laid g p ep L N ep' → ep' ≤ E → N ≤ p + n →
    scanGo g E n p ep none p = (L.map (·.2) ++ (scanGo g E (n - (N - p)) N ep' none N).1, (scanGo g E (n - (N - p)) N ep' none N).2)
  | [], p, n, ep, N, ep', h, _, _ => by
    obtain ⟨rfl, rfl⟩ := h
    simp
  | (a, r) :: L, p, n, ep, N, ep', h, hE, hN => by
    have hle := Laid.le h.2.2
    rw [scan_rec (a := a) (r := r) (by omega) h.1 (by omega) h.2.1]
    rw [scan_laid h.2.2 hE (by omega)]
    have e1 : n - plc r - (N - (p + plc r)) = n - (N - p) := by omega
    rw [e1]
    rfl

/-- The scan of records that lie whole, with nothing whole behind them. -/
theorem scan_whole {g : Nat → Option Chu} {E : Int} {L : List (Int × List UInt8)} {b : Int} {N : Nat} {ep' : Int} (h : Laid g 0 b L N ep') (hE : ep' ≤ E) (hN : N ≤ 127) (hs : Stuck g E N ep') :
    scanGo g E 127 0 b none 0 = (L.map (·.2), N) := by
  rw [scan_laid h hE (by omega), hs (127 - (N - 0)) N (by omega)]
  simp

/-! ### Where the scan stops -/

theorem Stuck.congr {g g' : Nat → Option Chu} {E : Int} {p : Nat} {ep : Int} (h : Stuck g E p ep) (hc : ∀ i, p ≤ i → i < 127 → g' i = g i) : Stuck g' E p ep := by
  intro n nx hn
  rw [scan_congr E n p ep none nx (fun i h1 h2 => hc i h1 (by omega))]
  exact h n nx hn

theorem Stuck.epoch {g : Nat → Option Chu} {E E' : Int} {p : Nat} {ep : Int} (h : Stuck g E p ep) (hc : ∀ i c, p ≤ i → i < 127 → g i = some c → (c.e ≤ E ↔ c.e ≤ E')) : Stuck g E' p ep := by
  intro n nx hn
  rw [← scan_epoch E E' n p ep none nx (fun i c h1 h2 => hc i c h1 (by omega))]
  exact h n nx hn

/-- Chunks of elder epochs stop it. -/
theorem stuck_old {g : Nat → Option Chu} {E : Int} {p : Nat} {ep : Int} (h : ∀ c, p < 127 → g p = some c → c.e < ep) : Stuck g E p ep := by
  intro n nx hn
  cases n with
  | zero => rfl
  | succ n =>
    cases hg : g p with
    | none => exact scan_none hg
    | some c =>
      have := h c (by omega) hg
      exact scan_bad hg (fun hb => by have := hb.2.1; omega)

/-- While a record of an elder epoch is open, chunks of the epoch e close none. -/
theorem open_mix {g g' : Nat → Option Chu} {E e : Int} {lo : Nat} (hnew : ∀ i c, lo ≤ i → i < 127 → g' i = some c → g' i = g i ∨ c.e = e) :
    ∀ (n q : Nat) (a : Int) (t : List UInt8) (nx : Nat), lo ≤ q → q + n ≤ 127 → a < e → scanGo g E n q a (some t) nx = ([], nx) → scanGo g' E n q a (some t) nx = ([], nx) := by
  intro n
  induction n with
  | zero => intro q a t nx _ _ _ _; rfl
  | succ n ih =>
    intro q a t nx hlo hq ha h
    cases hg' : g' q with
    | none => exact scan_none hg'
    | some c =>
      rcases hnew q c hlo (by omega) hg' with hs | hs
      · have hg : g q = some c := by rw [← hs, hg']
        by_cases hb : c.q = (q : Int) ∧ a ≤ c.e ∧ c.e ≤ E ∧ c.f = (some t).isNone ∧ ((some t).isSome = true → c.e = a)
        · cases hl : c.l with
          | true =>
            rw [scan_last hg hb hl] at h
            exact absurd (congrArg Prod.fst h) (by simp)
          | false =>
            rw [scan_more hg hb hl] at h
            rw [scan_more hg' hb hl]
            have := hb.2.2.2.2 rfl
            exact ih (q + 1) c.e _ nx (by omega) (by omega) (by omega) h
        · exact scan_bad hg' hb
      · exact scan_bad hg' (fun hb => by have := hb.2.2.2.2 rfl; omega)

/-- Where the place itself is as it was, chunks of a later epoch behind it complete nothing. -/
theorem stuck_mix {g g' : Nat → Option Chu} {E e : Int} {p : Nat} {ep : Int} (h : Stuck g E p ep) (hold : ∀ c, p < 127 → g p = some c → c.e < e) (hp : g' p = g p)
    (hnew : ∀ i c, p ≤ i → i < 127 → g' i = some c → g' i = g i ∨ c.e = e) : Stuck g' E p ep := by
  intro n nx hn
  cases n with
  | zero => rfl
  | succ n =>
    have h0 := h (n + 1) nx hn
    cases hg : g p with
    | none => exact scan_none (by rw [hp, hg])
    | some c =>
      have hg' : g' p = some c := by rw [hp, hg]
      by_cases hb : c.q = (p : Int) ∧ ep ≤ c.e ∧ c.e ≤ E ∧ c.f = (none : Option (List UInt8)).isNone ∧ ((none : Option (List UInt8)).isSome = true → c.e = ep)
      · cases hl : c.l with
        | true =>
          rw [scan_last hg hb hl] at h0
          exact absurd (congrArg Prod.fst h0) (by simp)
        | false =>
          rw [scan_more hg hb hl] at h0
          rw [scan_more hg' hb hl]
          exact open_mix hnew n (p + 1) c.e _ nx (by omega) (by omega) (hold c (by omega) hg) h0
      · exact scan_bad hg' hb

/-- A record of which the first k pieces lie there, and then an elder chunk, or none, is not read. -/
theorem stop_pieces {g : Nat → Option Chu} {e : Int} : ∀ (k : Nat) (ds : List (List UInt8)) (q n : Nat) (t : List UInt8) (nx : Nat), k < ds.length → q + n ≤ 127 →
    (∀ i c, i < k → (cksGo e q false ds)[i]? = some c → g (q + i) = some c) → (∀ c, g (q + k) = some c → c.e < e) → scanGo g e n q e (some t) nx = ([], nx) := by
  intro k
  induction k with
  | zero =>
    intro ds q n t nx _ _ _ hk
    cases n with
    | zero => rfl
    | succ n =>
      cases hg : g q with
      | none => exact scan_none hg
      | some c =>
        have := hk c hg
        exact scan_bad hg (fun hb => by have := hb.2.1; omega)
  | succ k ih =>
    intro ds q n t nx hk hq hg hstop
    cases n with
    | zero => rfl
    | succ n =>
      cases ds with
      | nil => simp at hk
      | cons d ds =>
        have h0 : g q = some (⟨e, (q : Int), false, ds.isEmpty, d⟩ : Chu) := hg 0 _ (by omega) rfl
        have hne : ds.isEmpty = false := by
          cases ds with
          | nil => simp at hk
          | cons _ _ => rfl
        have hb : ((⟨e, (q : Int), false, ds.isEmpty, d⟩ : Chu).q = (q : Int) ∧ e ≤ (⟨e, (q : Int), false, ds.isEmpty, d⟩ : Chu).e ∧ (⟨e, (q : Int), false, ds.isEmpty, d⟩ : Chu).e ≤ e ∧ (⟨e, (q : Int), false, ds.isEmpty, d⟩ : Chu).f = (some t).isNone ∧ ((some t).isSome = true → (⟨e, (q : Int), false, ds.isEmpty, d⟩ : Chu).e = e)) :=
          ⟨rfl, Int.le_refl _, Int.le_refl _, rfl, fun _ => rfl⟩
        rw [scan_more h0 hb hne]
        refine ih ds (q + 1) n (t ++ d) nx (by simpa using hk) (by omega) (fun i c hi h => ?_) (fun c h => ?_)
        · have := hg (i + 1) c (by omega) (by simp only [cksGo, List.getElem?_cons_succ]; exact h)
          rw [← this]; congr 1; omega
        · refine hstop c ?_
          rw [← h]; congr 1; omega

/-- The same, from a record's first piece on. -/
theorem stop_rec {g : Nat → Option Chu} {e ep : Int} {p : Nat} {r : List UInt8} {k : Nat} (hep : ep ≤ e) (hk0 : 0 < k) (hk : k < plc r) (hg : ∀ i c, i < k → (cks e p r)[i]? = some c → g (p + i) = some c) (hstop : ∀ c, g (p + k) = some c → c.e < e) :
    Stuck g e p ep := by
  intro n nx hn
  unfold plc at hk
  unfold cks at hg
  generalize cut r = ds at *
  cases n with
  | zero => rfl
  | succ n =>
    obtain ⟨m, rfl⟩ : ∃ m, k = m + 1 := ⟨k - 1, by omega⟩
    cases ds with
    | nil => simp at hk
    | cons d ds =>
      have h0 : g p = some (⟨e, (p : Int), true, ds.isEmpty, d⟩ : Chu) := hg 0 _ (by omega) rfl
      have hne : ds.isEmpty = false := by
        cases ds with
        | nil => simp at hk
        | cons _ _ => rfl
      have hb : ((⟨e, (p : Int), true, ds.isEmpty, d⟩ : Chu).q = (p : Int) ∧ ep ≤ (⟨e, (p : Int), true, ds.isEmpty, d⟩ : Chu).e ∧ (⟨e, (p : Int), true, ds.isEmpty, d⟩ : Chu).e ≤ e ∧ (⟨e, (p : Int), true, ds.isEmpty, d⟩ : Chu).f = (none : Option (List UInt8)).isNone ∧ ((none : Option (List UInt8)).isSome = true → (⟨e, (p : Int), true, ds.isEmpty, d⟩ : Chu).e = ep)) :=
        ⟨rfl, hep, Int.le_refl _, rfl, fun h => by cases h⟩
      rw [scan_more h0 hb hne]
      refine stop_pieces m ds (p + 1) n _ nx (by simpa using hk) (by omega) (fun i c hi h => ?_) (fun c h => ?_)
      · have := hg (i + 1) c (by omega) (by simp only [cksGo, List.getElem?_cons_succ]; exact h)
        rw [← this]; congr 1; omega
      · refine hstop c ?_
        rw [← h]; congr 1; omega

theorem cksAll_head (e : Int) (p : Nat) (r : List UInt8) (rs : List (List UInt8)) {i : Nat} (hi : i < plc r) : (cksAll e p (r :: rs))[i]? = (cks e p r)[i]? := by
  simp only [cksAll]
  rw [List.getElem?_append_left (by rw [cks_length]; exact hi)]
theorem cksAll_tail (e : Int) (p : Nat) (r : List UInt8) (rs : List (List UInt8)) {i : Nat} (hi : plc r ≤ i) : (cksAll e p (r :: rs))[i]? = (cksAll e (p + plc r) rs)[i - plc r]? := by
  simp only [cksAll]
  rw [List.getElem?_append_right (by rw [cks_length]; exact hi), cks_length]

theorem least {P : Nat → Prop} (n : Nat) (h : P n) : ∃ k, P k ∧ ∀ i, i < k → ¬ P i := by
  induction n using Nat.strongRecOn with
  | _ n ih =>
    by_cases hs : ∃ m, m < n ∧ P m
    · obtain ⟨m, hm, hp⟩ := hs
      exact ih m hm hp
    · exact ⟨n, h, fun i hi hp => hs ⟨i, hi, hp⟩⟩

/-- Records of the epoch e, each chunk of which is there or is not: the first few are read, each whole. -/
theorem crash {g g' : Nat → Option Chu} {e : Int} : ∀ (rs : List (List UInt8)) (p : Nat) (ep : Int), Stuck g e p ep → ep ≤ e → p + many rs ≤ 127 →
    (∀ i c, p ≤ i → i < 127 → g i = some c → c.e < e) → (∀ i, p ≤ i → i < 127 → g' i = g i ∨ ∃ c, (cksAll e p rs)[i - p]? = some c ∧ g' i = some c) →
    ∃ j N' ep', j ≤ rs.length ∧ Laid g' p ep ((rs.take j).map fun r => (e, r)) N' ep' ∧ Stuck g' e N' ep' ∧ ep' ≤ e ∧ N' ≤ 127 := by
  intro rs
  induction rs with
  | nil =>
    intro p ep hs hep hfit hold hmix
    refine ⟨0, p, ep, Nat.le_refl _, ⟨rfl, rfl⟩, hs.congr (fun i h1 h2 => ?_), hep, by simp only [many] at hfit; omega⟩
    rcases hmix i h1 h2 with h | ⟨c, hc, _⟩
    · exact h
    · simp [cksAll] at hc
  | cons r rs ih =>
    intro p ep hs hep hfit hold hmix
    simp only [many] at hfit
    by_cases hall : ∀ i c, (cks e p r)[i]? = some c → g' (p + i) = some c
    · obtain ⟨j, N', ep', h1, h2, h3, h4, h5⟩ := ih (p + plc r) e (stuck_old (fun c h1 h2 => hold _ c (by omega) h1 h2)) (Int.le_refl _) (by omega)
        (fun i c h1 h2 h3 => hold i c (by omega) h2 h3) (fun i h1 h2 => by
          rcases hmix i (by omega) h2 with h | ⟨c, hc, h⟩
          · exact .inl h
          · rw [cksAll_tail e p r rs (by omega)] at hc
            refine .inr ⟨c, ?_, h⟩
            rw [← hc]; congr 1; omega)
      exact ⟨j + 1, N', ep', by simp only [List.length_cons]; omega, ⟨hep, hall, h2⟩, h3, h4, h5⟩
    · refine ⟨0, p, ep, Nat.zero_le _, ⟨rfl, rfl⟩, ?_, hep, by omega⟩
      obtain ⟨i0, hi0⟩ : ∃ i, ∃ c, (cks e p r)[i]? = some c ∧ g' (p + i) ≠ some c := by
        apply Classical.byContradiction
        intro hn
        exact hall (fun i c hc => Classical.byContradiction fun h => hn ⟨i, c, hc, h⟩)
      obtain ⟨k, ⟨c, hc, hne⟩, hmin⟩ := least (P := fun i => ∃ c, (cks e p r)[i]? = some c ∧ g' (p + i) ≠ some c) i0 hi0
      have hk : k < plc r := by rw [← cks_length e p r]; exact (List.getElem?_eq_some_iff.1 hc).1
      have holdk : g' (p + k) = g (p + k) := by
        rcases hmix (p + k) (by omega) (by omega) with h | ⟨c', hc', h⟩
        · exact h
        · have e1 : p + k - p = k := by omega
          rw [e1, cksAll_head e p r rs hk, hc] at hc'
          injection hc' with hc'
          rw [← hc'] at h
          exact absurd h hne
      have hlow : ∀ i c, i < k → (cks e p r)[i]? = some c → g' (p + i) = some c := fun i c hi hc => Classical.byContradiction fun h => hmin i hi ⟨c, hc, h⟩
      by_cases hk0 : k = 0
      · subst hk0
        refine stuck_mix hs (fun c h1 h2 => hold p c (Nat.le_refl _) h1 h2) holdk (fun i c h1 h2 h3 => ?_)
        rcases hmix i h1 h2 with h | ⟨c', hc', h⟩
        · exact .inl h
        · right
          rw [h3] at h
          injection h with h
          rw [h]
          exact (cksAll_at e _ p _ c' hc').1
      · exact stop_rec hep (by omega) hk hlow (fun c h => hold (p + k) c (by omega) (by omega) (by rw [← holdk]; exact h))

end Go.Proofs.YtgahcbhdnplnoaaDoor.Lg

/- Plain mathematics of layer 5, second part: sectors that hold a log; what opening, appending, renewing make of them, whole or cut short. It speaks of no program. -/
namespace Go.Proofs.YtgahcbhdnplnoaaDoor.Lg
open Cn

/-- The sectors f hold a log: the head t counts, the records of L (each with its epoch) lie in its half up to the place N; nothing whole is behind them. -/
structure Good (f : Nat → ByteArray) (t : Top) (L : List (Int × List UInt8)) (N : Nat) (ep : Int) : Prop where
  top : top f = t
  h1 : t.h ≤ 1
  b0 : 0 ≤ t.b
  be : t.b ≤ t.e
  mine : ∀ p c, p < 127 → half f t.h p = some c → c.e ≤ t.e
  other : ∀ p c, p < 127 → half f (1 - t.h) p = some c → c.e ≤ t.e + 1
  laid : Laid (half f t.h) 0 t.b L N ep
  le : ep ≤ t.e
  fit : N ≤ 127
  stuck : Stuck (half f t.h) t.e N ep

/-- And it is open: what is behind its records, and in the other half, is elder. -/
structure Live (f : Nat → ByteArray) (t : Top) (L : List (Int × List UInt8)) (N : Nat) (ep : Int) : Prop where
  good : Good f t L N ep
  fresh : ∀ p c, N ≤ p → p < 127 → half f t.h p = some c → c.e < t.e
  old : ∀ p c, p < 127 → half f (1 - t.h) p = some c → c.e ≤ t.e

variable {f f' : Nat → ByteArray} {t : Top} {L : List (Int × List UInt8)} {N : Nat} {ep : Int}

theorem Good.scan (h : Good f t L N ep) : scan f t = (L.map (·.2), N) := scan_whole h.laid h.le h.fit h.stuck

theorem Good.num (h : Good f t L N ep) : N = many (L.map (·.2)) := by have := h.laid.num; omega

/-- Sectors that hold nothing. -/
theorem Good.zero : Good (fun _ => ByteArray.empty) ⟨0, 0, 0⟩ [] 0 0 where
  top := by unfold Lg.top head; rw [chk_empty]
  h1 := by decide
  b0 := by decide
  be := by decide
  mine := fun p c _ h => by unfold half at h; rw [chk_empty] at h; cases h
  other := fun p c _ h => by unfold half at h; rw [chk_empty] at h; cases h
  laid := ⟨rfl, rfl⟩
  le := by decide
  fit := by decide
  stuck := stuck_old (fun c _ h => by unfold half at h; rw [chk_empty] at h; cases h)

theorem Good.congr (h : Good f t L N ep) (hf : ∀ i, f' i = f i) : Good f' t L N ep := by
  have : f' = f := funext hf
  rw [this]; exact h
theorem Live.congr (h : Live f t L N ep) (hf : ∀ i, f' i = f i) : Live f' t L N ep := by
  have : f' = f := funext hf
  rw [this]; exact h

theorem sec_ne_hsec (h p : Nat) (e : Int) : sec h p ≠ hsec e := by have := sec_ge h p; have := hsec_lt e; omega

/-- Opening: a head of the next epoch. -/
theorem Good.opened (h : Good f t L N ep) (he : t.e < 1099511627776) (hw : f' (hsec (t.e + 1)) = encs (hd ⟨t.e + 1, t.b, t.h⟩)) (hs : ∀ i, i ≠ hsec (t.e + 1) → f' i = f i) : Live f' ⟨t.e + 1, t.b, t.h⟩ L N ep := by
  have h1 := h.h1
  have b0 := h.b0
  have be := h.be
  have hhalf : ∀ k, half f' k = half f k := fun k => funext fun p => by unfold half; rw [hs _ (sec_ne_hsec k p _)]
  refine ⟨⟨?_, h1, b0, by show t.b ≤ t.e + 1; omega, ?_, ?_, ?_, by show ep ≤ t.e + 1; have := h.le; omega, h.fit, ?_⟩, ?_, ?_⟩
  · exact top_up f f' ⟨t.e + 1, t.b, t.h⟩ h1 b0 (by show t.b ≤ t.e + 1; omega) (by show t.e + 1 ≤ 1099511627776; omega) (by rw [h.top]; show t.e < t.e + 1; omega) hw (fun i _ hi => hs i hi)
  · intro p c hp hc
    rw [hhalf] at hc
    have := h.mine p c hp hc
    show c.e ≤ t.e + 1
    omega
  · intro p c hp hc
    rw [hhalf] at hc
    have := h.other p c hp hc
    show c.e ≤ t.e + 1 + 1
    omega
  · rw [hhalf]; exact h.laid
  · rw [hhalf]
    exact h.stuck.epoch (fun i c _ hi hc => by have := h.mine i c hi hc; show c.e ≤ t.e ↔ c.e ≤ t.e + 1; omega)
  · intro p c _ hp hc
    rw [hhalf] at hc
    have := h.mine p c hp hc
    show c.e < t.e + 1
    omega
  · intro p c hp hc
    rw [hhalf] at hc
    exact h.other p c hp hc

/-! ### Appending -/

/-- Chunks that are written are chunks. -/
theorem cksAll_ok {e : Int} (h0 : 0 ≤ e) (h1 : e ≤ 1099511627776) {rs : List (List UInt8)} {p : Nat} (hfit : p + many rs ≤ 127) {i : Nat} {c : Chu} (h : (cksAll e p rs)[i]? = some c) : ok c := by
  obtain ⟨a, b, d⟩ := cksAll_at e rs p i c h
  have hi := (List.getElem?_eq_some_iff.1 h).1
  rw [cksAll_length] at hi
  exact ⟨by omega, by omega, by omega, by omega, d⟩

/-- The records of the epoch e lie whole where their chunks are. -/
theorem laid_all {g : Nat → Option Chu} {e : Int} : ∀ (rs : List (List UInt8)) (p : Nat) (ep : Int), ep ≤ e → (∀ i c, (cksAll e p rs)[i]? = some c → g (p + i) = some c) →
    Laid g p ep (rs.map fun r => (e, r)) (p + many rs) (if rs = [] then ep else e) := by
  intro rs
  induction rs with
  | nil => intro p ep _ _; exact ⟨rfl, rfl⟩
  | cons r rs ih =>
    intro p ep hep hg
    have hpl := plc_pos r
    refine ⟨hep, fun i c hi => ?_, ?_⟩
    · have hlt : i < plc r := by rw [← cks_length e p r]; exact (List.getElem?_eq_some_iff.1 hi).1
      exact hg i c (by rw [cksAll_head e p r rs hlt]; exact hi)
    · have h2 := ih (p + plc r) e (Int.le_refl _) (fun i c hi => by
        have := hg (plc r + i) c (by rw [cksAll_tail e p r rs (by omega)]; rw [← hi]; congr 1; omega)
        rw [← this]; congr 1; omega)
      have e1 : (if rs = [] then e else e) = e := by split <;> rfl
      rw [e1] at h2
      rw [if_neg (by simp)]
      have e2 : p + many (r :: rs) = p + plc r + many rs := by simp only [many]; omega
      rw [e2]
      exact h2

theorem half_put {h : Nat} {c : Chu} {p : Nat} (hok : ok c) (hf : f' (sec h p) = encs c) : half f' h p = some c := by unfold half; rw [hf, chk_encs c hok]
theorem half_same {h p : Nat} (hf : f' (sec h p) = f (sec h p)) : half f' h p = half f h p := by unfold half; rw [hf]

/-- An Append that went well. -/
theorem Live.append (h : Live f t L N ep) (he : t.e ≤ 1099511627776) (rs : List (List UInt8)) (hfit : N + many rs ≤ 127)
    (hput : ∀ i c, (cksAll t.e N rs)[i]? = some c → f' (sec t.h (N + i)) = encs c) (hsame : ∀ j, (∀ i, i < many rs → j ≠ sec t.h (N + i)) → f' j = f j) :
    ∃ ep', Live f' t (L ++ rs.map fun r => (t.e, r)) (N + many rs) ep' := by
  have h1 := h.good.h1
  have b0 := h.good.b0
  have be := h.good.be
  have hle := h.good.le
  have hlow : ∀ p, p < N → half f' t.h p = half f t.h p := fun p hp => half_same (hsame _ (fun i _ e => by have := sec_inj e; omega))
  have hhigh : ∀ p, N + many rs ≤ p → half f' t.h p = half f t.h p := fun p hp => half_same (hsame _ (fun i hi e => by have := sec_inj e; omega))
  have hmid : ∀ i c, (cksAll t.e N rs)[i]? = some c → half f' t.h (N + i) = some c := fun i c hi => half_put (cksAll_ok (by omega) he hfit hi) (hput i c hi)
  have hoth : ∀ p, p < 127 → half f' (1 - t.h) p = half f (1 - t.h) p := fun p hp => half_same (hsame _ (fun i hi e => sec_apart (h := 1 - t.h) (k := t.h) hp (by omega) (by omega) e))
  have hmine : ∀ p c, p < 127 → half f' t.h p = some c → c.e ≤ t.e ∧ (N + many rs ≤ p → c.e < t.e) := by
    intro p c hp hc
    by_cases hl : p < N
    · rw [hlow p hl] at hc
      exact ⟨h.good.mine p c hp hc, fun hx => by omega⟩
    · by_cases hh : N + many rs ≤ p
      · rw [hhigh p hh] at hc
        have := h.fresh p c (by omega) hp hc
        exact ⟨by omega, fun _ => this⟩
      · obtain ⟨c', hc'⟩ : ∃ c', (cksAll t.e N rs)[p - N]? = some c' := ⟨_, List.getElem?_eq_getElem (by rw [cksAll_length]; omega)⟩
        have h2 := hmid _ c' hc'
        have e1 : N + (p - N) = p := by omega
        rw [e1, hc] at h2
        injection h2 with h2
        have h3 := (cksAll_at t.e rs N _ c' hc').1
        rw [h2]
        exact ⟨by omega, fun hx => by omega⟩
  have hl1 : Laid (half f' t.h) 0 t.b L N ep := h.good.laid.congr (fun i _ hi => hlow i hi)
  have hl2 := laid_all (g := half f' t.h) (e := t.e) rs N ep hle hmid
  have hle2 : (if rs = [] then ep else t.e) ≤ t.e := by split <;> omega
  refine ⟨_, ⟨?_, h1, b0, be, fun p c hp hc => (hmine p c hp hc).1, fun p c hp hc => ?_, hl1.append hl2, hle2, hfit, ?_⟩, fun p c h2 hp hc => (hmine p c hp hc).2 h2, fun p c hp hc => ?_⟩
  · rw [top_congr (f := f) (g := f') (fun i hi => hsame i (fun k _ e => by have := sec_ge t.h (N + k); omega))]
    exact h.good.top
  · rw [hoth p hp] at hc
    exact h.good.other p c hp hc
  · by_cases hr : rs = []
    · subst hr
      rw [if_pos rfl]
      exact h.good.stuck.congr (fun i h2 h3 => hhigh i (by simp only [many]; omega))
    · rw [if_neg hr]
      exact stuck_old (fun c h2 h3 => (hmine _ c h2 h3).2 (Nat.le_refl _))
  · rw [hoth p hp] at hc
    exact h.old p c hp hc

/-- An Append that the power cut short. -/
theorem Live.broken (h : Live f t L N ep) (he : t.e ≤ 1099511627776) (rs : List (List UInt8)) (hfit : N + many rs ≤ 127)
    (hmix : ∀ j, f' j = f j ∨ ∃ i c, (cksAll t.e N rs)[i]? = some c ∧ j = sec t.h (N + i) ∧ f' j = encs c) :
    ∃ j N' ep', j ≤ rs.length ∧ Good f' t (L ++ (rs.take j).map fun r => (t.e, r)) N' ep' := by
  have h1 := h.good.h1
  have b0 := h.good.b0
  have be := h.good.be
  have hmixp : ∀ p, p < 127 → half f' t.h p = half f t.h p ∨ ∃ i c, (cksAll t.e N rs)[i]? = some c ∧ p = N + i ∧ half f' t.h p = some c := by
    intro p hp
    rcases hmix (sec t.h p) with hs | ⟨i, c, hi, hj, hs⟩
    · exact .inl (half_same hs)
    · exact .inr ⟨i, c, hi, sec_inj hj, half_put (cksAll_ok (by omega) he hfit hi) hs⟩
  have hlow : ∀ p, p < 127 → p < N → half f' t.h p = half f t.h p := fun p hp hl => by
    rcases hmixp p hp with hs | ⟨i, c, _, hj, _⟩
    · exact hs
    · omega
  have hoth : ∀ p, p < 127 → half f' (1 - t.h) p = half f (1 - t.h) p := fun p hp => by
    rcases hmix (sec (1 - t.h) p) with hs | ⟨i, c, hi, hj, _⟩
    · exact half_same hs
    · have hlt := (List.getElem?_eq_some_iff.1 hi).1
      rw [cksAll_length] at hlt
      exact absurd hj (sec_apart hp (by omega) (by omega))
  have htop : top f' = t := by
    rw [top_congr (f := f) (g := f') (fun i hi => ?_)]
    · exact h.good.top
    · rcases hmix i with hs | ⟨k, c, _, hj, _⟩
      · exact hs
      · have := sec_ge t.h (N + k); omega
  obtain ⟨j, N', ep', hj, hl2, hst, hle, hN⟩ := crash (g := half f t.h) (g' := half f' t.h) (e := t.e) rs N ep h.good.stuck h.good.le hfit (fun i c h2 h3 h4 => h.fresh i c h2 h3 h4) (fun i h2 h3 => by
    rcases hmixp i h3 with hs | ⟨k, c, hk, hi, hs⟩
    · exact .inl hs
    · refine .inr ⟨c, ?_, hs⟩
      rw [← hk]; congr 1; omega)
  have hl1 : Laid (half f' t.h) 0 t.b L N ep := h.good.laid.congr (fun i _ hi => hlow i (by have := h.good.fit; omega) hi)
  refine ⟨j, N', ep', hj, htop, h1, b0, be, fun p c hp hc => ?_, fun p c hp hc => ?_, hl1.append hl2, hle, hN, hst⟩
  · rcases hmixp p hp with hs | ⟨i, c', hi, _, hs⟩
    · rw [hs] at hc; exact h.good.mine p c hp hc
    · rw [hs] at hc
      injection hc with hc
      rw [← hc]
      exact Int.le_of_eq (cksAll_at t.e rs N _ c' hi).1
  · rw [hoth p hp] at hc
    exact h.good.other p c hp hc

/-! ### Renewing -/

/-- A Renew that the power cut short ahead of its head: what was told is told. -/
theorem Live.renewing (h : Live f t L N ep) (he : t.e < 1099511627776) (rs : List (List UInt8)) (hfit : many rs ≤ 127)
    (hmix : ∀ j, f' j = f j ∨ ∃ i c, (cksAll (t.e + 1) 0 rs)[i]? = some c ∧ j = sec (1 - t.h) (0 + i) ∧ f' j = encs c) : Good f' t L N ep := by
  have h1 := h.good.h1
  have b0 := h.good.b0
  have be := h.good.be
  have hmy : ∀ p, p < 127 → half f' t.h p = half f t.h p := fun p hp => by
    rcases hmix (sec t.h p) with hs | ⟨i, c, hi, hj, _⟩
    · exact half_same hs
    · have hlt := (List.getElem?_eq_some_iff.1 hi).1
      rw [cksAll_length] at hlt
      exact absurd hj (sec_apart hp (by omega) (by omega))
  refine ⟨?_, h1, b0, be, fun p c hp hc => ?_, fun p c hp hc => ?_, h.good.laid.congr (fun i _ hi => hmy i (by have := h.good.fit; omega)), h.good.le, h.good.fit, h.good.stuck.congr (fun i _ hi => hmy i hi)⟩
  · rw [top_congr (f := f) (g := f') (fun i hi => ?_)]
    · exact h.good.top
    · rcases hmix i with hs | ⟨k, c, _, hj, _⟩
      · exact hs
      · have := sec_ge (1 - t.h) (0 + k); omega
  · rw [hmy p hp] at hc; exact h.good.mine p c hp hc
  · rcases hmix (sec (1 - t.h) p) with hs | ⟨i, c', hi, hj, hs⟩
    · rw [half_same hs] at hc
      have := h.old p c hp hc
      omega
    · rw [half_put (cksAll_ok (by omega) (by omega) (by omega) hi) hs] at hc
      injection hc with hc
      rw [← hc]
      exact Int.le_of_eq (cksAll_at _ rs 0 _ c' hi).1

/-- A Renew whose head stands. -/
theorem Live.renewed (h : Live f t L N ep) (he : t.e < 1099511627776) (rs : List (List UInt8)) (hfit : many rs ≤ 127)
    (hput : ∀ i c, (cksAll (t.e + 1) 0 rs)[i]? = some c → f' (sec (1 - t.h) (0 + i)) = encs c) (hw : f' (hsec (t.e + 1)) = encs (hd ⟨t.e + 1, t.e + 1, 1 - t.h⟩))
    (hsame : ∀ j, j ≠ hsec (t.e + 1) → (∀ i, i < many rs → j ≠ sec (1 - t.h) (0 + i)) → f' j = f j) :
    Live f' ⟨t.e + 1, t.e + 1, 1 - t.h⟩ (rs.map fun r => (t.e + 1, r)) (many rs) (t.e + 1) := by
  have h1 := h.good.h1
  have b0 := h.good.b0
  have be := h.good.be
  have hmy : ∀ p, p < 127 → half f' t.h p = half f t.h p := fun p hp => half_same (hsame _ (sec_ne_hsec _ _ _) (fun i hi => sec_apart hp (by omega) (by omega)))
  have hmid : ∀ i c, (cksAll (t.e + 1) 0 rs)[i]? = some c → half f' (1 - t.h) (0 + i) = some c := fun i c hi => half_put (cksAll_ok (by omega) (by omega) (by omega) hi) (hput i c hi)
  have hhigh : ∀ p, many rs ≤ p → half f' (1 - t.h) p = half f (1 - t.h) p := fun p hp => half_same (hsame _ (sec_ne_hsec _ _ _) (fun i hi e => by have := sec_inj e; omega))
  have hnew : ∀ p c, p < 127 → half f' (1 - t.h) p = some c → c.e ≤ t.e + 1 ∧ (many rs ≤ p → c.e < t.e + 1) := by
    intro p c hp hc
    by_cases hh : many rs ≤ p
    · rw [hhigh p hh] at hc
      have := h.old p c hp hc
      exact ⟨by omega, fun _ => by omega⟩
    · obtain ⟨c', hc'⟩ : ∃ c', (cksAll (t.e + 1) 0 rs)[p]? = some c' := ⟨_, List.getElem?_eq_getElem (by rw [cksAll_length]; omega)⟩
      have h2 := hmid _ c' hc'
      have e1 : 0 + p = p := by omega
      rw [e1, hc] at h2
      injection h2 with h2
      have h3 := (cksAll_at _ rs 0 _ c' hc').1
      rw [h2]
      exact ⟨by omega, fun hx => absurd hx hh⟩
  have hl := laid_all (g := half f' (1 - t.h)) (e := t.e + 1) rs 0 (t.e + 1) (Int.le_refl _) hmid
  have e1 : (if rs = [] then t.e + 1 else t.e + 1) = t.e + 1 := by split <;> rfl
  rw [e1, Nat.zero_add] at hl
  refine ⟨⟨?_, by show 1 - t.h ≤ 1; omega, by show 0 ≤ t.e + 1; omega, Int.le_refl _, fun p c hp hc => (hnew p c hp hc).1, fun p c hp hc => ?_, hl, Int.le_refl _, by omega, stuck_old (fun c hp hc => (hnew _ c hp hc).2 (Nat.le_refl _))⟩, fun p c h2 hp hc => (hnew p c hp hc).2 h2, fun p c hp hc => ?_⟩
  · exact top_up f f' ⟨t.e + 1, t.e + 1, 1 - t.h⟩ (by show 1 - t.h ≤ 1; omega) (by show 0 ≤ t.e + 1; omega) (Int.le_refl _) (by show t.e + 1 ≤ 1099511627776; omega) (by rw [h.good.top]; show t.e < t.e + 1; omega) hw
      (fun i hi hne => hsame i hne (fun k _ e => by have := sec_ge (1 - t.h) (0 + k); omega))
  · have e2 : 1 - (1 - t.h) = t.h := by omega
    change half f' (1 - (1 - t.h)) p = some c at hc
    rw [e2, hmy p hp] at hc
    have := h.good.mine p c hp hc
    show c.e ≤ t.e + 1 + 1
    omega
  · have e2 : 1 - (1 - t.h) = t.h := by omega
    change half f' (1 - (1 - t.h)) p = some c at hc
    rw [e2, hmy p hp] at hc
    have := h.good.mine p c hp hc
    show c.e ≤ t.e + 1
    omega

end Go.Proofs.YtgahcbhdnplnoaaDoor.Lg

/- Plain mathematics of layer 5, third part: what opening, appending and renewing do to a disk, call by call, and what is told then. It speaks of no program. -/
namespace Go.Proofs.YtgahcbhdnplnoaaDoor.Lg
open Cn Dk

/-! ### Writes, one behind the other -/

/-- The first error ends them. -/
def wr : St → List (Nat × ByteArray) → Int × St
  | st, [] => (0, st)
  | st, p :: l => if st.writeE (p.1 : Int) p.2 = 0 then wr (st.write (p.1 : Int) p.2) l else (st.writeE (p.1 : Int) p.2, st.write (p.1 : Int) p.2)

/-- Writes, and a barrier behind them. -/
def wrb (st : St) (l : List (Nat × ByteArray)) : Int × St := if (wr st l).1 = 0 then ((wr st l).2.barrierE, (wr st l).2.barrier) else wr st l

def fold (f : Nat → ByteArray) (l : List (Nat × ByteArray)) : Nat → ByteArray := l.foldl (fun g p => up g p.1 p.2) f

theorem fold_cons (f : Nat → ByteArray) (p : Nat × ByteArray) (l : List (Nat × ByteArray)) : fold f (p :: l) = fold (up f p.1 p.2) l := rfl

theorem fold_out : ∀ (l : List (Nat × ByteArray)) (f : Nat → ByteArray) (j : Nat), j ∉ l.map (·.1) → fold f l j = f j := by
  intro l
  induction l with
  | nil => intro f j _; rfl
  | cons p l ih =>
    intro f j h
    rw [List.map_cons, List.mem_cons, not_or] at h
    rw [fold_cons, ih _ j h.2, up_other _ h.1]

theorem fold_in : ∀ (l : List (Nat × ByteArray)) (f : Nat → ByteArray), (l.map (·.1)).Nodup → ∀ p ∈ l, fold f l p.1 = p.2 := by
  intro l
  induction l with
  | nil => intro f _ p hp; cases hp
  | cons q l ih =>
    intro f hn p hp
    rw [List.map_cons, List.nodup_cons] at hn
    rw [fold_cons]
    rcases List.mem_cons.1 hp with rfl | hp
    · rw [fold_out l _ _ hn.1, up_same]
    · exact ih _ hn.2 p hp

/-- The power is on; what is loose was as in f, and is as l says. -/
structure Track (f : Nat → ByteArray) (l : List (Nat × ByteArray)) (st : St) : Prop where
  on : st.off = false
  calm : st.fails = 0
  nodup : (st.loose.map (·.1)).Nodup
  firm : ∀ j, was st.loose j = none → st.is j = f j
  loose : ∀ j v, was st.loose j = some v → v = f j ∧ ∃ s, (j, s) ∈ l ∧ st.is j = s

/-- The power is off; each sector is as in f, or as l says. -/
structure Gone (f : Nat → ByteArray) (l : List (Nat × ByteArray)) (st : St) : Prop where
  off : st.off = true
  calm : st.fails = 0
  loose : st.loose = []
  mix : ∀ j, st.is j = f j ∨ ∃ s, (j, s) ∈ l ∧ st.is j = s

theorem Track.tick {f : Nat → ByteArray} {l : List (Nat × ByteArray)} {st : St} (h : Track f l st) : Track f l st.tick :=
  ⟨h.on, by show st.fails - 1 = 0; rw [h.calm], h.nodup, h.firm, h.loose⟩

theorem Track.put {f : Nat → ByteArray} {l : List (Nat × ByteArray)} {st : St} (h : Track f l st) (i : Nat) (s : ByteArray) : Track f (l ++ [(i, s)]) (st.put i s) := by
  refine ⟨h.on, h.calm, ?_, fun j hj => ?_, fun j v hj => ?_⟩
  · show ((if was st.loose i = none then st.loose ++ [(i, st.is i)] else st.loose).map (·.1)).Nodup
    split
    · rename_i hw
      have hn := was_none.1 hw
      rw [List.map_append, List.nodup_append]
      refine ⟨h.nodup, by simp, ?_⟩
      intro a ha b hb e
      simp at hb
      exact hn (by rw [← hb, ← e]; exact ha)
    · exact h.nodup
  · change was (if was st.loose i = none then st.loose ++ [(i, st.is i)] else st.loose) j = none at hj
    show up st.is i s j = f j
    by_cases hw : was st.loose i = none
    · rw [if_pos hw, was_append hw] at hj
      by_cases e : i = j
      · rw [if_pos e] at hj; cases hj
      · rw [if_neg e] at hj
        rw [up_other _ (fun e2 => e e2.symm)]
        exact h.firm j hj
    · rw [if_neg hw] at hj
      have hne : j ≠ i := fun e => hw (by rw [← e]; exact hj)
      rw [up_other _ hne]
      exact h.firm j hj
  · change was (if was st.loose i = none then st.loose ++ [(i, st.is i)] else st.loose) j = some v at hj
    show v = f j ∧ ∃ u, (j, u) ∈ l ++ [(i, s)] ∧ up st.is i s j = u
    by_cases hw : was st.loose i = none
    · rw [if_pos hw, was_append hw] at hj
      by_cases e : i = j
      · rw [if_pos e] at hj
        injection hj with hj
        subst e
        exact ⟨by rw [← hj]; exact h.firm i hw, s, by simp, up_same _ _ _⟩
      · rw [if_neg e] at hj
        obtain ⟨h1, u, h2, h3⟩ := h.loose j v hj
        exact ⟨h1, u, List.mem_append_left _ h2, by rw [up_other _ (fun e2 => e e2.symm)]; exact h3⟩
    · rw [if_neg hw] at hj
      obtain ⟨h1, u, h2, h3⟩ := h.loose j v hj
      by_cases e : j = i
      · subst e
        exact ⟨h1, s, by simp, up_same _ _ _⟩
      · exact ⟨h1, u, List.mem_append_left _ h2, by rw [up_other _ e]; exact h3⟩

theorem Track.more {f : Nat → ByteArray} {l m : List (Nat × ByteArray)} {st : St} (h : Track f l st) (hm : ∀ p ∈ l, p ∈ m) : Track f m st :=
  ⟨h.on, h.calm, h.nodup, h.firm, fun j v hj => by obtain ⟨h1, s, h2, h3⟩ := h.loose j v hj; exact ⟨h1, s, hm _ h2, h3⟩⟩
theorem Gone.more {f : Nat → ByteArray} {l m : List (Nat × ByteArray)} {st : St} (h : Gone f l st) (hm : ∀ p ∈ l, p ∈ m) : Gone f m st :=
  ⟨h.off, h.calm, h.loose, fun j => (h.mix j).imp id fun ⟨s, h2, h3⟩ => ⟨s, hm _ h2, h3⟩⟩

theorem was_mem {l : List (Nat × ByteArray)} {j : Nat} (h : j ∈ l.map (·.1)) : ∃ (k : Nat) (v : ByteArray), l[k]? = some (j, v) := by
  obtain ⟨p, hp, rfl⟩ := List.mem_map.1 h
  obtain ⟨k, hk, e⟩ := List.getElem_of_mem hp
  exact ⟨k, p.2, by rw [List.getElem?_eq_getElem hk, e]⟩

theorem Track.die {f : Nat → ByteArray} {l : List (Nat × ByteArray)} {st : St} (h : Track f l st) : Gone f l st.die := by
  refine ⟨rfl, h.calm, rfl, fun j => ?_⟩
  show dieTo st.is st.keep st.loose st.loose.length j = f j ∨ ∃ s, (j, s) ∈ l ∧ dieTo st.is st.keep st.loose st.loose.length j = s
  by_cases hj : j ∈ st.loose.map (·.1)
  · obtain ⟨k, v, hk⟩ := was_mem hj
    have hw := was_at h.nodup hk
    obtain ⟨h1, s, h2, h3⟩ := h.loose j v hw
    have hd := dieTo_at st.is st.keep h.nodup hk st.loose.length
    rw [hd]
    split
    · exact .inr ⟨s, h2, h3⟩
    · split
      · exact .inr ⟨s, h2, h3⟩
      · exact .inl h1
  · rw [dieTo_other _ _ _ hj]
    exact .inl (h.firm j (was_none.2 hj))

/-- One write. -/
theorem Track.write {f : Nat → ByteArray} {l : List (Nat × ByteArray)} {st : St} (h : Track f l st) {i : Nat} {s : ByteArray} (hi : i < 256) (hs : s.size ≤ 128) :
    (st.writeE (i : Int) s = 0 ∧ st.cuts ≠ 1 ∧ Track f (l ++ [(i, s)]) (st.write (i : Int) s) ∧ (st.write (i : Int) s).is = up st.is i s ∧ (st.write (i : Int) s).cuts = st.cuts - 1) ∨
    (st.writeE (i : Int) s = 33 ∧ st.cuts = 1 ∧ Gone f (l ++ [(i, s)]) (st.write (i : Int) s)) := by
  have hb := bars_mk (st := st) (i := (i : Int)) (s := s) h.on (by omega) (by omega) hs
  unfold St.writeE St.write
  rw [hb]
  simp only [ne_eq, not_true_eq_false, if_false]
  by_cases hc : st.cuts = 1
  · have hd : st.due = 33 := by unfold St.due; rw [if_pos hc]
    rw [hd]
    exact .inr ⟨rfl, hc, by simpa using (h.tick.put i s).die⟩
  · have hd : st.due = 0 := by unfold St.due; rw [if_neg hc, if_neg (by rw [h.calm]; decide)]
    rw [hd]
    refine .inl ⟨rfl, hc, ?_, ?_, ?_⟩
    · simpa using h.tick.put i s
    · simp [St.put, St.tick]
    · simp [St.put, St.tick]

/-- Writes. -/
theorem Track.writes {f : Nat → ByteArray} : ∀ (m : List (Nat × ByteArray)) (l : List (Nat × ByteArray)) (st : St), Track f l st → (∀ p ∈ m, p.1 < 256 ∧ p.2.size ≤ 128) →
    ((wr st m).1 = 0 ∧ (st.cuts = 0 ∨ m.length < st.cuts) ∧ Track f (l ++ m) (wr st m).2 ∧ (wr st m).2.is = fold st.is m ∧ (wr st m).2.cuts = st.cuts - m.length) ∨
    ((wr st m).1 = 33 ∧ 0 < st.cuts ∧ st.cuts ≤ m.length ∧ Gone f (l ++ m) (wr st m).2) := by
  intro m
  induction m with
  | nil =>
    intro l st h _
    refine .inl ⟨rfl, by show st.cuts = 0 ∨ 0 < st.cuts; omega, by rw [List.append_nil]; exact h, rfl, rfl⟩
  | cons p m ih =>
    intro l st h hm
    obtain ⟨hp1, hp2⟩ := hm p (List.mem_cons_self ..)
    rcases h.write hp1 hp2 with ⟨hE, hc, ht, his, hcu⟩ | ⟨hE, hc, hg⟩
    · have e : wr st (p :: m) = wr (st.write (p.1 : Int) p.2) m := by
        show (if st.writeE (p.1 : Int) p.2 = 0 then wr (st.write (p.1 : Int) p.2) m else _) = _
        rw [if_pos hE]
      rw [e]
      have e2 : l ++ p :: m = l ++ [(p.1, p.2)] ++ m := by simp
      rw [e2]
      rcases ih (l ++ [(p.1, p.2)]) _ ht (fun q hq => hm q (List.mem_cons_of_mem _ hq)) with ⟨h1, h2, h3, h4, h5⟩ | ⟨h1, h2, h3, h4⟩
      · refine .inl ⟨h1, ?_, h3, by rw [h4, his]; rfl, by rw [h5, hcu]; simp only [List.length_cons]; omega⟩
        rw [hcu] at h2
        simp only [List.length_cons]
        omega
      · rw [hcu] at h2 h3
        exact .inr ⟨h1, by omega, by simp only [List.length_cons]; omega, h4⟩
    · have e : wr st (p :: m) = (33, st.write (p.1 : Int) p.2) := by
        show (if st.writeE (p.1 : Int) p.2 = 0 then _ else (st.writeE (p.1 : Int) p.2, st.write (p.1 : Int) p.2)) = _
        rw [if_neg (by rw [hE]; decide), hE]
      rw [e]
      refine .inr ⟨rfl, by omega, by simp only [List.length_cons]; omega, hg.more (fun q hq => ?_)⟩
      simp only [List.mem_append, List.mem_cons] at hq ⊢
      rcases hq with hq | rfl | hq
      · exact .inl hq
      · exact .inr (.inl rfl)
      · cases hq

/-- The power is on, nothing is loose, nothing is to fail. -/
structure Still (st : St) : Prop where
  on : st.off = false
  calm : st.fails = 0
  loose : st.loose = []

/-- The power is off. -/
structure Off (st : St) : Prop where
  off : st.off = true
  calm : st.fails = 0
  loose : st.loose = []

theorem Gone.gone {f : Nat → ByteArray} {l : List (Nat × ByteArray)} {st : St} (h : Gone f l st) : Off st := ⟨h.off, h.calm, h.loose⟩

theorem Still.track {st : St} (h : Still st) : Track st.is [] st :=
  ⟨h.on, h.calm, by rw [h.loose]; exact List.nodup_nil, fun _ _ => rfl, fun j v hj => by rw [h.loose] at hj; cases hj⟩

theorem Still.new : Still St.new := ⟨rfl, rfl, rfl⟩
theorem Still.cut {st : St} (h : Still st) (n : Int) (k : Nat) : Still (st.cut n k) := ⟨h.on, h.calm, h.loose⟩
theorem Off.cut {st : St} (h : Off st) (n : Int) (k : Nat) : Off (st.cut n k) := ⟨h.off, h.calm, h.loose⟩

theorem Off.power {st : St} (h : Off st) : Still st.power ∧ st.power.is = st.is ∧ st.power.cuts = 0 := by
  unfold St.power
  rw [if_pos h.off]
  exact ⟨⟨rfl, rfl, h.loose⟩, rfl, rfl⟩
theorem Still.power {st : St} (h : Still st) : st.power = st := by
  unfold St.power
  rw [if_neg (by rw [h.on]; decide)]

/-- A barrier. -/
theorem Track.barrier {f : Nat → ByteArray} {l : List (Nat × ByteArray)} {st : St} (h : Track f l st) :
    (st.barrierE = 0 ∧ st.cuts ≠ 1 ∧ Still st.barrier ∧ st.barrier.is = st.is ∧ st.barrier.cuts = st.cuts - 1) ∨ (st.barrierE = 33 ∧ st.cuts = 1 ∧ Gone f l st.barrier) := by
  unfold St.barrierE St.barrier
  rw [h.on]
  simp only [Bool.false_eq_true, if_false]
  by_cases hc : st.cuts = 1
  · have hd : st.due = 33 := by unfold St.due; rw [if_pos hc]
    rw [hd]
    exact .inr ⟨rfl, hc, by simpa using h.tick.die⟩
  · have hd : st.due = 0 := by unfold St.due; rw [if_neg hc, if_neg (by rw [h.calm]; decide)]
    rw [hd]
    refine .inl ⟨rfl, hc, ⟨h.on, by show (if (0 : Int) = 33 then _ else if (0 : Int) = 32 then _ else st.tick.fasten).fails = 0; simp [St.fasten, St.tick, h.calm], by simp [St.fasten]⟩, by simp [St.fasten, St.tick], by simp [St.fasten, St.tick]⟩

/-- A cut at the barrier, with nothing loose, takes nothing. -/
theorem Still.dies {st : St} (h : Still st) (hc : st.cuts = 1) : Off st.barrier ∧ st.barrier.is = st.is ∧ st.barrierE = 33 := by
  rcases h.track.barrier with ⟨_, h2, _⟩ | ⟨h1, _, h3⟩
  · exact absurd hc h2
  · refine ⟨h3.gone, funext fun j => ?_, h1⟩
    rcases h3.mix j with h4 | ⟨s, h4, _⟩
    · exact h4
    · cases h4
theorem Off.barrier {st : St} (h : Off st) : st.barrier = st ∧ st.barrierE = 33 := by
  unfold St.barrier St.barrierE
  rw [if_pos h.off, if_pos h.off]
  exact ⟨rfl, rfl⟩

/-- Writes and their barrier, over a disk that is still. -/
theorem Still.writes {st : St} (h : Still st) (m : List (Nat × ByteArray)) (hm : ∀ p ∈ m, p.1 < 256 ∧ p.2.size ≤ 128) :
    ((wrb st m).1 = 0 ∧ (st.cuts = 0 ∨ m.length + 1 < st.cuts) ∧ Still (wrb st m).2 ∧ (wrb st m).2.is = fold st.is m ∧ (wrb st m).2.cuts = st.cuts - (m.length + 1)) ∨
    ((wrb st m).1 = 33 ∧ 0 < st.cuts ∧ st.cuts ≤ m.length + 1 ∧ Gone st.is m (wrb st m).2) := by
  unfold wrb
  rcases h.track.writes m [] st hm with ⟨h1, h2, h3, h4, h5⟩ | ⟨h1, h2, h3, h4⟩
  · rw [if_pos h1]
    rw [List.nil_append] at h3
    rcases h3.barrier with ⟨g1, g2, g3, g4, g5⟩ | ⟨g1, g2, g3⟩
    · refine .inl ⟨g1, ?_, g3, by show (wr st m).2.barrier.is = _; rw [g4, h4], by show (wr st m).2.barrier.cuts = _; rw [g5, h5]; omega⟩
      rw [h5] at g2
      omega
    · rw [h5] at g2
      exact .inr ⟨g1, by omega, by omega, g3⟩
  · rw [if_neg (by rw [h1]; decide)]
    rw [List.nil_append] at h4
    exact .inr ⟨h1, h2, by omega, h4⟩

/-! ### The log's calls -/

/-- A log that is open. -/
structure Lo where
  t : Top
  next : Nat
  wrong : Int

/-- Chunks of a half as writes. -/
def puts (h : Nat) (cs : List Chu) : List (Nat × ByteArray) := cs.map fun c => (sec h c.q.toNat, encs c)

def openTop (st : St) : Top := ⟨(top st.is).e + 1, (top st.is).b, (top st.is).h⟩
/-- Open: its error, and the disk behind it. -/
def openR (st : St) : Int × St :=
  if st.off then (33, st) else if (top st.is).e = 1099511627776 then (50, st) else wrb st [(hsec (openTop st).e, encs (hd (openTop st)))]
def openLog (st : St) : Lo := ⟨openTop st, (scan st.is (top st.is)).2, 0⟩
def openRecs (st : St) : List (List UInt8) := (scan st.is (top st.is)).1

/-- Append. -/
def appendR (lo : Lo) (st : St) (rs : List (List UInt8)) : Int × St × Lo :=
  if lo.wrong ≠ 0 then (lo.wrong, st, lo)
  else if 127 - lo.next < many rs then (50, st, lo)
  else ((wrb st (puts lo.t.h (cksAll lo.t.e lo.next rs))).1, (wrb st (puts lo.t.h (cksAll lo.t.e lo.next rs))).2,
    if (wrb st (puts lo.t.h (cksAll lo.t.e lo.next rs))).1 = 0 then { lo with next := lo.next + many rs } else { lo with wrong := (wrb st (puts lo.t.h (cksAll lo.t.e lo.next rs))).1 })

def newTop (t : Top) : Top := ⟨t.e + 1, t.e + 1, 1 - t.h⟩
/-- Renew: the chunks; and the head behind them. -/
def renew1 (lo : Lo) (st : St) (rs : List (List UInt8)) : Int × St := wrb st (puts (1 - lo.t.h) (cksAll (lo.t.e + 1) 0 rs))
def renew2 (lo : Lo) (st : St) (rs : List (List UInt8)) : Int × St := if (renew1 lo st rs).1 = 0 then wrb (renew1 lo st rs).2 [(hsec (lo.t.e + 1), encs (hd (newTop lo.t)))] else renew1 lo st rs
def renewR (lo : Lo) (st : St) (rs : List (List UInt8)) : Int × St × Lo :=
  if lo.wrong ≠ 0 then (lo.wrong, st, lo)
  else if 127 < many rs ∨ lo.t.e = 1099511627776 then (50, st, lo)
  else ((renew2 lo st rs).1, (renew2 lo st rs).2, if (renew2 lo st rs).1 = 0 then ⟨newTop lo.t, many rs, 0⟩ else { lo with wrong := (renew2 lo st rs).1 })

/-! ### What they come to -/

/-! how many calls are made -/
theorem many_wr : ∀ (l : List (Nat × ByteArray)) (st : St), (wr st l).2.many ≤ st.many + l.length := by
  intro l
  induction l with
  | nil => intro st; exact Nat.le_refl _
  | cons p l ih =>
    intro st
    have h1 := many_write st (p.1 : Int) p.2
    show (if st.writeE (p.1 : Int) p.2 = 0 then wr (st.write (p.1 : Int) p.2) l else (st.writeE (p.1 : Int) p.2, st.write (p.1 : Int) p.2)).2.many ≤ _
    split
    · have := ih (st.write (p.1 : Int) p.2)
      simp only [List.length_cons]
      omega
    · simp only [List.length_cons]
      show (st.write (p.1 : Int) p.2).many ≤ _
      omega
theorem many_wrb (st : St) (l : List (Nat × ByteArray)) : (wrb st l).2.many ≤ st.many + l.length + 1 := by
  have h := many_wr l st
  unfold wrb
  split
  · have := many_barrier (wr st l).2
    show (wr st l).2.barrier.many ≤ _
    omega
  · omega
theorem many_open (st : St) : (openR st).2.many ≤ st.many + 2 := by
  unfold openR
  split
  · show st.many ≤ _; omega
  · split
    · show st.many ≤ _; omega
    · exact many_wrb st _
theorem many_puts (h : Nat) (e : Int) (p : Nat) (rs : List (List UInt8)) : (puts h (cksAll e p rs)).length = many rs := by unfold puts; rw [List.length_map, cksAll_length]
theorem many_appendR (lo : Lo) (st : St) (rs : List (List UInt8)) : (appendR lo st rs).2.1.many ≤ st.many + 128 := by
  unfold appendR
  split
  · show st.many ≤ _; omega
  · split
    · show st.many ≤ _; omega
    · have := many_wrb st (puts lo.t.h (cksAll lo.t.e lo.next rs))
      rw [many_puts] at this
      show (wrb st _).2.many ≤ _
      omega
theorem many_renewR (lo : Lo) (st : St) (rs : List (List UInt8)) : (renewR lo st rs).2.1.many ≤ st.many + 130 := by
  unfold renewR
  split
  · show st.many ≤ _; omega
  · split
    · show st.many ≤ _; omega
    · rename_i hm
      have h1 := many_wrb st (puts (1 - lo.t.h) (cksAll (lo.t.e + 1) 0 rs))
      rw [many_puts] at h1
      have h0 : (renew1 lo st rs) = wrb st (puts (1 - lo.t.h) (cksAll (lo.t.e + 1) 0 rs)) := rfl
      show (renew2 lo st rs).2.many ≤ _
      unfold renew2
      split
      · have h2 := many_wrb (renew1 lo st rs).2 [(hsec (lo.t.e + 1), encs (hd (newTop lo.t)))]
        rw [h0] at h2 ⊢
        simp only [List.length_cons, List.length_nil] at h2
        omega
      · rw [h0]; omega

variable {st : St} {t : Top} {L : List (Int × List UInt8)} {N : Nat} {ep : Int}

/-- Opening a disk that holds a log. -/
theorem open_run (hs : Still st) (h : Good st.is t L N ep) (he : t.e < 1099511627776) :
    openLog st = ⟨⟨t.e + 1, t.b, t.h⟩, N, 0⟩ ∧ openRecs st = L.map (·.2) ∧
    (((openR st).1 = 0 ∧ (st.cuts = 0 ∨ 2 < st.cuts) ∧ Still (openR st).2 ∧ Live (openR st).2.is ⟨t.e + 1, t.b, t.h⟩ L N ep ∧ (openR st).2.cuts = st.cuts - 2) ∨
     ((openR st).1 = 33 ∧ 0 < st.cuts ∧ st.cuts ≤ 2 ∧ Off (openR st).2 ∧ (Good (openR st).2.is t L N ep ∨ Good (openR st).2.is ⟨t.e + 1, t.b, t.h⟩ L N ep))) := by
  have htop : openTop st = ⟨t.e + 1, t.b, t.h⟩ := by unfold openTop; rw [h.top]
  have hr : openR st = wrb st [(hsec (t.e + 1), encs (hd ⟨t.e + 1, t.b, t.h⟩))] := by
    unfold openR
    rw [if_neg (by rw [hs.on]; decide), h.top, if_neg (by omega), htop]
  refine ⟨by unfold openLog; rw [htop, h.top, h.scan], by unfold openRecs; rw [h.top, h.scan], ?_⟩
  rw [hr]
  have b0 := h.b0
  have be := h.be
  have hok := hd_ok ⟨t.e + 1, t.b, t.h⟩ b0 (by show t.b ≤ t.e + 1; omega) (by show t.e + 1 ≤ 1099511627776; omega)
  rcases hs.writes [(hsec (t.e + 1), encs (hd ⟨t.e + 1, t.b, t.h⟩))] (fun p hp => by
    simp at hp; subst hp; exact ⟨by have := hsec_lt (t.e + 1); show hsec (t.e + 1) < 256; omega, encs_size _ hok⟩) with ⟨h1, h2, h3, h4, h5⟩ | ⟨h1, h2, h3, h4⟩
  · refine .inl ⟨h1, h2, h3, ?_, h5⟩
    rw [h4]
    exact h.opened he (up_same _ _ _) (fun i hi => up_other _ hi _)
  · refine .inr ⟨h1, h2, h3, h4.gone, ?_⟩
    have hother : ∀ i, i ≠ hsec (t.e + 1) → (wrb st [(hsec (t.e + 1), encs (hd ⟨t.e + 1, t.b, t.h⟩))]).2.is i = st.is i := by
      intro i hi
      rcases h4.mix i with h6 | ⟨s, h6, _⟩
      · exact h6
      · simp at h6; exact absurd h6.1 hi
    rcases h4.mix (hsec (t.e + 1)) with h6 | ⟨s, h6, h7⟩
    · left
      refine h.congr (fun i => ?_)
      by_cases hi : i = hsec (t.e + 1)
      · rw [hi]; exact h6
      · exact hother i hi
    · right
      simp at h6
      exact (h.opened he (by rw [h7]; exact h6) hother).good

/-! chunks as writes -/
theorem puts_mem {h : Nat} {e : Int} {p : Nat} {rs : List (List UInt8)} {j : Nat} {s : ByteArray} (hm : (j, s) ∈ puts h (cksAll e p rs)) : ∃ i c, (cksAll e p rs)[i]? = some c ∧ j = sec h (p + i) ∧ s = encs c := by
  obtain ⟨c, hc, e1⟩ := List.mem_map.1 hm
  obtain ⟨i, hi, hg⟩ := List.getElem_of_mem hc
  have hg' : (cksAll e p rs)[i]? = some c := by rw [List.getElem?_eq_getElem hi, hg]
  have hq := (cksAll_at e rs p i c hg').2.1
  injection e1 with e1 e2
  refine ⟨i, c, hg', ?_, e2.symm⟩
  rw [← e1, hq]
  rfl
theorem mem_puts {h : Nat} {e : Int} {p : Nat} {rs : List (List UInt8)} {i : Nat} {c : Chu} (hc : (cksAll e p rs)[i]? = some c) : (sec h (p + i), encs c) ∈ puts h (cksAll e p rs) := by
  have hq := (cksAll_at e rs p i c hc).2.1
  refine List.mem_map.2 ⟨c, List.mem_of_getElem? hc, ?_⟩
  rw [hq]
  rfl

theorem puts_keys (h : Nat) (e : Int) (p : Nat) (rs : List (List UInt8)) : (puts h (cksAll e p rs)).map (·.1) = (List.range (many rs)).map fun i => sec h (p + i) := by
  apply List.ext_getElem?
  intro i
  unfold puts
  simp only [List.map_map, List.getElem?_map]
  by_cases hi : i < many rs
  · obtain ⟨c, hc⟩ : ∃ c, (cksAll e p rs)[i]? = some c := ⟨_, List.getElem?_eq_getElem (by rw [cksAll_length]; exact hi)⟩
    have hq := (cksAll_at e rs p i c hc).2.1
    rw [hc, List.getElem?_range hi]
    simp only [Option.map_some, Function.comp]
    rw [hq]
    rfl
  · rw [List.getElem?_eq_none (by rw [cksAll_length]; omega), List.getElem?_eq_none (by rw [List.length_range]; omega)]
    rfl

theorem puts_nodup (h : Nat) (e : Int) (p : Nat) (rs : List (List UInt8)) : ((puts h (cksAll e p rs)).map (·.1)).Nodup := by
  rw [puts_keys]
  refine List.Pairwise.map _ (fun a b hab => ?_) (List.nodup_range (n := many rs))
  intro he
  have := sec_inj he
  exact hab (by omega)

theorem puts_fit {h : Nat} {e : Int} {p : Nat} {rs : List (List UInt8)} (hh : h ≤ 1) (h0 : 0 ≤ e) (h1 : e ≤ 1099511627776) (hfit : p + many rs ≤ 127) : ∀ q ∈ puts h (cksAll e p rs), q.1 < 256 ∧ q.2.size ≤ 128 := by
  intro q hq
  obtain ⟨i, c, hc, e1, e2⟩ := puts_mem (j := q.1) (s := q.2) hq
  have hi := (List.getElem?_eq_some_iff.1 hc).1
  rw [cksAll_length] at hi
  exact ⟨by rw [e1]; exact sec_lt hh (by omega), by rw [e2]; exact encs_size c (cksAll_ok h0 h1 hfit hc)⟩

theorem fold_puts (f : Nat → ByteArray) {h : Nat} {e : Int} {p : Nat} {rs : List (List UInt8)} :
    (∀ i c, (cksAll e p rs)[i]? = some c → fold f (puts h (cksAll e p rs)) (sec h (p + i)) = encs c) ∧ (∀ j, (∀ i, i < many rs → j ≠ sec h (p + i)) → fold f (puts h (cksAll e p rs)) j = f j) := by
  refine ⟨fun i c hc => fold_in _ f (puts_nodup h e p rs) _ (mem_puts hc), fun j hj => fold_out _ f j ?_⟩
  rw [puts_keys]
  intro hm
  obtain ⟨i, hi, e1⟩ := List.mem_map.1 hm
  exact hj i (List.mem_range.1 hi) e1.symm

/-- Appending. -/
theorem append_run (hs : Still st) (h : Live st.is t L N ep) (he : t.e ≤ 1099511627776) (rs : List (List UInt8)) :
    (127 - N < many rs ∧ appendR ⟨t, N, 0⟩ st rs = (50, st, ⟨t, N, 0⟩)) ∨
    (many rs ≤ 127 - N ∧ (appendR ⟨t, N, 0⟩ st rs).1 = 0 ∧ (st.cuts = 0 ∨ many rs + 1 < st.cuts) ∧ Still (appendR ⟨t, N, 0⟩ st rs).2.1 ∧ (appendR ⟨t, N, 0⟩ st rs).2.2 = ⟨t, N + many rs, 0⟩ ∧
      (appendR ⟨t, N, 0⟩ st rs).2.1.cuts = st.cuts - (many rs + 1) ∧ ∃ ep', Live (appendR ⟨t, N, 0⟩ st rs).2.1.is t (L ++ rs.map fun r => (t.e, r)) (N + many rs) ep') ∨
    (many rs ≤ 127 - N ∧ (appendR ⟨t, N, 0⟩ st rs).1 = 33 ∧ 0 < st.cuts ∧ Off (appendR ⟨t, N, 0⟩ st rs).2.1 ∧ (appendR ⟨t, N, 0⟩ st rs).2.2 = ⟨t, N, 33⟩ ∧
      ∃ j N' ep', j ≤ rs.length ∧ Good (appendR ⟨t, N, 0⟩ st rs).2.1.is t (L ++ (rs.take j).map fun r => (t.e, r)) N' ep') := by
  have hN := h.good.fit
  have b0 := h.good.b0
  have be := h.good.be
  by_cases hm : 127 - N < many rs
  · left
    refine ⟨hm, ?_⟩
    unfold appendR
    rw [if_neg (fun h => h rfl), if_pos hm]
  · have e : appendR ⟨t, N, 0⟩ st rs = ((wrb st (puts t.h (cksAll t.e N rs))).1, (wrb st (puts t.h (cksAll t.e N rs))).2, if (wrb st (puts t.h (cksAll t.e N rs))).1 = 0 then ⟨t, N + many rs, 0⟩ else ⟨t, N, (wrb st (puts t.h (cksAll t.e N rs))).1⟩) := by
      unfold appendR
      rw [if_neg (fun h => h rfl), if_neg hm]
    rw [e]
    have hfit : N + many rs ≤ 127 := by omega
    have hlen : (puts t.h (cksAll t.e N rs)).length = many rs := by unfold puts; rw [List.length_map, cksAll_length]
    rcases hs.writes (puts t.h (cksAll t.e N rs)) (puts_fit h.good.h1 (by omega) he hfit) with ⟨h1, h2, h3, h4, h5⟩ | ⟨h1, h2, h3, h4⟩
    · rw [hlen] at h2 h5
      obtain ⟨hp1, hp2⟩ := fold_puts st.is (h := t.h) (e := t.e) (p := N) (rs := rs)
      refine .inr (.inl ⟨by omega, h1, h2, h3, if_pos h1, h5, ?_⟩)
      show ∃ ep', Live (wrb st (puts t.h (cksAll t.e N rs))).2.is t (L ++ rs.map fun r => (t.e, r)) (N + many rs) ep'
      rw [h4]
      exact h.append he rs hfit hp1 hp2
    · refine .inr (.inr ⟨by omega, h1, h2, h4.gone, by show (if _ then _ else _ : Lo) = _; rw [if_neg (by rw [h1]; decide), h1], ?_⟩)
      refine h.broken he rs hfit (fun j => ?_)
      rcases h4.mix j with h6 | ⟨s, h6, h7⟩
      · exact .inl h6
      · obtain ⟨i, c, hc, e1, e2⟩ := puts_mem h6
        exact .inr ⟨i, c, hc, e1, by rw [h7, e2]⟩

/-- Renewing. -/
theorem renew_run (hs : Still st) (h : Live st.is t L N ep) (he : t.e < 1099511627776) (rs : List (List UInt8)) :
    (127 < many rs ∧ renewR ⟨t, N, 0⟩ st rs = (50, st, ⟨t, N, 0⟩)) ∨
    (many rs ≤ 127 ∧ (renewR ⟨t, N, 0⟩ st rs).1 = 0 ∧ (st.cuts = 0 ∨ many rs + 3 < st.cuts) ∧ Still (renewR ⟨t, N, 0⟩ st rs).2.1 ∧ (renewR ⟨t, N, 0⟩ st rs).2.2 = ⟨newTop t, many rs, 0⟩ ∧
      (renewR ⟨t, N, 0⟩ st rs).2.1.cuts = st.cuts - (many rs + 3) ∧ Live (renewR ⟨t, N, 0⟩ st rs).2.1.is (newTop t) (rs.map fun r => (t.e + 1, r)) (many rs) (t.e + 1)) ∨
    (many rs ≤ 127 ∧ (renewR ⟨t, N, 0⟩ st rs).1 = 33 ∧ 0 < st.cuts ∧ Off (renewR ⟨t, N, 0⟩ st rs).2.1 ∧ (renewR ⟨t, N, 0⟩ st rs).2.2 = ⟨t, N, 33⟩ ∧
      (Good (renewR ⟨t, N, 0⟩ st rs).2.1.is t L N ep ∨ Good (renewR ⟨t, N, 0⟩ st rs).2.1.is (newTop t) (rs.map fun r => (t.e + 1, r)) (many rs) (t.e + 1))) := by
  have b0 := h.good.b0
  have be := h.good.be
  have hh := h.good.h1
  by_cases hm : 127 < many rs
  · left
    refine ⟨hm, ?_⟩
    unfold renewR
    rw [if_neg (fun h => h rfl), if_pos (.inl hm)]
  · have e : renewR ⟨t, N, 0⟩ st rs = ((renew2 ⟨t, N, 0⟩ st rs).1, (renew2 ⟨t, N, 0⟩ st rs).2, if (renew2 ⟨t, N, 0⟩ st rs).1 = 0 then ⟨newTop t, many rs, 0⟩ else ⟨t, N, (renew2 ⟨t, N, 0⟩ st rs).1⟩) := by
      unfold renewR
      rw [if_neg (fun h => h rfl), if_neg (by show ¬ (127 < many rs ∨ t.e = 1099511627776); omega)]
    rw [e]
    have hfit : 0 + many rs ≤ 127 := by omega
    have hlen : (puts (1 - t.h) (cksAll (t.e + 1) 0 rs)).length = many rs := by unfold puts; rw [List.length_map, cksAll_length]
    have h0 : (renew1 ⟨t, N, 0⟩ st rs) = wrb st (puts (1 - t.h) (cksAll (t.e + 1) 0 rs)) := rfl
    have hok := hd_ok (newTop t) (by show 0 ≤ t.e + 1; omega) (Int.le_refl _) (by show t.e + 1 ≤ 1099511627776; omega)
    rcases hs.writes (puts (1 - t.h) (cksAll (t.e + 1) 0 rs)) (puts_fit (by omega) (by omega) (by omega) hfit) with ⟨h1, h2, h3, h4, h5⟩ | ⟨h1, h2, h3, h4⟩
    · have e2 : renew2 ⟨t, N, 0⟩ st rs = wrb (wrb st (puts (1 - t.h) (cksAll (t.e + 1) 0 rs))).2 [(hsec (t.e + 1), encs (hd (newTop t)))] := by
        unfold renew2
        rw [h0, if_pos h1]
      rw [e2]
      rw [hlen] at h2 h5
      obtain ⟨hp1, hp2⟩ := fold_puts st.is (h := 1 - t.h) (e := t.e + 1) (p := 0) (rs := rs)
      generalize (wrb st (puts (1 - t.h) (cksAll (t.e + 1) 0 rs))).2 = st1 at *
      rw [← h4] at hp1 hp2
      have hren : ∀ g : Nat → ByteArray, g (hsec (t.e + 1)) = encs (hd (newTop t)) → (∀ i, i ≠ hsec (t.e + 1) → g i = st1.is i) → Live g (newTop t) (rs.map fun r => (t.e + 1, r)) (many rs) (t.e + 1) := by
        intro g hg1 hg2
        refine h.renewed he rs (by omega) (fun i c hc => ?_) hg1 (fun j hj1 hj2 => ?_)
        · rw [hg2 _ (sec_ne_hsec _ _ _)]; exact hp1 i c hc
        · rw [hg2 j hj1]; exact hp2 j hj2
      rcases h3.writes [(hsec (t.e + 1), encs (hd (newTop t)))] (fun p hp => by
        simp at hp; subst hp; exact ⟨by have := hsec_lt (t.e + 1); show hsec (t.e + 1) < 256; omega, encs_size _ hok⟩) with ⟨g1, g2, g3, g4, g5⟩ | ⟨g1, g2, g3, g4⟩
      · rw [h5] at g2 g5
        have g2' : st.cuts - (many rs + 1) = 0 ∨ 2 < st.cuts - (many rs + 1) := g2
        have g5' : (wrb st1 [(hsec (t.e + 1), encs (hd (newTop t)))]).2.cuts = st.cuts - (many rs + 1) - 2 := g5
        refine .inr (.inl ⟨by omega, g1, by omega, g3, if_pos g1, by show (wrb st1 [(hsec (t.e + 1), encs (hd (newTop t)))]).2.cuts = _; rw [g5']; omega, ?_⟩)
        show Live (wrb st1 [(hsec (t.e + 1), encs (hd (newTop t)))]).2.is _ _ _ _
        rw [g4]
        exact hren _ (up_same _ _ _) (fun i hi => up_other _ hi _)
      · refine .inr (.inr ⟨by omega, g1, by rw [h5] at g2; omega, g4.gone, by show (if _ then _ else _ : Lo) = _; rw [if_neg (by rw [g1]; decide), g1], ?_⟩)
        have hother : ∀ i, i ≠ hsec (t.e + 1) → (wrb st1 [(hsec (t.e + 1), encs (hd (newTop t)))]).2.is i = st1.is i := by
          intro i hi
          rcases g4.mix i with h6 | ⟨s, h6, _⟩
          · exact h6
          · simp at h6; exact absurd h6.1 hi
        rcases g4.mix (hsec (t.e + 1)) with h6 | ⟨s, h6, h7⟩
        · left
          have hall : ∀ i, (wrb st1 [(hsec (t.e + 1), encs (hd (newTop t)))]).2.is i = st1.is i := fun i => by
            by_cases hi : i = hsec (t.e + 1)
            · rw [hi]; exact h6
            · exact hother i hi
          refine h.renewing he rs (by omega) (fun j => ?_)
          show (wrb st1 [(hsec (t.e + 1), encs (hd (newTop t)))]).2.is j = _ ∨ _
          rw [hall j]
          by_cases hj : ∃ i, i < many rs ∧ j = sec (1 - t.h) (0 + i)
          · obtain ⟨i, hi, rfl⟩ := hj
            obtain ⟨c, hc⟩ : ∃ c, (cksAll (t.e + 1) 0 rs)[i]? = some c := ⟨_, List.getElem?_eq_getElem (by rw [cksAll_length]; exact hi)⟩
            exact .inr ⟨i, c, hc, rfl, hp1 i c hc⟩
          · exact .inl (hp2 j (fun i hi e => hj ⟨i, hi, e⟩))
        · right
          simp at h6
          exact (hren _ (by show (wrb st1 _).2.is _ = _; rw [h7]; exact h6) hother).good
    · have e2 : renew2 ⟨t, N, 0⟩ st rs = wrb st (puts (1 - t.h) (cksAll (t.e + 1) 0 rs)) := by
        unfold renew2
        rw [h0, if_neg (by rw [h1]; decide)]
      rw [e2]
      refine .inr (.inr ⟨by omega, h1, h2, h4.gone, by show (if _ then _ else _ : Lo) = _; rw [if_neg (by rw [h1]; decide), h1], .inl ?_⟩)
      refine h.renewing he rs (by omega) (fun j => ?_)
      rcases h4.mix j with h6 | ⟨s, h6, h7⟩
      · exact .inl h6
      · obtain ⟨i, c, hc, e1, e3⟩ := puts_mem h6
        exact .inr ⟨i, c, hc, e1, by show (wrb st _).2.is j = _; rw [h7, e3]⟩

end Go.Proofs.YtgahcbhdnplnoaaDoor.Lg

/- Laws on numbers and bits behind the check sums, in the walk's spelling. -/
namespace Go.Proofs.YtgahcbhdnplnoaaDoor
open Go.RowKit

theorem ret_int {k : IntKind} {a b : Int} (h : a = b) : Ending.returned (.int k a) = .returned (.int k b) := by rw [h]

theorem bitsN_succ (k c : Nat) : Plain.bitsN (k + 1) c = Plain.bit (Plain.bitsN k c) := by simp only [Plain.bitsN]

theorem and_one_u32 (c : Nat) (h : c < 4294967296) : bits .and .u32 (c : Int) 1 = ((c % 2 : Nat) : Int) := by
  rw [u32_and c 1 (by omega) (by omega) (by omega) (by omega)]
  simp

theorem half_nat (c : Nat) : ((c : Int) / 2) = ((c / 2 : Nat) : Int) := (Int.natCast_ediv c 2).symm

theorem mixed_u32 (c : Nat) (h : c < 4294967296) (ho : c % 2 = 1) : Value.int .u32 (bits .xor .u32 ((c : Int) / 2) 3988292384) = Value.int .u32 ((Plain.bit c : Nat) : Int) := by
  have h2 : c / 2 < 4294967296 := by omega
  have hx := u32_xor_nat (c / 2) 3988292384 h2 (by omega)
  rw [half_nat c]
  unfold Plain.bit
  rw [if_pos ho, ← hx]
  rfl

theorem shifted_u32 (c : Nat) (ho : ¬ c % 2 = 1) : Value.int .u32 ((c : Int) / 2) = Value.int .u32 ((Plain.bit c : Nat) : Int) := by
  unfold Plain.bit
  rw [if_neg ho, half_nat c]

theorem max_u32 : IntKind.u32.max = 4294967295 := by decide

theorem turned_u32 (c : Nat) (h : c < 4294967296) : bits .xor .u32 (c : Int) 4294967295 = ((c ^^^ 4294967295 : Nat) : Int) :=
  u32_xor_nat c 4294967295 h (by omega)

theorem turned_u32' (c : Nat) (h : c < 4294967296) : bits .xor .u32 IntKind.u32.max (c : Int) = ((c ^^^ 4294967295 : Nat) : Int) := by
  rw [max_u32, Nat.xor_comm]
  exact u32_xor_nat 4294967295 c (by omega) h

theorem mix_u64 (m b : Nat) (h : m < 18446744073709551616) (hb : b < 256) :
    IntKind.u64.wrap (bits .xor .u64 (m : Int) (IntKind.u64.wrap (b : Int)) * 1099511628211) = ((Plain.mixStep m b : Nat) : Int) := by
  have hw : IntKind.u64.wrap (b : Int) = (b : Int) := by rw [IntKind.wrap_u64]; omega
  rw [hw, bits_xor_u64_nat m b h (by omega), IntKind.wrap_u64]
  unfold Plain.mixStep
  omega

theorem mix_u64' (m b : Nat) (h : m < 18446744073709551616) (hb : b < 256) :
    IntKind.u64.wrap (bits .xor .u64 (m : Int) (b : Int) * 1099511628211) = ((Plain.mixStep m b : Nat) : Int) := by
  have hw : IntKind.u64.wrap (b : Int) = (b : Int) := by rw [IntKind.wrap_u64]; omega
  have h2 := mix_u64 m b h hb
  rwa [hw] at h2

theorem take_snoc (s : ByteArray) (k : Nat) (h : k < s.size) : s.data.toList.take (k + 1) = s.data.toList.take k ++ [s[k]] := by
  rw [List.take_succ_eq_append_getElem (by simpa using h)]; rfl

theorem take_all (s : ByteArray) (k : Nat) (h : s.size ≤ k) : s.data.toList.take k = s.data.toList :=
  List.take_of_length_le (by simpa using h)

theorem crc_up (s : ByteArray) (c k : Nat) (h : k < s.size) : Plain.crcFrom c (s.data.toList.take (k + 1)) = Plain.step (Plain.crcFrom c (s.data.toList.take k)) s[k].toNat := by
  rw [take_snoc s k h, Plain.crcFrom_append, Plain.crcFrom_cons]
  simp only [Plain.crcFrom, List.foldl_nil]

theorem mix_up (s : ByteArray) (k : Nat) (h : k < s.size) : Plain.mix (s.data.toList.take (k + 1)) = Plain.mixStep (Plain.mix (s.data.toList.take k)) s[k].toNat := by
  rw [take_snoc s k h, Plain.mix_snoc]

theorem odd_and (c : Nat) (h : c < 4294967296) (t : (bits .and .u32 (c : Int) 1 == 1) = true) : c % 2 = 1 := by
  rw [and_one_u32 c h, beq_iff_eq] at t; omega
theorem even_and (c : Nat) (h : c < 4294967296) (t : (bits .and .u32 (c : Int) 1 == 1) = false) : ¬ c % 2 = 1 := by
  rw [and_one_u32 c h, beq_eq_false_iff_ne] at t; omega
theorem odd_rem (c : Nat) (t : (((c : Int) % 2) == 1) = true) : c % 2 = 1 := by
  rw [beq_iff_eq] at t; omega
theorem even_rem (c : Nat) (t : (((c : Int) % 2) == 1) = false) : ¬ c % 2 = 1 := by
  rw [beq_eq_false_iff_ne] at t; omega

end Go.Proofs.YtgahcbhdnplnoaaDoor

/- What Step and Crc come to, the program's: the plain functions of the same names; the world stays as it is. -/
namespace Go.Proofs.YtgahcbhdnplnoaaDoor
open Go.RowKit

set_option maxHeartbeats 400000 in
theorem step_any (a b : Nat) (w : World) (ha : a < 4294967296) (hb : b < 256) :
    Calls Tryd.prog 97 #[.int .u32 a, .int .u8 b] w fun e w' => e = .returned (.int .u32 (Plain.step a b : Nat)) ∧ w = w' := by
  go_enter Tryd.func97, Tryd.ntmps97
  go_wp2
  rw [u32_xor a b (by omega) (by omega) (by omega) (by omega), Int.toNat_natCast, Int.toNat_natCast]
  go_loop [0, 10] (fun c i => ∃ k : Nat, k ≤ 8 ∧ i = .int .i64 k ∧ c = .int .u32 (Plain.bitsN k (a ^^^ b) : Nat)) (fun _ i => 8 - (intOf i).toNat)
  case atStart => exact ⟨0, Nat.zero_le _, rfl, rfl⟩
  case round =>
    obtain ⟨k, hk, rfl, rfl⟩ := hrel
    have hl := Plain.bitsN_lt k (a ^^^ b) (Plain.xor_lt32 _ _ (by omega) (by omega))
    go_wp2
    · go_round
      case rel => exact ⟨k + 1, by omega, by go_num, by rw [bitsN_succ]; exact mixed_u32 _ hl (odd_and _ hl (by assumption))⟩
      case measure => simp [intOf]; omega
    · go_round
      case rel => exact ⟨k + 1, by omega, by go_num, by rw [bitsN_succ]; exact shifted_u32 _ (even_and _ hl (by assumption))⟩
      case measure => simp [intOf]; omega
    · obtain rfl : k = 8 := by omega
      go_ret
      exact ⟨rfl, rfl⟩

set_option maxHeartbeats 400000 in
theorem crc_any (s : ByteArray) (w : World) (hs : s.size ≤ maxLen) :
    Calls Tryd.prog 91 #[.string s] w fun e w' => e = .returned (.int .u32 (Plain.crc s.data.toList : Nat)) ∧ w = w' := by
  unfold maxLen at hs
  go_enter Tryd.func91, Tryd.ntmps91
  go_wp2_with fail
  go_loop [3, 7] (fun c i => ∃ k : Nat, k ≤ s.size ∧ i = .int .i64 k ∧ c = .int .u32 (Plain.crcFrom 4294967295 (s.data.toList.take k) : Nat)) (fun _ i => s.size - (intOf i).toNat)
  case atStart => exact ⟨0, Nat.zero_le _, rfl, rfl⟩
  case round =>
    obtain ⟨k, hk, rfl, rfl⟩ := hrel
    have hl := Plain.crcFrom_lt (s.data.toList.take k) 4294967295 (by omega)
    by_cases hlt : k < s.size
    · go_wp2_with (go_at_call 97; refine (step_any _ _ _ hl (Plain.byte_lt _)).mono ?_; rintro e w' ⟨rfl, rfl⟩)
      go_round
      case rel => exact ⟨k + 1, by omega, by go_num, by rw [crc_up s _ k hlt]⟩
      case measure => simp [intOf]; omega
    · go_wp2_with fail
      go_ret
      refine ⟨ret_int ?_, rfl⟩
      rw [turned_u32' _ hl]
      rw [take_all s k (by omega)]
      rfl

end Go.Proofs.YtgahcbhdnplnoaaDoor

/- What memory holds of a pack.Writer (a chain of pieces) and of a pack.Reader, and what changes of it: laws on memory alone. -/
namespace Go.Proofs.YtgahcbhdnplnoaaDoor
open Go.RowKit

/-! ### A Writer -/

/-- A chain of pieces, the last one first, each in a block newer than bw. -/
def Chain (w : World) (bw : Nat) : Option Addr → List ByteArray → Prop
  | p, [] => p = none
  | p, s :: ss => ∃ b p', p = some ⟨b, 0, none⟩ ∧ bw < b ∧ Blk w b 146 #[.pointer p', .string s] ∧ Chain w bw p' ss

/-- The bytes of pieces, the last one first. -/
def bytesOf : List ByteArray → List UInt8
  | [] => []
  | s :: ss => bytesOf ss ++ s.data.toList

/-- Block bw is a Writer (or a gather) that has the bytes l. -/
def Wr (w : World) (bw : Nat) (l : List UInt8) : Prop :=
  ∃ p ss, Blk w bw 121 #[.pointer p, .int .i64 (l.length : Int)] ∧ Chain w bw p ss ∧ bytesOf ss = l

theorem Chain.grown {w w' : World} {bw : Nat} (hb : w.grownBy w' (some bw)) : ∀ {ss : List ByteArray} {p : Option Addr}, Chain w bw p ss → Chain w' bw p ss
  | [], _, h => h
  | _ :: _, _, ⟨b, p', hp, hlt, hblk, hc⟩ => ⟨b, p', hp, hlt, hblk.grown hb (by intro e; injection e; omega), Chain.grown hb hc⟩

theorem Chain.kept {w w' : World} {bw : Nat} {row : Option Nat} (hb : w.grownBy w' row) (hr : ∀ g, row = some g → g < bw) : ∀ {ss : List ByteArray} {p : Option Addr}, Chain w bw p ss → Chain w' bw p ss
  | [], _, h => h
  | _ :: _, _, ⟨b, p', hp, hlt, hblk, hc⟩ => ⟨b, p', hp, hlt, hblk.grown hb (by intro e; have := hr b e.symm; omega), Chain.kept hb hr hc⟩

theorem Wr.lt {w : World} {bw : Nat} {l : List UInt8} (h : Wr w bw l) : bw < w.heap.size := by
  obtain ⟨p, ss, h, _⟩ := h
  exact h.lt

/-- A Writer stays as it is while a block older than it, or none, is changed. -/
theorem Wr.kept {w w' : World} {bw : Nat} {l : List UInt8} {row : Option Nat} (h : Wr w bw l) (hb : w.grownBy w' row) (hr : ∀ g, row = some g → g < bw) : Wr w' bw l := by
  obtain ⟨p, ss, h1, h2, h3⟩ := h
  exact ⟨p, ss, h1.grown hb (by intro e; have := hr bw e.symm; omega), h2.kept hb hr, h3⟩

theorem Wr.quiet {w w' : World} {bw : Nat} {l : List UInt8} (h : Wr w bw l) (hb : w.grownBy w' none) : Wr w' bw l := h.kept hb (by simp)

/-- A Writer's zero value. -/
theorem Wr.new (w : World) : Wr (w.alloc (.cells #[.pointer none, .int .i64 0] 121)) w.heap.size [] :=
  ⟨none, [], Blk.new _ _ _, rfl, rfl⟩

/-- What put does: the Writer's two cells, and a piece in a new block. -/
theorem Wr.put {w : World} {bw : Nat} {p : Option Addr} {ss : List ByteArray} {n : Int} (s : ByteArray)
    (h1 : Blk w bw 121 #[.pointer p, .int .i64 n]) (h2 : Chain w bw p ss) (hn : n = ((bytesOf ss).length : Int)) :
    Wr (((w.setCell ⟨bw, 0, none⟩ (.pointer (some ⟨w.heap.size, 0, none⟩))).setCell ⟨bw, 1, none⟩ (.int .i64 (n + (s.size : Int)))).alloc (.cells #[.pointer p, .string s] 146)) bw (bytesOf ss ++ s.data.toList) ∧
    w.grownBy (((w.setCell ⟨bw, 0, none⟩ (.pointer (some ⟨w.heap.size, 0, none⟩))).setCell ⟨bw, 1, none⟩ (.int .i64 (n + (s.size : Int)))).alloc (.cells #[.pointer p, .string s] 146)) (some bw) := by
  have hlt := h1.lt
  obtain ⟨q, hq⟩ : ∃ q : Value, q = .pointer (some ⟨w.heap.size, 0, none⟩) := ⟨_, rfl⟩
  obtain ⟨m, hm⟩ : ∃ m : Int, m = n + (s.size : Int) := ⟨_, rfl⟩
  rw [← hq, ← hm]
  have hg0 : w.grownBy ((w.setCell ⟨bw, 0, none⟩ q).setCell ⟨bw, 1, none⟩ (.int .i64 m)) (some bw) :=
    gr_set (gr_set (gr_refl w _) 0 _) 1 _
  have hw0 := (h1.set_fst q).set_snd (.int .i64 m)
  have hz : ((w.setCell ⟨bw, 0, none⟩ q).setCell ⟨bw, 1, none⟩ (.int .i64 m)).heap.size = w.heap.size := by simp [World.setCell]
  generalize (w.setCell ⟨bw, 0, none⟩ q).setCell ⟨bw, 1, none⟩ (.int .i64 m) = w1 at hg0 hw0 hz ⊢
  have hg1 : w.grownBy (w1.alloc (.cells #[.pointer p, .string s] 146)) (some bw) := gr_alloc hg0 _
  have hw1 := hw0.alloc (.cells #[.pointer p, .string s] 146)
  have hp1 := Blk.new w1 146 #[.pointer p, .string s]
  rw [hz] at hp1
  generalize w1.alloc (.cells #[.pointer p, .string s] 146) = w2 at hg1 hw1 hp1 ⊢
  have e : m = ((bytesOf ss ++ s.data.toList).length : Int) := by
    have e2 : s.data.toList.length = s.size := Array.length_toList
    rw [hm, hn, List.length_append, e2]
    omega
  rw [e, hq] at hw1
  exact ⟨⟨some ⟨w.heap.size, 0, none⟩, s :: ss, hw1, ⟨w.heap.size, p, rfl, hlt, hp1, Chain.grown hg1 h2⟩, rfl⟩, hg1⟩

/-! ### A Reader -/

/-- Block br is a Reader to which the bytes l are left. -/
def Rd (w : World) (br : Nat) (l : List UInt8) : Prop := ∃ s : ByteArray, s.data.toList = l ∧ Blk w br 134 #[.string s]

theorem Rd.new (w : World) (s : ByteArray) : Rd (w.alloc (.cells #[.string s] 134)) w.heap.size s.data.toList := ⟨s, rfl, Blk.new _ _ _⟩

theorem Rd.kept {w w' : World} {br : Nat} {l : List UInt8} {row : Option Nat} (h : Rd w br l) (hb : w.grownBy w' row) (hr : some br ≠ row) : Rd w' br l := by
  obtain ⟨s, h1, h2⟩ := h
  exact ⟨s, h1, h2.grown hb hr⟩

theorem Rd.lt {w : World} {br : Nat} {l : List UInt8} (h : Rd w br l) : br < w.heap.size := by
  obtain ⟨s, _, h⟩ := h
  exact h.lt

end Go.Proofs.YtgahcbhdnplnoaaDoor

/- Bytes in a row that a call has made, and the steps of writing a number's code into one: laws on memory and numbers alone. -/
namespace Go.Proofs.YtgahcbhdnplnoaaDoor
open Go.RowKit

def Cells (l : List UInt8) : List Value := l.map fun b => Value.int .u8 (b.toNat : Int)

theorem cells_snoc (l : List UInt8) (b : UInt8) : Cells l ++ [.int .u8 (b.toNat : Int)] = Cells (l ++ [b]) := by simp [Cells]
theorem cells_length (l : List UInt8) : (Cells l).length = l.length := by simp [Cells]

theorem cells_one (l : List UInt8) : ∀ u ∈ Cells l, u.oneCell' = true := by
  intro v hv
  simp only [Cells, List.mem_map] at hv
  obtain ⟨b, _, rfl⟩ := hv
  rfl

theorem one_cell (x : Int) : ∀ u ∈ [Value.int .u8 x], u.oneCell' = true := by
  intro u hu; simp at hu; subst hu; rfl

theorem info_u8 : (Tryd.prog.info? 5).map (fun i => (i.zero, i.size, i.bytes)) = some (some (.int .u8 0), 1, 1) := by kernel_rfl

theorem room_max (k : Nat) (h : k ≤ 1099511627776) : k + 1 ≤ maxLen := by unfold maxLen; omega
theorem room_bytes (k : Nat) (h : k ≤ 1099511627776) : (k + 1) * 1 ≤ 140737488355328 := by omega
theorem base_le {B : Nat} {w wr : World} (h : Below B w wr) (hB : B ≤ w.heap.size) (o : Obj) : B ≤ (wr.alloc o).heap.size := by
  have h1 := h.size
  show B ≤ (wr.heap.push o).size
  rw [Array.size_push]; omega
theorem base_le_drew {B : Nat} {w wr : World} (h : Below B w wr) (hB : B ≤ w.heap.size) (o : Obj) : B ≤ (wr.alloc o).drew.heap.size := base_le h hB o
theorem below_up {B : Nat} {w wr w1 : World} {row : Option Nat} (h : Below B w wr) (hB : B ≤ w.heap.size) (o : Obj) (hg : (wr.alloc o).grownBy w1 row) (hr : ∀ k, row = some k → B ≤ k) : Below B w w1 :=
  (h.alloc (Nat.le_trans hB h.size) o).grown hg (base_le h hB o) hr
theorem below_up_drew {B : Nat} {w wr w1 : World} {row : Option Nat} (h : Below B w wr) (hB : B ≤ w.heap.size) (o : Obj) (hg : (wr.alloc o).drew.grownBy w1 row) (hr : ∀ k, row = some k → B ≤ k) : Below B w w1 :=
  ((h.alloc (Nat.le_trans hB h.size) o).drew).grown hg (base_le_drew h hB o) hr

/-- The string of a row of bytes. -/
theorem str_back (w : World) (base g n cap : Nat) (l : List UInt8) (hl : l.length = n) (h : w.ownsRow base 5 1 (.slice (some ⟨g, 0, none⟩) n cap) n (Cells l)) :
    (convert 38 9 (.slice (some ⟨g, 0, none⟩) n cap)).run Tryd.prog w = .ok (.string ⟨l.toArray⟩) w := by
  subst hl
  exact run_convert_bytes_back (P := Tryd.prog) w 38 9 5 ⟨g, 0, none⟩ cap l Tryd.underlying38 Tryd.underlying5 Tryd.underlying9 (fun j hj => h.cells (g := g) rfl j _ (by simp [Cells, List.getElem?_eq_getElem hj]))

theorem size_mk (l : List UInt8) : (⟨l.toArray⟩ : ByteArray).size = l.length := by simp [ByteArray.size]
theorem toList_mk (l : List UInt8) : (⟨l.toArray⟩ : ByteArray).data.toList = l := by simp
theorem toList_len (s : ByteArray) : s.data.toList.length = s.size := by simp
theorem mk_toList (s : ByteArray) : (⟨s.data.toList.toArray⟩ : ByteArray) = s := by simp

namespace Pk

/-- So far pre, m to come: together the code of n. -/
theorem step_code {pre : List UInt8} {m n : Nat} (h : pre ++ code m = code n) (hm : 128 ≤ m) : (pre ++ [UInt8.ofNat (m % 128 + 128)]) ++ code (m / 128) = code n := by
  rw [← h, code_ge m hm, List.append_assoc]; rfl

theorem last_code {pre : List UInt8} {m n : Nat} (h : pre ++ code m = code n) (hm : m < 128) : pre ++ [UInt8.ofNat m] = code n := by
  rw [← h, code_lt m hm]

theorem pre_lt {pre : List UInt8} {m n : Nat} (h : pre ++ code m = code n) (hn : n ≤ 72057594037927935) : pre.length + 1 ≤ 8 := by
  have h1 := code_len8 n hn
  have h2 := code_pos m
  rw [← h, List.length_append] at h1
  omega

theorem byte_more (m : Nat) : (((UInt8.ofNat (m % 128 + 128)).toNat : Nat) : Int) = (m : Int) % 128 + 128 := by
  rw [toNat_more]; omega
theorem byte_last (m : Nat) (h : m < 128) : (((UInt8.ofNat m).toNat : Nat) : Int) = (m : Int) := by
  rw [toNat_last m h]

end Pk

/-- One byte more. -/
theorem own_up {w1 : World} {base g1 cap1 : Nat} {pre : List UInt8} {x : Int} {b : UInt8} (hx : (b.toNat : Int) = x)
    (h : w1.ownsRow base 5 1 (.slice (some ⟨g1, 0, none⟩) (pre.length + 1) cap1) (pre.length + 1) (Cells pre ++ [.int .u8 x])) :
    w1.ownsRow base 5 1 (.slice (some ⟨g1, 0, none⟩) (pre.length + 1) cap1) (pre ++ [b]).length (Cells (pre ++ [b])) := by
  subst hx
  rw [cells_snoc] at h
  simpa using h

/-- The last byte, and the string of it all. -/
theorem str_last {w1 : World} {base g1 cap1 : Nat} {pre l : List UInt8} {x : Int} {b : UInt8} (hx : (b.toNat : Int) = x) (hl : pre ++ [b] = l)
    (h : w1.ownsRow base 5 1 (.slice (some ⟨g1, 0, none⟩) (pre.length + 1) cap1) (pre.length + 1) (Cells pre ++ [.int .u8 x])) :
    (convert 38 9 (.slice (some ⟨g1, 0, none⟩) (pre.length + 1) cap1)).run Tryd.prog w1 = .ok (.string ⟨l.toArray⟩) w1 := by
  subst hx hl
  rw [cells_snoc] at h
  exact str_back w1 base g1 (pre.length + 1) cap1 (pre ++ [b]) (by simp) h

end Go.Proofs.YtgahcbhdnplnoaaDoor

/- What crcBytes comes to: the four bytes of the check sum, the lowest first. -/
namespace Go.Proofs.YtgahcbhdnplnoaaDoor
open Go.RowKit

/-- The string of four bytes in an array. -/
theorem four_back (w : World) (k : Nat) (hk : k < 4294967296) :
    (convert 38 9 (.slice (some ⟨w.heap.size, 0, none⟩) 4 4)).run Tryd.prog (w.alloc (.cells #[.int .u8 ((k : Int) % 256), .int .u8 ((k : Int) / 256 % 256), .int .u8 ((k : Int) / 65536 % 256), .int .u8 ((k : Int) / 16777216)] 137)) =
      .ok (.string ⟨(Cn.le4 k).toArray⟩) (w.alloc (.cells #[.int .u8 ((k : Int) % 256), .int .u8 ((k : Int) / 256 % 256), .int .u8 ((k : Int) / 65536 % 256), .int .u8 ((k : Int) / 16777216)] 137)) := by
  have hb := Blk.new w 137 #[.int .u8 ((k : Int) % 256), .int .u8 ((k : Int) / 256 % 256), .int .u8 ((k : Int) / 65536 % 256), .int .u8 ((k : Int) / 16777216)]
  generalize w.alloc (.cells #[.int .u8 ((k : Int) % 256), .int .u8 ((k : Int) / 256 % 256), .int .u8 ((k : Int) / 65536 % 256), .int .u8 ((k : Int) / 16777216)] 137) = w1 at hb ⊢
  refine run_convert_bytes_back (P := Tryd.prog) w1 38 9 5 ⟨w.heap.size, 0, none⟩ 4 (Cn.le4 k) Tryd.underlying38 Tryd.underlying5 Tryd.underlying9 (fun j hj => ?_)
  have hadd : (⟨w.heap.size, 0, none⟩ : Addr).add j = ⟨w.heap.size, j, none⟩ := by unfold Addr.add; split <;> simp_all
  rw [hadd, hb.cell j]
  have hj' : j < 4 := hj
  have e : ∀ m : Nat, m < 256 → (UInt8.ofNat m).toNat = m := fun m hm => by rw [UInt8.toNat_ofNat']; omega
  rcases (show j = 0 ∨ j = 1 ∨ j = 2 ∨ j = 3 by omega) with rfl | rfl | rfl | rfl
  · show some (Value.int .u8 ((k : Int) % 256)) = some (Value.int .u8 (((UInt8.ofNat (k % 256)).toNat : Nat) : Int))
    rw [e _ (by omega)]; rfl
  · show some (Value.int .u8 ((k : Int) / 256 % 256)) = some (Value.int .u8 (((UInt8.ofNat (k / 256 % 256)).toNat : Nat) : Int))
    rw [e _ (by omega)]; rfl
  · show some (Value.int .u8 ((k : Int) / 65536 % 256)) = some (Value.int .u8 (((UInt8.ofNat (k / 65536 % 256)).toNat : Nat) : Int))
    rw [e _ (by omega)]; rfl
  · show some (Value.int .u8 ((k : Int) / 16777216)) = some (Value.int .u8 (((UInt8.ofNat (k / 16777216 % 256)).toNat : Nat) : Int))
    rw [e _ (by omega)]
    congr 2
    omega

set_option maxHeartbeats 400000 in
theorem crcBytes_any (s : ByteArray) (w : World) (hs : s.size ≤ maxLen) :
    Calls Tryd.prog 83 #[.string s] w fun e w' => e = .returned (.string ⟨(Cn.le4 (Plain.crc s.data.toList)).toArray⟩) ∧ Below w.heap.size w w' := by
  have hk := Plain.crc_lt s.data.toList
  have HC := Lib.hid (crc_any s (w.alloc (.cells #[.int .u8 0, .int .u8 0, .int .u8 0, .int .u8 0] 137)) hs)
  generalize Plain.crc s.data.toList = k at *
  have hcv := four_back w k hk
  go_enter Tryd.func83, Tryd.ntmps83
  go_wp2_with (go_at_call 91; refine HC.out.mono ?_; rintro e w' ⟨rfl, rfl⟩)
  refine wp_loop_rounds 5 ?_
  rw [rounds_succ]
  go_wp2_with fail
  rw [rounds_succ]
  go_wp2_with fail
  rw [rounds_succ]
  go_wp2_with fail
  rw [rounds_succ]
  go_wp2_with fail
  rw [rounds_succ]
  go_wp2_with fail
  go_ret
  exact ⟨rfl, (Below.refl _ _).alloc (Nat.le_refl _) _⟩

end Go.Proofs.YtgahcbhdnplnoaaDoor

/- What (*gather).put comes to: the bytes are behind those that were there. -/
namespace Go.Proofs.YtgahcbhdnplnoaaDoor
open Go.RowKit

set_option maxHeartbeats 400000 in
theorem put_any (bw : Nat) (s : ByteArray) (l : List UInt8) (w : World) (h : Wr w bw l) (hl : l.length ≤ 1099511627776) (hs : s.size ≤ 1099511627776) :
    Calls Tryd.prog 89 #[.pointer (some ⟨bw, 0, none⟩), .string s] w fun e w' => e = .returned (.tuple #[]) ∧ Wr w' bw (l ++ s.data.toList) ∧ w.grownBy w' (some bw) := by
  obtain ⟨p, ss, h1, h2, rfl⟩ := h
  have R := Wr.put s h1 h2 rfl
  have c0 := h1.cell 0
  have c1 := h1.cell 1
  have f0 := h1.frozen 0
  have f1 := h1.frozen 1
  have hlt := h1.lt
  have HR := Lib.hid R; clear R
  simp at c0 c1
  go_enter Tryd.func89, Tryd.ntmps89
  go_wp2_with fail
  go_end0
  exact ⟨rfl, HR.out.1, HR.out.2⟩

theorem put_list (bw : Nat) (bs l : List UInt8) (w : World) (h : Wr w bw l) (hl : l.length ≤ 1099511627776) (hs : bs.length ≤ 1099511627776) :
    Calls Tryd.prog 89 #[.pointer (some ⟨bw, 0, none⟩), .string ⟨bs.toArray⟩] w fun e w' => e = .returned (.tuple #[]) ∧ Wr w' bw (l ++ bs) ∧ w.grownBy w' (some bw) := by
  have H := put_any bw ⟨bs.toArray⟩ l w h hl (by simpa [ByteArray.size] using hs)
  simpa using H

end Go.Proofs.YtgahcbhdnplnoaaDoor

/- What (*Writer).Number comes to: the number's code is behind the bytes that were there. -/
namespace Go.Proofs.YtgahcbhdnplnoaaDoor
open Go.RowKit

def NumberPost (bw : Nat) (l : List UInt8) (w : World) (e : Ending) (w' : World) : Prop := e = .returned (.tuple #[]) ∧ Wr w' bw l ∧ w.grownBy w' (some bw)

/-- What the loop knows. -/
def CodeLoop (base N : Nat) (w : World) (v i : Value) (wr : World) : Prop :=
  ∃ (m : Nat) (pre : List UInt8), i = .int .i64 (m : Int) ∧ m ≤ N ∧ pre ++ Pk.code m = Pk.code N ∧ wr.ownsRow base 5 1 v pre.length (Cells pre) ∧ Below base w wr

set_option maxRecDepth 20000 in
set_option maxHeartbeats 400000 in
theorem number_any (bw : Nat) (n : Int) (l : List UInt8) (w : World) (h : Wr w bw l) (hl : l.length ≤ 1099511627776) :
    Calls Tryd.prog 79 #[.pointer (some ⟨bw, 0, none⟩), .int .i64 n] w (NumberPost bw (l ++ Pk.code (Pk.cl n)) w) := by
  have hN := Pk.cl_le n
  have hc8 : (Pk.code (Pk.cl n)).length ≤ 1099511627776 := by have := Pk.code_len8 _ hN; omega
  have hcc := Pk.cl_cast n
  generalize Pk.cl n = N at hN hc8 hcc ⊢
  have HC := Lib.hid hcc; clear hcc
  obtain ⟨i0, hi, hz0, hz1, hz2⟩ := info_parts info_u8
  rcases (show n < 0 ∨ (72057594037927935 < n) ∨ (0 ≤ n ∧ n ≤ 72057594037927935) by omega) with hn | hn | ⟨hn, hn'⟩
  all_goals
    go_enter Tryd.func79, Tryd.ntmps79
    go_wp2_with fail
    go_loopw [4, 1] (CodeLoop w.heap.size N w) (fun _ i _ => (intOf i).toNat)
    case atStart => exact ⟨N, [], congrArg (Value.int .i64) (by have := HC.out; omega), Nat.le_refl _, rfl, World.ownsRow_nil _ _ _ _, Below.refl _ _⟩
    case round =>
      obtain ⟨m, pre, rfl, hmN, hpre, hown, hbel⟩ := hrel
      have hp8 := Pk.pre_lt hpre hN
      have hpl : pre.length ≤ 1099511627776 := by omega
      have HP := Lib.hid hpre; clear hpre
      have hm1 : (m : Int) ≤ 72057594037927935 := by omega
      clear hN hp8
      by_cases hm : 128 ≤ m
      · have hx := Pk.byte_more m
        go_wp2_with (at_builtin; refine wpList_append_lies _ rfl (.tmp 10) (.tmp 15) 38 rfl w.heap.size 5 i0 (.int .u8 0) 1 1 Tryd.underlying38 hi hz0 hz1 hz2 rfl (by decide) u4 pre.length _ rfl (hown.alloc _) ⟨wr.heap.size, 0, none⟩ 1 1 [.int .u8 ((m : Int) % 128 + 128)] rfl rfl (cell_one_new wr _ 5) (one_cell _) (by decide) (room_max _ hpl) (room_bytes _ hpl) (base_le hbel (Nat.le_refl _) _) _ rfl ?_; intro g1 cap1 w1 hown1 hgrow1 _ _)
        have hown2 := own_up hx hown1
        have hbel2 := below_up hbel (Nat.le_refl _) _ hgrow1 (fun j hj => (hown.lt j hj).1)
        clear hgrow1 hown1 hown hbel
        go_wp2_with fail
        go_roundw
        case rel => exact ⟨m / 128, _, by go_num, by omega, Pk.step_code HP.out hm, hown2, hbel2⟩
        case measure => simp [intOf]; omega
      · have hx := Pk.byte_last m (by omega)
        have hlast := Pk.last_code HP.out (show m < 128 by omega)
        have HL := Lib.hid hlast; clear hlast
        go_wp2_with fail
        have hwrap : IntKind.u8.wrap (m : Int) = (m : Int) := by rw [IntKind.wrap_u8]; omega
        go_region_law (first
          | (refine step_append_lies _ rfl (.tmp 22) (.tmp 25) 38 rfl w.heap.size 5 i0 (.int .u8 0) 1 1 Tryd.underlying38 hi hz0 hz1 hz2 rfl (by decide) u4 pre.length _ rfl (hown.alloc _).drew ⟨wr.heap.size, 0, none⟩ 1 1 [.int .u8 (m : Int)] rfl rfl (cell_one_new wr _ 5) (one_cell _) (by decide) (room_max _ hpl) (room_bytes _ hpl) (base_le_drew hbel (Nat.le_refl _) _) _ rfl ?_; intro g1 cap1 w1 hown1 hgrow1 _ _; have hcv := str_last hx HL.out hown1; have hbel2 := below_up_drew hbel (Nat.le_refl _) _ hgrow1 (fun j hj => (hown.lt j hj).1); clear hgrow1 hown1 hown)
          | (go_simp; go_at_call 89; refine (put_list bw _ l _ (h.quiet (gr_of_below (by assumption) none)) hl (by assumption)).mono ?_; rintro e w' ⟨rfl, hW', hg'⟩))
        go_end0
        exact ⟨rfl, hW', gr_trans (gr_of_below hbel2 _) hg'⟩

end Go.Proofs.YtgahcbhdnplnoaaDoor

/- What (*gather).all and (*Writer).Bytes come to: the bytes that were put, as a string; of what was there nothing turns. -/
namespace Go.Proofs.YtgahcbhdnplnoaaDoor
open Go.RowKit

theorem byteCells_eq (l : List UInt8) : Lib.byteCells l = Cells l := rfl

/-- 'copy' of a text into a row of the call's own; of no bytes, whatever the place. -/
theorem run_copy_text {P : Program} (w : World) (dT sT ty elem : TypeId) (dp : Option Addr) (g off dLen dCap : Nat) (s : ByteArray) (cur : List Value) (t : TypeId)
    (hu : P.underlying dT = some (.slice elem)) (hs : (P.info? elem).map (·.size) = some 1) (hb : Blk w g t cur.toArray) (hpos : 0 < s.size → dp = some ⟨g, off, none⟩) (hle : s.size ≤ dLen) (hfit : off + s.size ≤ cur.length) :
    ∃ w', (Builtin.copy_ #[dT, sT] ty #[.slice dp dLen dCap, .string s]).run P w = .ok (goInt s.size) w' ∧ Blk w' g t (cur.take off ++ Cells s.data.toList ++ cur.drop (off + s.size)).toArray ∧ w.grownBy w' (some g) := by
  by_cases h0 : s.size = 0
  · refine ⟨w, ?_, ?_, gr_refl w _⟩
    · rw [Lib.run_copy_empty_string w dT sT ty elem dp dLen dCap s hu (by rw [hs]; rfl) h0, h0]; rfl
    · have e : s.data.toList = [] := List.eq_nil_of_length_eq_zero (by rw [toList_len]; exact h0)
      rw [e, h0]
      simpa [Cells] using hb
  · rw [hpos (by omega)]
    have hr := Lib.run_copy_row_string (P := P) w dT sT ty elem g off dLen dCap s cur.toArray t hu hs hb hle (by simpa using hfit)
    refine ⟨_, hr, ?_, ?_⟩
    · exact setRow_heap w g cur.toArray _ t _ hb
    · exact ⟨rfl, rfl, rfl, by simp [World.setRow], fun k _ hk => setRow_other w g k _ (fun e => hk (by rw [e]))⟩

theorem step_copy_text {P : Program} {ops : Array Oper} {o : Oper} {a : Act} {w : World} {K : Act → World → Prop} {Q : Exit → Act → World → Prop} {E : Prop}
    (hg : o.guard = none) (d x : Operand) (dT sT : TypeId) (hop : o.op = Op.call { callee := Callee.builtin Builtin.copy, args := #[d, x], argTypes := #[dT, sT] })
    (elem : TypeId) (hu : P.underlying dT = some (.slice elem)) (hs : (P.info? elem).map (·.size) = some 1)
    (dp : Option Addr) (g off dLen dCap : Nat) (s : ByteArray) (cur : List Value) (t : TypeId) (hd : a.eval d = .slice dp dLen dCap) (hx : a.eval x = .string s) (hb : Blk w g t cur.toArray)
    (hpos : 0 < s.size → dp = some ⟨g, off, none⟩) (hle : s.size ≤ dLen) (hfit : off + s.size ≤ cur.length)
    (hK : ∀ w', Blk w' g t (cur.take off ++ Cells s.data.toList ++ cur.drop (off + s.size)).toArray → w.grownBy w' (some g) → K (a.put o.dst (goInt s.size)) w') :
    if Region.wanted o (yielded ops a.tmps) = true then Oper.wp P o a w K Q else E := by
  have hw : Region.wanted o (yielded ops a.tmps) = true := by simp [Region.wanted, hg]
  rw [if_pos hw]
  obtain ⟨w', hrun, h1, h2⟩ := run_copy_text (P := P) w dT sT o.type elem dp g off dLen dCap s cur t hu hs hb hpos hle hfit
  unfold Oper.wp
  simp [execOp, hop, resolve, invoke, builtin, hd, hx, hrun, Result.andThen]
  exact hK w' h1 h2

theorem made_list (z : Value) (n : Nat) : (madeCells #[z] n).toList = List.replicate n z := by
  apply List.ext_getElem
  · simp [madeCells]
  · intro i h1 h2
    simp [madeCells, Nat.mod_one]

theorem info_u8s : (Tryd.prog.info? 5).map (·.size) = some 1 := by kernel_rfl

/-- What the loop knows when the pieces rest are to come. -/
def AllLoop (w : World) (bw g : Nat) (l : List UInt8) (k : Nat) (v4 v5 : Value) (wr : World) : Prop :=
  ∃ (rest : List ByteArray) (p : Option Addr) (suf : List UInt8), k = rest.length ∧ v4 = .int .i64 ((bytesOf rest).length : Int) ∧ v5 = .pointer p ∧ Chain w bw p rest ∧ bytesOf rest ++ suf = l ∧
    Blk wr g 5 (List.replicate (bytesOf rest).length (Value.int .u8 0) ++ Cells suf).toArray ∧ Below w.heap.size w wr

theorem all_start {w w1 : World} {bw n : Nat} {p : Option Addr} {ss : List ByteArray} (hc : Chain w bw p ss) (hn : (bytesOf ss).length = n)
    (hown : w1.ownsRow w.heap.size 5 1 (.slice (some ⟨w.heap.size, 0, none⟩) n n) n (madeCells (Value.int .u8 0).cells (n * 1)).toList) (hg : w.grownBy w1 none) :
    AllLoop w bw w.heap.size (bytesOf ss) ss.length (.int .i64 (n : Int)) (.pointer p) w1 := by
  subst hn
  refine ⟨ss, p, [], rfl, rfl, rfl, hc, by simp, ?_, gr_to_below hg⟩
  obtain ⟨h1, h2⟩ := hown
  rcases h2 with ⟨h2, _⟩ | ⟨g, cap, cur, hv, _, hh, _, _, hsz, htk⟩
  · cases h2
  · injection hv with hv1 hv2 hv3
    injection hv1 with hv1
    injection hv1 with hv1
    subst hv1 hv3
    have e : cur = (List.replicate (bytesOf ss).length (Value.int .u8 0) ++ Cells []).toArray := by
      have e1 : cur.toList = List.replicate (bytesOf ss).length (Value.int .u8 0) := by
        have e2 : (bytesOf ss).length * 1 = cur.toList.length := by simpa using hsz.symm
        rw [e2, List.take_length] at htk
        rw [htk]
        show (madeCells #[Value.int .u8 0] _).toList = _
        rw [made_list, ← e2, Nat.mul_one]
      apply Array.ext'
      simpa [Cells] using e1
    rw [← e]
    exact hh

/-- One piece more. -/
theorem all_step {w wr w1 : World} {bw g : Nat} {l : List UInt8} {s : ByteArray} {rest : List ByteArray} {p : Option Addr} {suf : List UInt8} (hc : Chain w bw p rest) (hl : bytesOf (s :: rest) ++ suf = l) (hg : w.heap.size ≤ g)
    (hb : Blk w1 g 5 ((List.replicate (bytesOf (s :: rest)).length (Value.int .u8 0) ++ Cells suf).take (bytesOf rest).length ++ Cells s.data.toList ++ (List.replicate (bytesOf (s :: rest)).length (Value.int .u8 0) ++ Cells suf).drop ((bytesOf rest).length + s.size)).toArray)
    (hbel : Below w.heap.size w wr) (hgr : wr.grownBy w1 (some g)) : AllLoop w bw g l rest.length (.int .i64 ((bytesOf rest).length : Int)) (.pointer p) w1 := by
  refine ⟨rest, p, s.data.toList ++ suf, rfl, rfl, rfl, hc, by rw [← hl]; simp [bytesOf], ?_, hbel.grown hgr hbel.size (by intro k hk; injection hk; omega)⟩
  have e : (bytesOf (s :: rest)).length = (bytesOf rest).length + s.size := by simp [bytesOf]
  rw [e] at hb
  have e1 : (List.replicate ((bytesOf rest).length + s.size) (Value.int .u8 0) ++ Cells suf).take (bytesOf rest).length = List.replicate (bytesOf rest).length (Value.int .u8 0) := by
    rw [List.take_append_of_le_length (by simp), List.take_replicate, Nat.min_eq_left (by omega)]
  have e2 : (List.replicate ((bytesOf rest).length + s.size) (Value.int .u8 0) ++ Cells suf).drop ((bytesOf rest).length + s.size) = Cells suf := by
    have : (List.replicate ((bytesOf rest).length + s.size) (Value.int .u8 0)).length = (bytesOf rest).length + s.size := by simp
    rw [List.drop_append_of_le_length (by simp)]
    simp
  rw [e1, e2, List.append_assoc] at hb
  have e3 : Cells (s.data.toList ++ suf) = Cells s.data.toList ++ Cells suf := by simp [Cells]
  rw [e3]
  exact hb

set_option maxRecDepth 20000 in
set_option maxHeartbeats 400000 in
theorem all_any (bw : Nat) (l : List UInt8) (w : World) (h : Wr w bw l) (hl : l.length ≤ 1099511627776) :
    Calls Tryd.prog 90 #[.pointer (some ⟨bw, 0, none⟩)] w fun e w' => e = .returned (.string ⟨l.toArray⟩) ∧ Below w.heap.size w w' := by
  obtain ⟨p, ss, h1, h2, h3⟩ := h
  obtain ⟨i0, hi, hz0, hz1, hz2⟩ := info_parts info_u8
  have c0 := h1.cell 0
  have c1 := h1.cell 1
  have hlt := h1.lt
  simp at c0 c1
  have HL := Lib.hid h3; clear h3
  have HC := Lib.hid h2; clear h2
  clear h1
  go_enter Tryd.func90, Tryd.ntmps90
  go_wp2_with (at_make; refine wpList_make_full _ rfl _ _ 38 rfl w.heap.size 5 i0 (.int .u8 0) 1 Tryd.underlying38 hi hz0 hz1 _ _ _ _ l.length rfl rfl rfl rfl (by rw [hz2]; omega) (by unfold maxLen; omega) (Nat.le_refl _) ?_; intro w1 hown1 hgrow1; have hb1 := gr_to_below hgrow1; have c01 := (hb1.cell (p := ⟨bw, 0, none⟩) hlt).trans c0; have c11 := (hb1.cell (p := ⟨bw, 1, none⟩) hlt).trans c1)
  obtain ⟨g, hgg⟩ : ∃ g, g = w.heap.size := ⟨_, rfl⟩
  have hst : AllLoop w bw w.heap.size l ss.length (.int .i64 (l.length : Int)) (.pointer p) w1 := by
    have h3 := HL.out
    subst h3
    exact all_start HC.out rfl hown1 hgrow1
  have HS := Lib.hid hst
  clear hst hown1 hgrow1 c0 c1 c01 c11 HC hb1
  rw [← hgg] at HS
  have hgl : w.heap.size ≤ g := by omega
  rw [← hgg]
  have HG := Lib.hid hgg; clear hgg
  go_loopg [4, 5] ss.length (fun k v4 v5 wr => AllLoop w bw g l k v4 v5 wr)
  case atStart => exact HS.out
  case round =>
    obtain ⟨rest, p1, suf, hk, rfl, rfl, hc, hsum, hb, hbel⟩ := hrel
    cases rest with
    | nil =>
      obtain rfl : p1 = none := hc
      have hcv : (convert 38 9 (.slice (some ⟨g, 0, none⟩) l.length l.length)).run Tryd.prog wr = .ok (.string ⟨l.toArray⟩) wr := by
        have e : suf = l := by simpa [bytesOf] using hsum
        subst e
        refine run_convert_bytes_back (P := Tryd.prog) wr 38 9 5 ⟨g, 0, none⟩ suf.length suf Tryd.underlying38 Tryd.underlying5 Tryd.underlying9 (fun j hj => ?_)
        have hadd : (⟨g, 0, none⟩ : Addr).add j = ⟨g, j, none⟩ := by unfold Addr.add; split <;> simp_all
        rw [hadd, hb.cell j]
        simp [bytesOf, Cells, List.getElem?_eq_getElem hj]
      clear hb hsum
      go_wp2_with fail
      go_ret
      exact ⟨rfl, hbel⟩
    | cons s rest =>
      obtain ⟨b, p2, rfl, hbw, hblk, hc'⟩ := hc
      have d0 := (hbel.cell (p := ⟨b, 0, none⟩) hblk.lt).trans (hblk.cell 0)
      have d1 := (hbel.cell (p := ⟨b, 1, none⟩) hblk.lt).trans (hblk.cell 1)
      simp at d0 d1
      have hlen : (bytesOf (s :: rest)).length = (bytesOf rest).length + s.size := by simp [bytesOf]
      have htot : (bytesOf rest).length + s.size ≤ l.length := by rw [← hsum, List.length_append, hlen]; omega
      have hcur : (List.replicate (bytesOf (s :: rest)).length (Value.int .u8 0) ++ Cells suf).length = l.length := by
        rw [← hsum, List.length_append, List.length_append, cells_length, List.length_replicate]
      have HT := Lib.hid hsum; clear hsum
      have HB := Lib.hid hb; clear hb
      have HN := Lib.hid hlen
      rw [hlen]
      clear hlen
      have HK := Lib.hid hk; clear hk
      have hEn : ((bytesOf rest).length : Int) ≤ (l.length : Int) := by omega
      have HF : Hid (∀ k, k ≤ l.length → k ≤ (List.replicate (bytesOf (s :: rest)).length (Value.int .u8 0) ++ Cells suf).length) := fun k hk => by rw [hcur]; exact hk
      clear hcur
      go_wp2_with fail
      by_cases hz : (bytesOf rest).length = l.length
      · have hs0 : ¬ 0 < s.size := by omega
        go_region_law (refine step_copy_text rfl (.tmp 34) (.tmp 38) 38 9 rfl 5 Tryd.underlying38 info_u8s _ g (bytesOf rest).length _ _ s _ 5 rfl rfl HB.out.drew (fun h => absurd h hs0) (by omega) (HF.out _ htot) ?_; intro w2 hb2 hg2)
        have hg3 : wr.grownBy w2 (some g) := ⟨hg2.os, hg2.tape, hg2.output, hg2.size, hg2.block⟩
        have hA := Lib.hid (all_step hc' HT.out hgl hb2 hbel hg3)
        have hbel2 : Below w.heap.size w w2 := hbel.grown hg3 hbel.size (by intro k hk; injection hk; omega)
        have e0 := (hbel2.cell (p := ⟨b, 0, none⟩) hblk.lt).trans (hblk.cell 0)
        simp at e0
        clear hb2 hg2 hg3 d0 d1 hbel
        go_wp2_with fail
        go_roundg rest.length
        case measure => have := HK.out; simp at this; omega
        case rel => rw [← hz]; exact hA.out
      · have hz' : ¬ l.length = (bytesOf rest).length := fun h => hz h.symm
        clear hz
        go_region_law (refine step_copy_text rfl (.tmp 34) (.tmp 38) 38 9 rfl 5 Tryd.underlying38 info_u8s _ g (bytesOf rest).length _ _ s _ 5 rfl rfl HB.out.drew (fun _ => rfl) (by omega) (HF.out _ htot) ?_; intro w2 hb2 hg2)
        have hg3 : wr.grownBy w2 (some g) := ⟨hg2.os, hg2.tape, hg2.output, hg2.size, hg2.block⟩
        have hA := Lib.hid (all_step hc' HT.out hgl hb2 hbel hg3)
        have hbel2 : Below w.heap.size w w2 := hbel.grown hg3 hbel.size (by intro k hk; injection hk; omega)
        have e0 := (hbel2.cell (p := ⟨b, 0, none⟩) hblk.lt).trans (hblk.cell 0)
        simp at e0
        clear hb2 hg2 hg3 d0 d1 hbel
        go_wp2_with fail
        go_roundg rest.length
        case measure => have := HK.out; simp at this; omega
        case rel => exact hA.out

theorem bytes_any (bw : Nat) (l : List UInt8) (w : World) (h : Wr w bw l) (hl : l.length ≤ 1099511627776) :
    Calls Tryd.prog 82 #[.pointer (some ⟨bw, 0, none⟩)] w fun e w' => e = .returned (.string ⟨l.toArray⟩) ∧ Below w.heap.size w w' := by
  go_enter Tryd.func82, Tryd.ntmps82
  go_wp2_with (go_at_call 90; refine (all_any bw l _ h hl).mono ?_; rintro e w' ⟨rfl, hb⟩)
  go_ret
  exact ⟨rfl, hb⟩

end Go.Proofs.YtgahcbhdnplnoaaDoor
