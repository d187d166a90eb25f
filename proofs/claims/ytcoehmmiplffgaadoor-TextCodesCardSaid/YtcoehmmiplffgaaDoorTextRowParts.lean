/- The parts of an instruction's line: (row).parts. -/
import Derived.Test.YtcoehmmiplffgaaDoorTextFields
namespace Go.Proofs.YtcoehmmiplffgaaDoor
open Go.ChangeShapes Go.WideShapes Go.RowKit Go.Deep

/-- The part that a field is, of the instruction in block g. -/
def paF (g : Nat) (c : UInt8) : Pa := if c = 68 then ⟨false, g, 1⟩ else if c = 65 then ⟨false, g, 2⟩ else if c = 66 then ⟨false, g, 3⟩ else ⟨true, g, 4⟩
def argPa (A : Option Addr) (j : Nat) : Pa :=
  match A with
  | some a => ⟨false, a.block, a.off + j⟩
  | none => ⟨false, 0, 0⟩
def insPa (g : Nat) (f : List UInt8) (a : Bool) (A : Option Addr) (n : Nat) : List Pa := f.map (paF g) ++ if a then (List.range n).map (argPa A) else []
def okF (c : UInt8) : Prop := c = 68 ∨ c = 65 ∨ c = 66 ∨ c = 78

theorem size_mk (l : List UInt8) : (⟨l.toArray⟩ : ByteArray).size = l.length := by simp [ByteArray.size]
theorem get_mk (l : List UInt8) (k : Nat) (_h : k < (⟨l.toArray⟩ : ByteArray).size) (h' : k < l.length) : (⟨l.toArray⟩ : ByteArray)[k] = l[k] := by
  show l.toArray[k] = l[k]
  simp

theorem map_up {α β : Type} {l : List α} {f : α → β} {k : Nat} {x : α} (h : l[k]? = some x) : (l.take (k + 1)).map f = (l.take k).map f ++ [f x] := by
  obtain ⟨h1, rfl⟩ := List.getElem?_eq_some_iff.1 h
  rw [List.take_succ_eq_append_getElem h1, List.map_append]
  rfl
theorem range_up {β : Type} (f : Nat → β) (k : Nat) : (List.range (k + 1)).map f = (List.range k).map f ++ [f k] := by
  rw [List.range_succ, List.map_append]
  rfl

theorem row_iter {w : World} {base : Nat} {v : Value} {l : List Pa} (h : RowPa w base v l) {k : Nat} (hk : k < base) (s : ByteArray) (p : Nat) : RowPa (w.iterAt k s p) base v l := ownsRow_iterAt h hk s p

/-- What the loop over the fields knows; W: the world in which it began, its iterator is the next block. -/
structure FdAt (W : World) (f : List UInt8) (g k : Nat) (v : Value) (wr : World) : Prop where
  it : wr.heap[W.heap.size]? = some (.stringIter ⟨f.toArray⟩ k)
  row : RowPa wr (W.heap.size + 1) v ((f.take k).map (paF g))
  below : Below W.heap.size W wr

theorem FdAt.next {W : World} {f : List UInt8} {g k : Nat} {v : Value} {wr : World} (h : FdAt W f g k v wr) {c : UInt8} (hc : f[k]? = some c) {o : Obj} {v' : Value} {w' : World}
    (hrow : RowPa w' (W.heap.size + 1) v' ((f.take k).map (paF g) ++ [paF g c])) (hg : ((wr.iterAt W.heap.size ⟨f.toArray⟩ (k + 1)).alloc o).grownBy w' v.ownBlock) : FdAt W f g (k + 1) v' w' := by
  have hb2 := Lib.below_iterAt h.below (k := W.heap.size) (Nat.le_refl _) ⟨f.toArray⟩ (k + 1)
  have hit2 := Lib.iterAt_heap wr W.heap.size ⟨f.toArray⟩ k (k + 1) h.it
  have hlt : W.heap.size < (wr.iterAt W.heap.size ⟨f.toArray⟩ (k + 1)).heap.size := lt_of_block hit2
  refine ⟨?_, by rw [map_up hc]; exact hrow, ?_⟩
  · rw [hg.block W.heap.size (by simp; omega) (fun e => by have := (World.ownsRow.lt h.row _ e.symm).1; omega), Below.heap_alloc _ _ _ hlt]
    exact hit2
  · exact Below.grown (hb2.alloc hb2.size _) hg (by have := hb2.size; simp; omega) (fun j hj => by have := (World.ownsRow.lt h.row _ hj).1; omega)

set_option maxRecDepth 100000 in
set_option maxHeartbeats 4000000 in
theorem rowparts_any (r : Rw) (g n cap : Nat) (A : Option Addr) (w : World) (hf : ∀ c ∈ r.f, okF c) (hlen : r.f.length ≤ 10) (hg : g < w.heap.size) (hx : r.a = true → w.cell? ⟨g, 5, none⟩ = some (.slice A n cap)) (hA : ∀ j, j < n → ∃ b off, A = some ⟨b, off, none⟩) (hn : n ≤ 1000000) (hnc : n ≤ cap) :
    Calls Tryd.prog 61 #[r.v, .pointer (some ⟨g, 0, none⟩)] w fun e w' => (∃ v, e = .returned v ∧ RowPa w' w.heap.size v (insPa g r.f r.a A n)) ∧ Below w.heap.size w w' := by
  obtain ⟨op, wd, f, a, o⟩ := r
  show Calls _ _ #[.agg #[.int .i64 op, .string ⟨wd.toArray⟩, .string ⟨f.toArray⟩, .bool a, .int .i64 o], _] _ _
  have hB := Blk.new w 108 #[.int .i64 op, .string ⟨wd.toArray⟩, .string ⟨f.toArray⟩, .bool a, .int .i64 o]
  obtain ⟨c0, c1, c2, c3, c4⟩ := cells5 hB
  have HB := Lib.hid hB
  have HF := Lib.hid (And.intro hf hlen)
  have HX := Lib.hid (And.intro hg (And.intro hx (And.intro hA (And.intro hn hnc))))
  have hw1 : Below w.heap.size w (w.alloc (.cells #[.int .i64 op, .string ⟨wd.toArray⟩, .string ⟨f.toArray⟩, .bool a, .int .i64 o] 108)) := (Below.refl _ _).alloc (Nat.le_refl _) _
  have HW := Lib.hid hw1
  have hz1 : (w.alloc (.cells #[.int .i64 op, .string ⟨wd.toArray⟩, .string ⟨f.toArray⟩, .bool a, .int .i64 o] 108)).heap.size = w.heap.size + 1 := by simp
  have HZ := Lib.hid hz1
  clear hB hf hlen hg hx hA hn hnc hw1 hz1
  go_enter Tryd.func61, Tryd.ntmps61
  go_upto_region 1 with fail
  generalize w.alloc (.cells #[.int .i64 op, .string ⟨wd.toArray⟩, .string ⟨f.toArray⟩, .bool a, .int .i64 o] 108) = W at *
  go_wp2_with fail
  go_loopw [5] (fun v wr => ∃ k : Nat, k ≤ f.length ∧ FdAt W f g k v wr) (fun _ wr => f.length - wr.iterPos W.heap.size)
  case atStart => exact ⟨0, Nat.zero_le _, World.iter_heap W ⟨f.toArray⟩ 0, World.ownsRow_nil _ _ _ _, (Below.refl _ _).alloc (Nat.le_refl _) _⟩
  case round =>
    obtain ⟨k, hk, hR⟩ := hrel
    have HR := Lib.hid hR
    have hpos := iterPos_of hR.it
    have HPOS := Lib.hid hpos
    clear hpos
    by_cases hlt : k < f.length
    · have hc : f[k]? = some f[k] := List.getElem?_eq_getElem hlt
      have hin := HF.out.1 f[k] (List.getElem_mem hlt)
      have hs : k < (⟨f.toArray⟩ : ByteArray).size := by rw [size_mk]; exact hlt
      have hget := get_mk f k hs hlt
      have hrow2 := row_iter hR.row (k := W.heap.size) (by omega) ⟨f.toArray⟩ (k + 1)
      have hsz2 : W.heap.size + 1 ≤ (wr.iterAt W.heap.size ⟨f.toArray⟩ (k + 1)).heap.size := lt_of_block (Lib.iterAt_heap wr W.heap.size ⟨f.toArray⟩ k (k + 1) hR.it)
      have hll : ((f.take k).map (paF g)).length ≤ 2097152 := by
        have := HF.out.2
        rw [List.length_map, List.length_take]
        omega
      have HC := Lib.hid (And.intro hrow2 (And.intro hsz2 hll))
      have hit := hR.it
      have hdec : ∀ (c : UInt8), f[k] = c → c.toNat < 128 → ∀ ty, (Instr.next (.pointer (some ⟨W.heap.size, 0, none⟩)) true ty).run Tryd.prog wr = .ok (.tuple #[.bool true, .int .i64 k, .int .i32 c.toNat]) (wr.iterAt W.heap.size ⟨f.toArray⟩ (k + 1)) := fun c e h ty => by
        have h1 := Lib.run_next_ascii_at (P := Tryd.prog) wr W.heap.size ⟨f.toArray⟩ k ty hit hs (by rw [hget, e]; exact h)
        rw [hget, e] at h1
        exact h1
      clear hrow2 hsz2 hll hR
      rcases hin with e | e | e | e
      · have hnx := hdec 68 e (by decide)
        have HN := Lib.hid (show f[k]? = some 68 by rw [hc, e])
        clear hdec hit hget hs hc e
        go_wp2_with (at_builtin; refine wpList_append_pa rfl _ _ rfl (paF g 68) (HC.out.1.alloc _) ((Blk.new _ _ _).cell 0) ((Blk.new _ _ _).cell 1) HC.out.2.2 (by have := HC.out.2.1; simp; omega) rfl rfl ?_; intro v3 w3 hrow hgrow; have HE := Lib.hid (HR.out.next HN.out hrow hgrow); clear hrow hgrow)
        go_roundw
        case rel => exact ⟨k + 1, by omega, HE.out⟩
        case measure => rw [iterPos_of HE.out.it, HPOS.out]; omega
      · have hnx := hdec 65 e (by decide)
        have HN := Lib.hid (show f[k]? = some 65 by rw [hc, e])
        clear hdec hit hget hs hc e
        go_wp2_with (at_builtin; refine wpList_append_pa rfl _ _ rfl (paF g 65) (HC.out.1.alloc _) ((Blk.new _ _ _).cell 0) ((Blk.new _ _ _).cell 1) HC.out.2.2 (by have := HC.out.2.1; simp; omega) rfl rfl ?_; intro v3 w3 hrow hgrow; have HE := Lib.hid (HR.out.next HN.out hrow hgrow); clear hrow hgrow)
        go_roundw
        case rel => exact ⟨k + 1, by omega, HE.out⟩
        case measure => rw [iterPos_of HE.out.it, HPOS.out]; omega
      · have hnx := hdec 66 e (by decide)
        have HN := Lib.hid (show f[k]? = some 66 by rw [hc, e])
        clear hdec hit hget hs hc e
        go_wp2_with (at_builtin; refine wpList_append_pa rfl _ _ rfl (paF g 66) (HC.out.1.alloc _) ((Blk.new _ _ _).cell 0) ((Blk.new _ _ _).cell 1) HC.out.2.2 (by have := HC.out.2.1; simp; omega) rfl rfl ?_; intro v3 w3 hrow hgrow; have HE := Lib.hid (HR.out.next HN.out hrow hgrow); clear hrow hgrow)
        go_roundw
        case rel => exact ⟨k + 1, by omega, HE.out⟩
        case measure => rw [iterPos_of HE.out.it, HPOS.out]; omega
      · have hnx := hdec 78 e (by decide)
        have HN := Lib.hid (show f[k]? = some 78 by rw [hc, e])
        clear hdec hit hget hs hc e
        go_wp2_with (at_builtin; refine wpList_append_pa rfl _ _ rfl (paF g 78) (HC.out.1.alloc _) ((Blk.new _ _ _).cell 0) ((Blk.new _ _ _).cell 1) HC.out.2.2 (by have := HC.out.2.1; simp; omega) rfl rfl ?_; intro v3 w3 hrow hgrow; have HE := Lib.hid (HR.out.next HN.out hrow hgrow); clear hrow hgrow)
        go_roundw
        case rel => exact ⟨k + 1, by omega, HE.out⟩
        case measure => rw [iterPos_of HE.out.it, HPOS.out]; omega
    · obtain rfl : k = f.length := by omega
      have hs : ¬ f.length < (⟨f.toArray⟩ : ByteArray).size := by rw [size_mk]; omega
      have hnx : ∀ ty, (Instr.next (.pointer (some ⟨W.heap.size, 0, none⟩)) true ty).run Tryd.prog wr = .ok (.tuple #[.bool false]) wr := fun ty => Lib.run_next_end_at wr W.heap.size ⟨f.toArray⟩ f.length ty hR.it hs
      have hrow : RowPa wr (W.heap.size + 1) u5 (f.map (paF g)) := by
        have := hR.row
        rwa [List.take_of_length_le (Nat.le_refl _)] at this
      have hb : Below w.heap.size w wr := HW.out.trans (hR.below.mono HW.out.size)
      have d3 := (HB.out.older hR.below (by have := HZ.out; omega)).cell 3
      have HRow := Lib.hid (And.intro hrow (And.intro hb (show W.heap.size + 1 ≤ wr.heap.size from lt_of_block hR.it)))
      clear hs hrow hb hR hlt
      cases a with
      | false =>
        have HE := Lib.hid (show RowPa wr w.heap.size u5 (insPa g f false A n) from by unfold insPa; rw [if_neg (by decide), List.append_nil]; exact HRow.out.1.less (by have := HZ.out; omega))
        go_wp2_with fail
        go_ret
        exact ⟨⟨_, rfl, HE.out⟩, HRow.out.2.1⟩
      | true =>
        have HX5 := Lib.hid (HX.out.2.1 rfl)
        have x5 := (HRow.out.2.1.cell (p := ⟨g, 5, none⟩) HX.out.1).trans HX5.out
        have hn2 : (n : Int) ≤ 1000000 := by have := HX.out.2.2.2.1; omega
        go_wp2_with fail
        go_loopw [5, 59] (fun v i wr => ∃ k : Nat, k ≤ n ∧ i = .int .i64 (k : Int) ∧ RowPa wr (W.heap.size + 1) v (f.map (paF g) ++ (List.range k).map (argPa A)) ∧ Below w.heap.size w wr ∧ W.heap.size + 1 ≤ wr.heap.size) (fun _ i _ => n - (intOf i).toNat)
        case atStart => exact ⟨0, Nat.zero_le _, rfl, by rw [List.range_zero, List.map_nil, List.append_nil]; exact HRow.out.1, HRow.out.2.1, HRow.out.2.2⟩
        case round =>
          clear x5
          obtain ⟨k, hk, rfl, hrow, hb, hsz⟩ := hrel
          have x5 := (hb.cell (p := ⟨g, 5, none⟩) HX.out.1).trans HX5.out
          have HQ := Lib.hid (And.intro hrow (And.intro hb hsz))
          clear hrow hb hsz
          by_cases hlt : k < n
          · have hlt' : (k : Int) < (n : Int) := by omega
            obtain ⟨ab, ao, hAA⟩ := HX.out.2.2.1 k hlt
            subst hAA
            have hll : (f.map (paF g) ++ (List.range k).map (argPa (some ⟨ab, ao, none⟩))).length ≤ 2097152 := by
              have := HF.out.2
              have := HX.out.2.2.2.1
              simp only [List.length_append, List.length_map, List.length_range]
              omega
            have HLL := Lib.hid hll
            clear hll
            go_wp2_with (at_builtin; refine wpList_append_pa rfl _ _ rfl (argPa (some ⟨ab, ao, none⟩) k) (HQ.out.1.alloc _) ((Blk.new _ _ _).cell 0) ((Blk.new _ _ _).cell 1) HLL.out (by have := HQ.out.2.2; simp; omega) rfl rfl ?_; intro v3 w3 hrow hgrow; have HE := Lib.hid (And.intro hrow (And.intro ((HQ.out.2.1.alloc HQ.out.2.1.size _).grown hgrow (by have := HQ.out.2.1.size; simp; omega) (fun j hj => by have := (World.ownsRow.lt HQ.out.1 _ hj).1; have := HZ.out; omega)) (by have := hgrow.size; simp at this; have := HQ.out.2.2; omega : W.heap.size + 1 ≤ w3.heap.size))); clear hrow hgrow)
            go_roundw
            case rel => exact ⟨k + 1, by omega, by go_num, by rw [range_up, ← List.append_assoc]; exact HE.out.1, HE.out.2.1, HE.out.2.2⟩
            case measure => simp [intOf]; omega
          · obtain rfl : k = n := by omega
            have HE := Lib.hid (show RowPa _ w.heap.size _ (insPa g f true A k) from by unfold insPa; rw [if_pos rfl]; exact HQ.out.1.less (by have := HZ.out; omega))
            go_wp2_with fail
            go_ret
            exact ⟨⟨_, rfl, HE.out⟩, HQ.out.2.1⟩
end Go.Proofs.YtcoehmmiplffgaaDoor
