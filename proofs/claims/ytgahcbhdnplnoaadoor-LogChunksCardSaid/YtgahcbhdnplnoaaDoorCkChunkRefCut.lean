/- What the document's Cut comes to. -/
import Derived.Test.YtgahcbhdnplnoaaDoorCkChunkCut
import Derived.LoopTactic
import Derived.Outline
import Derived.OwnWalk
import Derived.Deep.AppendLies
namespace Go.Proofs.YtgahcbhdnplnoaaDoor
open Go.RowKit

/-- What the loop knows: the pieces of pre are there, those of r are to come. -/
def CutLoop (base : Nat) (s : ByteArray) (w : World) (v0 v3 : Value) (wr : World) : Prop :=
  ∃ (pre : List ByteArray) (r : ByteArray), v0 = .string r ∧ r.size ≤ 1048576 ∧ pre ++ cutB r = cutB s ∧ wr.ownsRow base 9 1 v3 pre.length (pre.map Value.string) ∧ Below base w wr

theorem own_none (w : World) : (w.alloc (.cells #[] 9)).ownsRow w.heap.size 9 1 (.slice (some ⟨w.heap.size, 0, none⟩) 0 0) 0 [] :=
  ⟨rfl, .inr ⟨w.heap.size, 0, #[], rfl, Nat.le_refl _, heap_alloc_new w _, Nat.le_refl _, Nat.zero_le _, rfl, rfl⟩⟩

theorem one_str (x : ByteArray) : ∀ u ∈ [Value.string x], u.oneCell' = true := by
  intro u hu; simp at hu; subst hu; rfl

theorem strs_one (l : List ByteArray) : ∀ u ∈ l.map Value.string, u.oneCell' = true := by
  intro u hu
  simp only [List.mem_map] at hu
  obtain ⟨b, _, rfl⟩ := hu
  rfl

/-- One piece more. -/
theorem own_piece {w1 : World} {base g1 cap1 : Nat} {pre : List ByteArray} {x : ByteArray}
    (h : w1.ownsRow base 9 1 (.slice (some ⟨g1, 0, none⟩) (pre.length + 1) cap1) (pre.length + 1) (pre.map Value.string ++ [.string x])) :
    w1.ownsRow base 9 1 (.slice (some ⟨g1, 0, none⟩) (pre.length + 1) cap1) (pre ++ [x]).length ((pre ++ [x]).map Value.string) := by
  simpa using h

theorem base_up {B : Nat} {w wr : World} (h : Below B w wr) (hB : B ≤ w.heap.size) (o : Obj) : B ≤ (wr.alloc o).heap.size := by
  have h1 := h.size
  show B ≤ (wr.heap.push o).size
  rw [Array.size_push]; omega
theorem below_piece {B : Nat} {w wr w1 : World} {row : Option Nat} (h : Below B w wr) (hB : B ≤ w.heap.size) (o : Obj) (hg : (wr.alloc o).grownBy w1 row) (hr : ∀ k, row = some k → B ≤ k) : Below B w w1 :=
  (h.alloc (Nat.le_trans hB h.size) o).grown hg (base_up h hB o) hr

set_option maxRecDepth 20000 in
set_option maxHeartbeats 1000000 in
theorem chunkcut_ref (s : ByteArray) (w : World) (hs : s.size ≤ 1048576) :
    Calls Tryd.prog 34 #[.string s] w fun e W' => ∃ v, e = .returned v ∧ W'.ownsRow w.heap.size 9 1 v (cutB s).length ((cutB s).map Value.string) ∧ Below w.heap.size w W' := by
  have hlen := cutB_len _ s hs
  obtain ⟨i0, hi, hz0, hz1, hz2⟩ := info_parts info_str
  go_enter Tryd.func34, Tryd.ntmps34
  go_wp2_with fail
  go_loopw [0, 3] (CutLoop w.heap.size s w) (fun r _ _ => strLen r)
  case atStart => exact ⟨[], s, rfl, hs, rfl, own_none w, (Below.refl _ _).alloc (Nat.le_refl _) _⟩
  case round =>
    obtain ⟨pre, r, rfl, hr, hx, hown, hbel⟩ := hrel
    have hpl : pre.length ≤ 1048577 := by
      have := congrArg List.length hx
      rw [List.length_append] at this
      omega
    have HX := Lib.hid hx; clear hx
    by_cases hl : 96 < r.size
    · have hli : 96 < (r.size : Int) := by omega
      go_wp2_with (at_builtin; refine wpList_append_lies _ rfl (.tmp 8) (.tmp 11) 22 rfl w.heap.size 9 i0 (.string ⟨#[]⟩) 1 16 Tryd.underlying22 hi hz0 hz1 hz2 rfl (by decide) u3 pre.length _ rfl (hown.alloc _) ⟨wr.heap.size, 0, none⟩ 1 1 [.string (r.extract 0 96)] rfl rfl (cell_one_new wr _ 9) (one_str _) (by decide) (by unfold maxLen; omega) (by omega) (base_up hbel (Nat.le_refl _) _) _ rfl ?_; intro g1 cap1 w1 hown1 hgrow1 _ _)
      have hown2 := own_piece hown1
      have hbel2 := below_piece hbel (Nat.le_refl _) _ hgrow1 (fun j hj => (hown.lt j hj).1)
      clear hgrow1 hown1 hown hbel
      go_wp2_with fail
      go_roundw
      case rel => exact ⟨_, r.extract 96 r.size, rfl, by rw [ByteArray.size_extract]; omega, by rw [← HX.out, cutB_long r hl]; simp, hown2, hbel2⟩
      case measure => simp only [strLen]; rw [ByteArray.size_extract]; omega
    · have hli : (r.size : Int) ≤ 96 := by omega
      go_wp2_with (at_builtin; refine wpList_append_lies _ rfl (.tmp 15) (.tmp 17) 22 rfl w.heap.size 9 i0 (.string ⟨#[]⟩) 1 16 Tryd.underlying22 hi hz0 hz1 hz2 rfl (by decide) u3 pre.length _ rfl (hown.alloc _) ⟨wr.heap.size, 0, none⟩ 1 1 [.string r] rfl rfl (cell_one_new wr _ 9) (one_str _) (by decide) (by unfold maxLen; omega) (by omega) (base_up hbel (Nat.le_refl _) _) _ rfl ?_; intro g1 cap1 w1 hown1 hgrow1 _ _)
      have hown2 := own_piece hown1
      have hbel2 := below_piece hbel (Nat.le_refl _) _ hgrow1 (fun j hj => (hown.lt j hj).1)
      clear hgrow1 hown1 hown hbel
      go_wp2_with fail
      go_ret
      have hxx := HX.out
      rw [cutB_short r (by omega)] at hxx
      rw [hxx] at hown2
      exact ⟨_, rfl, hown2, hbel2⟩

end Go.Proofs.YtgahcbhdnplnoaaDoor
