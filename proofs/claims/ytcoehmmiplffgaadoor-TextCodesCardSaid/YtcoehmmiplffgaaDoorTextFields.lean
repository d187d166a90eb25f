/- The parts of a first line, and of an instruction's: head, (row).parts. -/
import Derived.Test.YtcoehmmiplffgaaDoorTextParts
import Derived.Test.YtcoehmmiplffgaaDoorTextRows
import Derived.Lib.OthersKept
import Derived.StillTailTactics
namespace Go.Proofs.YtcoehmmiplffgaaDoor
open Go.ChangeShapes Go.WideShapes Go.RowKit Go.Deep

/-- A row of parts of one's own. -/
def RowPa (w : World) (base : Nat) (v : Value) (l : List Pa) : Prop := w.ownsRow base 105 2 v l.length (flatPa l)
theorem flatPa_append (a b : List Pa) : flatPa (a ++ b) = flatPa a ++ flatPa b := by simp [flatPa]
theorem flatPa_one (p : Pa) : flatPa [p] = [.pointer p.p0, .pointer p.p1] := by simp [flatPa, Pa.cells]
theorem info_part : (Tryd.prog.info? 105).map (fun i => (i.zero, i.size, i.bytes)) = some (some (.agg #[.pointer none, .pointer none]), 2, 16) := by kernel_rfl
theorem RowPa.nil (w : World) (base : Nat) : RowPa w base (.slice none 0 0) [] := World.ownsRow_nil _ _ _ _
theorem RowPa.alloc {w : World} {base : Nat} {v : Value} {l : List Pa} (h : RowPa w base v l) (o : Obj) : RowPa (w.alloc o) base v l := World.ownsRow.alloc h o
theorem RowPa.below {w w' : World} {base : Nat} {v : Value} {l : List Pa} (h : RowPa w base v l) (hb : Below w.heap.size w w') : RowPa w' base v l :=
  World.ownsRow.kept (row := none) h (gr_of_below hb none) (by cases h2 : v.ownBlock <;> simp)
theorem RowPa.less {w : World} {base base' : Nat} {v : Value} {l : List Pa} (h : RowPa w base v l) (hb : base' ≤ base) : RowPa w base' v l := by
  refine ⟨h.1, ?_⟩
  rcases h.2 with hn | ⟨g, cap, cur, h1, h2, h3⟩
  · exact .inl hn
  · exact .inr ⟨g, cap, cur, h1, Nat.le_trans hb h2, h3⟩
theorem RowPa.form {w : World} {base : Nat} {v : Value} {l : List Pa} (h : RowPa w base v l) : ∃ A cap, v = .slice A l.length cap := by
  rcases h.2 with ⟨hv, h0⟩ | ⟨g, cap, cur, hv, _⟩
  · exact ⟨none, 0, by rw [hv, h0]⟩
  · exact ⟨_, _, hv⟩

theorem flatPa_at : ∀ (l : List Pa) (j : Nat) (p : Pa), l[j]? = some p → (flatPa l)[j * 2]? = some (.pointer p.p0) ∧ (flatPa l)[j * 2 + 1]? = some (.pointer p.p1)
  | [], j, p, h => by simp at h
  | q :: l, 0, p, h => by
    simp at h
    subst h
    simp [flatPa, Pa.cells]
  | q :: l, j + 1, p, h => by
    have h1 := flatPa_at l j p (by simpa using h)
    rw [show flatPa (q :: l) = [.pointer q.p0, .pointer q.p1] ++ flatPa l from rfl, List.getElem?_append_right (by simp; omega), List.getElem?_append_right (by simp; omega)]
    simp only [List.length_cons, List.length_nil]
    rw [show (j + 1) * 2 - (0 + 1 + 1) = j * 2 by omega, show (j + 1) * 2 + 1 - (0 + 1 + 1) = j * 2 + 1 by omega]
    exact h1

/-- What is made by a call reads as its parts. -/
theorem RowPa.pas {w : World} {base : Nat} {v : Value} {l : List Pa} (h : RowPa w base v l) (B : Nat) (hl : l.length ≤ maxLen) : PaS B w v l := by
  have h' := h
  rcases h.2 with ⟨rfl, h0⟩ | ⟨g, cap, cur, rfl, hb, hg, hn, hm, _⟩
  · refine ⟨none, 0, by rw [h0], hl, fun j s hj => ?_⟩
    have := (List.getElem?_eq_some_iff.1 hj).1
    omega
  · refine ⟨some ⟨g, 0, none⟩, cap, rfl, hl, fun j p hj => ?_⟩
    obtain ⟨e0, e1⟩ := flatPa_at l j p hj
    have f0 := World.ownsRow.cells h' (g := g) rfl (j * 2) _ e0
    have f1 := World.ownsRow.cells h' (g := g) rfl (j * 2 + 1) _ e1
    rw [Addr.add_lit, Nat.zero_add] at f0 f1
    refine ⟨g, 0, rfl, ⟨(World.ownsRow.lt h' g rfl).2, .inr ⟨_, cur, hg, rfl⟩⟩, ?_, ?_⟩
    · rw [Nat.zero_add]; exact f0
    · rw [Nat.zero_add]; exact f1

theorem wpList_append_pa {ops : Array Oper} {rest : List Oper} {o : Oper} {a : Act} {w : World} {Q : Exit → Act → World → Prop} (hg : o.guard = none) (s x : Operand)
    (ho : o.op = .call { callee := .builtin .append, args := #[s, x], argTypes := #[80, 80] })
    {base g c : Nat} {v1 : Value} {l : List Pa} (p : Pa) (h : RowPa w base v1 l) (h0 : w.cell? ⟨g, 0, none⟩ = some (.pointer p.p0)) (h1 : w.cell? ⟨g, 1, none⟩ = some (.pointer p.p1)) (hl : l.length ≤ 2097152) (hb : base ≤ w.heap.size) (hs : a.eval s = v1) (hx : a.eval x = .slice (some ⟨g, 0, none⟩) 1 c)
    (hK : ∀ v3 w', RowPa w' base v3 (l ++ [p]) → w.grownBy w' v1.ownBlock → wpList Tryd.prog ops Q rest (a.put o.dst v3) w') : wpList Tryd.prog ops Q (o :: rest) a w := by
  obtain ⟨i0, hi, hz0, hz1, hz2⟩ := info_parts info_part
  refine wpList_append_own (P := Tryd.prog) w hg s x 80 ho base 105 i0 (.agg #[.pointer none, .pointer none]) 2 16 Tryd.underlying80 hi hz0 hz1 hz2 rfl (by decide) v1 l.length (flatPa l) hs h ⟨g, 0, none⟩ 1 c (flatPa [p]) hx rfl ?_ ?_ (by unfold maxLen; omega) (by omega) hb ?_
  · intro j u hj
    rw [Addr.add_lit]
    rw [flatPa_one] at hj
    match j, hj with
    | 0, hj => rw [h0]; simpa using hj
    | 1, hj => rw [h1]; simpa using hj
    | j + 2, hj => simp at hj
  · intro u hu
    rw [flatPa_one] at hu
    simp at hu
    rcases hu with rfl | rfl <;> rfl
  · intro v' w' h2 h3 _
    refine hK v' w' ?_ h3
    unfold RowPa
    rw [List.length_append, flatPa_append]
    exact h2

/-! ### the first line -/
def headPa (code : Bool) (g : Nat) : List Pa := ⟨true, g, 0⟩ :: ⟨false, g, 1⟩ :: ⟨false, g, 2⟩ :: (if code then [⟨false, g, 3⟩] else [])

set_option maxRecDepth 20000 in
set_option maxHeartbeats 1000000 in
theorem head_any (code : Bool) (g : Nat) (w : World) :
    Calls Tryd.prog 41 #[.int .i64 (kd code), .pointer (some ⟨g, 0, none⟩)] w fun e w' => (∃ v, e = .returned v ∧ RowPa w' w.heap.size v (headPa code g)) ∧ Below w.heap.size w w' := by
  have h3 : RowPa ((w.alloc (.cells #[.pointer (some ⟨g, 0, none⟩), .pointer none, .pointer none, .pointer (some ⟨g, 1, none⟩), .pointer none, .pointer (some ⟨g, 2, none⟩)] 105)).drew) w.heap.size (.slice (some ⟨w.heap.size, 0, none⟩) 3 3) [⟨true, g, 0⟩, ⟨false, g, 1⟩, ⟨false, g, 2⟩] :=
    World.ownsRow_lit (base := w.heap.size) (e := 105) (size := 2) w _ 3 (Nat.le_refl _) (by unfold maxLen; omega) rfl
  have HR := Lib.hid h3
  have HB := Lib.hid (show Below w.heap.size w ((w.alloc (.cells #[.pointer (some ⟨g, 0, none⟩), .pointer none, .pointer none, .pointer (some ⟨g, 1, none⟩), .pointer none, .pointer (some ⟨g, 2, none⟩)] 105)).drew) from ((Below.refl _ _).alloc (Nat.le_refl _) _).drew)
  clear h3
  cases code with
  | false =>
    rw [kd_false]
    go_enter Tryd.func41, Tryd.ntmps41
    go_wp2_with fail
    go_still_tail 12, (by kernel_rfl)
    go_wp2_with fail
    go_ret
    exact ⟨⟨_, rfl, HR.out⟩, HB.out⟩
  | true =>
    rw [kd_true]
    go_enter Tryd.func41, Tryd.ntmps41
    go_wp2_with fail
    go_still_tail 12, (by kernel_rfl)
    go_upto_region 3 with fail
    generalize (w.alloc (.cells #[.pointer (some ⟨g, 0, none⟩), .pointer none, .pointer none, .pointer (some ⟨g, 1, none⟩), .pointer none, .pointer (some ⟨g, 2, none⟩)] 105)).drew = w1 at *
    go_wp2_with (at_builtin; refine wpList_append_pa rfl _ _ rfl ⟨false, g, 3⟩ (HR.out.alloc _) ((Blk.new _ _ _).cell 0) ((Blk.new _ _ _).cell 1) (by simp) (Nat.le_trans HB.out.size (by simp)) rfl rfl ?_; intro v3 w3 hrow hgrow)
    go_ret
    exact ⟨⟨_, rfl, hrow⟩, (HB.out.alloc HB.out.size _).grown hgrow (Nat.le_trans HB.out.size (by simp)) (fun k hk => (World.ownsRow.lt HR.out k hk).1)⟩
end Go.Proofs.YtcoehmmiplffgaaDoor
