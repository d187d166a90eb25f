/- Copies of blocks that the law makes itself: rows of instructions in a row of blocks; a store into one of them. -/
import Derived.Test.YtkkbmfgkapdndaaDoorIrZero
import Derived.Laws.OwnMore
import Derived.Deep.AppendLies
import Derived.Deep.Onto
import Derived.Deep.MidRow
namespace Go.Proofs.YtkkbmfgkapdndaaDoor
open Go.ChangeShapes Go.WideShapes Go.RowKit Go.Deep

/-- Instructions as they lie, one behind the other. -/
def Flat (w : World) (fl : List Value) (b : List Ir.In) : Prop :=
  fl.length = b.length * 6 ∧ (∀ u ∈ fl, u.oneCell' = true) ∧ ∀ m x, b[m]? = some x → ∃ cs, cs.length = 6 ∧ (∀ i u, cs[i]? = some u → fl[m * 6 + i]? = some u) ∧ InR w cs x

/-- A block that reads as b lies somewhere, flat. -/
theorem flat_of {w : World} {A : Option Addr} {n cap : Nat} {b : List Ir.In} (h : Insl w (.slice A n cap) b) (h0 : 0 < b.length) :
    ∃ bl off fl, n = b.length ∧ A = some ⟨bl, off, none⟩ ∧ bl < w.heap.size ∧ Flat w fl b ∧ ∀ j u, fl[j]? = some u → w.cell? ⟨bl, off + j, none⟩ = some u := by
  obtain ⟨A', cap', e, -, h3⟩ := h
  simp at e
  obtain ⟨rfl, rfl, rfl⟩ := e
  obtain ⟨x0, hx0⟩ : ∃ x0, b[0]? = some x0 := ⟨_, List.getElem?_eq_getElem h0⟩
  obtain ⟨bl, off, -, rfl, hlt, -⟩ := h3 0 x0 hx0
  have key : ∀ m x, b[m]? = some x → ∃ cs, cs.length = 6 ∧ (∀ i u, cs[i]? = some u → w.cell? ⟨bl, off + (m * 6 + i), none⟩ = some u) ∧ InR w cs x := by
    intro m x hx
    obtain ⟨b', o', cs, e, _, h5, h6, h7⟩ := h3 m x hx
    injection e with e
    injection e with e1 e2
    subst e1 e2
    exact ⟨cs, h5, fun i u hu => by rw [← Nat.add_assoc]; exact h6 i u hu, h7⟩
  have all : ∀ j, j < b.length * 6 → ∃ u, w.cell? ⟨bl, off + j, none⟩ = some u ∧ u.oneCell' = true := by
    intro j hj
    obtain ⟨x, hx⟩ : ∃ x, b[j / 6]? = some x := ⟨_, List.getElem?_eq_getElem (by omega)⟩
    obtain ⟨cs, h5, h6, sl, h7, hn, -⟩ := key _ x hx
    obtain ⟨u, hu⟩ : ∃ u, cs[j % 6]? = some u := ⟨_, List.getElem?_eq_getElem (by omega)⟩
    have := h6 _ u hu
    rw [show j / 6 * 6 + j % 6 = j by omega] at this
    refine ⟨u, this, ?_⟩
    obtain ⟨D, c, rfl, -⟩ := hn
    rw [h7] at hu
    have hm := List.mem_of_getElem? hu
    simp at hm
    rcases hm with rfl | rfl | rfl | rfl | rfl | rfl <;> rfl
  refine ⟨bl, off, (List.range (b.length * 6)).map fun j => (w.cell? ⟨bl, off + j, none⟩).getD undef, rfl, rfl, hlt, ⟨by simp, ?_, ?_⟩, ?_⟩
  · intro u hu
    obtain ⟨j, hj, rfl⟩ := List.mem_map.1 hu
    obtain ⟨v, h1, h2⟩ := all j (List.mem_range.1 hj)
    rw [h1]
    exact h2
  · intro m x hx
    obtain ⟨cs, h5, h6, h7⟩ := key m x hx
    have hm := (List.getElem?_eq_some_iff.1 hx).1
    refine ⟨cs, h5, fun i u hu => ?_, h7⟩
    have hi := (List.getElem?_eq_some_iff.1 hu).1
    rw [List.getElem?_map, List.getElem?_range (by omega), Option.map_some, h6 i u hu]
    rfl
  · intro j u hu
    rw [List.getElem?_map] at hu
    have hj : j < b.length * 6 := by
      apply Classical.byContradiction
      intro hn
      rw [List.getElem?_eq_none (by simp; omega)] at hu
      simp at hu
    rw [List.getElem?_range hj, Option.map_some] at hu
    obtain ⟨v, h1, -⟩ := all j hj
    rw [h1] at hu ⊢
    exact hu

/-- A row of one's own that is empty. -/
theorem ins_none (w : World) (base : Nat) (hb : base ≤ w.heap.size) : (w.alloc (.cells #[] 32)).ownsRow base 32 6 (.slice (some ⟨w.heap.size, 0, none⟩) 0 0) 0 [] :=
  World.ownsRow_lit (base := base) (e := 32) (size := 6) w #[] 0 hb (by unfold maxLen; omega) rfl

theorem info_ins : (Tryd.prog.info? 32).map (fun i => (i.zero, i.size, i.bytes)) = some (some (.agg #[.int .i64 0, .int .i64 0, .int .i64 0, .int .i64 0, .string ⟨#[]⟩, .slice none 0 0]), 6, 72) := by kernel_rfl
theorem info_blk : (Tryd.prog.info? 28).map (fun i => (i.zero, i.size, i.bytes)) = some (some (.slice none 0 0), 1, 24) := by kernel_rfl

theorem step_append_ins {ops : Array Oper} {o : Oper} {a : Act} {w : World} {K : Act → World → Prop} {Q : Exit → Act → World → Prop} {E : Prop} (hg : o.guard = none) (s x : Operand)
    (ho : o.op = .call { callee := .builtin .append, args := #[s, x], argTypes := #[28, 28] })
    {base bl off n c : Nat} {v1 : Value} {fl : List Value} (h : w.ownsRow base 32 6 v1 0 []) (hl : fl.length = n * 6) (hc : ∀ j u, fl[j]? = some u → w.cell? ⟨bl, off + j, none⟩ = some u) (h1 : ∀ u ∈ fl, u.oneCell' = true) (hn : n ≤ 1048576) (hb : base ≤ w.heap.size) (hs : a.eval s = v1) (hx : a.eval x = .slice (some ⟨bl, off, none⟩) n c)
    (hK : ∀ v3 w', w'.ownsRow base 32 6 v3 n fl → w.grownBy w' v1.ownBlock → K (a.put o.dst v3) w') : if Region.wanted o (yielded ops a.tmps) = true then Oper.wp Tryd.prog o a w K Q else E := by
  obtain ⟨i0, hi, hz0, hz1, hz2⟩ := info_parts info_ins
  have hw : Region.wanted o (yielded ops a.tmps) = true := by simp [Region.wanted, hg]
  rw [if_pos hw]
  refine wp_append_own (P := Tryd.prog) w s x 28 ho base 32 i0 (.agg #[.int .i64 0, .int .i64 0, .int .i64 0, .int .i64 0, .string ⟨#[]⟩, .slice none 0 0]) 6 72 Tryd.underlying28 hi hz0 hz1 hz2 rfl (by decide) v1 0 [] hs h ⟨bl, off, none⟩ n c fl hx hl (fun j u hj => by rw [Addr.add_lit]; exact hc j u hj) h1 (by unfold maxLen; omega) (by omega) hb ?_
  intro v' w' h2 h3 _
  exact hK v' w' (by simpa using h2) h3

theorem step_append_blk {ops : Array Oper} {o : Oper} {a : Act} {w : World} {K : Act → World → Prop} {Q : Exit → Act → World → Prop} {E : Prop} (hg : o.guard = none) (s x : Operand)
    (ho : o.op = .call { callee := .builtin .append, args := #[s, x], argTypes := #[22, 22] })
    {base g n c : Nat} {v1 v : Value} {ws : List Value} (h : w.ownsRow base 28 1 v1 n ws) (hc : w.cell? ⟨g, 0, none⟩ = some v) (h1 : v.oneCell' = true) (hn : n ≤ 1048576) (hb : base ≤ w.heap.size) (hs : a.eval s = v1) (hx : a.eval x = .slice (some ⟨g, 0, none⟩) 1 c)
    (hK : ∀ v3 w', w'.ownsRow base 28 1 v3 (n + 1) (ws ++ [v]) → w.grownBy w' v1.ownBlock → K (a.put o.dst v3) w') : if Region.wanted o (yielded ops a.tmps) = true then Oper.wp Tryd.prog o a w K Q else E := by
  obtain ⟨i0, hi, hz0, hz1, hz2⟩ := info_parts info_blk
  have hw : Region.wanted o (yielded ops a.tmps) = true := by simp [Region.wanted, hg]
  rw [if_pos hw]
  refine wp_append_own (P := Tryd.prog) w s x 22 ho base 28 i0 (.slice none 0 0) 1 24 Tryd.underlying22 hi hz0 hz1 hz2 rfl (by decide) v1 n ws hs h ⟨g, 0, none⟩ 1 c [v] hx rfl (fun j u hj => by
    rw [Addr.add_lit]
    match j, hj with
    | 0, hj => rw [hc]; simpa using hj
    | j + 1, hj => simp at hj) (fun u hu => by simp at hu; rw [hu]; exact h1) (by unfold maxLen; omega) (by omega) hb ?_
  intro v' w' h2 h3 _
  exact hK v' w' h2 h3

/-! ### the copies -/
/-- In w, newer than w3, the function's copy at bg has blocks that read as l. -/
structure Cop (w3 : World) (f : Ir.Fu) (gv : Value) (ws : List Value) (l : List (List Ir.In)) (w : World) : Prop where
  own : Blk w w3.heap.size 24 #[.string f.name, .int .i64 f.params, .int .i64 f.regs, gv]
  outer : w.ownsRow (w3.heap.size + 1) 28 1 gv l.length ws
  inner : ∀ (j : Nat) (b : List Ir.In), l[j]? = some b → ∃ v fl, ws[j]? = some v ∧ w.ownsRow (w3.heap.size + 1) 32 6 v b.length fl ∧ Flat w3 fl b
  apart : ∀ (j j' : Nat) (v v' : Value) (g g' : Nat), j < j' → ws[j]? = some v → ws[j']? = some v' → v.ownBlock = some g → v'.ownBlock = some g' → g < g'
  below : Below w3.heap.size w3 w

theorem Cop.quiet {w3 w w' : World} {f : Ir.Fu} {gv : Value} {ws : List Value} {l : List (List Ir.In)} (h : Cop w3 f gv ws l w) (hb : Below w.heap.size w w') : Cop w3 f gv ws l w' := by
  have hg : w.grownBy w' none := gr_of_below hb none
  have key : ∀ {e : TypeId} {size n : Nat} {v : Value} {xs : List Value}, w.ownsRow (w3.heap.size + 1) e size v n xs → w'.ownsRow (w3.heap.size + 1) e size v n xs := fun hr => by
    cases hv : Value.ownBlock _ with
    | none => exact hr.kept hg (.inl hv)
    | some k => exact hr.kept hg (.inr (by rw [hv]; simp))
  exact ⟨h.own.older hb h.own.lt, key h.outer, fun j b hj => by
    obtain ⟨v, fl, h1, h2, h3⟩ := h.inner j b hj
    exact ⟨v, fl, h1, key h2, h3⟩, h.apart, h.below.trans (hb.mono h.below.size)⟩

theorem own_some {w : World} {base size n : Nat} {e : TypeId} {v : Value} {xs : List Value} (h : w.ownsRow base e size v n xs) (hn : 0 < n) : ∃ g cap cur, v = .slice (some ⟨g, 0, none⟩) n cap ∧ v.ownBlock = some g ∧ base ≤ g ∧ Blk w g e cur ∧ n ≤ cap ∧ cap ≤ maxLen := by
  obtain ⟨-, h | ⟨g, cap, cur, h1, h2, h3, h4, h5, -⟩⟩ := h
  · omega
  · exact ⟨g, cap, cur, h1, by rw [h1]; rfl, h2, h3, h4, h5⟩
theorem own_block {w : World} {base size n g : Nat} {e : TypeId} {v : Value} {xs : List Value} (h : w.ownsRow base e size v n xs) (hg : v.ownBlock = some g) : base ≤ g ∧ ∃ cur, Blk w g e cur := by
  obtain ⟨-, ⟨rfl, -⟩ | ⟨g', cap, cur, rfl, h2, h3, -⟩⟩ := h
  · simp [Value.ownBlock] at hg
  · simp [Value.ownBlock] at hg
    subst hg
    exact ⟨h2, cur, h3⟩

/-- The function's copy stays where its row of blocks grows. -/
theorem Cop.kept {w3 w7 w8 : World} {f : Ir.Fu} {gv : Value} {ws : List Value} {l : List (List Ir.In)} (h : Cop w3 f gv ws l w7) {o : Obj} (hg8 : (w7.alloc o).grownBy w8 gv.ownBlock) :
    w8.cell? ⟨w3.heap.size, 3, none⟩ = some gv ∧ w8.frozen? ⟨w3.heap.size, 3, none⟩ = false := by
  have hB : Blk w8 w3.heap.size 24 #[.string f.name, .int .i64 f.params, .int .i64 f.regs, gv] := by
    refine ((h.own.alloc o).grown hg8 ?_)
    intro e'
    have := (own_block h.outer e'.symm).1
    omega
  exact ⟨hB.cell 3, hB.frozen 3⟩

/-- One block more. -/
theorem Cop.up {w3 wr w7 w8 : World} {f : Ir.Fu} {gv v7 v8 : Value} {ws fl : List Value} {l : List (List Ir.In)} {b : List Ir.In} (h : Cop w3 f gv ws l wr)
    (h7 : w7.ownsRow wr.heap.size 32 6 v7 b.length fl) (hfl : Flat w3 fl b) (hg7 : Below wr.heap.size wr w7)
    (h8 : w8.ownsRow (w3.heap.size + 1) 28 1 v8 (l.length + 1) (ws ++ [v7])) {o : Obj} (hg8 : (w7.alloc o).grownBy w8 gv.ownBlock) :
    Cop w3 f v8 (ws ++ [v7]) (l ++ [b]) (w8.setCell ⟨w3.heap.size, 3, none⟩ v8) := by
  have h0 := h.quiet hg7
  have hwl : ws.length = l.length := by have := h.outer.1; omega
  -- what is no block of the outer row stays
  have hoth : ∀ g e cur, Blk w7 g e cur → e ≠ 28 → Blk w8 g e cur := by
    intro g e cur hB he
    refine ((hB.alloc o).grown hg8 ?_)
    intro e'
    obtain ⟨-, cur', hB'⟩ := own_block h0.outer e'.symm
    have := hB.symm.trans hB'
    injection this with this
    injection this with _ this
    exact he this
  have hrow : ∀ {n : Nat} {v : Value} {xs : List Value} {base : Nat}, w7.ownsRow base 32 6 v n xs → w3.heap.size + 1 ≤ base → (w8.setCell ⟨w3.heap.size, 3, none⟩ v8).ownsRow base 32 6 v n xs := by
    intro n v xs base hr hbase
    obtain ⟨hl, ⟨rfl, h2⟩ | ⟨g, cap, cur, h1, h2, h3, h4⟩⟩ := hr
    · exact ⟨hl, .inl ⟨rfl, h2⟩⟩
    · exact ⟨hl, .inr ⟨g, cap, cur, h1, h2, ((hoth g _ cur h3 (by decide)).apart (p := ⟨w3.heap.size, 3, none⟩) (by show g ≠ w3.heap.size; omega) v8), h4⟩⟩
  have hsz : w3.heap.size + 1 ≤ wr.heap.size := h.own.lt
  refine ⟨?_, ?_, ?_, ?_, ?_⟩
  · have := (hoth _ _ _ h0.own (by decide)).set 3 v8
    simpa using this
  · obtain ⟨hl, ⟨rfl, h2⟩ | ⟨g, cap, cur, h1, h2, h3, h4⟩⟩ := h8
    · omega
    · refine ⟨by simpa using hl, .inr ⟨g, cap, cur, by simpa using h1, h2, ?_, by simpa using h4⟩⟩
      exact Blk.apart h3 (p := ⟨w3.heap.size, 3, none⟩) (by show g ≠ w3.heap.size; omega) v8
  · intro j b' hj
    rcases Nat.lt_or_ge j l.length with hlt | hge
    · rw [List.getElem?_append_left hlt] at hj
      obtain ⟨v, fl', q1, q2, q3⟩ := h0.inner j b' hj
      exact ⟨v, fl', by rw [List.getElem?_append_left (by omega)]; exact q1, hrow q2 (Nat.le_refl _), q3⟩
    · rw [List.getElem?_append_right hge] at hj
      have hj0 : j = l.length := by
        have := (List.getElem?_eq_some_iff.1 hj).1
        simp at this
        omega
      subst hj0
      simp at hj
      subst hj
      exact ⟨v7, fl, by rw [← hwl]; simp, (hrow h7 hsz).mono hsz, hfl⟩
  · intro j j' v v' g g' hjj hv hv' hg hg'
    rcases Nat.lt_or_ge j' ws.length with hlt | hge
    · rw [List.getElem?_append_left hlt] at hv'
      rw [List.getElem?_append_left (by omega)] at hv
      exact h.apart j j' v v' g g' hjj hv hv' hg hg'
    · rw [List.getElem?_append_right hge] at hv'
      have hj0 : j' = ws.length := by
        have := (List.getElem?_eq_some_iff.1 hv').1
        simp at this
        omega
      subst hj0
      simp at hv'
      subst hv'
      rw [List.getElem?_append_left hjj] at hv
      obtain ⟨b', hb'⟩ : ∃ b', l[j]? = some b' := ⟨_, List.getElem?_eq_getElem (by omega)⟩
      obtain ⟨v2, fl', q1, q2, -⟩ := h.inner j b' hb'
      rw [hv] at q1
      injection q1 with q1
      subst q1
      have a1 := (q2.lt g hg).2
      have a2 := (h7.lt g' hg').1
      omega
  · have hbe : Below w3.heap.size w3 w8 := (h0.below.alloc h0.below.size o).grown hg8 (by have := (h0.below.alloc h0.below.size o).size; exact this) (fun k e => by have := (own_block h0.outer e).1; omega)
    exact hbe.trans (⟨rfl, rfl, rfl, by simp [World.setCell], fun i hi => heap_setCell_other w8 ⟨w3.heap.size, 3, none⟩ i v8 (by show i ≠ w3.heap.size; omega)⟩)

theorem inr_form {w : World} {x : Ir.In} {sl : Value} (hx : InR w (InsC x sl).toList x) : ∃ D c, sl = .slice D x.args.length c := by
  obtain ⟨sl', h1, ⟨D, c, e, -⟩, _⟩ := hx
  simp at h1
  subst h1
  exact ⟨D, c, e⟩

/-- Where a copied instruction lies. -/
theorem Cop.spot {w3 w : World} {f : Ir.Fu} {gv : Value} {ws : List Value} {l : List (List Ir.In)} (h : Cop w3 f gv ws l w) {i k : Nat} {b : List Ir.In} {x : Ir.In} (hi : l[i]? = some b) (hk : b[k]? = some x) :
    ∃ go ocap gi icap sl cur, gv = .slice (some ⟨go, 0, none⟩) l.length ocap ∧ ws[i]? = some (.slice (some ⟨gi, 0, none⟩) b.length icap) ∧ w.cell? ⟨go, i, none⟩ = some (.slice (some ⟨gi, 0, none⟩) b.length icap) ∧ w3.heap.size < gi ∧ Blk w gi 32 cur ∧
      (cur[k * 6]? = some (.int .i64 x.op) ∧ cur[k * 6 + 1]? = some (.int .i64 x.d) ∧ cur[k * 6 + 2]? = some (.int .i64 x.a) ∧ cur[k * 6 + 3]? = some (.int .i64 x.b) ∧ cur[k * 6 + 4]? = some (.string x.name) ∧ cur[k * 6 + 5]? = some sl) ∧ InR w3 (InsC x sl).toList x := by
  have hl := (List.getElem?_eq_some_iff.1 hi).1
  have hb := (List.getElem?_eq_some_iff.1 hk).1
  obtain ⟨v, fl, q1, q2, q3⟩ := h.inner i b hi
  obtain ⟨go, ocap, cur0, rfl, -, -, hB0, -, -⟩ := own_some h.outer (by omega)
  obtain ⟨gi, icap, cur, rfl, -, hge, hB, -, -⟩ := own_some q2 (by omega)
  obtain ⟨hlen, -, hat⟩ := q3
  obtain ⟨cs, h5, h6, h7⟩ := hat k x hk
  have h7' := h7
  obtain ⟨sl, rfl, -⟩ := h7
  have hc : ∀ j u, j < 6 → [Value.int .i64 x.op, .int .i64 x.d, .int .i64 x.a, .int .i64 x.b, .string x.name, sl][j]? = some u → cur[k * 6 + j]? = some u := by
    intro j u hj hu
    rw [← hB.cell, q2.cellAt (k * 6 + j) (by omega)]
    exact h6 j u hu
  refine ⟨go, ocap, gi, icap, sl, cur, rfl, q1, ?_, by omega, hB, ⟨hc 0 _ (by omega) rfl, hc 1 _ (by omega) rfl, hc 2 _ (by omega) rfl, hc 3 _ (by omega) rfl, hc 4 _ (by omega) rfl, hc 5 _ (by omega) rfl⟩, h7'⟩
  rw [h.outer.cellAt i (by omega)]
  exact q1

theorem Cop.nil {w3 : World} {f : Ir.Fu} : Cop w3 f (.slice none 0 0) [] [] (w3.alloc (.cells #[.string f.name, .int .i64 f.params, .int .i64 f.regs, .slice none 0 0] 24)) :=
  ⟨Blk.new _ _ _, World.ownsRow_nil _ _ _ _, fun j b h => by simp at h, fun j j' v v' g g' _ h => by simp at h, (Below.refl _ _).alloc (Nat.le_refl _) _⟩

/-- A row of instructions of one's own reads as a block. -/
theorem insl_of {w w' : World} {base n : Nat} {v : Value} {fl : List Value} {b : List Ir.In} (h : w.ownsRow base 32 6 v n fl) (hn : b.length = n) (hsz : w.heap.size ≤ w'.heap.size)
    (hc : ∀ g, v.ownBlock = some g → ∀ (m : Nat) (x : Ir.In), b[m]? = some x → ∃ cs, cs.length = 6 ∧ (∀ i u, cs[i]? = some u → w'.cell? ⟨g, m * 6 + i, none⟩ = some u) ∧ InR w' cs x) : Insl w' v b := by
  subst hn
  have hb := fun g => h.lt g
  obtain ⟨-, ⟨rfl, h0⟩ | ⟨g, cap, cur, rfl, -, -, h4, h5, -⟩⟩ := h
  · exact ⟨none, 0, by rw [h0], ⟨by omega, Nat.zero_le _, fun _ => rfl⟩, fun j x hx => by
      have := (List.getElem?_eq_some_iff.1 hx).1
      omega⟩
  · refine ⟨some ⟨g, 0, none⟩, cap, rfl, ⟨h4, h5, fun e => by cases e⟩, fun j x hx => ?_⟩
    obtain ⟨cs, k1, k2, k3⟩ := hc g rfl j x hx
    exact ⟨g, 0, cs, rfl, by have := (hb g rfl).2; omega, k1, fun i u hu => by rw [show 0 + j * 6 + i = j * 6 + i by omega]; exact k2 i u hu, k3⟩

/-- Behind a store of an instruction into the copy: the blocks, with that one in its place. -/
theorem Cop.done {w3 w w' : World} {f : Ir.Fu} {gv : Value} {ws : List Value} {l : List (List Ir.In)} (h : Cop w3 f gv ws l w) {i k gi icap : Nat} {b : List Ir.In} {x' : Ir.In} {sl' : Value} (hi : l[i]? = some b) (hk : k < b.length)
    (hv : ws[i]? = some (.slice (some ⟨gi, 0, none⟩) b.length icap)) (hsz : w'.heap.size = w.heap.size) (ho : ∀ g, g ≠ gi → w'.heap[g]? = w.heap[g]?) (hos : w'.os = w.os ∧ w'.tape = w.tape ∧ w'.output = w.output)
    (hkeep : ∀ o : Nat, o < k * 6 ∨ k * 6 + 6 ≤ o → w'.cell? ⟨gi, o, none⟩ = w.cell? ⟨gi, o, none⟩)
    (hnew : ∀ j u, (InsC x' sl').toList[j]? = some u → w'.cell? ⟨gi, k * 6 + j, none⟩ = some u) (hin : InR w3 (InsC x' sl').toList x') :
    Blks w' gv (l.set i (b.set k x')) ∧ Below w3.heap.size w3 w' := by
  have hl := (List.getElem?_eq_some_iff.1 hi).1
  obtain ⟨vi, fli, q1, q2, q3⟩ := h.inner i b hi
  rw [hv] at q1
  injection q1 with q1
  subst q1
  have hgi := own_block q2 (g := gi) rfl
  obtain ⟨go, ocap, cur0, rfl, -, hgo, hB0, hoc, hom⟩ := own_some h.outer (by omega)
  have hne : go ≠ gi := by
    rintro rfl
    obtain ⟨-, c, hc⟩ := hgi
    have := hB0.symm.trans hc
    injection this with this
    injection this with _ this
    exact absurd this (by decide)
  have hb : Below w3.heap.size w3 w' := ⟨hos.1.trans h.below.os, hos.2.1.trans h.below.tape, hos.2.2.trans h.below.output, by rw [hsz]; exact h.below.size, fun j hj => (ho j (by omega)).trans (h.below.block j hj)⟩
  refine ⟨⟨some ⟨go, 0, none⟩, ocap, by rw [List.length_set], ⟨by rw [List.length_set]; exact hoc, hom, fun e => by cases e⟩, fun j b' hj => ?_⟩, hb⟩
  have hjl := (List.getElem?_eq_some_iff.1 hj).1
  rw [List.length_set] at hjl
  obtain ⟨bj, hbj⟩ : ∃ bj, l[j]? = some bj := ⟨_, List.getElem?_eq_getElem hjl⟩
  obtain ⟨v, fl, p1, p2, p3⟩ := h.inner j bj hbj
  have hcell : w'.cell? ⟨go, 0 + j * 1 + 0, none⟩ = some v := by
    rw [World.cell?_of_block (w := w) (w' := w') (a := ⟨go, 0 + j * 1 + 0, none⟩) (ho go hne), show 0 + j * 1 + 0 = j by omega, h.outer.cellAt j (by omega)]
    exact p1
  refine ⟨go, 0, [v], rfl, by rw [hsz]; exact hB0.lt, rfl, fun i' u hu => ?_, v, rfl, ?_⟩
  · match i', hu with
    | 0, hu => simp at hu; rw [← hu]; exact hcell
    | i' + 1, hu => simp at hu
  by_cases hji : i = j
  · subst hji
    rw [List.getElem?_set_self hl] at hj
    injection hj with hj
    subst hj
    rw [hi] at hbj
    injection hbj with hbj
    subst hbj
    rw [hv] at p1
    injection p1 with p1
    subst p1
    refine insl_of q2 (by rw [List.length_set]) (by omega) (fun g hg m x hx => ?_)
    simp [Value.ownBlock] at hg
    subst hg
    by_cases hmk : k = m
    · subst hmk
      rw [List.getElem?_set_self hk] at hx
      injection hx with hx
      subst hx
      exact ⟨_, rfl, hnew, hin.below hb⟩
    · rw [List.getElem?_set_ne hmk] at hx
      obtain ⟨cs, k1, k2, k3⟩ := q3.2.2 m x hx
      have hm := (List.getElem?_eq_some_iff.1 hx).1
      refine ⟨cs, k1, fun i' u hu => ?_, k3.below hb⟩
      have hi' := (List.getElem?_eq_some_iff.1 hu).1
      rw [hkeep _ (by omega), q2.cellAt _ (by omega)]
      exact k2 i' u hu
  · rw [List.getElem?_set_ne hji, hbj] at hj
    injection hj with hj
    subst hj
    refine insl_of p2 rfl (by omega) (fun g hg m x hx => ?_)
    have hgn : g ≠ gi := by
      rcases Nat.lt_or_ge i j with hlt | hge
      · have := h.apart i j _ v gi g hlt hv p1 rfl hg
        omega
      · have := h.apart j i v _ g gi (by omega) p1 hv hg rfl
        omega
    obtain ⟨cs, k1, k2, k3⟩ := p3.2.2 m x hx
    have hm := (List.getElem?_eq_some_iff.1 hx).1
    refine ⟨cs, k1, fun i' u hu => ?_, k3.below hb⟩
    have hi' := (List.getElem?_eq_some_iff.1 hu).1
    rw [World.cell?_of_block (w := w) (w' := w') (a := ⟨g, m * 6 + i', none⟩) (ho g hgn)]
    have := p2.cells hg (m * 6 + i') u (k2 i' u hu)
    rw [Addr.add_lit, Nat.zero_add] at this
    exact this

theorem set_other (w : World) (gi p : Nat) (v : Value) : (w.setCell ⟨gi, p, none⟩ v).heap.size = w.heap.size ∧ (∀ g, g ≠ gi → (w.setCell ⟨gi, p, none⟩ v).heap[g]? = w.heap[g]?) ∧ ((w.setCell ⟨gi, p, none⟩ v).os = w.os ∧ (w.setCell ⟨gi, p, none⟩ v).tape = w.tape ∧ (w.setCell ⟨gi, p, none⟩ v).output = w.output) :=
  ⟨by simp [World.setCell], fun g hg => heap_setCell_other w ⟨gi, p, none⟩ g v hg, rfl, rfl, rfl⟩
theorem other_trans {w w1 w2 : World} {gi : Nat} (h : w2.heap.size = w1.heap.size ∧ (∀ g, g ≠ gi → w2.heap[g]? = w1.heap[g]?) ∧ (w2.os = w1.os ∧ w2.tape = w1.tape ∧ w2.output = w1.output)) (h' : w1.heap.size = w.heap.size ∧ (∀ g, g ≠ gi → w1.heap[g]? = w.heap[g]?) ∧ (w1.os = w.os ∧ w1.tape = w.tape ∧ w1.output = w.output)) :
    w2.heap.size = w.heap.size ∧ (∀ g, g ≠ gi → w2.heap[g]? = w.heap[g]?) ∧ (w2.os = w.os ∧ w2.tape = w.tape ∧ w2.output = w.output) :=
  ⟨h.1.trans h'.1, fun g hg => (h.2.1 g hg).trans (h'.2.1 g hg), h.2.2.1.trans h'.2.2.1, h.2.2.2.1.trans h'.2.2.2.1, h.2.2.2.2.trans h'.2.2.2.2⟩

theorem setCells_other (gi : Nat) : ∀ (vs : List Value) (o : Nat) (w : World), (w.setCells gi o vs).heap.size = w.heap.size ∧ (∀ g, g ≠ gi → (w.setCells gi o vs).heap[g]? = w.heap[g]?) ∧ ((w.setCells gi o vs).os = w.os ∧ (w.setCells gi o vs).tape = w.tape ∧ (w.setCells gi o vs).output = w.output)
  | [], _, _ => ⟨rfl, fun _ _ => rfl, rfl, rfl, rfl⟩
  | v :: vs, o, w => other_trans (setCells_other gi vs (o + 1) (w.setCell ⟨gi, o, none⟩ v)) (set_other w gi o v)
theorem blk_there {w : World} {gi p n : Nat} {t : TypeId} {cur : Array Value} (hB : Blk w gi t cur) (h : p + n ≤ cur.size) : w.there gi p n := fun j hj => ⟨by rw [hB.cell, Array.getElem?_eq_getElem (by omega)]; rfl, hB.frozen _⟩
theorem size_ins : (Tryd.prog.info? 32).map (·.size) = some 6 := by kernel_rfl

/-- A store of an instruction whole, into the middle of a row. -/
theorem wpList_store_ins {ops : Array Oper} {rest : List Oper} {op : Oper} {a : Act} {w : World} {Q : Exit → Act → World → Prop} (hgd : op.guard = none) (u v : Operand) (ho : op.op = .store 32 u v)
    {gi p D : Nat} {x : Ir.In} {A : Option Addr} {cur : Array Value} {l : Nat} (hu : a.eval u = .pointer (some ⟨gi, p, none⟩)) (hv : a.eval v = InsV x (.slice A l D)) (hB : Blk w gi 32 cur) (hk : p + 6 ≤ cur.size)
    (h : ∀ w', (w'.heap.size = w.heap.size ∧ (∀ g, g ≠ gi → w'.heap[g]? = w.heap[g]?) ∧ (w'.os = w.os ∧ w'.tape = w.tape ∧ w'.output = w.output)) → (∀ o : Nat, o < p ∨ p + 6 ≤ o → w'.cell? ⟨gi, o, none⟩ = w.cell? ⟨gi, o, none⟩) →
      (∀ (j : Nat) y, (InsC x (.slice A l D)).toList[j]? = some y → w'.cell? ⟨gi, p + j, none⟩ = some y) → wpList Tryd.prog ops Q rest (a.put op.dst undef) w') : wpList Tryd.prog ops Q (op :: rest) a w := by
  refine wpList_store_mid hgd 32 u v ho gi p (InsC x (.slice A l D)) hu hv (blk_there hB hk) size_ins (all_oneCell_toArray (cs := [.int .i64 x.op, .int .i64 x.d, .int .i64 x.a, .int .i64 x.b, .string x.name, .slice A l D]) (fun v hv => by simp at hv; rcases hv with rfl | rfl | rfl | rfl | rfl | rfl <;> rfl)) ?_
  exact h _ (setCells_other gi _ p w) (fun o ho => World.cell?_setCells_out gi _ p w ⟨gi, o, none⟩ (fun _ _ => by
    show o < p ∨ p + 6 ≤ o
    exact ho)) (fun j y hy => World.rangeAt_setCells_same w gi p (InsC x (.slice A l D)).toList (blk_there hB hk) j y hy)
end Go.Proofs.YtkkbmfgkapdndaaDoor
