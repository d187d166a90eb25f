/- Blocks that are built: the appends. -/
import Derived.Test.YtamadegodenobaaDoorTextBld
import Derived.Maps.AppendAt
namespace Go.Proofs.YtamadegodenobaaDoor
open Go.ChangeShapes Go.WideShapes Go.RowKit Go.Deep

theorem infoI : (Tryd.prog.info? 36).map (fun i => (i.zero, i.size, i.bytes)) = some (some (.agg #[.int .i64 0, .int .i64 0, .int .i64 0, .int .i64 0, .string ⟨#[]⟩, .slice none 0 0]), 6, 72) := by kernel_rfl
theorem infoB : (Tryd.prog.info? 37).map (fun i => (i.zero, i.size, i.bytes)) = some (some (.slice none 0 0), 1, 24) := by kernel_rfl

theorem run_push_ins {w : World} {base g n : Nat} {v1 : Value} {fl cs : List Value} (h : w.ownsRow base 36 6 v1 n fl) (hl : cs.length = 6) (hc : ∀ j u, cs[j]? = some u → w.cell? ⟨g, j, none⟩ = some u) (h1 : ∀ u ∈ cs, u.oneCell' = true) (hn : n ≤ 1048000) (hb : base ≤ w.heap.size) (ty : TypeId) :
    ∃ v3 w', (Builtin.append_ #[37, 37] ty #[v1, .slice (some ⟨g, 0, none⟩) 1 1]).run Tryd.prog w = .ok v3 w' ∧ w'.ownsRow base 36 6 v3 (n + 1) (fl ++ cs) ∧ w.grownBy w' v1.ownBlock ∧ (∀ k, v3.ownBlock = some k → v1.ownBlock = some k ∨ w.heap.size ≤ k) := by
  obtain ⟨i0, hi, hz0, hz1, hz2⟩ := info_parts infoI
  obtain ⟨v3, w', hr, h2, h3, -, h5⟩ := run_append_own_at (P := Tryd.prog) w base 37 ty 36 i0 (.agg #[.int .i64 0, .int .i64 0, .int .i64 0, .int .i64 0, .string ⟨#[]⟩, .slice none 0 0]) 6 72 Tryd.underlying37 hi hz0 hz1 hz2 rfl (by decide) v1 n fl h ⟨g, 0, none⟩ 1 1 cs (by omega) (fun j u hj => by
    rw [Addr.add_lit, Nat.zero_add]
    exact hc j u hj) h1 (by unfold maxLen; omega) (by omega) hb
  refine ⟨v3, w', hr, h2, h3, fun k hk => ?_⟩
  rcases h5 with h5 | h5
  · exact .inl (by rw [← h5]; exact hk)
  · rw [hk] at h5
    injection h5 with h5
    exact .inr (by omega)
theorem run_push_blk {w : World} {base g n : Nat} {v1 v : Value} {ws : List Value} (h : w.ownsRow base 37 1 v1 n ws) (hc : w.cell? ⟨g, 0, none⟩ = some v) (h1 : v.oneCell' = true) (hn : n ≤ 1048000) (hb : base ≤ w.heap.size) (ty : TypeId) :
    ∃ v3 w', (Builtin.append_ #[22, 22] ty #[v1, .slice (some ⟨g, 0, none⟩) 1 1]).run Tryd.prog w = .ok v3 w' ∧ w'.ownsRow base 37 1 v3 (n + 1) (ws ++ [v]) ∧ w.grownBy w' v1.ownBlock := by
  obtain ⟨i0, hi, hz0, hz1, hz2⟩ := info_parts infoB
  obtain ⟨v3, w', hr, h2, h3, -⟩ := run_append_own_at (P := Tryd.prog) w base 22 ty 37 i0 (.slice none 0 0) 1 24 Tryd.underlying22 hi hz0 hz1 hz2 rfl (by decide) v1 n ws h ⟨g, 0, none⟩ 1 1 [v] rfl (fun j u hj => by
    rw [Addr.add_lit]
    match j, hj with
    | 0, hj => rw [hc]; simpa using hj
    | j + 1, hj => simp at hj) (fun u hu => by simp at hu; rw [hu]; exact h1) (by unfold maxLen; omega) (by omega) hb
  exact ⟨v3, w', hr, h2, h3⟩

theorem wpList_push_blk {ops : Array Oper} {rest : List Oper} {o : Oper} {a : Act} {w : World} {Q : Exit → Act → World → Prop} (hg : o.guard = none) (s x : Operand)
    (ho : o.op = .call { callee := .builtin .append, args := #[s, x], argTypes := #[22, 22] })
    {base g n : Nat} {v1 v : Value} {ws : List Value} (h : w.ownsRow base 37 1 v1 n ws) (hc : w.cell? ⟨g, 0, none⟩ = some v) (h1 : v.oneCell' = true) (hn : n ≤ 1048000) (hb : base ≤ w.heap.size) (hs : a.eval s = v1) (hx : a.eval x = .slice (some ⟨g, 0, none⟩) 1 1)
    (hK : ∀ v3 w', w'.ownsRow base 37 1 v3 (n + 1) (ws ++ [v]) → w.grownBy w' v1.ownBlock → wpList Tryd.prog ops Q rest (a.put o.dst v3) w') : wpList Tryd.prog ops Q (o :: rest) a w := by
  refine wpList_plain hg fun K' hK' => ?_
  obtain ⟨v3, w', hrun, r1, r2⟩ := run_push_blk h hc h1 hn hb o.type
  unfold Oper.wp
  simp [execOp, ho, resolve, invoke, builtin, hs, hx, hrun, Result.andThen]
  exact hK' _ _ (hK v3 w' r1 r2)
theorem step_push_ins {ops : Array Oper} {o : Oper} {a : Act} {w : World} {K : Act → World → Prop} {Q : Exit → Act → World → Prop} {E : Prop} (hg : o.guard = none) (s x : Operand)
    (ho : o.op = .call { callee := .builtin .append, args := #[s, x], argTypes := #[37, 37] })
    {base g n : Nat} {v1 : Value} {fl cs : List Value} (h : w.ownsRow base 36 6 v1 n fl) (hl : cs.length = 6) (hc : ∀ j u, cs[j]? = some u → w.cell? ⟨g, j, none⟩ = some u) (h1 : ∀ u ∈ cs, u.oneCell' = true) (hn : n ≤ 1048000) (hb : base ≤ w.heap.size) (hs : a.eval s = v1) (hx : a.eval x = .slice (some ⟨g, 0, none⟩) 1 1)
    (hK : ∀ v3 w', w'.ownsRow base 36 6 v3 (n + 1) (fl ++ cs) → w.grownBy w' v1.ownBlock → (∀ k, v3.ownBlock = some k → v1.ownBlock = some k ∨ w.heap.size ≤ k) → K (a.put o.dst v3) w') : if Region.wanted o (yielded ops a.tmps) = true then Oper.wp Tryd.prog o a w K Q else E := by
  have hw : Region.wanted o (yielded ops a.tmps) = true := by simp [Region.wanted, hg]
  rw [if_pos hw]
  obtain ⟨v3, w', hrun, r1, r2, r3⟩ := run_push_ins h hl hc h1 hn hb o.type
  unfold Oper.wp
  simp [execOp, ho, resolve, invoke, builtin, hs, hx, hrun, Result.andThen]
  exact hK v3 w' r1 r2 r3
end Go.Proofs.YtamadegodenobaaDoor
