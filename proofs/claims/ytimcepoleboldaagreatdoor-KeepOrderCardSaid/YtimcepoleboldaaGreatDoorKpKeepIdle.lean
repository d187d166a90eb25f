/- A store that is idle while another one in the same memory is put to; append of a record, with where the row lies then. -/
import Derived.Test.YtimcepoleboldaaGreatDoorKpKeepPair
import Derived.Deep.AppendLies
namespace Go.Proofs.YtimcepoleboldaaGreatDoor
open Go.RowKit Go.Deep

theorem kpwg_idle {R : Rows} {K K2 : Keep} {T : Obj → Bool} {w w' : World} {B B2 s q g tb mb n : Nat} {ks : Kp.Ks} (h : @Kpwg R K w B s q g tb mb n ks) (hc : @Ch K2 T B2 w w') (hk : ∀ i, i < w.heap.size → ¬ K.p i → i < B2 ∨ K2.p i) (hm : mb < B2 ∨ K2.p mb)
    (h1 : ∀ cs, T (.cells cs 86 (0, 0)) = false) (h2 : ∀ cs, T (.cells cs 32 (0, 0)) = false) : @Kpwg R K w' B s q g tb mb n ks := by
  have hc3 : @Ch ⟨fun i => i < B2 ∨ K2.p i⟩ T 0 w w' := ⟨hc.os, hc.tape, hc.output, hc.size, fun i hi hT => hc.all i hi (fun hB hn => hT (Nat.zero_le _) (fun h => by
    rcases h with h | h
    · omega
    · exact hn h))⟩
  exact ⟨h.blk.move (hc3.keep h.blk.lt (hk s h.blk.lt h.free)), h.ats, h.free, ⟨h.log.1.move (hc3.keep h.log.1.lt (hk q h.log.1.lt h.log.2.1.2)), h.log.2⟩, h.tab.kept hc3 hm h1 h2, h.kept⟩

/-- Append of one record to a row that lies at lb, at a step of a region that draws its order. -/
theorem step_append_at {ops : Array Oper} {o : Oper} {a : Act} {w : World} {K : Act → World → Prop} {Q : Exit → Act → World → Prop} {E : Prop} (hg : o.guard = none) (s x : Operand)
    (ho : o.op = .call { callee := .builtin .append, args := #[s, x], argTypes := #[29, 29] })
    {base lb g c cap0 : Nat} {l : List Kp.Rc} {z : Kp.Rc} (h : RowR w base (.slice (some ⟨lb, 0, none⟩) l.length cap0) l) (h0 : w.cell? ⟨g, 0, none⟩ = some (.int .i64 z.k)) (h1 : w.cell? ⟨g, 1, none⟩ = some (.string z.key)) (h2 : w.cell? ⟨g, 2, none⟩ = some (.string z.val)) (hl : l.length ≤ 1048576) (hb : base ≤ w.heap.size) (hs : a.eval s = .slice (some ⟨lb, 0, none⟩) l.length cap0) (hx : a.eval x = .slice (some ⟨g, 0, none⟩) 1 c)
    (hK : ∀ lb' cap w', RowR w' base (.slice (some ⟨lb', 0, none⟩) (l ++ [z]).length cap) (l ++ [z]) → w.grownBy w' (some lb) → (lb' = lb ∨ lb' = w.heap.size) → lb' < w'.heap.size → K (a.put o.dst (.slice (some ⟨lb', 0, none⟩) (l.length + 1) cap)) w') : if Region.wanted o (yielded ops a.tmps) = true then Oper.wp Tryz.prog o a w K Q else E := by
  obtain ⟨i0, hi, hz0, hz1, hz2⟩ := info_parts info_record
  refine step_append_lies (P := Tryz.prog) w hg s x 29 ho base 32 i0 (.agg #[.int .i64 0, .string ⟨#[]⟩, .string ⟨#[]⟩]) 3 40 Tryz.underlying29 hi hz0 hz1 hz2 rfl (by decide) _ l.length (flatR l) hs h ⟨g, 0, none⟩ 1 c (flatR [z]) hx rfl ?_ (flatR_one _) (by decide) (by unfold maxLen; omega) (by omega) hb w.heap.size rfl ?_
  · intro j u hj
    rw [Addr.add_lit]
    match j, hj with
    | 0, hj => rw [h0]; simpa [flatR] using hj
    | 1, hj => rw [h1]; simpa [flatR] using hj
    | 2, hj => rw [h2]; simpa [flatR] using hj
    | j + 3, hj => simp [flatR] at hj
  · intro lb' cap w' h2 h3 h4 h5
    refine hK lb' cap w' ?_ h3 ?_ h5
    · unfold RowR
      rw [List.length_append, flatR_append]
      exact h2
    · rcases h4 with h4 | h4
      · simp [Value.ownBlock] at h4
        exact .inl h4.symm
      · exact .inr h4
end Go.Proofs.YtimcepoleboldaaGreatDoor
