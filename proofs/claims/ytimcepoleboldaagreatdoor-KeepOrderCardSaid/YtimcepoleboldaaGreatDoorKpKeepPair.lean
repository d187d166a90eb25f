/- Two stores in one memory, and a row of the law's beside them: what stays of a shop. -/
import Derived.Test.YtimcepoleboldaaGreatDoorKpKeepDim
namespace Go.Proofs.YtimcepoleboldaaGreatDoor
open Go.RowKit Go.Deep

/-- All rows but one block. -/
abbrev butRow (b : Nat) : Rows := ⟨fun g => g ≠ b⟩

section
variable {K : Keep} {w w' : World} {B g s mb n : Nat} {room : Int} {m : Kp.Mp} {st : Dk.St} {e : Int}
theorem shop_told {R R' : Rows} (h : @Shop R K w B g s mb n room m st e) (hr : ∀ b, b < w.heap.size → R.p b → R'.p b) : @Shop R' K w B g s mb n room m st e := by
  obtain ⟨q, tb, t, L, N, ep, h1, h2, ⟨k1, k2, k3, k4, k5, k6⟩, h4⟩ := h
  exact ⟨q, tb, t, L, N, ep, h1, h2, @Kpwg.mk R' K w B s q g tb mb n _ k1 k2 k3 k4 (k5.told hr) k6, h4⟩
/-- What is new since is none of its blocks. -/
theorem shop_more {R : Rows} (h : @Shop R K w B g s mb n room m st e) (hb : Below w.heap.size w w') : @Shop R (more K w.heap.size w'.heap.size) w' B g s mb n room m st e := by
  obtain ⟨q, tb, t, L, N, ep, h1, h2, h3, h4⟩ := h
  have hsame : ∀ i, B ≤ i → i < w.heap.size → w'.heap[i]? = w.heap[i]? := fun i _ hl => hb.block i hl
  refine ⟨q, tb, t, L, N, ep, h1, dsk_more h2 hb.size hsame, ⟨h3.blk.move (hsame s h3.ats h3.blk.lt), h3.ats, ?_, lgw_more h3.log hsame, h3.tab.below hb, .inl h3.kept⟩, h4⟩
  rintro (hk | ⟨h5, _⟩)
  · exact h3.free hk
  · have := h3.blk.lt
    omega
/-- A shop that lies in what another one's calls may not change. -/
theorem shop_more_at {R : Rows} {K' : Keep} {T : Obj → Bool} {B' : Nat} (h : @Shop R K w B g s mb n room m st e) (hc : @Ch K' T B' w w') (hk : ∀ i, B ≤ i → i < w.heap.size → K'.p i) (hm : K'.p mb) (h1 : ∀ cs, T (.cells cs 86 (0, 0)) = false) (h2 : ∀ cs, T (.cells cs 32 (0, 0)) = false) :
    @Shop R (more K w.heap.size w'.heap.size) w' B g s mb n room m st e := by
  obtain ⟨q, tb, t, L, N, ep, q1, q2, q3, q4⟩ := h
  exact ⟨q, tb, t, L, N, ep, q1, dsk_more q2 hc.size (fun i hi hl => hc.keep hl (hk i hi hl)), q3.more_at hc hk hm h1 h2, q4⟩
def Tr : Obj → Bool
  | .cells _ t _ => t == 32
  | _ => false
theorem dsk_keeps {K K' : Keep} {w w' : World} {B B' g : Nat} {st : Dk.St} {T : Obj → Bool} (h : @Dsk K w B g st) (hc : @Ch K' T B' w w') (h1 : ∀ cs, T (.cells cs 81 (0, 0)) = false) (h2 : ∀ es c, T (.map es c) = false) (h3 : ∀ cs, T (.cells cs 3 (0, 0)) = false) : @Dsk K w' B g st := h.kept hc h1 h2 h3
/-- A row of records that is not the table's grows: the shop stays. -/
theorem shop_row {R : Rows} {lb : Nat} (h : @Shop R K w B g s mb n room m st e) (hblk : ∃ cur z, w.heap[lb]? = some (.cells cur 32 z)) (hR : ¬ R.p lb) (hg : w.grownBy w' (some lb)) : @Shop R K w' B g s mb n room m st e := by
  obtain ⟨cur, z, ho⟩ := hblk
  have hc : @Ch ⟨fun i => i ≠ lb⟩ Tr 0 w w' := Ch.of_grownK hg (fun g h => by injection h with h; subst h; exact ⟨Nat.zero_le _, fun hn => hn rfl, _, ho, rfl⟩)
  obtain ⟨q, tb, t, L, N, ep, q1, q2, q3, q4⟩ := h
  have htab : @Tab R w' tb mb n m := by
    obtain ⟨G, D, ht⟩ := q3.tab
    have hmb : mb ≠ lb := by
      intro e
      obtain ⟨es, c, hb⟩ := ht.map.block
      rw [e, ho] at hb
      cases hb
    exact ⟨G, D, ⟨hc.blk ht.blk rfl, ht.map.move (hc.keep ht.map.lt hmb), ht.free, fun d v hd => ⟨(ht.rows d v hd).1, (ht.rows d v hd).2.grown hg (.inr (fun e' => hR (ht.far d v lb hd e')))⟩, ht.tabs, ht.up, ht.far⟩⟩
  exact ⟨q, tb, t, L, N, ep, q1, dsk_keeps q2 hc (fun _ => rfl) (fun _ _ => rfl) (fun _ => rfl), ⟨hc.blk q3.blk rfl, q3.ats, q3.free, q3.log.kept hc (fun _ => rfl), htab, q3.kept⟩, q4⟩
/-- Append to the law's own row: the shop's rows lie elsewhere, before and behind. -/
theorem shop_append {lb lb' : Nat} (h : @Shop (butRow lb) K w B g s mb n room m st e) (hblk : ∃ cur z, w.heap[lb]? = some (.cells cur 32 z)) (hg : w.grownBy w' (some lb)) (hn : lb' = lb ∨ w.heap.size ≤ lb') : @Shop (butRow lb') K w' B g s mb n room m st e := by
  have h1 : @Shop ⟨fun b => b ≠ lb ∧ b ≠ lb'⟩ K w B g s mb n room m st e := shop_told h (fun b hb hr => ⟨hr, by
    rcases hn with rfl | hn
    · exact hr
    · omega⟩)
  have h2 := shop_row h1 hblk (fun hr => hr.1 rfl) hg
  exact shop_told h2 (fun b _ hr => hr.2)
end
end Go.Proofs.YtimcepoleboldaaGreatDoor
