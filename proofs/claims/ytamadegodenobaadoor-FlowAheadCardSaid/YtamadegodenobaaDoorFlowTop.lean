/- Plain mathematics of layer 9: each ahead of its successors, where all go to later ones. -/
import Derived.Test.YtamadegodenobaaDoorFlowOnceP
namespace Go.Proofs.YtamadegodenobaaDoor.Fl

def Top (S : Int → List Int) (l : List Int) : Prop := ∀ (k : Nat) (x : Int), l[k]? = some x → ∀ t ∈ S x, t ∈ l.take k
theorem each_top {N n : Nat} {S : Int → List Int} (hS : ∀ i t, t ∈ S i → 0 ≤ t ∧ t < (N : Int)) (i : Int)
    (hV : ∀ (j : Int) (s : St), (0 ≤ j ∧ j < (N : Int)) → j ∉ s.1 → um N s.1 ≤ n → (∀ x ∈ s.1, x ∈ s.2 ∨ x < j) → Top S s.2 → Top S (vis S n j s).2) :
    ∀ (l : List Int) (s : St), (∀ t ∈ l, (0 ≤ t ∧ t < (N : Int)) ∧ i < t) → um N s.1 ≤ n → (∀ x ∈ s.1, x ∈ s.2 ∨ x ≤ i) → Top S s.2 → Top S (each (vis S n) l s).2
  | [], _, _, _, _, h => h
  | t :: l, s, hl, hu, hp, h => by
    have ht := hl t (List.mem_cons_self ..)
    have h1 : Met S (· = t) s (est (vis S n) s t) ∧ Top S (est (vis S n) s t).2 := by
      unfold est
      by_cases hm : t ∈ s.1
      · rw [if_pos hm]
        exact ⟨Met.refl _ _ _, h⟩
      · rw [if_neg hm]
        exact ⟨(vis_met hS n t s ht.1 hm hu).1, hV t s ht.1 hm hu (fun x hx => (hp x hx).imp id (fun h2 => by omega)) h⟩
    show Top S (each (vis S n) l (est (vis S n) s t)).2
    refine each_top hS i hV l _ (fun u hu2 => hl u (List.mem_cons_of_mem _ hu2)) (Nat.le_trans (um_mono h1.1.sub) hu) (fun x hx => ?_) h1.2
    by_cases hxs : x ∈ s.1
    · exact (hp x hxs).imp (h1.1.put x) id
    · exact .inl (h1.1.new x hx hxs).1
theorem vis_top {N : Nat} {S : Int → List Int} (hS : ∀ i t, t ∈ S i → 0 ≤ t ∧ t < (N : Int)) (hU : ∀ i t, t ∈ S i → i < t) : ∀ (n : Nat) (i : Int) (s : St), (0 ≤ i ∧ i < (N : Int)) → i ∉ s.1 → um N s.1 ≤ n → (∀ x ∈ s.1, x ∈ s.2 ∨ x < i) → Top S s.2 → Top S (vis S n i s).2
  | 0, _, _, _, _, _, _, h => h
  | n + 1, i, s, h0, h1, hu, hp, h => by
    have hu2 : um N (s.1 ++ [i]) ≤ n := by
      have := um_lt (N := N) (m := s.1) (m' := s.1 ++ [i]) (fun x hx => List.mem_append_left _ hx) h0 h1 (by simp)
      omega
    have hp2 : ∀ x ∈ s.1 ++ [i], x ∈ s.2 ∨ x ≤ i := fun x hx => by
      rcases List.mem_append.1 hx with h2 | h2
      · exact (hp x h2).imp id (fun h3 => by omega)
      · simp at h2
        exact .inr (by omega)
    obtain ⟨a, b⟩ := each_met (N := N) (n := n) (S := S) (fun j s' => vis_met hS n j s') (S i) (s.1 ++ [i], s.2) (hS i) hu2
    have ht := each_top hS i (vis_top hS hU n) (S i) (s.1 ++ [i], s.2) (fun t ht => ⟨hS i t ht, hU i t ht⟩) hu2 hp2 h
    show Top S ((each (vis S n) (S i) (s.1 ++ [i], s.2)).2 ++ [i])
    generalize each (vis S n) (S i) (s.1 ++ [i], s.2) = r at a b ht ⊢
    intro k x hx t htx
    by_cases hk : k < r.2.length
    · rw [List.getElem?_append_left hk] at hx
      rw [List.take_append_of_le_length (by omega)]
      exact ht k x hx t htx
    · have hke : k = r.2.length := by
        have := (List.getElem?_eq_some_iff.1 hx).1
        simp at this
        omega
      subst hke
      simp at hx
      subst hx
      rw [List.take_left]
      have h3 := b t htx
      have h4 := hU i t htx
      by_cases hts : t ∈ s.1 ++ [i]
      · rcases hp2 t hts with h5 | h5
        · exact a.put t h5
        · omega
      · exact (a.new t h3 hts).1
/-- In Order each stands ahead of its successors. -/
theorem ord_ahead {bs : List (List Ir.In)} (hU : ∀ i t, t ∈ succs bs i → i < t) {p q : Nat} {i t : Int} (hp : (ord bs)[p]? = some i) (ht : t ∈ succs bs i) (hq : (ord bs)[q]? = some t) : p < q := by
  have h : bs.length ≠ 0 := fun e => by
    have := ord_rng (List.mem_of_getElem? hp)
    omega
  have htop : Top (succs bs) (post bs) := vis_top succs_rng hU bs.length 0 ([], []) ⟨Int.le_refl _, by omega⟩ (fun h => nomatch h) (by rw [um_nil]; exact Nat.le_refl _) (fun x hx => nomatch hx) (fun k x hx => by simp at hx)
  have hnd : (post bs).Nodup := (vis_pn (S := succs bs) bs.length 0 ([], []) (fun h => nomatch h) List.nodup_nil (fun x hx => nomatch hx)).nd
  unfold ord at hp hq
  rw [if_neg h] at hp hq
  have lp := (List.getElem?_eq_some_iff.1 hp).1
  have lq := (List.getElem?_eq_some_iff.1 hq).1
  rw [List.length_reverse] at lp lq
  rw [List.getElem?_reverse lp] at hp
  rw [List.getElem?_reverse lq] at hq
  have h1 := htop _ _ hp t ht
  obtain ⟨j, hj, hjt⟩ := List.mem_iff_getElem.1 h1
  rw [List.length_take] at hj
  rw [List.getElem_take] at hjt
  have h2 : (post bs)[j]? = some t := by rw [List.getElem?_eq_getElem (by omega), hjt]
  have h3 := (List.getElem?_eq_some_iff.1 hq).1
  have h4 : j = (post bs).length - 1 - q := (List.getElem?_inj (by omega) hnd).1 (h2.trans hq.symm)
  omega
end Go.Proofs.YtamadegodenobaaDoor.Fl
