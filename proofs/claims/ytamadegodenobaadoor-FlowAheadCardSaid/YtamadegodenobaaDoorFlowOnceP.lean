/- Plain mathematics of layer 9: each once. -/
import Derived.Test.YtamadegodenobaaDoorFlowMet
namespace Go.Proofs.YtamadegodenobaaDoor.Fl

/-- What is put from s to s' is new, and is put once. -/
structure Pn (s s' : St) : Prop where
  sub : ∀ x ∈ s.1, x ∈ s'.1
  nd : s'.2.Nodup
  new : ∀ x ∈ s'.2, x ∈ s.2 ∨ (x ∉ s.1 ∧ x ∈ s'.1)
theorem Pn.refl {s : St} (h : s.2.Nodup) : Pn s s := ⟨fun _ h => h, h, fun _ h => .inl h⟩
theorem Pn.trans {s s1 s2 : St} (h : Pn s s1) (k : Pn s1 s2) : Pn s s2 where
  sub x hx := k.sub x (h.sub x hx)
  nd := k.nd
  new x hx := by
    rcases k.new x hx with h1 | ⟨h1, h2⟩
    · rcases h.new x h1 with h3 | ⟨h3, h4⟩
      · exact .inl h3
      · exact .inr ⟨h3, k.sub x h4⟩
    · exact .inr ⟨fun h3 => h1 (h.sub x h3), h2⟩
theorem each_pn {f : Int → St → St} (hf : ∀ i s, i ∉ s.1 → s.2.Nodup → (∀ x ∈ s.2, x ∈ s.1) → Pn s (f i s)) : ∀ (l : List Int) (s : St), s.2.Nodup → (∀ x ∈ s.2, x ∈ s.1) → Pn s (each f l s)
  | [], _, h, _ => Pn.refl h
  | t :: l, s, h, hs => by
    have h1 : Pn s (est f s t) := by
      unfold est
      split
      · exact Pn.refl h
      · next hn => exact hf t s hn h hs
    exact h1.trans (each_pn hf l (est f s t) h1.nd (fun x hx => by
      rcases h1.new x hx with h2 | ⟨_, h2⟩
      · exact h1.sub x (hs x h2)
      · exact h2))
theorem vis_pn {S : Int → List Int} : ∀ (n : Nat) (i : Int) (s : St), i ∉ s.1 → s.2.Nodup → (∀ x ∈ s.2, x ∈ s.1) → Pn s (vis S n i s)
  | 0, _, _, _, h, _ => Pn.refl h
  | n + 1, i, s, hi, h, hs => by
    have h1 := each_pn (vis_pn (S := S) n) (S i) (s.1 ++ [i], s.2) h (fun x hx => List.mem_append_left _ (hs x hx))
    show Pn s ((each (vis S n) (S i) (s.1 ++ [i], s.2)).1, (each (vis S n) (S i) (s.1 ++ [i], s.2)).2 ++ [i])
    generalize each (vis S n) (S i) (s.1 ++ [i], s.2) = r at h1 ⊢
    have hir : i ∈ r.1 := h1.sub i (by simp)
    refine ⟨fun x hx => h1.sub x (List.mem_append_left _ hx), ?_, fun x hx => ?_⟩
    · refine List.nodup_append.2 ⟨h1.nd, by simp, fun a ha b hb => ?_⟩
      simp at hb
      subst hb
      intro e
      subst e
      rcases h1.new a ha with h2 | ⟨h2, _⟩
      · exact hi (hs a h2)
      · exact h2 (by simp)
    · rcases List.mem_append.1 hx with h2 | h2
      · rcases h1.new x h2 with h3 | ⟨h3, h4⟩
        · exact .inl h3
        · exact .inr ⟨fun h5 => h3 (List.mem_append_left _ h5), h4⟩
      · simp at h2
        subst h2
        exact .inr ⟨hi, hir⟩
section
variable {bs : List (List Ir.In)}
theorem ord_nodup : (ord bs).Nodup := by
  unfold ord
  split
  · exact List.nodup_nil
  · unfold post
    have h := (vis_pn (S := succs bs) bs.length 0 ([], []) (fun h => nomatch h) List.nodup_nil (fun x hx => nomatch hx)).nd
    exact List.pairwise_reverse.2 (List.Pairwise.imp (fun h => Ne.symm h) h)
theorem ord_head (h : bs.length ≠ 0) : (ord bs)[0]? = some 0 := by
  unfold ord
  rw [if_neg h]
  unfold post
  obtain ⟨n, hn⟩ : ∃ n, bs.length = n + 1 := ⟨bs.length - 1, by omega⟩
  rw [hn]
  show ((each (vis (succs bs) n) (succs bs 0) ([] ++ [0], [])).2 ++ [(0 : Int)]).reverse[0]? = some 0
  rw [List.reverse_append]
  rfl
theorem ord_count (i : Int) : (ord bs).count i = if i ∈ ord bs then 1 else 0 := List.Nodup.count ord_nodup
theorem count_up {l : List Int} {k : Nat} {t i : Int} (h : l[k]? = some t) : (l.take (k + 1)).count i = (l.take k).count i + if t = i then 1 else 0 := by
  obtain ⟨h1, h2⟩ := List.getElem?_eq_some_iff.1 h
  rw [List.take_succ_eq_append_getElem h1, h2, List.count_append, List.count_singleton]
  by_cases ht : t = i
  · rw [if_pos ht, if_pos (by simp [ht])]
  · rw [if_neg ht, if_neg (by simpa using ht)]
end
end Go.Proofs.YtamadegodenobaaDoor.Fl
