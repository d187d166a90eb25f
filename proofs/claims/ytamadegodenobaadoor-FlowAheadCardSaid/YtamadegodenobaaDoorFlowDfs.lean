/- Plain mathematics of layer 9: visits. -/
import Derived.Test.YtamadegodenobaaDoorFlowPlain
namespace Go.Proofs.YtamadegodenobaaDoor.Fl

/-- Those met, in their order; those put, the first one first. -/
abbrev St := List Int × List Int
def est (f : Int → St → St) (s : St) (t : Int) : St := if t ∈ s.1 then s else f t s
def each (f : Int → St → St) (l : List Int) (s : St) : St := l.foldl (est f) s
def vis (S : Int → List Int) : Nat → Int → St → St
  | 0, _, s => s
  | n + 1, i, s => ((each (vis S n) (S i) (s.1 ++ [i], s.2)).1, (each (vis S n) (S i) (s.1 ++ [i], s.2)).2 ++ [i])

theorem each_up {f : Int → St → St} {l : List Int} {k : Nat} {t : Int} {s : St} (h : l[k]? = some t) : each f (l.take (k + 1)) s = est f (each f (l.take k) s) t := by
  obtain ⟨h1, rfl⟩ := List.getElem?_eq_some_iff.1 h
  unfold each
  rw [List.take_succ_eq_append_getElem h1, List.foldl_append]
  rfl

/-- The blocks that were not met. -/
def um (N : Nat) (m : List Int) : Nat := ((List.range N).filter fun k : Nat => decide ((k : Int) ∉ m)).length
theorem um_filter {N : Nat} {m m' : List Int} (h : ∀ x ∈ m, x ∈ m') : (List.range N).filter (fun k : Nat => decide ((k : Int) ∉ m')) = ((List.range N).filter fun k : Nat => decide ((k : Int) ∉ m)).filter fun k : Nat => decide ((k : Int) ∉ m') := by
  rw [List.filter_filter]
  congr 1
  funext k
  by_cases h1 : (k : Int) ∈ m'
  · simp [h1]
  · have h2 : (k : Int) ∉ m := fun hm => h1 (h _ hm)
    simp [h1, h2]
theorem um_mono {N : Nat} {m m' : List Int} (h : ∀ x ∈ m, x ∈ m') : um N m' ≤ um N m := by
  unfold um
  rw [um_filter h]
  exact List.length_filter_le _ _
theorem um_lt {N : Nat} {m m' : List Int} {i : Int} (h : ∀ x ∈ m, x ∈ m') (h0 : 0 ≤ i ∧ i < (N : Int)) (h1 : i ∉ m) (h2 : i ∈ m') : um N m' < um N m := by
  unfold um
  rw [um_filter h]
  refine List.length_filter_lt_length_iff_exists.2 ⟨i.toNat, ?_, ?_⟩
  · rw [List.mem_filter, List.mem_range]
    refine ⟨by omega, ?_⟩
    have : ((i.toNat : Nat) : Int) = i := by omega
    rw [this]
    simpa using h1
  · have : ((i.toNat : Nat) : Int) = i := by omega
    rw [this]
    simpa using h2
theorem um_nil (N : Nat) : um N [] = N := by
  unfold um
  rw [List.filter_eq_self.2 (fun a _ => by simp), List.length_range]

theorem sub_fold {f : Int → St → St} (hf : ∀ i s x, x ∈ s.1 → x ∈ (f i s).1) : ∀ (l : List Int) (s : St) (x : Int), x ∈ s.1 → x ∈ (each f l s).1
  | [], _, _, h => h
  | t :: l, s, x, h => by
    show x ∈ (each f l (est f s t)).1
    refine sub_fold hf l _ x ?_
    unfold est
    split
    · exact h
    · exact hf _ _ _ h
theorem sub_vis {S : Int → List Int} : ∀ (n : Nat) (i : Int) (s : St) (x : Int), x ∈ s.1 → x ∈ (vis S n i s).1
  | 0, _, _, _, h => h
  | n + 1, _, _, x, h => sub_fold (sub_vis n) _ _ x (List.mem_append_left _ h)

/-- What is so of what was met and put. d: how many visits are under way. -/
structure Ok (N d : Nat) (s : St) : Prop where
  len : s.1.length + um N s.1 ≤ N
  put : s.2.length + d ≤ s.1.length
  rng : ∀ x ∈ s.1, 0 ≤ x ∧ x < (N : Int)
  sub : ∀ x ∈ s.2, x ∈ s.1
theorem Ok.meet {N d : Nat} {s : St} {i : Int} (h : Ok N d s) (h0 : 0 ≤ i ∧ i < (N : Int)) (h1 : i ∉ s.1) : Ok N (d + 1) (s.1 ++ [i], s.2) where
  len := by
    have := um_lt (N := N) (m := s.1) (m' := s.1 ++ [i]) (i := i) (fun x hx => List.mem_append_left _ hx) h0 h1 (by simp)
    have h2 := h.len
    simp only [List.length_append, List.length_singleton]
    omega
  put := by
    have h2 := h.put
    simp only [List.length_append, List.length_singleton]
    omega
  rng := fun x hx => by
    rcases List.mem_append.1 hx with h2 | h2
    · exact h.rng x h2
    · simp at h2
      subst h2
      exact h0
  sub := fun x hx => List.mem_append_left _ (h.sub x hx)
theorem ok_fold {N d : Nat} {f : Int → St → St} (hf : ∀ i s, 0 ≤ i ∧ i < (N : Int) → i ∉ s.1 → Ok N d s → Ok N d (f i s)) : ∀ (l : List Int) (s : St), (∀ t ∈ l, 0 ≤ t ∧ t < (N : Int)) → Ok N d s → Ok N d (each f l s)
  | [], _, _, h => h
  | t :: l, s, hl, h => by
    show Ok N d (each f l (est f s t))
    refine ok_fold hf l _ (fun u hu => hl u (List.mem_cons_of_mem _ hu)) ?_
    unfold est
    split
    · exact h
    · next h1 => exact hf _ _ (hl t (List.mem_cons_self ..)) h1 h
theorem ok_vis {N : Nat} {S : Int → List Int} (hS : ∀ i t, t ∈ S i → 0 ≤ t ∧ t < (N : Int)) : ∀ (n d : Nat) (i : Int) (s : St), 0 ≤ i ∧ i < (N : Int) → i ∉ s.1 → Ok N d s → Ok N d (vis S n i s)
  | 0, _, _, _, _, _, h => h
  | n + 1, d, i, s, h0, h1, h => by
    have h2 : Ok N (d + 1) (each (vis S n) (S i) (s.1 ++ [i], s.2)) := ok_fold (fun j s' hj hn hs => ok_vis hS n (d + 1) j s' hj hn hs) _ _ (hS i) (h.meet h0 h1)
    have hi : i ∈ (each (vis S n) (S i) (s.1 ++ [i], s.2)).1 := sub_fold (sub_vis n) _ _ _ (by simp)
    show Ok N d ((each (vis S n) (S i) (s.1 ++ [i], s.2)).1, (each (vis S n) (S i) (s.1 ++ [i], s.2)).2 ++ [i])
    generalize each (vis S n) (S i) (s.1 ++ [i], s.2) = r at h2 hi ⊢
    obtain ⟨q1, q2, q3, q4⟩ := h2
    exact ⟨q1, by simp only [List.length_append, List.length_singleton]; omega, q3, fun x hx => by
      rcases List.mem_append.1 hx with hx | hx
      · exact q4 x hx
      · simp at hx
        subst hx
        exact hi⟩
theorem ok_start (N : Nat) : Ok N 0 ([], []) := ⟨by rw [um_nil]; simp, by simp, fun _ h => (nomatch h), fun _ h => (nomatch h)⟩

/-- Order, the other way round. -/
def post (bs : List (List Ir.In)) : List Int := (vis (succs bs) bs.length 0 ([], [])).2
end Go.Proofs.YtamadegodenobaaDoor.Fl
