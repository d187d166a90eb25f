/- Plain mathematics of layer 9: what is reached, round by round. -/
import Derived.Test.YtamadegodenobaaDoorFlowMet
namespace Go.Proofs.YtamadegodenobaaDoor.Fl

def stepI (S : Int → List Int) (X : List Int) (i : Nat) : List Int := if (i : Int) ∈ X then X ++ S i else X
def inner (S : Int → List Int) (X : List Int) (k : Nat) : List Int := (List.range k).foldl (stepI S) X
def rnd (S : Int → List Int) (N : Nat) : Nat → List Int
  | 0 => []
  | r + 1 => inner S (rnd S N r ++ [0]) N
theorem inner_up (S : Int → List Int) (X : List Int) (k : Nat) : inner S X (k + 1) = stepI S (inner S X k) k := by
  unfold inner
  rw [List.range_succ, List.foldl_append]
  rfl
theorem sub_step {S : Int → List Int} {X : List Int} {i : Nat} {x : Int} (h : x ∈ X) : x ∈ stepI S X i := by
  unfold stepI
  split
  · exact List.mem_append_left _ h
  · exact h
theorem sub_inner {S : Int → List Int} {X : List Int} {x : Int} (h : x ∈ X) : ∀ k, x ∈ inner S X k
  | 0 => h
  | k + 1 => by rw [inner_up]; exact sub_step (sub_inner h k)
theorem inner_mono {S : Int → List Int} {X : List Int} {x : Int} {k : Nat} (h : x ∈ inner S X k) : ∀ m, x ∈ inner S X (k + m)
  | 0 => h
  | m + 1 => by
    show x ∈ inner S X (k + m + 1)
    rw [inner_up]
    exact sub_step (inner_mono h m)
theorem inner_has {S : Int → List Int} {X : List Int} {N i : Nat} {t : Int} (hi : i < N) (h : (i : Int) ∈ X) (ht : t ∈ S i) : t ∈ inner S X N := by
  have h1 : t ∈ inner S X (i + 1) := by
    rw [inner_up]
    unfold stepI
    rw [if_pos (sub_inner h i)]
    exact List.mem_append_right _ ht
  have h2 := inner_mono h1 (N - (i + 1))
  rwa [show i + 1 + (N - (i + 1)) = N by omega] at h2
theorem inner_in {S : Int → List Int} {X : List Int} {P : Int → Prop} (hX : ∀ x ∈ X, P x) (hP : ∀ x, P x → ∀ t ∈ S x, P t) : ∀ k, ∀ x ∈ inner S X k, P x
  | 0 => hX
  | k + 1 => by
    rw [inner_up]
    intro x hx
    unfold stepI at hx
    split at hx
    · next h =>
      rcases List.mem_append.1 hx with h2 | h2
      · exact inner_in hX hP k x h2
      · exact hP _ (inner_in hX hP k _ h) x h2
    · exact inner_in hX hP k x hx
theorem rnd_in {S : Int → List Int} {N : Nat} {P : Int → Prop} (h0 : P 0) (hP : ∀ x, P x → ∀ t ∈ S x, P t) : ∀ r, ∀ x ∈ rnd S N r, P x
  | 0 => fun x hx => nomatch hx
  | r + 1 => inner_in (fun x hx => by
      rcases List.mem_append.1 hx with h | h
      · exact rnd_in h0 hP r x h
      · simp at h
        subst h
        exact h0) hP N
/-- Closed, with block 0. -/
def Clo (S : Int → List Int) (X : List Int) : Prop := (0 : Int) ∈ X ∧ ∀ x ∈ X, ∀ t ∈ S x, t ∈ X
theorem rnd_clo {S : Int → List Int} {N : Nat} (hN : 0 < N) (hS : ∀ i t, t ∈ S i → 0 ≤ t ∧ t < (N : Int)) : ∀ r, Clo S (rnd S N r) ∨ um N (rnd S N r) + r ≤ N
  | 0 => .inr (by show um N [] + 0 ≤ N; rw [um_nil]; exact Nat.le_refl _)
  | r + 1 => by
    have hrng : ∀ x ∈ rnd S N (r + 1), 0 ≤ x ∧ x < (N : Int) := rnd_in (P := fun x => 0 ≤ x ∧ x < (N : Int)) ⟨Int.le_refl _, by omega⟩ (fun x _ t ht => hS x t ht) (r + 1)
    have hsub : ∀ x ∈ rnd S N r, x ∈ rnd S N (r + 1) := fun x hx => sub_inner (List.mem_append_left _ hx) N
    have hz : (0 : Int) ∈ rnd S N (r + 1) := sub_inner (by simp) N
    by_cases h : ∀ x ∈ rnd S N (r + 1), x ∈ rnd S N r
    · refine .inl ⟨hz, fun x hx t ht => ?_⟩
      have hx2 := h x hx
      have hxr := hrng x hx
      obtain ⟨k, rfl⟩ : ∃ k : Nat, x = (k : Int) := ⟨x.toNat, by omega⟩
      exact inner_has (by omega) (List.mem_append_left _ hx2) ht
    · obtain ⟨x, hx, hn⟩ : ∃ x, x ∈ rnd S N (r + 1) ∧ x ∉ rnd S N r := Classical.byContradiction fun hc => h fun x hx => Classical.byContradiction fun hn => hc ⟨x, hx, hn⟩
      rcases rnd_clo hN hS r with hc | hu
      · refine absurd (inner_in (S := S) (X := rnd S N r ++ [0]) (P := fun y => y ∈ rnd S N r) (fun y hy => ?_) (fun y hy t ht => hc.2 y hy t ht) N x hx) hn
        rcases List.mem_append.1 hy with h2 | h2
        · exact h2
        · simp at h2
          subst h2
          exact hc.1
      · have := um_lt (N := N) hsub (hrng x hx) hn hx
        exact .inr (by omega)
theorem um_zero {N : Nat} {X : List Int} (h : um N X = 0) (k : Nat) (hk : k < N) : (k : Int) ∈ X := by
  unfold um at h
  have h2 := List.eq_nil_of_length_eq_zero h
  have h3 := List.filter_eq_nil_iff.1 h2 k (List.mem_range.2 hk)
  simpa using h3
theorem rnd_all {S : Int → List Int} {N : Nat} (hN : 0 < N) (hS : ∀ i t, t ∈ S i → 0 ≤ t ∧ t < (N : Int)) : Clo S (rnd S N N) := by
  rcases rnd_clo hN hS N with h | h
  · exact h
  · have hu : um N (rnd S N N) = 0 := by omega
    refine ⟨um_zero hu 0 hN, fun x _ t ht => ?_⟩
    have := hS x t ht
    have h2 := um_zero hu t.toNat (by omega)
    rwa [show ((t.toNat : Nat) : Int) = t by omega] at h2

/-- Visits stay in what is closed. -/
theorem each_in {f : Int → St → St} {Z : Int → Prop} (hf : ∀ i s, Z i → ∀ x ∈ (f i s).1, x ∈ s.1 ∨ Z x) : ∀ (l : List Int) (s : St), (∀ t ∈ l, Z t) → ∀ x ∈ (each f l s).1, x ∈ s.1 ∨ Z x
  | [], _, _, x, hx => .inl hx
  | t :: l, s, hl, x, hx => by
    rcases each_in hf l (est f s t) (fun u hu => hl u (List.mem_cons_of_mem _ hu)) x hx with h | h
    · unfold est at h
      split at h
      · exact .inl h
      · exact hf t s (hl t (List.mem_cons_self ..)) x h
    · exact .inr h
theorem vis_in {S : Int → List Int} {Z : Int → Prop} (hZ : ∀ x, Z x → ∀ t ∈ S x, Z t) : ∀ (n : Nat) (i : Int) (s : St), Z i → ∀ x ∈ (vis S n i s).1, x ∈ s.1 ∨ Z x
  | 0, _, _, _, x, hx => .inl hx
  | n + 1, i, s, hi, x, hx => by
    rcases each_in (vis_in hZ n) (S i) (s.1 ++ [i], s.2) (hZ i hi) x hx with h | h
    · rcases List.mem_append.1 h with h | h
      · exact .inl h
      · simp at h
        subst h
        exact .inr hi
    · exact .inr h
/-- What the rounds reach is what Order has. -/
theorem rnd_ord {bs : List (List Ir.In)} (h : bs.length ≠ 0) (x : Int) : x ∈ rnd (succs bs) bs.length bs.length ↔ x ∈ ord bs := by
  constructor
  · exact fun hx => rnd_in (P := fun y => y ∈ ord bs) (ord_zero h) (fun y hy t ht => ord_closed hy ht) bs.length x hx
  · intro hx
    have hc := rnd_all (S := succs bs) (N := bs.length) (by omega) succs_rng
    rcases vis_in (S := succs bs) (Z := fun y => y ∈ rnd (succs bs) bs.length bs.length) (fun y hy t ht => hc.2 y hy t ht) bs.length 0 ([], []) hc.1 x ((mem_ord h x).1 hx) with h2 | h2
    · exact nomatch h2
    · exact h2
end Go.Proofs.YtamadegodenobaaDoor.Fl
