/- Plain mathematics of layer 9: what the visits come to. -/
import Derived.Test.YtamadegodenobaaDoorFlowDfs
namespace Go.Proofs.YtamadegodenobaaDoor.Fl

/-- From s to s' by visits that begin with those that B tells. -/
structure Met (S : Int → List Int) (B : Int → Prop) (s s' : St) : Prop where
  sub : ∀ x ∈ s.1, x ∈ s'.1
  put : ∀ x ∈ s.2, x ∈ s'.2
  new : ∀ x ∈ s'.1, x ∉ s.1 → x ∈ s'.2 ∧ (∀ t ∈ S x, t ∈ s'.1) ∧ (B x ∨ ∃ y ∈ s'.1, x ∈ S y)
theorem Met.refl (S : Int → List Int) (B : Int → Prop) (s : St) : Met S B s s := ⟨fun _ h => h, fun _ h => h, fun _ h h2 => absurd h h2⟩
theorem Met.trans {S : Int → List Int} {B : Int → Prop} {s s1 s2 : St} (h : Met S B s s1) (k : Met S B s1 s2) : Met S B s s2 where
  sub x hx := k.sub x (h.sub x hx)
  put x hx := k.put x (h.put x hx)
  new x hx hn := by
    by_cases h1 : x ∈ s1.1
    · obtain ⟨a, b, c⟩ := h.new x h1 hn
      refine ⟨k.put x a, fun t ht => k.sub t (b t ht), ?_⟩
      rcases c with c | ⟨y, hy, c⟩
      · exact .inl c
      · exact .inr ⟨y, k.sub y hy, c⟩
    · exact k.new x hx h1
theorem Met.weak {S : Int → List Int} {B C : Int → Prop} {s s1 : St} (h : Met S B s s1) (hBC : ∀ x, B x → C x) : Met S C s s1 where
  sub := h.sub
  put := h.put
  new x hx hn := by
    obtain ⟨a, b, c⟩ := h.new x hx hn
    exact ⟨a, b, c.imp (hBC x) id⟩
theorem each_met {N n : Nat} {S : Int → List Int} (hV : ∀ (i : Int) (s : St), (0 ≤ i ∧ i < (N : Int)) → i ∉ s.1 → um N s.1 ≤ n → Met S (· = i) s (vis S n i s) ∧ i ∈ (vis S n i s).1) :
    ∀ (l : List Int) (s : St), (∀ t ∈ l, 0 ≤ t ∧ t < (N : Int)) → um N s.1 ≤ n → Met S (· ∈ l) s (each (vis S n) l s) ∧ ∀ t ∈ l, t ∈ (each (vis S n) l s).1
  | [], s, _, _ => ⟨Met.refl _ _ _, fun _ h => (nomatch h)⟩
  | t :: l, s, hl, hu => by
    have h1 : Met S (· ∈ t :: l) s (est (vis S n) s t) ∧ t ∈ (est (vis S n) s t).1 := by
      unfold est
      by_cases h : t ∈ s.1
      · rw [if_pos h]
        exact ⟨Met.refl _ _ _, h⟩
      · rw [if_neg h]
        obtain ⟨a, b⟩ := hV t s (hl t (List.mem_cons_self ..)) h hu
        exact ⟨a.weak (fun x hx => by subst hx; exact List.mem_cons_self ..), b⟩
    have hu2 : um N (est (vis S n) s t).1 ≤ n := Nat.le_trans (um_mono h1.1.sub) hu
    obtain ⟨a, b⟩ := each_met hV l (est (vis S n) s t) (fun u hu => hl u (List.mem_cons_of_mem _ hu)) hu2
    show Met S (· ∈ t :: l) s (each (vis S n) l (est (vis S n) s t)) ∧ ∀ u ∈ t :: l, u ∈ (each (vis S n) l (est (vis S n) s t)).1
    refine ⟨h1.1.trans (a.weak (fun x hx => List.mem_cons_of_mem _ hx)), fun u hu => ?_⟩
    rcases List.mem_cons.1 hu with rfl | hu
    · exact a.sub _ h1.2
    · exact b u hu
theorem vis_met {N : Nat} {S : Int → List Int} (hS : ∀ i t, t ∈ S i → 0 ≤ t ∧ t < (N : Int)) : ∀ (n : Nat) (i : Int) (s : St), (0 ≤ i ∧ i < (N : Int)) → i ∉ s.1 → um N s.1 ≤ n → Met S (· = i) s (vis S n i s) ∧ i ∈ (vis S n i s).1
  | 0, i, s, h0, h1, hu => by
    have := um_lt (N := N) (m := s.1) (m' := s.1 ++ [i]) (fun x hx => List.mem_append_left _ hx) h0 h1 (by simp)
    omega
  | n + 1, i, s, h0, h1, hu => by
    have hu2 : um N (s.1 ++ [i]) ≤ n := by
      have := um_lt (N := N) (m := s.1) (m' := s.1 ++ [i]) (fun x hx => List.mem_append_left _ hx) h0 h1 (by simp)
      omega
    obtain ⟨a, b⟩ := each_met (N := N) (n := n) (S := S) (fun j s' => vis_met hS n j s') (S i) (s.1 ++ [i], s.2) (hS i) hu2
    show Met S (· = i) s ((each (vis S n) (S i) (s.1 ++ [i], s.2)).1, (each (vis S n) (S i) (s.1 ++ [i], s.2)).2 ++ [i]) ∧ i ∈ (each (vis S n) (S i) (s.1 ++ [i], s.2)).1
    generalize each (vis S n) (S i) (s.1 ++ [i], s.2) = r at a b ⊢
    have hi : i ∈ r.1 := a.sub i (by simp)
    refine ⟨⟨fun x hx => a.sub x (List.mem_append_left _ hx), fun x hx => List.mem_append_left _ (a.put x hx), fun x hx hn => ?_⟩, hi⟩
    by_cases hxi : x = i
    · subst hxi
      exact ⟨by simp, b, .inl rfl⟩
    · obtain ⟨p, q, c⟩ := a.new x hx (fun hm => by
        rcases List.mem_append.1 hm with h | h
        · exact hn h
        · exact hxi (by simpa using h))
      refine ⟨List.mem_append_left _ p, q, .inr ?_⟩
      rcases c with c | c
      · exact ⟨i, hi, c⟩
      · exact c

/-! ### Order -/
/-- The blocks in their order. -/
def ord (bs : List (List Ir.In)) : List Int := if bs.length = 0 then [] else (post bs).reverse
section
variable {bs : List (List Ir.In)}
theorem succs_rng (i t : Int) (h : t ∈ succs bs i) : 0 ≤ t ∧ t < (bs.length : Int) := (mem_succs.1 h).1
theorem ok_post (h : bs.length ≠ 0) : Ok bs.length 0 (vis (succs bs) bs.length 0 ([], [])) := ok_vis succs_rng _ _ _ _ ⟨Int.le_refl _, by omega⟩ (fun h => (nomatch h)) (ok_start _)
theorem met_post (h : bs.length ≠ 0) : Met (succs bs) (· = 0) ([], []) (vis (succs bs) bs.length 0 ([], [])) ∧ (0 : Int) ∈ (vis (succs bs) bs.length 0 ([], [])).1 := vis_met succs_rng _ _ _ ⟨Int.le_refl _, by omega⟩ (fun h => (nomatch h)) (by rw [um_nil]; exact Nat.le_refl _)
theorem mem_ord (h : bs.length ≠ 0) (x : Int) : x ∈ ord bs ↔ x ∈ (vis (succs bs) bs.length 0 ([], [])).1 := by
  unfold ord
  rw [if_neg h, List.mem_reverse]
  exact ⟨fun hx => (ok_post h).sub x hx, fun hx => ((met_post h).1.new x hx (fun h => (nomatch h))).1⟩
theorem ord_zero (h : bs.length ≠ 0) : (0 : Int) ∈ ord bs := (mem_ord h 0).2 (met_post h).2
theorem ord_rng {x : Int} (hx : x ∈ ord bs) : 0 ≤ x ∧ x < (bs.length : Int) := by
  by_cases h : bs.length = 0
  · unfold ord at hx
    rw [if_pos h] at hx
    exact nomatch hx
  · exact (ok_post h).rng x ((mem_ord h x).1 hx)
theorem ord_closed {x t : Int} (hx : x ∈ ord bs) (ht : t ∈ succs bs x) : t ∈ ord bs := by
  have h : bs.length ≠ 0 := fun e => by
    have := ord_rng hx
    omega
  exact (mem_ord h t).2 (((met_post h).1.new x ((mem_ord h x).1 hx) (fun h => (nomatch h))).2.1 t ht)
theorem ord_from {x : Int} (hx : x ∈ ord bs) (h0 : x ≠ 0) : ∃ y ∈ ord bs, x ∈ succs bs y := by
  have h : bs.length ≠ 0 := fun e => by
    have := ord_rng hx
    omega
  rcases ((met_post h).1.new x ((mem_ord h x).1 hx) (fun h => (nomatch h))).2.2 with c | ⟨y, hy, c⟩
  · exact absurd c h0
  · exact ⟨y, (mem_ord h y).2 hy, c⟩
theorem ord_len : (ord bs).length ≤ bs.length := by
  by_cases h : bs.length = 0
  · unfold ord
    rw [if_pos h]
    exact Nat.zero_le _
  · have h1 := (ok_post h).put
    have h2 := (ok_post h).len
    unfold ord
    rw [if_neg h, List.length_reverse]
    show (vis (succs bs) bs.length 0 ([], [])).2.length ≤ _
    omega
end
end Go.Proofs.YtamadegodenobaaDoor.Fl
