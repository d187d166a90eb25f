/- Blocks that are built: a row of rows of instructions of one's own. -/
import Derived.Test.YtamadegodenobaaDoorIrRow
import Derived.Test.YtamadegodenobaaDoorIrAt
import Derived.Laws.OwnMore
namespace Go.Proofs.YtamadegodenobaaDoor
open Go.ChangeShapes Go.WideShapes Go.RowKit Go.Deep

/-- The kinds of what blocks are built of. -/
def Kd (e : TypeId) : Prop := e = 3 ∨ e = 36 ∨ e = 37
/-- What blocks are built of stays as it was, but for the block g. -/
structure Kb (g : Option Nat) (w w' : World) : Prop where
  size : w.heap.size ≤ w'.heap.size
  blk : ∀ k e cur, Kd e → Blk w k e cur → some k ≠ g → Blk w' k e cur
theorem Kb.of_below {w w' : World} (h : Below w.heap.size w w') (g : Option Nat) : Kb g w w' := ⟨h.size, fun _ _ _ _ hb _ => hb.older h hb.lt⟩
theorem Kb.of_grown {w w' : World} {g : Option Nat} (h : w.grownBy w' g) : Kb g w w' := ⟨h.size, fun _ _ _ _ hb hk => hb.grown h hk⟩
theorem Kb.trans {a b c : World} {g : Option Nat} (h : Kb g a b) (k : Kb g b c) : Kb g a c := ⟨Nat.le_trans h.size k.size, fun i e cur he hb hi => k.blk i e cur he (h.blk i e cur he hb hi) hi⟩
theorem Kb.weak {a b : World} (h : Kb none a b) (g : Option Nat) : Kb g a b := ⟨h.size, fun i e cur he hb _ => h.blk i e cur he hb (by simp)⟩
theorem Kb.set {w : World} (g i : Nat) (x : Value) : Kb (some g) w (w.setCell ⟨g, i, none⟩ x) := ⟨by simp [World.setCell], fun k e cur _ hb hk => hb.apart (p := ⟨g, i, none⟩) (fun e' => hk (by rw [e'])) x⟩

theorem own_blk {w : World} {base size n g : Nat} {e : TypeId} {v : Value} {xs : List Value} (h : w.ownsRow base e size v n xs) (hg : v.ownBlock = some g) : base ≤ g ∧ ∃ cur, Blk w g e cur := by
  obtain ⟨-, ⟨rfl, -⟩ | ⟨g', cap, cur, rfl, h2, h3, -⟩⟩ := h
  · simp [Value.ownBlock] at hg
  · simp [Value.ownBlock] at hg
    subst hg
    exact ⟨h2, cur, h3⟩
theorem row_kb {w w' : World} {g : Option Nat} (hk : Kb g w w') {base size n : Nat} {e : TypeId} {v : Value} {xs : List Value} (he : Kd e) (h : w.ownsRow base e size v n xs) (hne : ∀ i, v.ownBlock = some i → some i ≠ g) : w'.ownsRow base e size v n xs := by
  obtain ⟨hl, ⟨rfl, h0⟩ | ⟨i, cap, cur, rfl, h2, h3, h4⟩⟩ := h
  · exact ⟨hl, .inl ⟨rfl, h0⟩⟩
  · exact ⟨hl, .inr ⟨i, cap, cur, rfl, h2, hk.blk i e cur he h3 (hne i rfl), h4⟩⟩
/-- Blocks of two kinds are two. -/
theorem blk_two {w : World} {g g' : Nat} {e e' : TypeId} {cur cur' : Array Value} (h : Blk w g e cur) (h' : Blk w g' e' cur') (he : e ≠ e') : g ≠ g' := by
  rintro rfl
  have := h.symm.trans h'
  injection this with this
  injection this with _ this
  exact he this

/-- An instruction whose arguments are a row of one's own. -/
def InO (w : World) (B : Nat) (cs : List Value) (x : Ir.In) : Prop :=
  ∃ sl, cs = (InsC x sl).toList ∧ RowI w B sl x.args ∧ In64 x.args ∧ In64 [x.op, x.d, x.a, x.b]
theorem InO.len {w : World} {B : Nat} {cs : List Value} {x : Ir.In} (h : InO w B cs x) : cs.length = 6 := by
  obtain ⟨sl, rfl, -⟩ := h
  rfl
theorem row_slice {w : World} {base size n : Nat} {e : TypeId} {v : Value} {xs : List Value} (h : w.ownsRow base e size v n xs) : ∃ A cap, v = .slice A n cap := by
  obtain ⟨-, ⟨rfl, rfl⟩ | ⟨i, cap, cur, rfl, -⟩⟩ := h
  · exact ⟨none, 0, rfl⟩
  · exact ⟨_, cap, rfl⟩
theorem InO.one {w : World} {B : Nat} {cs : List Value} {x : Ir.In} (h : InO w B cs x) : ∀ u ∈ cs, u.oneCell' = true := by
  obtain ⟨sl, rfl, hr, -⟩ := h
  obtain ⟨A, cap, rfl⟩ := row_slice hr
  intro u hu
  simp at hu
  rcases hu with rfl | rfl | rfl | rfl | rfl | rfl <;> rfl
theorem InO.inr {w : World} {B : Nat} {cs : List Value} {x : Ir.In} (h : InO w B cs x) : InR w cs x := by
  obtain ⟨sl, rfl, hr, h1, h2⟩ := h
  exact ⟨sl, rfl, hr.nums h1, h2 _ (by simp), h2 _ (by simp), h2 _ (by simp), h2 _ (by simp)⟩
/-- Where no row of numbers changes, it stays. -/
theorem InO.kb {w w' : World} {g : Option Nat} {B : Nat} {cs : List Value} {x : Ir.In} (h : InO w B cs x) (hk : Kb g w w') (hg : ∀ i cur, g = some i → ¬ Blk w i 3 cur) : InO w' B cs x := by
  obtain ⟨sl, rfl, hr, h1, h2⟩ := h
  refine ⟨sl, rfl, row_kb hk (.inl rfl) hr (fun i hi e => ?_), h1, h2⟩
  obtain ⟨-, cur, hc⟩ := own_blk hr hi
  exact hg i cur e.symm hc

/-- Instructions as they lie, one behind the other. -/
def FlO (w : World) (B : Nat) (fl : List Value) (b : List Ir.In) : Prop :=
  fl.length = b.length * 6 ∧ ∀ m x, b[m]? = some x → ∃ cs, (∀ i u, cs[i]? = some u → fl[m * 6 + i]? = some u) ∧ InO w B cs x
theorem FlO.nil (w : World) (B : Nat) : FlO w B [] [] := ⟨rfl, fun m x h => by simp at h⟩
theorem FlO.kb {w w' : World} {g : Option Nat} {B : Nat} {fl : List Value} {b : List Ir.In} (h : FlO w B fl b) (hk : Kb g w w') (hg : ∀ i cur, g = some i → ¬ Blk w i 3 cur) : FlO w' B fl b :=
  ⟨h.1, fun m x hx => by
    obtain ⟨cs, h1, h2⟩ := h.2 m x hx
    exact ⟨cs, h1, h2.kb hk hg⟩⟩
theorem FlO.push {w : World} {B : Nat} {fl cs : List Value} {b : List Ir.In} {x : Ir.In} (h : FlO w B fl b) (hx : InO w B cs x) : FlO w B (fl ++ cs) (b ++ [x]) := by
  refine ⟨by rw [List.length_append, List.length_append, h.1, hx.len]; simp; omega, fun m y hy => ?_⟩
  rcases Nat.lt_or_ge m b.length with hlt | hge
  · rw [List.getElem?_append_left hlt] at hy
    obtain ⟨cy, h1, h2⟩ := h.2 m y hy
    refine ⟨cy, fun i u hu => ?_, h2⟩
    have h3 := h1 i u hu
    have := (List.getElem?_eq_some_iff.1 h3).1
    rw [List.getElem?_append_left this]
    exact h3
  · rw [List.getElem?_append_right hge] at hy
    have hm : m = b.length := by
      have := (List.getElem?_eq_some_iff.1 hy).1
      simp at this
      omega
    subst hm
    simp at hy
    subst hy
    refine ⟨cs, fun i u hu => ?_, hx⟩
    rw [← h.1, List.getElem?_append_right (by omega), show fl.length + i - fl.length = i by omega]
    exact hu

/-- Blocks that are built: l so far. -/
structure Bld (B : Nat) (gv : Value) (ws : List Value) (l : List (List Ir.In)) (w : World) : Prop where
  outer : w.ownsRow B 37 1 gv l.length ws
  inner : ∀ (j : Nat) (b : List Ir.In), l[j]? = some b → ∃ v fl, ws[j]? = some v ∧ w.ownsRow B 36 6 v b.length fl ∧ FlO w B fl b
  apart : ∀ (j j' : Nat) (v v' : Value) (g : Nat), j ≠ j' → ws[j]? = some v → ws[j']? = some v' → v.ownBlock = some g → v'.ownBlock ≠ some g
theorem Bld.len {B : Nat} {gv : Value} {ws : List Value} {l : List (List Ir.In)} {w : World} (h : Bld B gv ws l w) : ws.length = l.length := by have := h.outer.1; omega
theorem Bld.kb {B : Nat} {gv : Value} {ws : List Value} {l : List (List Ir.In)} {w w' : World} (h : Bld B gv ws l w) (hk : Kb none w w') : Bld B gv ws l w' :=
  ⟨row_kb hk (.inr (.inr rfl)) h.outer (fun _ _ => by simp), fun j b hj => by
    obtain ⟨v, fl, h1, h2, h3⟩ := h.inner j b hj
    exact ⟨v, fl, h1, row_kb hk (.inr (.inl rfl)) h2 (fun _ _ => by simp), h3.kb hk (fun i cur e => by simp at e)⟩, h.apart⟩
theorem Bld.below {B : Nat} {gv : Value} {ws : List Value} {l : List (List Ir.In)} {w w' : World} (h : Bld B gv ws l w) (hb : Below w.heap.size w w') : Bld B gv ws l w' := h.kb (Kb.of_below hb none)

theorem ne_ins_int : (36 : TypeId) ≠ 3 := by decide
theorem ne_blk_int : (37 : TypeId) ≠ 3 := by decide
theorem ne_ins_blk : (36 : TypeId) ≠ 37 := by decide

/-- One block more, without instructions: v7 is no block of w's. -/
theorem Bld.block {B : Nat} {gv v7 v8 : Value} {ws : List Value} {l : List (List Ir.In)} {w w7 w8 : World} (h : Bld B gv ws l w) (hb : Below w.heap.size w w7) (h7 : w7.ownsRow B 36 6 v7 0 []) (hn : ∀ g, v7.ownBlock = some g → w.heap.size ≤ g)
    (h8 : w8.ownsRow B 37 1 v8 (l.length + 1) (ws ++ [v7])) (hg8 : w7.grownBy w8 gv.ownBlock) : Bld B v8 (ws ++ [v7]) (l ++ [[]]) w8 := by
  have h0 := h.below hb
  have hk := Kb.of_grown hg8
  have hint : ∀ i cur, gv.ownBlock = some i → ¬ Blk w7 i 3 cur := fun i cur e hc => by
    obtain ⟨-, c', hc'⟩ := own_blk h0.outer e
    exact blk_two hc' hc ne_blk_int rfl
  have hrow : ∀ {n : Nat} {v : Value} {xs : List Value}, w7.ownsRow B 36 6 v n xs → w8.ownsRow B 36 6 v n xs := fun hr => row_kb hk (.inr (.inl rfl)) hr (fun i hi e => by
    obtain ⟨-, c', hc'⟩ := own_blk h0.outer e.symm
    obtain ⟨-, c2, hc2⟩ := own_blk hr hi
    exact blk_two hc2 hc' ne_ins_blk rfl)
  refine ⟨by rw [List.length_append]; exact h8, fun j b hj => ?_, fun j j' v v' g hjj hv hv' hg e => ?_⟩
  · rcases Nat.lt_or_ge j l.length with hlt | hge
    · rw [List.getElem?_append_left hlt] at hj
      obtain ⟨v, fl, q1, q2, q3⟩ := h0.inner j b hj
      exact ⟨v, fl, by rw [List.getElem?_append_left (by rw [h.len]; exact hlt)]; exact q1, hrow q2, q3.kb hk hint⟩
    · rw [List.getElem?_append_right hge] at hj
      have hj0 : j = l.length := by
        have := (List.getElem?_eq_some_iff.1 hj).1
        simp at this
        omega
      subst hj0
      simp at hj
      subst hj
      exact ⟨v7, [], by rw [← h.len]; simp, hrow h7, FlO.nil _ _⟩
  · have old : ∀ (i : Nat) (u : Value), (ws ++ [v7])[i]? = some u → (i < ws.length ∧ ws[i]? = some u) ∨ (i = ws.length ∧ u = v7) := fun i u hu => by
      rcases Nat.lt_or_ge i ws.length with hlt | hge
      · rw [List.getElem?_append_left hlt] at hu
        exact .inl ⟨hlt, hu⟩
      · rw [List.getElem?_append_right hge] at hu
        have hi := (List.getElem?_eq_some_iff.1 hu).1
        simp at hi
        have hi0 : i = ws.length := by omega
        subst hi0
        simp at hu
        exact .inr ⟨rfl, hu.symm⟩
    have was : ∀ (i : Nat) (u : Value), ws[i]? = some u → ∀ k, u.ownBlock = some k → k < w.heap.size := fun i u hu k hk => by
      obtain ⟨b', hb'⟩ : ∃ b', l[i]? = some b' := ⟨_, List.getElem?_eq_getElem (by have := (List.getElem?_eq_some_iff.1 hu).1; rw [h.len] at this; exact this)⟩
      obtain ⟨u', fl', q1, q2, -⟩ := h.inner i b' hb'
      rw [hu] at q1
      injection q1 with q1
      subst q1
      exact (q2.lt k hk).2
    rcases old j v hv with ⟨h1, h2⟩ | ⟨h1, rfl⟩ <;> rcases old j' v' hv' with ⟨h3, h4⟩ | ⟨h3, rfl⟩
    · exact h.apart j j' v v' g hjj h2 h4 hg e
    · have a1 := was j v h2 g hg
      have a2 := hn g e
      omega
    · have a1 := was j' v' h4 g e
      have a2 := hn g hg
      omega
    · omega

/-- The last block has one instruction more. -/
theorem Bld.ins {B go n : Nat} {gv v v7 : Value} {ws fl cs : List Value} {l : List (List Ir.In)} {b : List Ir.In} {x : Ir.In} {w w7 : World} (h : Bld B gv ws l w) (hl : l[n]? = some b) (hv : ws[n]? = some v) (hgo : gv.ownBlock = some go)
    (hfl : FlO w B fl b) (hx : InO w B cs x) (h7 : w7.ownsRow B 36 6 v7 (b.length + 1) (fl ++ cs)) (hg7 : w.grownBy w7 v.ownBlock) (hnew : ∀ g, v7.ownBlock = some g → v.ownBlock = some g ∨ w.heap.size ≤ g) :
    Bld B gv (ws.set n v7) (l.set n (b ++ [x])) (w7.setCell ⟨go, n, none⟩ v7) := by
  have hk7 := Kb.of_grown hg7
  have hk8 := Kb.set (w := w7) go n v7
  have hln := (List.getElem?_eq_some_iff.1 hl).1
  obtain ⟨v', fl', q1, q2, -⟩ := h.inner n b hl
  rw [hv] at q1
  injection q1 with q1
  subst q1
  -- the outer row's block is of another kind than the rest
  obtain ⟨hBo, co, hco⟩ := own_blk h.outer hgo
  have hvgo : v.ownBlock ≠ some go := fun e => by
    obtain ⟨-, c2, hc2⟩ := own_blk q2 e
    exact blk_two hc2 hco ne_ins_blk rfl
  have hco7 : Blk w7 go 37 co := hco.grown hg7 (fun e => hvgo e.symm)
  have int7 : ∀ i cur, v.ownBlock = some i → ¬ Blk w i 3 cur := fun i cur e hc => by
    obtain ⟨-, c', hc'⟩ := own_blk q2 e
    exact blk_two hc' hc ne_ins_int rfl
  have int8 : ∀ i cur, some go = some i → ¬ Blk w7 i 3 cur := fun i cur e hc => by
    injection e with e
    subst e
    exact blk_two hco7 hc ne_blk_int rfl
  have row8 : ∀ {m : Nat} {u : Value} {xs : List Value}, w7.ownsRow B 36 6 u m xs → (w7.setCell ⟨go, n, none⟩ v7).ownsRow B 36 6 u m xs := fun hr => row_kb hk8 (.inr (.inl rfl)) hr (fun i hi e => by
    injection e with e
    subst e
    obtain ⟨-, c2, hc2⟩ := own_blk hr hi
    exact blk_two hc2 hco7 ne_ins_blk rfl)
  have fl8 : ∀ {f : List Value} {d : List Ir.In}, FlO w B f d → FlO (w7.setCell ⟨go, n, none⟩ v7) B f d := fun hf => (hf.kb hk7 int7).kb hk8 int8
  refine ⟨?_, fun j d hj => ?_, fun j j' u u' g hjj hu hu' hg e => ?_⟩
  · rw [List.length_set]
    have h9 := row_kb hk7 (.inr (.inr rfl)) h.outer (fun i hi e => by
      rw [hgo] at hi
      injection hi with hi
      subst hi
      exact hvgo e.symm)
    obtain ⟨hlen, ⟨rfl, h0⟩ | ⟨g, cap, cur, rfl, h2, h3, h4, h5, h6, h7'⟩⟩ := h9
    · simp [Value.ownBlock] at hgo
    · simp [Value.ownBlock] at hgo
      subst hgo
      refine ⟨by rw [List.length_set]; exact hlen, .inr ⟨g, cap, cur.setIfInBounds n v7, rfl, h2, Blk.set h3 n v7, h4, h5, by rw [Array.size_setIfInBounds]; exact h6, ?_⟩⟩
      rw [Nat.mul_one] at h7' ⊢
      rw [← h7', Array.toList_setIfInBounds, List.take_set]
  · by_cases hjn : n = j
    · subst hjn
      rw [List.getElem?_set_self hln] at hj
      injection hj with hj
      subst hj
      exact ⟨v7, fl ++ cs, by rw [List.getElem?_set_self (by rw [h.len]; exact hln)], by rw [List.length_append]; exact row8 h7, (fl8 (hfl.push hx))⟩
    · rw [List.getElem?_set_ne hjn] at hj
      obtain ⟨u, f, p1, p2, p3⟩ := h.inner j d hj
      refine ⟨u, f, by rw [List.getElem?_set_ne hjn]; exact p1, row8 (row_kb hk7 (.inr (.inl rfl)) p2 (fun i hi e => ?_)), fl8 p3⟩
      exact h.apart j n u v i (fun e' => hjn e'.symm) p1 hv hi e.symm
  · have was : ∀ (i : Nat) (u : Value), ws[i]? = some u → ∀ k, u.ownBlock = some k → k < w.heap.size := fun i u hu k hk => by
      obtain ⟨b', hb'⟩ : ∃ b', l[i]? = some b' := ⟨_, List.getElem?_eq_getElem (by have := (List.getElem?_eq_some_iff.1 hu).1; rw [h.len] at this; exact this)⟩
      obtain ⟨u', fl', q1, q2, -⟩ := h.inner i b' hb'
      rw [hu] at q1
      injection q1 with q1
      subst q1
      exact (q2.lt k hk).2
    by_cases h1 : n = j
    · subst h1
      rw [List.getElem?_set_self (by rw [h.len]; exact hln)] at hu
      injection hu with hu
      subst hu
      rw [List.getElem?_set_ne hjj] at hu'
      rcases hnew g hg with h2 | h2
      · exact h.apart n j' v u' g hjj hv hu' h2 e
      · have := was j' u' hu' g e
        omega
    · rw [List.getElem?_set_ne h1] at hu
      by_cases h2 : n = j'
      · subst h2
        rw [List.getElem?_set_self (by rw [h.len]; exact hln)] at hu'
        injection hu' with hu'
        subst hu'
        rcases hnew g e with h3 | h3
        · exact h.apart j n u v g hjj hu hv hg h3
        · have := was j u hu g hg
          omega
      · rw [List.getElem?_set_ne h2] at hu'
        exact h.apart j j' u u' g hjj hu hu' hg e

/-- What is built reads as blocks. -/
theorem Bld.blks {B : Nat} {gv : Value} {ws : List Value} {l : List (List Ir.In)} {w : World} (h : Bld B gv ws l w) : Blks w gv l := by
  have h' := h.outer
  obtain ⟨-, ⟨rfl, h0⟩ | ⟨go, ocap, cur, rfl, -, hB, hoc, hom, -⟩⟩ := h.outer
  · exact ⟨none, 0, by rw [h0], ⟨by omega, Nat.zero_le _, fun _ => rfl⟩, fun j x hj => by
      have := (List.getElem?_eq_some_iff.1 hj).1
      omega⟩
  refine ⟨some ⟨go, 0, none⟩, ocap, rfl, ⟨hoc, hom, fun e => by cases e⟩, fun j b hj => ?_⟩
  have hjl := (List.getElem?_eq_some_iff.1 hj).1
  obtain ⟨v, fl, p1, p2, p3⟩ := h.inner j b hj
  refine ⟨go, 0, [v], rfl, lt_of_block hB, rfl, fun i u hu => ?_, v, rfl, ?_⟩
  · match i, hu with
    | 0, hu =>
      simp at hu
      rw [← hu]
      have := h'.cells (g := go) rfl j v p1
      rw [Addr.add_lit, Nat.zero_add] at this
      rw [show 0 + j * 1 + 0 = j by omega]
      exact this
    | i + 1, hu => simp at hu
  · have p2' := p2
    obtain ⟨-, ⟨rfl, hb0⟩ | ⟨gi, cap, cur2, rfl, -, hB2, hc2, hm2, -⟩⟩ := p2
    · exact ⟨none, 0, by rw [hb0], ⟨by omega, Nat.zero_le _, fun _ => rfl⟩, fun m x hx => by
        have := (List.getElem?_eq_some_iff.1 hx).1
        omega⟩
    · refine ⟨some ⟨gi, 0, none⟩, cap, rfl, ⟨hc2, hm2, fun e => by cases e⟩, fun m x hx => ?_⟩
      obtain ⟨cs, k1, k2⟩ := p3.2 m x hx
      refine ⟨gi, 0, cs, rfl, lt_of_block hB2, k2.len, fun i u hu => ?_, k2.inr⟩
      have := p2'.cells (g := gi) rfl (m * 6 + i) u (k1 i u hu)
      rw [Addr.add_lit, Nat.zero_add] at this
      rw [show 0 + m * 6 + i = m * 6 + i by omega]
      exact this
/-! ### rows from B on stay while what lies ahead of B changes -/
structure Far (B : Nat) (w w' : World) : Prop where
  size : w.heap.size ≤ w'.heap.size
  blk : ∀ (i : Nat) (e : TypeId) (cur : Array Value), B ≤ i → Blk w i e cur → Blk w' i e cur
theorem Far.trans {B : Nat} {a b c : World} (h : Far B a b) (k : Far B b c) : Far B a c := ⟨Nat.le_trans h.size k.size, fun i e cur hi hb => k.blk i e cur hi (h.blk i e cur hi hb)⟩
theorem Far.set {B g : Nat} {w : World} (hg : g < B) (i : Nat) (x : Value) : Far B w (w.setCell ⟨g, i, none⟩ x) := ⟨by simp [World.setCell], fun k _ _ hk hb => hb.apart (p := ⟨g, i, none⟩) (by show k ≠ g; omega) x⟩
theorem row_far {B size n : Nat} {e : TypeId} {v : Value} {xs : List Value} {w w' : World} (hk : Far B w w') (h : w.ownsRow B e size v n xs) : w'.ownsRow B e size v n xs := by
  obtain ⟨hl, ⟨rfl, h0⟩ | ⟨i, cap, cur, rfl, h2, h3, h4⟩⟩ := h
  · exact ⟨hl, .inl ⟨rfl, h0⟩⟩
  · exact ⟨hl, .inr ⟨i, cap, cur, rfl, h2, hk.blk i e cur h2 h3, h4⟩⟩
theorem Bld.far {B : Nat} {gv : Value} {ws : List Value} {l : List (List Ir.In)} {w w' : World} (h : Bld B gv ws l w) (hk : Far B w w') : Bld B gv ws l w' :=
  ⟨row_far hk h.outer, fun j b hj => by
    obtain ⟨v, fl, h1, h2, h3, h4⟩ := h.inner j b hj
    refine ⟨v, fl, h1, row_far hk h2, h3, fun m x hx => ?_⟩
    obtain ⟨cs, h5, sl, h6, h7, h8⟩ := h4 m x hx
    exact ⟨cs, h5, sl, h6, row_far hk h7, h8⟩, h.apart⟩
/-- What reads as blocks does so still when what lies ahead of B has changed. -/
def BlkF (B : Nat) (w : World) (gv : Value) (l : List (List Ir.In)) : Prop := ∀ W, Far B w W → Blks W gv l
theorem BlkF.of_bld {B B' : Nat} {w : World} {gv : Value} {ws : List Value} {l : List (List Ir.In)} (h : Bld B gv ws l w) (hB : B' ≤ B) : BlkF B' w gv l := fun _ hF => (h.far ⟨hF.size, fun i e cur hi hb => hF.blk i e cur (Nat.le_trans hB hi) hb⟩).blks
theorem BlkF.nil (B : Nat) (w : World) : BlkF B w (.slice none 0 0) [] := fun _ _ => ⟨none, 0, rfl, ⟨Nat.le_refl _, Nat.zero_le _, fun _ => rfl⟩, fun j x hj => by simp at hj⟩
theorem Far.below {B : Nat} {w w' : World} (h : Below w.heap.size w w') : Far B w w' := ⟨h.size, fun _ _ _ _ hb => hb.older h hb.lt⟩
theorem Far.refl (B : Nat) (w : World) : Far B w w := ⟨Nat.le_refl _, fun _ _ _ _ hb => hb⟩
end Go.Proofs.YtamadegodenobaaDoor
