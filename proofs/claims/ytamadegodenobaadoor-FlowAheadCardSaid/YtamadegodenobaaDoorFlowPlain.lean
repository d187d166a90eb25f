/- Plain mathematics of layer 9: successors. -/
import Derived.Test.YtamadegodenobaaDoorIrPlain
namespace Go.Proofs.YtamadegodenobaaDoor.Fl

/-- The last instruction of block i. -/
def lastOf (bs : List (List Ir.In)) (i : Int) : Option Ir.In := if 0 ≤ i then (bs[i.toNat]?).bind List.getLast? else none
def tg (bs : List (List Ir.In)) (i : Int) : List Int := match lastOf bs i with
  | some x => Ir.targets x
  | none => []
def stp (n : Nat) (acc : List Int) (t : Int) : List Int := if (0 ≤ t ∧ t < (n : Int)) ∧ t ∉ acc then acc ++ [t] else acc
/-- Those that are blocks, each once. -/
def pk (n : Nat) (l : List Int) : List Int := l.foldl (stp n) []
def succs (bs : List (List Ir.In)) (i : Int) : List Int := pk bs.length (tg bs i)
def preds (bs : List (List Ir.In)) (i : Int) : List Int := ((List.range bs.length).map Int.ofNat).filter fun k => decide (i ∈ succs bs k)

theorem pk_up {n : Nat} {l : List Int} {k : Nat} {t : Int} (h : l[k]? = some t) : pk n (l.take (k + 1)) = stp n (pk n (l.take k)) t := by
  obtain ⟨h1, rfl⟩ := List.getElem?_eq_some_iff.1 h
  unfold pk
  rw [List.take_succ_eq_append_getElem h1, List.foldl_append]
  rfl
theorem mem_stp {n : Nat} {acc : List Int} {t u : Int} : u ∈ stp n acc t ↔ u ∈ acc ∨ ((0 ≤ u ∧ u < (n : Int)) ∧ u = t) := by
  unfold stp
  split
  · next h =>
    simp only [List.mem_append, List.mem_singleton]
    constructor
    · rintro (h1 | rfl)
      · exact .inl h1
      · exact .inr ⟨h.1, rfl⟩
    · rintro (h1 | ⟨_, rfl⟩)
      · exact .inl h1
      · exact .inr rfl
  · next h =>
    constructor
    · exact .inl
    · rintro (h1 | ⟨h1, rfl⟩)
      · exact h1
      · exact Classical.byContradiction fun h2 => h ⟨h1, h2⟩
theorem mem_fold {n : Nat} {u : Int} : ∀ (l acc : List Int), u ∈ l.foldl (stp n) acc ↔ u ∈ acc ∨ ((0 ≤ u ∧ u < (n : Int)) ∧ u ∈ l)
  | [], acc => by simp
  | t :: l, acc => by
    rw [List.foldl_cons, mem_fold l, mem_stp, List.mem_cons]
    constructor
    · rintro ((h | ⟨h1, h2⟩) | ⟨h1, h2⟩)
      · exact .inl h
      · exact .inr ⟨h1, .inl h2⟩
      · exact .inr ⟨h1, .inr h2⟩
    · rintro (h | ⟨h1, h2 | h2⟩)
      · exact .inl (.inl h)
      · exact .inl (.inr ⟨h1, h2⟩)
      · exact .inr ⟨h1, h2⟩
theorem mem_pk {n : Nat} {u : Int} {l : List Int} : u ∈ pk n l ↔ (0 ≤ u ∧ u < (n : Int)) ∧ u ∈ l := by
  unfold pk
  rw [mem_fold]
  simp
theorem len_stp {n : Nat} {acc : List Int} {t : Int} : (stp n acc t).length ≤ acc.length + 1 := by
  unfold stp
  split <;> simp
theorem len_fold {n : Nat} : ∀ (l acc : List Int), (l.foldl (stp n) acc).length ≤ acc.length + l.length
  | [], acc => by simp
  | t :: l, acc => by
    rw [List.foldl_cons, List.length_cons]
    have h1 := len_fold (n := n) l (stp n acc t)
    have h2 := len_stp (n := n) (acc := acc) (t := t)
    omega
theorem len_pk {n : Nat} {l : List Int} : (pk n l).length ≤ l.length := by
  have := len_fold (n := n) l []
  simpa [pk] using this
theorem nodup_stp {n : Nat} {acc : List Int} {t : Int} (h : acc.Nodup) : (stp n acc t).Nodup := by
  unfold stp
  split
  · next h1 => exact List.nodup_append.2 ⟨h, by simp, fun a ha b hb => by simp at hb; subst hb; exact fun e => h1.2 (e ▸ ha)⟩
  · exact h
theorem nodup_fold {n : Nat} : ∀ (l acc : List Int), acc.Nodup → (l.foldl (stp n) acc).Nodup
  | [], _, h => h
  | _ :: l, _, h => nodup_fold l _ (nodup_stp h)
theorem nodup_pk {n : Nat} {l : List Int} : (pk n l).Nodup := nodup_fold l [] List.nodup_nil

theorem mem_succs {bs : List (List Ir.In)} {i u : Int} : u ∈ succs bs i ↔ (0 ≤ u ∧ u < (bs.length : Int)) ∧ u ∈ tg bs i := mem_pk
theorem tg_none {bs : List (List Ir.In)} {i : Int} (h : ¬ (0 ≤ i ∧ i < (bs.length : Int))) : tg bs i = [] := by
  unfold tg lastOf
  by_cases h0 : 0 ≤ i
  · rw [if_pos h0, List.getElem?_eq_none (by omega)]
    rfl
  · rw [if_neg h0]
theorem succs_none {bs : List (List Ir.In)} {i : Int} (h : ¬ (0 ≤ i ∧ i < (bs.length : Int))) : succs bs i = [] := by
  unfold succs
  rw [tg_none h]
  rfl
theorem tg_empty {bs : List (List Ir.In)} {k : Nat} (h : bs[k]? = some []) : tg bs k = [] := by
  unfold tg lastOf
  rw [if_pos (by omega), Int.toNat_natCast, h]
  rfl
theorem tg_last {bs : List (List Ir.In)} {k m : Nat} {b : List Ir.In} {x : Ir.In} (h : bs[k]? = some b) (hl : b.length = m + 1) (hx : b[m]? = some x) : tg bs k = Ir.targets x := by
  unfold tg lastOf
  rw [if_pos (by omega), Int.toNat_natCast, h]
  show (match b.getLast? with | some x => Ir.targets x | none => []) = _
  rw [List.getLast?_eq_getElem?, hl, Nat.add_sub_cancel, hx]

/-! ### predecessors -/
def predsTo (bs : List (List Ir.In)) (i : Int) (m : Nat) : List Int := ((List.range m).map Int.ofNat).filter fun k => decide (i ∈ succs bs k)
theorem predsTo_all (bs : List (List Ir.In)) (i : Int) : predsTo bs i bs.length = preds bs i := rfl
theorem predsTo_up (bs : List (List Ir.In)) (i : Int) (m : Nat) : predsTo bs i (m + 1) = if i ∈ succs bs m then predsTo bs i m ++ [(m : Int)] else predsTo bs i m := by
  unfold predsTo
  rw [List.range_succ, List.map_append, List.filter_append]
  by_cases h : i ∈ succs bs (m : Int)
  · rw [if_pos h]
    congr 1
    show List.filter _ [(m : Int)] = _
    rw [List.filter_cons_of_pos (by simpa using h)]
    rfl
  · rw [if_neg h]
    show _ ++ List.filter _ [(m : Int)] = _
    rw [List.filter_cons_of_neg (by simpa using h)]
    simp
theorem mem_predsTo {bs : List (List Ir.In)} {i u : Int} {m : Nat} : u ∈ predsTo bs i m ↔ (0 ≤ u ∧ u < (m : Int)) ∧ i ∈ succs bs u := by
  unfold predsTo
  rw [List.mem_filter, List.mem_map]
  constructor
  · rintro ⟨⟨k, hk, rfl⟩, h⟩
    rw [List.mem_range] at hk
    exact ⟨⟨Int.natCast_nonneg _, Int.ofNat_lt.2 hk⟩, by simpa using h⟩
  · rintro ⟨⟨h1, h2⟩, h⟩
    refine ⟨⟨u.toNat, List.mem_range.2 (by omega), ?_⟩, by simpa using h⟩
    show ((u.toNat : Nat) : Int) = u
    omega
theorem mem_preds {bs : List (List Ir.In)} {i u : Int} : u ∈ preds bs i ↔ (0 ≤ u ∧ u < (bs.length : Int)) ∧ i ∈ succs bs u := mem_predsTo
theorem len_predsTo (bs : List (List Ir.In)) (i : Int) (m : Nat) : (predsTo bs i m).length ≤ m := by
  unfold predsTo
  have := List.length_filter_le (fun k => decide (i ∈ succs bs k)) ((List.range m).map Int.ofNat)
  simpa using this
/-- The turned question. -/
theorem turned {bs : List (List Ir.In)} {i k : Int} (hi : 0 ≤ i ∧ i < (bs.length : Int)) : k ∈ succs bs i ↔ i ∈ preds bs k := by
  rw [mem_preds]
  exact ⟨fun h => ⟨hi, h⟩, fun h => h.2⟩
end Go.Proofs.YtamadegodenobaaDoor.Fl
