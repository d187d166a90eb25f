/- Plain mathematics of layer 6, third part: a map in buckets by the keys' digests. It speaks of no program. -/
import Derived.Test.YtimcepoleboldaaGreatDoorKeepPlain
import Derived.Test.YtimcepoleboldaaGreatDoorSumPlain
namespace Go.Proofs.YtimcepoleboldaaGreatDoor.Kp

def mixB (k : ByteArray) : Nat := Plain.mix k.data.toList

theorem mixFrom_lt : ∀ (l : List UInt8) (m : Nat), m < 18446744073709551616 → Plain.mixFrom m l < 18446744073709551616
  | [], _, h => h
  | b :: l, m, _ => mixFrom_lt l (Plain.mixStep m b.toNat) (by unfold Plain.mixStep; exact Nat.mod_lt _ (by decide))
theorem mixB_lt (k : ByteArray) : mixB k < 18446744073709551616 := mixFrom_lt _ _ (by decide)

/-! ### Looking up where keys differ -/
def Keys (l : Mp) : Prop := (l.map (·.1)).Nodup

theorem keys_cons {e : ByteArray × ByteArray} {l : Mp} : Keys (e :: l) ↔ (∀ x ∈ l, x.1 ≠ e.1) ∧ Keys l := by
  unfold Keys
  rw [List.map_cons, List.nodup_cons]
  constructor
  · rintro ⟨h1, h2⟩
    exact ⟨fun x hx h => h1 (h ▸ List.mem_map_of_mem hx), h2⟩
  · rintro ⟨h1, h2⟩
    refine ⟨fun h => ?_, h2⟩
    obtain ⟨x, hx, he⟩ := List.mem_map.mp h
    exact h1 x hx he
theorem keys_look : ∀ {l : Mp} {k v : ByteArray}, Keys l → (k, v) ∈ l → look l k = some v
  | e :: l, k, v, h, hm => by
    obtain ⟨h1, h2⟩ := keys_cons.mp h
    show (if e.1 = k then some e.2 else look l k) = some v
    rcases List.mem_cons.mp hm with rfl | hm
    · rw [if_pos rfl]
    · rw [if_neg (fun e' => h1 _ hm e'.symm)]
      exact keys_look h2 hm
theorem up_keys : ∀ {m : Mp}, Up m → Keys m
  | [], _ => List.nodup_nil
  | _ :: _, h => keys_cons.mpr ⟨fun x hx => (lt_ne (h.1 x hx)).symm, up_keys h.2⟩
theorem look_append : ∀ (a b : Mp) (k : ByteArray), look (a ++ b) k = match look a k with | some v => some v | none => look b k
  | [], _, _ => rfl
  | e :: a, b, k => by
    show (if e.1 = k then some e.2 else look (a ++ b) k) = match (if e.1 = k then some e.2 else look a k) with | some v => some v | none => look b k
    by_cases h : e.1 = k
    · rw [if_pos h, if_pos h]
    · rw [if_neg h, if_neg h, look_append a b k]
theorem del_keys {l : Mp} (h : Keys l) (k : ByteArray) : Keys (del l k) := by
  induction l with
  | nil => exact h
  | cons e l ih =>
    obtain ⟨h1, h2⟩ := keys_cons.mp h
    unfold del
    split
    · exact ih h2
    · exact keys_cons.mpr ⟨fun x hx => h1 x (del_mem hx), ih h2⟩
theorem del_none {l : Mp} {k : ByteArray} : ∀ x ∈ del l k, x.1 ≠ k := by
  induction l with
  | nil => intro x hx; simp [del] at hx
  | cons e l ih =>
    intro x hx
    unfold del at hx
    split at hx
    · exact ih x hx
    · rename_i he
      rcases List.mem_cons.mp hx with rfl | hx
      · exact he
      · exact ih x hx
theorem del_append : ∀ (a b : Mp) (k : ByteArray), del (a ++ b) k = del a k ++ del b k
  | [], _, _ => rfl
  | e :: a, b, k => by
    show (if e.1 = k then del (a ++ b) k else e :: del (a ++ b) k) = (if e.1 = k then del a k else e :: del a k) ++ del b k
    rw [del_append a b k]
    split <;> rfl

theorem del_length : ∀ (l : Mp) (k : ByteArray), (del l k).length ≤ l.length
  | [], _ => Nat.le_refl _
  | e :: l, k => by
    have := del_length l k
    unfold del
    split
    · show _ ≤ l.length + 1; omega
    · show _ + 1 ≤ l.length + 1; omega

/-! ### A bucket, with a record taken -/
def bucket (l : Mp) (x : Rc) : Mp := del l x.key ++ if x.k = 1 then [(x.key, x.val)] else []

/-- The bytes that go with a key. -/
def gone : Mp → ByteArray → Nat
  | [], _ => 0
  | e :: l, k => (if e.1 = k then e.1.size + e.2.size else 0) + gone l k
theorem gone_append : ∀ (a b : Mp) (k : ByteArray), gone (a ++ b) k = gone a k + gone b k
  | [], _, _ => by simp [gone]
  | e :: a, b, k => by
    show _ + gone (a ++ b) k = _ + gone a k + gone b k
    rw [gone_append a b k]
    omega
theorem gone_none : ∀ {l : Mp} {k : ByteArray}, (∀ x ∈ l, x.1 ≠ k) → gone l k = 0
  | [], _, _ => rfl
  | e :: l, k, h => by
    show (if e.1 = k then _ else 0) + gone l k = 0
    rw [if_neg (h e List.mem_cons_self), gone_none fun x hx => h x (List.mem_cons_of_mem _ hx)]
theorem gone_look : ∀ {l : Mp} {k : ByteArray}, Keys l → gone l k = match look l k with | some v => k.size + v.size | none => 0
  | [], _, _ => rfl
  | e :: l, k, h => by
    obtain ⟨h1, h2⟩ := keys_cons.mp h
    show (if e.1 = k then e.1.size + e.2.size else 0) + gone l k = match (if e.1 = k then some e.2 else look l k) with | some v => k.size + v.size | none => 0
    by_cases he : e.1 = k
    · rw [if_pos he, if_pos he, gone_none fun x hx => by rw [← he]; exact h1 x hx, he]
      rfl
    · rw [if_neg he, if_neg he, gone_look h2, Nat.zero_add]
theorem size_del : ∀ (m : Mp) (k : ByteArray), size m = size (del m k) + gone m k
  | [], _ => rfl
  | e :: m, k => by
    have ih := size_del m k
    show e.1.size + e.2.size + size m = size (if e.1 = k then del m k else e :: del m k) + ((if e.1 = k then e.1.size + e.2.size else 0) + gone m k)
    by_cases h : e.1 = k
    · rw [if_pos h, if_pos h]; omega
    · rw [if_neg h, if_neg h]
      show _ = e.1.size + e.2.size + size (del m k) + _
      omega
theorem size_ins : ∀ {m : Mp} (k v : ByteArray), Up m → size (ins m k v) = size (del m k) + k.size + v.size
  | [], k, v, _ => by show k.size + v.size + 0 = 0 + k.size + v.size; omega
  | e :: m, k, v, h => by
    have ih := size_ins k v h.2
    unfold ins del
    by_cases h1 : lt e.1 k = true
    · rw [if_pos h1, if_neg (lt_ne h1)]
      show e.1.size + e.2.size + size (ins m k v) = e.1.size + e.2.size + size (del m k) + _ + _
      omega
    · rw [if_neg h1]
      have hg : ∀ x ∈ m, x.1 ≠ k := by
        intro x hx hk
        have h2 := h.1 x hx
        rw [hk] at h2
        exact h1 h2
      have hd : size (del m k) = size m := by have := size_del m k; rw [gone_none hg] at this; omega
      by_cases h2 : e.1 = k
      · rw [if_pos h2, if_pos h2]
        show k.size + v.size + size m = _
        omega
      · rw [if_neg h2, if_neg h2]
        show k.size + v.size + (e.1.size + e.2.size + size m) = e.1.size + e.2.size + size (del m k) + _ + _
        omega

/-- D has, by digests, what the map m has. -/
structure Tabs (D : Nat → Mp) (m : Mp) : Prop where
  home : ∀ d, ∀ e ∈ D d, mixB e.1 = d
  keys : ∀ d, Keys (D d)
  same : ∀ k, look (D (mixB k)) k = look m k

def upd {α : Type} (D : Nat → α) (d : Nat) (x : α) : Nat → α := fun i => if i = d then x else D i
theorem upd_same {α : Type} (D : Nat → α) (d : Nat) (x : α) : upd D d x d = x := if_pos rfl
theorem upd_other {α : Type} (D : Nat → α) {d i : Nat} (x : α) (h : i ≠ d) : upd D d x i = D i := if_neg h

theorem Tabs.nil : Tabs (fun _ => []) [] := ⟨fun _ _ h => by simp at h, fun _ => List.nodup_nil, fun _ => rfl⟩
theorem Tabs.take {D : Nat → Mp} {m : Mp} (h : Tabs D m) {x : Rc} (hk : x.k = 1 ∨ x.k = 2) : Tabs (upd D (mixB x.key) (bucket (D (mixB x.key)) x)) (taken m x) := by
  refine ⟨fun d e he => ?_, fun d => ?_, fun k => ?_⟩
  · by_cases hd : d = mixB x.key
    · subst hd
      rw [upd_same] at he
      unfold bucket at he
      rcases List.mem_append.mp he with he | he
      · exact h.home _ e (del_mem he)
      · split at he
        · simp at he; rw [he]
        · simp at he
    · rw [upd_other _ _ hd] at he
      exact h.home d e he
  · by_cases hd : d = mixB x.key
    · subst hd
      rw [upd_same]
      unfold bucket Keys
      rw [List.map_append, List.nodup_append]
      refine ⟨del_keys (h.keys _) _, ?_, ?_⟩
      · split
        · exact List.nodup_cons.mpr ⟨by simp, List.nodup_nil⟩
        · exact List.nodup_nil
      · intro a ha b hb
        split at hb
        · simp at hb
          subst hb
          obtain ⟨y, hy, rfl⟩ := List.mem_map.mp ha
          exact del_none y hy
        · simp at hb
    · rw [upd_other _ _ hd]
      exact h.keys d
  · rw [look_taken, ← h.same k]
    by_cases hd : mixB k = mixB x.key
    · rw [hd, upd_same]
      unfold bucket
      rw [look_append, look_del]
      by_cases hq : k = x.key
      · subst hq
        rw [if_pos rfl]
        rcases hk with h1 | h1
        · rw [if_pos h1, if_pos ⟨h1, rfl⟩]
          show (if x.key = x.key then some x.val else none) = _
          rw [if_pos rfl]
        · rw [if_neg (by rw [h1]; decide), if_neg (by rw [h1]; rintro ⟨h2, _⟩; exact absurd h2 (by decide)), if_pos ⟨h1, rfl⟩]
          rfl
      · rw [if_neg hq, if_neg (show ¬ (x.k = 1 ∧ k = x.key) from fun h' => hq h'.2), if_neg (show ¬ (x.k = 2 ∧ k = x.key) from fun h' => hq h'.2)]
        have ht : look (if x.k = 1 then [(x.key, x.val)] else []) k = none := by
          split
          · show (if x.key = k then some x.val else none) = none
            rw [if_neg (Ne.symm hq)]
          · rfl
        rw [ht]
        cases look (D (mixB x.key)) k <;> rfl
    · have hq : k ≠ x.key := fun e => hd (by rw [e])
      rw [upd_other _ _ hd, if_neg (show ¬ (x.k = 1 ∧ k = x.key) from fun h' => hq h'.2), if_neg (show ¬ (x.k = 2 ∧ k = x.key) from fun h' => hq h'.2)]

theorem Tabs.gone {D : Nat → Mp} {m : Mp} (h : Tabs D m) (hu : Up m) (k : ByteArray) : gone (D (mixB k)) k = gone m k := by
  rw [gone_look (h.keys _), gone_look (up_keys hu), h.same]
/-- How many bytes there are then. -/
theorem size_taken {m : Mp} (hu : Up m) {x : Rc} (hk : x.k = 1 ∨ x.k = 2) : size (taken m x) + gone m x.key = size m + if x.k = 1 then x.key.size + x.val.size else 0 := by
  have h1 := size_del m x.key
  unfold taken
  rcases hk with h | h
  · rw [if_pos h, if_pos h, size_ins _ _ hu]; omega
  · rw [if_neg (by rw [h]; decide), if_pos h, if_neg (by rw [h]; decide)]; omega
theorem gone_take {l : Mp} {j : Nat} {e : ByteArray × ByteArray} (h : l[j]? = some e) (k : ByteArray) : Kp.gone (l.take (j + 1)) k = Kp.gone (l.take j) k + if e.1 = k then e.1.size + e.2.size else 0 := by
  obtain ⟨h1, rfl⟩ := List.getElem?_eq_some_iff.1 h
  rw [List.take_succ_eq_append_getElem h1, gone_append]
  show _ + (_ + 0) = _
  omega
theorem del_take {l : Mp} {j : Nat} {e : ByteArray × ByteArray} (h : l[j]? = some e) (k : ByteArray) : del (l.take (j + 1)) k = del (l.take j) k ++ if e.1 = k then [] else [e] := by
  obtain ⟨h1, rfl⟩ := List.getElem?_eq_some_iff.1 h
  rw [List.take_succ_eq_append_getElem h1, del_append]
  rfl
theorem gone_take_le (l : Mp) (j : Nat) (k : ByteArray) : Kp.gone (l.take j) k ≤ Kp.gone l k := by
  conv => rhs; rw [← List.take_append_drop j l, gone_append]
  omega
theorem look_take {l : Mp} {j : Nat} {e : ByteArray × ByteArray} (h : l[j]? = some e) (k : ByteArray) (hn : look (l.take j) k = none) : look (l.take (j + 1)) k = if e.1 = k then some e.2 else none := by
  obtain ⟨h1, rfl⟩ := List.getElem?_eq_some_iff.1 h
  rw [List.take_succ_eq_append_getElem h1, look_append, hn]
  rfl
theorem look_take_some {l : Mp} {j : Nat} {k v : ByteArray} (h : look (l.take j) k = some v) : look l k = some v := by
  conv => lhs; rw [← List.take_append_drop j l, look_append, h]

/-! ### All buckets, one behind the other -/
theorem mem_iff {l : Mp} (h : Keys l) {e : ByteArray × ByteArray} : e ∈ l ↔ look l e.1 = some e.2 := ⟨fun he => keys_look h he, fun he => look_some he⟩
theorem nodup_of_keys {l : Mp} (h : Keys l) : l.Nodup := List.Pairwise.of_map (·.1) (fun a b hab e => hab (by rw [e])) h
theorem Tabs.perm {D : Nat → Mp} {m : Mp} (h : Tabs D m) (hu : Up m) {ds : List Nat} (hn : ds.Nodup) (hd : ∀ d, D d ≠ [] → d ∈ ds) : (ds.flatMap D).Perm m := by
  have hmem : ∀ e, e ∈ ds.flatMap D ↔ e ∈ m := by
    intro e
    rw [List.mem_flatMap, mem_iff (up_keys hu), ← h.same e.1]
    constructor
    · rintro ⟨d, _, hd⟩
      rw [h.home d e hd]
      exact keys_look (h.keys d) hd
    · intro he
      have h1 := look_some he
      exact ⟨mixB e.1, hd _ (List.ne_nil_of_mem h1), h1⟩
  refine (List.perm_ext_iff_of_nodup ?_ (nodup_of_keys (up_keys hu))).mpr hmem
  clear hmem hd
  induction ds with
  | nil => exact List.nodup_nil
  | cons d ds ih =>
    rw [List.flatMap_cons, List.nodup_append]
    obtain ⟨h1, h2⟩ := List.nodup_cons.mp hn
    refine ⟨nodup_of_keys (h.keys d), ih h2, fun a ha b hb e => ?_⟩
    subst e
    obtain ⟨d', hd', hb'⟩ := List.mem_flatMap.mp hb
    have := (h.home d a ha).symm.trans (h.home d' a hb')
    rw [this] at h1
    exact h1 hd'
theorem Tabs.len {D : Nat → Mp} {m : Mp} (h : Tabs D m) (hu : Up m) (d : Nat) : (D d).length ≤ m.length := by
  have hp : (D d).Perm (m.filter fun e => decide (mixB e.1 = d)) := (List.perm_ext_iff_of_nodup (nodup_of_keys (h.keys d)) (List.Pairwise.filter _ (nodup_of_keys (up_keys hu)))).mpr (fun e => by
    rw [List.mem_filter, mem_iff (up_keys hu), ← h.same]
    constructor
    · intro he
      have h1 := h.home d e he
      exact ⟨by rw [h1]; exact keys_look (h.keys d) he, by simp [h1]⟩
    · rintro ⟨h1, h2⟩
      have h3 : mixB e.1 = d := by simpa using h2
      rw [h3] at h1
      exact look_some h1)
  rw [hp.length_eq]
  exact List.length_filter_le _ _
/-- What is a map's, and rises, is the map. -/
theorem sorted_eq {l m : Mp} (hp : l.Perm m) (hu : Up m) (hs : l.Pairwise fun a b => lt b.1 a.1 = false) : l = m := by
  have hk : Keys l := (hp.map (fun x : ByteArray × ByteArray => x.1)).nodup_iff.mpr (up_keys hu)
  have hul : Up l := by
    clear hp hu
    induction l with
    | nil => trivial
    | cons e l ih =>
      obtain ⟨h1, h2⟩ := List.pairwise_cons.mp hs
      obtain ⟨h3, h4⟩ := keys_cons.mp hk
      exact ⟨fun x hx => lt_of_not (h1 x hx) (h3 x hx), ih h2 h4⟩
  refine up_ext hul hu fun q => ?_
  cases hq : look m q with
  | some v => exact keys_look hk (hp.mem_iff.mpr (look_some hq))
  | none =>
    cases hl : look l q with
    | none => rfl
    | some v =>
      have := keys_look (up_keys hu) (hp.mem_iff.mp (look_some hl))
      rw [hq] at this
      cases this

/-! ### Does anything differ? -/
/-- At other keys than the records' nothing differs. -/
theorem look_all_other : ∀ (l : List Rc) (m : Mp) (k : ByteArray), (∀ x ∈ l, x.key ≠ k) → look (all m l) k = look m k
  | [], _, _, _ => rfl
  | x :: l, m, k, h => by
    rw [all_cons, look_all_other l _ k fun y hy => h y (List.mem_cons_of_mem _ hy), look_taken]
    have hx := h x List.mem_cons_self
    rw [if_neg (fun h' => hx h'.2.symm), if_neg (fun h' => hx h'.2.symm)]
theorem all_eq_iff {m : Mp} (hu : Up m) (l : List Rc) : all m l = m ↔ ∀ x ∈ l, look (all m l) x.key = look m x.key := by
  constructor
  · intro h x _
    rw [h]
  · intro h
    refine up_ext (up_all l hu) hu fun q => ?_
    by_cases hq : ∃ x ∈ l, x.key = q
    · obtain ⟨x, hx, rfl⟩ := hq
      exact h x hx
    · exact look_all_other l m q fun x hx e => hq ⟨x, hx, e⟩
end Go.Proofs.YtimcepoleboldaaGreatDoor.Kp
