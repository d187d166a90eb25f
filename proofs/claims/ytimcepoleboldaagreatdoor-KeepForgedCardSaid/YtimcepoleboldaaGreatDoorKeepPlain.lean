/- Plain mathematics of layer 6, first part: maps whose keys rise, records taken, batches. It speaks of no program. -/
import Derived.Laws.Strings
import Derived.Test.YtimcepoleboldaaGreatDoorPackPlain
namespace Go.Proofs.YtimcepoleboldaaGreatDoor.Kp

/-! ### The order of texts -/

def lt (a b : ByteArray) : Bool := Op.bytesLess a.data.toList b.data.toList

theorem less_irrefl : ∀ a : List UInt8, Op.bytesLess a a = false
  | [] => rfl
  | a :: x => by
    show (decide (a < a) || (a == a && Op.bytesLess x x)) = false
    rw [less_irrefl x]
    simp
theorem less_trans : ∀ a b c : List UInt8, Op.bytesLess a b = true → Op.bytesLess b c = true → Op.bytesLess a c = true
  | _, [], _, h, _ => by cases ‹List UInt8› <;> simp [Op.bytesLess] at h
  | _, _ :: _, [], _, h => by simp [Op.bytesLess] at h
  | [], _ :: _, _ :: _, _, _ => rfl
  | a :: x, b :: y, c :: z, h, h' => by
    simp only [Op.bytesLess, Bool.or_eq_true, decide_eq_true_eq, Bool.and_eq_true, beq_iff_eq] at h h' ⊢
    rcases h with h | ⟨rfl, h⟩
    · rcases h' with h' | ⟨rfl, h'⟩
      · exact .inl (UInt8.lt_trans h h')
      · exact .inl h
    · rcases h' with h' | ⟨rfl, h'⟩
      · exact .inl h'
      · exact .inr ⟨rfl, less_trans x y z h h'⟩
theorem less_total : ∀ a b : List UInt8, Op.bytesLess a b = true ∨ a = b ∨ Op.bytesLess b a = true
  | [], [] => .inr (.inl rfl)
  | [], _ :: _ => .inl rfl
  | _ :: _, [] => .inr (.inr rfl)
  | a :: x, b :: y => by
    simp only [Op.bytesLess, Bool.or_eq_true, decide_eq_true_eq, Bool.and_eq_true, beq_iff_eq]
    by_cases h : a = b
    · subst h
      rcases less_total x y with h1 | h1 | h1
      · exact .inl (.inr ⟨rfl, h1⟩)
      · exact .inr (.inl (by rw [h1]))
      · exact .inr (.inr (.inr ⟨rfl, h1⟩))
    · rcases Nat.lt_or_ge a.toNat b.toNat with h1 | h1
      · exact .inl (.inl (UInt8.lt_iff_toNat_lt.mpr h1))
      · refine .inr (.inr (.inl (UInt8.lt_iff_toNat_lt.mpr ?_)))
        have h2 : a.toNat ≠ b.toNat := fun e => h (UInt8.toNat_inj.mp e)
        omega

theorem data_inj {a b : ByteArray} (h : a.data.toList = b.data.toList) : a = b := by
  cases a; cases b
  simp at h
  rw [h]

theorem lt_irrefl (a : ByteArray) : lt a a = false := less_irrefl _
theorem lt_trans {a b c : ByteArray} (h : lt a b = true) (h' : lt b c = true) : lt a c = true := less_trans _ _ _ h h'
theorem lt_total (a b : ByteArray) : lt a b = true ∨ a = b ∨ lt b a = true := by
  rcases less_total a.data.toList b.data.toList with h | h | h
  · exact .inl h
  · exact .inr (.inl (data_inj h))
  · exact .inr (.inr h)
theorem lt_asymm {a b : ByteArray} (h : lt a b = true) : lt b a = false := by
  cases h' : lt b a with
  | false => rfl
  | true => have := lt_trans h h'; rw [lt_irrefl] at this; cases this
theorem lt_ne {a b : ByteArray} (h : lt a b = true) : a ≠ b := by
  rintro rfl
  rw [lt_irrefl] at h
  cases h
theorem lt_of_not {a b : ByteArray} (h : lt a b = false) (hne : a ≠ b) : lt b a = true := by
  rcases lt_total a b with h1 | h1 | h1
  · rw [h] at h1; cases h1
  · exact absurd h1 hne
  · exact h1

/-! ### Maps -/

structure Rc where
  k : Int
  key : ByteArray
  val : ByteArray

abbrev Mp := List (ByteArray × ByteArray)

/-- The keys rise. -/
def Up : Mp → Prop
  | [] => True
  | e :: m => (∀ x ∈ m, lt e.1 x.1 = true) ∧ Up m

def ins : Mp → ByteArray → ByteArray → Mp
  | [], k, v => [(k, v)]
  | e :: m, k, v => if lt e.1 k = true then e :: ins m k v else if e.1 = k then (k, v) :: m else (k, v) :: e :: m
def del : Mp → ByteArray → Mp
  | [], _ => []
  | e :: m, k => if e.1 = k then del m k else e :: del m k
/-- A record taken. -/
def taken (m : Mp) (x : Rc) : Mp := if x.k = 1 then ins m x.key x.val else if x.k = 2 then del m x.key else m
def all (m : Mp) (l : List Rc) : Mp := l.foldl taken m
def look : Mp → ByteArray → Option ByteArray
  | [], _ => none
  | e :: m, k => if e.1 = k then some e.2 else look m k
def size : Mp → Nat
  | [] => 0
  | e :: m => e.1.size + e.2.size + size m

theorem ins_mem {x : ByteArray × ByteArray} : ∀ {m : Mp} {k v : ByteArray}, x ∈ ins m k v → x = (k, v) ∨ x ∈ m
  | [], _, _, h => by simp [ins] at h; exact .inl h
  | e :: m, k, v, h => by
    unfold ins at h
    split at h
    · rcases List.mem_cons.mp h with h | h
      · exact .inr (h ▸ List.mem_cons_self)
      · rcases ins_mem h with h | h
        · exact .inl h
        · exact .inr (List.mem_cons_of_mem _ h)
    · split at h
      · rcases List.mem_cons.mp h with h | h
        · exact .inl h
        · exact .inr (List.mem_cons_of_mem _ h)
      · rcases List.mem_cons.mp h with h | h
        · exact .inl h
        · exact .inr h
theorem del_mem {x : ByteArray × ByteArray} : ∀ {m : Mp} {k : ByteArray}, x ∈ del m k → x ∈ m
  | [], _, h => by simp [del] at h
  | e :: m, k, h => by
    unfold del at h
    split at h
    · exact List.mem_cons_of_mem _ (del_mem h)
    · rcases List.mem_cons.mp h with h | h
      · exact h ▸ List.mem_cons_self
      · exact List.mem_cons_of_mem _ (del_mem h)

theorem up_ins : ∀ {m : Mp} (k v : ByteArray), Up m → Up (ins m k v)
  | [], _, _, _ => ⟨fun _ h => by simp at h, trivial⟩
  | e :: m, k, v, h => by
    unfold ins
    split
    · rename_i hlt
      refine ⟨fun x hx => ?_, up_ins k v h.2⟩
      rcases ins_mem hx with rfl | hx
      · exact hlt
      · exact h.1 x hx
    · split
      · rename_i he
        exact ⟨fun x hx => by rw [← he]; exact h.1 x hx, h.2⟩
      · rename_i hlt he
        have h1 : lt k e.1 = true := lt_of_not (by simpa using hlt) he
        refine ⟨fun x hx => ?_, h⟩
        rcases List.mem_cons.mp hx with rfl | hx
        · exact h1
        · exact lt_trans h1 (h.1 x hx)
theorem up_del : ∀ {m : Mp} (k : ByteArray), Up m → Up (del m k)
  | [], _, _ => trivial
  | e :: m, k, h => by
    unfold del
    split
    · exact up_del k h.2
    · exact ⟨fun x hx => h.1 x (del_mem hx), up_del k h.2⟩
theorem up_taken {m : Mp} (x : Rc) (h : Up m) : Up (taken m x) := by
  unfold taken
  split
  · exact up_ins _ _ h
  · split
    · exact up_del _ h
    · exact h
theorem up_all : ∀ (l : List Rc) {m : Mp}, Up m → Up (all m l)
  | [], _, h => h
  | x :: l, _, h => up_all l (up_taken x h)
theorem all_cons (m : Mp) (x : Rc) (l : List Rc) : all m (x :: l) = all (taken m x) l := rfl
theorem all_append (m : Mp) (l l' : List Rc) : all m (l ++ l') = all (all m l) l' := List.foldl_append

theorem look_ins : ∀ (m : Mp) (k v q : ByteArray), look (ins m k v) q = if q = k then some v else look m q
  | [], k, v, q => by
    show (if k = q then some v else none) = _
    by_cases h : q = k
    · rw [if_pos h, if_pos h.symm]
    · rw [if_neg h, if_neg (Ne.symm h)]; rfl
  | e :: m, k, v, q => by
    unfold ins
    split
    · rename_i hlt
      show (if e.1 = q then some e.2 else look (ins m k v) q) = if q = k then some v else (if e.1 = q then some e.2 else look m q)
      rw [look_ins m k v q]
      by_cases h : e.1 = q
      · rw [if_pos h, if_pos h, if_neg]
        rintro rfl
        exact lt_ne hlt h
      · rw [if_neg h, if_neg h]
    · split
      · rename_i he
        show (if k = q then some v else look m q) = if q = k then some v else (if e.1 = q then some e.2 else look m q)
        by_cases h : q = k
        · rw [if_pos h, if_pos h.symm]
        · rw [if_neg h, if_neg (Ne.symm h), if_neg]
          rw [he]
          exact Ne.symm h
      · show (if k = q then some v else (if e.1 = q then some e.2 else look m q)) = if q = k then some v else (if e.1 = q then some e.2 else look m q)
        by_cases h : q = k
        · rw [if_pos h, if_pos h.symm]
        · rw [if_neg h, if_neg (Ne.symm h)]
theorem look_del : ∀ (m : Mp) (k q : ByteArray), look (del m k) q = if q = k then none else look m q
  | [], k, q => by by_cases h : q = k <;> simp [del, look]
  | e :: m, k, q => by
    unfold del
    split
    · rename_i he
      rw [look_del m k q]
      show _ = if q = k then none else (if e.1 = q then some e.2 else look m q)
      by_cases h : q = k
      · rw [if_pos h, if_pos h]
      · rw [if_neg h, if_neg h, if_neg]
        rw [he]
        exact Ne.symm h
    · rename_i he
      show (if e.1 = q then some e.2 else look (del m k) q) = if q = k then none else (if e.1 = q then some e.2 else look m q)
      rw [look_del m k q]
      by_cases h : e.1 = q
      · rw [if_pos h, if_pos h, if_neg]
        rintro rfl
        exact he h
      · rw [if_neg h, if_neg h]
theorem look_taken (m : Mp) (x : Rc) (q : ByteArray) : look (taken m x) q = if x.k = 1 ∧ q = x.key then some x.val else if x.k = 2 ∧ q = x.key then none else look m q := by
  unfold taken
  by_cases h1 : x.k = 1
  · rw [if_pos h1, look_ins]
    by_cases h : q = x.key
    · rw [if_pos h, if_pos ⟨h1, h⟩]
    · rw [if_neg h, if_neg (show ¬ (x.k = 1 ∧ q = x.key) from fun h' => h h'.2), if_neg (show ¬ (x.k = 2 ∧ q = x.key) from fun h' => h h'.2)]
  · rw [if_neg h1, if_neg (show ¬ (x.k = 1 ∧ q = x.key) from fun h' => h1 h'.1)]
    by_cases h2 : x.k = 2
    · rw [if_pos h2, look_del]
      by_cases h : q = x.key
      · rw [if_pos h, if_pos ⟨h2, h⟩]
      · rw [if_neg h, if_neg (show ¬ (x.k = 2 ∧ q = x.key) from fun h' => h h'.2)]
    · rw [if_neg h2, if_neg (show ¬ (x.k = 2 ∧ q = x.key) from fun h' => h2 h'.1)]

theorem look_none {k : ByteArray} : ∀ {m : Mp}, (∀ x ∈ m, x.1 ≠ k) → look m k = none
  | [], _ => rfl
  | e :: m, h => by
    show (if e.1 = k then some e.2 else look m k) = none
    rw [if_neg (h e List.mem_cons_self)]
    exact look_none fun x hx => h x (List.mem_cons_of_mem _ hx)
theorem look_some {k v : ByteArray} : ∀ {m : Mp}, look m k = some v → (k, v) ∈ m
  | [], h => by simp [look] at h
  | e :: m, h => by
    change (if e.1 = k then some e.2 else look m k) = some v at h
    by_cases he : e.1 = k
    · rw [if_pos he] at h
      cases h
      subst he
      exact List.mem_cons_self
    · rw [if_neg he] at h
      exact List.mem_cons_of_mem _ (look_some h)
theorem look_mem {k v : ByteArray} : ∀ {m : Mp}, Up m → (k, v) ∈ m → look m k = some v
  | e :: m, h, hm => by
    show (if e.1 = k then some e.2 else look m k) = some v
    rcases List.mem_cons.mp hm with rfl | hm
    · rw [if_pos rfl]
    · rw [if_neg (lt_ne (h.1 _ hm))]
      exact look_mem h.2 hm

/-- Maps that have the same are the same. -/
theorem up_ext : ∀ {m n : Mp}, Up m → Up n → (∀ q, look m q = look n q) → m = n
  | [], [], _, _, _ => rfl
  | [], e :: n, _, _, h => by
    have := h e.1
    simp [look] at this
  | e :: m, [], _, _, h => by
    have := h e.1
    simp [look] at this
  | e :: m, f :: n, hm, hn, h => by
    have h1 : look (f :: n) e.1 = some e.2 := by rw [← h]; show (if e.1 = e.1 then _ else _) = _; rw [if_pos rfl]
    have h2 : look (e :: m) f.1 = some f.2 := by rw [h]; show (if f.1 = f.1 then _ else _) = _; rw [if_pos rfl]
    have he : e.1 = f.1 := by
      rcases List.mem_cons.mp (look_some h1) with h3 | h3
      · exact congrArg Prod.fst h3
      · rcases List.mem_cons.mp (look_some h2) with h4 | h4
        · exact (congrArg Prod.fst h4).symm
        · have h5 := lt_trans (hn.1 _ h3) (hm.1 _ h4)
          rw [lt_irrefl] at h5
          cases h5
    have hv : e.2 = f.2 := by
      change (if f.1 = e.1 then some f.2 else look n e.1) = some e.2 at h1
      rw [if_pos he.symm] at h1
      exact (Option.some.inj h1).symm
    have hef : e = f := Prod.ext he hv
    subst hef
    rw [up_ext hm.2 hn.2]
    intro q
    by_cases hq : e.1 = q
    · subst hq
      rw [look_none fun x hx => (lt_ne (hm.1 x hx)).symm, look_none fun x hx => (lt_ne (hn.1 x hx)).symm]
    · have := h q
      change (if e.1 = q then some e.2 else look m q) = (if e.1 = q then some e.2 else look n q) at this
      rwa [if_neg hq, if_neg hq] at this

theorem look_ne_none {m : Mp} {k : ByteArray} : look m k ≠ none ↔ ∃ v, (k, v) ∈ m := by
  constructor
  · intro h
    cases h' : look m k with
    | none => exact absurd h' h
    | some v => exact ⟨v, look_some h'⟩
  · rintro ⟨v, hv⟩ h
    induction m with
    | nil => simp at hv
    | cons e m ih =>
      change (if e.1 = k then some e.2 else look m k) = none at h
      by_cases he : e.1 = k
      · rw [if_pos he] at h; cases h
      · rw [if_neg he] at h
        rcases List.mem_cons.mp hv with rfl | hv
        · exact he rfl
        · exact ih hv h

/-- As the document's text goes: behind i entries, 'done' or not. -/
def goTaken : Mp → Rc → Bool → Mp
  | [], _, true => []
  | [], x, false => [(x.key, x.val)]
  | e :: m, x, d =>
    if d = false ∧ lt e.1 x.key = false then (x.key, x.val) :: ((if e.1 ≠ x.key ∨ x.k ≠ 1 ∧ x.k ≠ 2 then [e] else []) ++ goTaken m x true)
    else (if e.1 ≠ x.key ∨ x.k ≠ 1 ∧ x.k ≠ 2 then [e] else []) ++ goTaken m x d

theorem goTaken_over {x : Rc} (hk : x.k = 1) : ∀ {m : Mp}, (∀ e ∈ m, lt x.key e.1 = true) → goTaken m x true = m
  | [], _ => rfl
  | e :: m, h => by
    have h1 := lt_ne (h e List.mem_cons_self)
    unfold goTaken
    rw [if_neg (by simp), if_pos (.inl (Ne.symm h1)), goTaken_over hk fun e he => h e (List.mem_cons_of_mem _ he)]
    rfl
theorem goTaken_put {x : Rc} (hk : x.k = 1) : ∀ {m : Mp}, Up m → goTaken m x false = ins m x.key x.val
  | [], _ => rfl
  | e :: m, h => by
    unfold goTaken ins
    by_cases h1 : lt e.1 x.key = true
    · rw [if_neg (by simp [h1]), if_pos h1, if_pos (.inl (lt_ne h1)), goTaken_put hk h.2]
      rfl
    · rw [if_pos ⟨rfl, by simpa using h1⟩, if_neg h1]
      by_cases h2 : e.1 = x.key
      · rw [if_pos h2, if_neg (by simp [h2, hk]), goTaken_over hk fun y hy => h2 ▸ h.1 y hy]
        rfl
      · rw [if_neg h2, if_pos (.inl h2), goTaken_over hk fun y hy => lt_trans (lt_of_not (by simpa using h1) h2) (h.1 y hy)]
        rfl
theorem goTaken_del {x : Rc} (hk : x.k = 2) : ∀ (m : Mp), goTaken m x true = del m x.key
  | [] => rfl
  | e :: m => by
    unfold goTaken del
    rw [if_neg (by simp), goTaken_del hk m]
    by_cases h : e.1 = x.key
    · rw [if_pos h, if_neg (by simp [h, hk])]; rfl
    · rw [if_neg h, if_pos (.inl h)]; rfl
theorem goTaken_other {x : Rc} (h1 : x.k ≠ 1) (h2 : x.k ≠ 2) : ∀ (m : Mp), goTaken m x true = m
  | [] => rfl
  | e :: m => by
    unfold goTaken
    rw [if_neg (by simp), goTaken_other h1 h2 m, if_pos (.inr ⟨h1, h2⟩)]
    rfl
theorem goTaken_is {m : Mp} (h : Up m) (x : Rc) : goTaken m x (decide (x.k ≠ 1)) = taken m x := by
  unfold taken
  by_cases h1 : x.k = 1
  · rw [if_pos h1, show decide (x.k ≠ 1) = false by simp [h1]]
    exact goTaken_put h1 h
  · rw [if_neg h1, show decide (x.k ≠ 1) = true by simp [h1]]
    by_cases h2 : x.k = 2
    · rw [if_pos h2]; exact goTaken_del h2 m
    · rw [if_neg h2]; exact goTaken_other h1 h2 m

/-! ### Sizes -/

theorem size_append : ∀ (m n : Mp), size (m ++ n) = size m + size n
  | [], n => by simp [size]
  | e :: m, n => by
    show e.1.size + e.2.size + size (m ++ n) = e.1.size + e.2.size + size m + size n
    rw [size_append m n]
    omega
theorem size_ins_le : ∀ (m : Mp) (k v : ByteArray), size (ins m k v) ≤ size m + k.size + v.size
  | [], k, v => by show k.size + v.size + 0 ≤ 0 + k.size + v.size; omega
  | e :: m, k, v => by
    have := size_ins_le m k v
    unfold ins
    split
    · show e.1.size + e.2.size + size (ins m k v) ≤ e.1.size + e.2.size + size m + k.size + v.size
      omega
    · split
      · show k.size + v.size + size m ≤ e.1.size + e.2.size + size m + k.size + v.size
        omega
      · show k.size + v.size + (e.1.size + e.2.size + size m) ≤ e.1.size + e.2.size + size m + k.size + v.size
        omega
theorem size_del_le : ∀ (m : Mp) (k : ByteArray), size (del m k) ≤ size m
  | [], _ => Nat.le_refl _
  | e :: m, k => by
    have := size_del_le m k
    unfold del
    split
    · show _ ≤ e.1.size + e.2.size + size m
      omega
    · show e.1.size + e.2.size + size (del m k) ≤ e.1.size + e.2.size + size m
      omega
/-- How much a list of records weighs. -/
def heavy : List Rc → Nat
  | [] => 0
  | x :: l => x.key.size + x.val.size + heavy l
theorem size_taken_le (m : Mp) (x : Rc) : size (taken m x) ≤ size m + x.key.size + x.val.size := by
  unfold taken
  split
  · exact size_ins_le _ _ _
  · split
    · have := size_del_le m x.key
      omega
    · omega
theorem size_all_le : ∀ (l : List Rc) (m : Mp), size (all m l) ≤ size m + heavy l
  | [], m => by show size m ≤ size m + 0; omega
  | x :: l, m => by
    have h1 := size_all_le l (taken m x)
    have h2 := size_taken_le m x
    show size (all (taken m x) l) ≤ size m + (x.key.size + x.val.size + heavy l)
    omega
theorem length_ins_le : ∀ (m : Mp) (k v : ByteArray), (ins m k v).length ≤ m.length + 1
  | [], _, _ => Nat.le_refl _
  | e :: m, k, v => by
    have := length_ins_le m k v
    unfold ins
    split
    · simp only [List.length_cons]; omega
    · split <;> simp
theorem length_del_le : ∀ (m : Mp) (k : ByteArray), (del m k).length ≤ m.length
  | [], _ => Nat.le_refl _
  | e :: m, k => by
    have := length_del_le m k
    unfold del
    split <;> simp only [List.length_cons] <;> omega
theorem length_taken_le (m : Mp) (x : Rc) : (taken m x).length ≤ m.length + 1 := by
  unfold taken
  split
  · exact length_ins_le _ _ _
  · split
    · have := length_del_le m x.key
      omega
    · omega
theorem length_all_le : ∀ (l : List Rc) (m : Mp), (all m l).length ≤ m.length + l.length
  | [], _ => Nat.le_refl _
  | x :: l, m => by
    have h1 := length_all_le l (taken m x)
    have h2 := length_taken_le m x
    show (all (taken m x) l).length ≤ m.length + (l.length + 1)
    omega

/-! ### The same again -/

/-- A map that has all of it stays as it is when its own entries are put again. -/
theorem taken_same {m : Mp} (h : Up m) {k v : ByteArray} (hm : (k, v) ∈ m) : taken m ⟨1, k, v⟩ = m := by
  refine up_ext (up_taken _ h) h fun q => ?_
  rw [look_taken]
  by_cases hq : q = k
  · rw [if_pos ⟨rfl, hq⟩, hq, look_mem h hm]
  · rw [if_neg (fun e => hq e.2), if_neg (fun e => absurd (show (1 : Int) = 2 from e.1) (by decide))]
theorem taken_gone {m : Mp} (h : Up m) {k v : ByteArray} (hm : look m k = none) : taken m ⟨2, k, v⟩ = m := by
  refine up_ext (up_taken _ h) h fun q => ?_
  rw [look_taken, if_neg (fun e => absurd (show (2 : Int) = 1 from e.1) (by decide))]
  by_cases hq : q = k
  · rw [if_pos ⟨rfl, hq⟩, hq, hm]
  · rw [if_neg (fun e => hq e.2)]
def puts (m : Mp) : List Rc := m.map fun e => ⟨1, e.1, e.2⟩
theorem all_same {m : Mp} (h : Up m) : ∀ (l : Mp), (∀ e ∈ l, e ∈ m) → all m (puts l) = m
  | [], _ => rfl
  | e :: l, hl => by
    show all (taken m ⟨1, e.1, e.2⟩) (puts l) = m
    rw [taken_same h (hl e List.mem_cons_self)]
    exact all_same h l fun e he => hl e (List.mem_cons_of_mem _ he)

/-- Entries put by rising keys, from nothing, come to the map itself. -/
theorem ins_last : ∀ {m : Mp} {k v : ByteArray}, (∀ x ∈ m, lt x.1 k = true) → ins m k v = m ++ [(k, v)]
  | [], _, _, _ => rfl
  | e :: m, k, v, h => by
    unfold ins
    rw [if_pos (h e List.mem_cons_self), ins_last fun x hx => h x (List.mem_cons_of_mem _ hx)]
    rfl
theorem up_append : ∀ {m n : Mp}, Up (m ++ n) → ∀ x ∈ m, ∀ y ∈ n, lt x.1 y.1 = true
  | e :: m, n, h, x, hx, y, hy => by
    rcases List.mem_cons.mp hx with rfl | hx
    · exact h.1 y (List.mem_append_right _ hy)
    · exact up_append h.2 x hx y hy
theorem all_puts : ∀ (l m : Mp), Up (m ++ l) → all m (puts l) = m ++ l
  | [], m, _ => by show m = _; rw [List.append_nil]
  | e :: l, m, h => by
    show all (ins m e.1 e.2) (puts l) = _
    rw [ins_last fun x hx => up_append h x hx e List.mem_cons_self]
    have e1 : m ++ [(e.1, e.2)] ++ l = m ++ e :: l := by rw [List.append_assoc]; rfl
    rw [all_puts l (m ++ [(e.1, e.2)]) (by rw [e1]; exact h), e1]
theorem all_puts_nil {m : Mp} (h : Up m) : all [] (puts m) = m := all_puts m [] h

/-! ### Batches -/

def enc1 (x : Rc) : List UInt8 := Pk.texted (Pk.recd x.k x.key.data.toList x.val.data.toList)
def batch (l : List Rc) : List UInt8 := Pk.code l.length ++ (l.map enc1).flatten
def mkb (l : List UInt8) : ByteArray := ⟨l.toArray⟩
theorem mkb_back (a : ByteArray) : mkb a.data.toList = a := by cases a; simp [mkb]
/-- So many records, and what is behind them. -/
def unb : Nat → List UInt8 → Option (List Rc × List UInt8)
  | 0, s => some ([], s)
  | n + 1, s =>
    if (Pk.text s).2.1 = 0 ∧ (Pk.unrec (Pk.text s).1).2.2.2 = 0 then
      (unb n (Pk.text s).2.2).map fun r => (⟨((Pk.unrec (Pk.text s).1).1 : Int), mkb (Pk.unrec (Pk.text s).1).2.1, mkb (Pk.unrec (Pk.text s).1).2.2.1⟩ :: r.1, r.2)
    else none
def unbatch (s : List UInt8) : List Rc :=
  if (Pk.num s).2.1 = 0 then match unb (Pk.num s).1 (Pk.num s).2.2 with
    | some (l, []) => l
    | _ => []
  else []
/-- What of a record a batch keeps: a Del has no value. -/
def norm (x : Rc) : Rc := if x.k = 2 then { x with val := ByteArray.empty } else x
theorem taken_norm (m : Mp) (x : Rc) : taken m (norm x) = taken m x := by
  unfold norm
  split
  · rename_i h
    unfold taken
    simp [h]
  · rfl
theorem all_norm : ∀ (l : List Rc) (m : Mp), all m (l.map norm) = all m l
  | [], _ => rfl
  | x :: l, m => by
    show all (taken m (norm x)) (l.map norm) = all (taken m x) l
    rw [taken_norm, all_norm l]

/-- A record that a batch gives back. -/
structure Fit (x : Rc) : Prop where
  kind : x.k = 1 ∨ x.k = 2
  key : x.key.size ≤ 1048576
  val : x.val.size ≤ 1048576

theorem code_le (n : Nat) (h : n ≤ 1048576) : (Pk.code n).length ≤ 8 := Pk.code_len8 n (by omega)
theorem recd_le (k : Int) (a b : List UInt8) (ha : a.length ≤ 1048576) (hb : b.length ≤ 1048576) : (Pk.recd k a b).length ≤ a.length + b.length + 24 := by
  have h1 : (Pk.code (Pk.cl k)).length ≤ 8 := Pk.code_len8 _ (Pk.cl_le k)
  have h2 := code_le a.length ha
  have h3 := code_le b.length hb
  unfold Pk.recd Pk.texted
  split <;> simp only [List.length_append, List.length_nil] <;> omega
theorem data_len (a : ByteArray) : a.data.toList.length = a.size := by cases a; simp [ByteArray.size]
theorem unb_enc {x : Rc} (h : Fit x) (n : Nat) (s : List UInt8) : unb (n + 1) (enc1 x ++ s) = (unb n s).map fun r => (norm x :: r.1, r.2) := by
  obtain ⟨hk, h1, h2⟩ := h
  have l1 : x.key.data.toList.length ≤ 1048576 := by rw [data_len]; exact h1
  have l2 : x.val.data.toList.length ≤ 1048576 := by rw [data_len]; exact h2
  have hr := recd_le x.k _ _ l1 l2
  have ht : Pk.text (enc1 x ++ s) = (Pk.recd x.k x.key.data.toList x.val.data.toList, 0, s) := Pk.text_texted _ _ (by omega)
  have hu : Pk.unrec (Pk.recd x.k x.key.data.toList x.val.data.toList) = (x.k.toNat, x.key.data.toList, if x.k = 2 then [] else x.val.data.toList, 0) := by
    rcases hk with h | h
    · have := Pk.unrec_back_put x.key.data.toList x.val.data.toList [] (by omega) (by omega)
      rw [List.append_nil, if_pos rfl] at this
      rw [h, this]
      rfl
    · have := Pk.unrec_back_del x.key.data.toList [] [] (by omega)
      rw [List.append_nil, if_pos rfl] at this
      have e : Pk.recd 2 x.key.data.toList x.val.data.toList = Pk.recd 2 x.key.data.toList [] := by rw [Pk.recd_del, Pk.recd_del]
      rw [h]
      first | rw [this] | (rw [e, this])
      rfl
  show (if (Pk.text (enc1 x ++ s)).2.1 = 0 ∧ (Pk.unrec (Pk.text (enc1 x ++ s)).1).2.2.2 = 0 then
      (unb n (Pk.text (enc1 x ++ s)).2.2).map fun r => ((⟨((Pk.unrec (Pk.text (enc1 x ++ s)).1).1 : Int), mkb (Pk.unrec (Pk.text (enc1 x ++ s)).1).2.1, mkb (Pk.unrec (Pk.text (enc1 x ++ s)).1).2.2.1⟩ : Rc) :: r.1, r.2)
    else none) = _
  rw [ht]
  simp only [hu]
  rw [if_pos (by simp)]
  congr 1
  funext r
  have : (⟨(x.k.toNat : Int), mkb x.key.data.toList, mkb (if x.k = 2 then [] else x.val.data.toList)⟩ : Rc) = norm x := by
    unfold norm
    rw [mkb_back]
    rcases x with ⟨k, a, b⟩
    rcases hk with h | h
    · change k = 1 at h
      subst h
      show (⟨1, a, mkb b.data.toList⟩ : Rc) = ⟨1, a, b⟩
      rw [mkb_back]
    · change k = 2 at h
      subst h
      rfl
  rw [this]
theorem unb_all : ∀ (l : List Rc) (s : List UInt8), (∀ x ∈ l, Fit x) → unb l.length ((l.map enc1).flatten ++ s) = some (l.map norm, s)
  | [], _, _ => rfl
  | x :: l, s, h => by
    show unb (l.length + 1) ((enc1 x ++ (l.map enc1).flatten) ++ s) = _
    rw [List.append_assoc, unb_enc (h x List.mem_cons_self), unb_all l s fun y hy => h y (List.mem_cons_of_mem _ hy)]
    rfl
theorem unbatch_batch {l : List Rc} (h : ∀ x ∈ l, Fit x) (hl : l.length ≤ 1048576) : unbatch (batch l) = l.map norm := by
  unfold unbatch batch
  rw [Pk.num_code l.length (by omega)]
  have := unb_all l [] h
  rw [List.append_nil] at this
  simp [this]
theorem all_batch {l : List Rc} (h : ∀ x ∈ l, Fit x) (hl : l.length ≤ 1048576) (m : Mp) : all m (unbatch (batch l)) = all m l := by
  rw [unbatch_batch h hl, all_norm]
theorem enc1_le {x : Rc} (h1 : x.key.size ≤ 1048576) (h2 : x.val.size ≤ 1048576) : (enc1 x).length ≤ x.key.size + x.val.size + 32 := by
  have l1 := data_len x.key
  have l2 := data_len x.val
  have h3 := recd_le x.k x.key.data.toList x.val.data.toList (by omega) (by omega)
  have h4 := Pk.code_len8 (Pk.recd x.k x.key.data.toList x.val.data.toList).length (by omega)
  unfold enc1 Pk.texted
  rw [List.length_append]
  omega
theorem encs_le : ∀ (l : List Rc), heavy l ≤ 1048576 → ((l.map enc1).flatten).length ≤ heavy l + 32 * l.length
  | [], _ => Nat.le_refl _
  | x :: l, h => by
    change x.key.size + x.val.size + heavy l ≤ 1048576 at h
    have h1 := encs_le l (by omega)
    have h2 := enc1_le (x := x) (by omega) (by omega)
    show (enc1 x ++ (l.map enc1).flatten).length ≤ x.key.size + x.val.size + heavy l + 32 * (l.length + 1)
    rw [List.length_append]
    omega
theorem batch_le {l : List Rc} (h : heavy l ≤ 1048576) (hl : l.length ≤ 1048576) : (batch l).length ≤ heavy l + 32 * l.length + 8 := by
  have h1 := encs_le l h
  have h2 := code_le l.length hl
  unfold batch
  rw [List.length_append]
  omega

/-! ### A log of batches -/

/-- The map behind a log's records. -/
def mapOf (R : List (List UInt8)) : Mp := R.foldl (fun m s => all m (unbatch s)) []
theorem mapOf_append (R Q : List (List UInt8)) : mapOf (R ++ Q) = Q.foldl (fun m s => all m (unbatch s)) (mapOf R) := List.foldl_append
theorem mapOf_one (R : List (List UInt8)) (s : List UInt8) : mapOf (R ++ [s]) = all (mapOf R) (unbatch s) := by rw [mapOf_append]; rfl
theorem up_fold : ∀ (R : List (List UInt8)) {m : Mp}, Up m → Up (R.foldl (fun m s => all m (unbatch s)) m)
  | [], _, h => h
  | _ :: R, _, h => up_fold R (up_all _ h)
theorem up_mapOf (R : List (List UInt8)) : Up (mapOf R) := up_fold R trivial
end Go.Proofs.YtimcepoleboldaaGreatDoor.Kp
