/- Plain mathematics of layer 2: a number's digits as bytes, what comes next of some bytes, texts, records. It speaks of no program. -/
namespace Go.Proofs.YtimcepoleboldaaGreatDoor.Pk

/-- A number's code, with fuel. -/
def codeF : Nat → Nat → List UInt8
  | 0, n => [UInt8.ofNat n]
  | f + 1, n => if n < 128 then [UInt8.ofNat n] else UInt8.ofNat (n % 128 + 128) :: codeF f (n / 128)

/-- A number's code. -/
def code (n : Nat) : List UInt8 := codeF n n

theorem codeF_eq : ∀ (f g n : Nat), n ≤ f → n ≤ g → codeF f n = codeF g n := by
  intro f
  induction f with
  | zero =>
    intro g n hf hg
    obtain rfl : n = 0 := by omega
    cases g with
    | zero => rfl
    | succ g => simp [codeF]
  | succ f ih =>
    intro g n hf hg
    cases g with
    | zero =>
      obtain rfl : n = 0 := by omega
      simp [codeF]
    | succ g =>
      simp only [codeF]
      by_cases h : n < 128
      · rw [if_pos h, if_pos h]
      · rw [if_neg h, if_neg h, ih g (n / 128) (by omega) (by omega)]

theorem code_lt (n : Nat) (h : n < 128) : code n = [UInt8.ofNat n] := by
  unfold code
  cases n with
  | zero => rfl
  | succ n => simp [codeF, h]

theorem code_ge (n : Nat) (h : 128 ≤ n) : code n = UInt8.ofNat (n % 128 + 128) :: code (n / 128) := by
  unfold code
  cases n with
  | zero => omega
  | succ n =>
    simp only [codeF]
    rw [if_neg (by omega), codeF_eq n ((n + 1) / 128) ((n + 1) / 128) (by omega) (Nat.le_refl _)]

theorem code_pos (n : Nat) : 0 < (code n).length := by
  by_cases h : n < 128
  · rw [code_lt n h]; simp
  · rw [code_ge n (by omega)]; simp

theorem code_ne (n : Nat) : code n ≠ [] := by
  intro h
  have := code_pos n
  rw [h] at this
  simp at this

theorem code_len : ∀ (k n : Nat), n < 128 ^ (k + 1) → (code n).length ≤ k + 1 := by
  intro k
  induction k with
  | zero => intro n h; rw [code_lt n (by simpa using h)]; simp
  | succ k ih =>
    intro n h
    by_cases h1 : n < 128
    · rw [code_lt n h1]; simp
    · rw [code_ge n (by omega)]
      have h2 : n / 128 < 128 ^ (k + 1) := by
        rw [Nat.div_lt_iff_lt_mul (by omega)]
        rwa [Nat.pow_succ] at h
      have := ih (n / 128) h2
      simp only [List.length_cons]
      omega

theorem code_len_ge : ∀ (k n : Nat), 128 ^ (k + 1) ≤ n → k + 1 < (code n).length := by
  intro k
  induction k with
  | zero =>
    intro n h
    rw [code_ge n (by simpa using h)]
    have := code_pos (n / 128)
    simp only [List.length_cons]
    omega
  | succ k ih =>
    intro n h
    have hp : 128 ^ (k + 1 + 1) = 128 ^ (k + 1) * 128 := Nat.pow_succ ..
    have h1 : 0 < 128 ^ (k + 1) := Nat.pow_pos (by omega)
    rw [code_ge n (by omega)]
    have h2 : 128 ^ (k + 1) ≤ n / 128 := by
      rw [Nat.le_div_iff_mul_le (by omega)]
      omega
    have := ih (n / 128) h2
    simp only [List.length_cons]
    omega

/-- 2^56 - 1. -/
def most : Nat := 72057594037927935

/-- What an int counts as. -/
def cl (n : Int) : Nat := (max 0 (min n 72057594037927935)).toNat

theorem cl_le (n : Int) : cl n ≤ 72057594037927935 := by unfold cl; omega
theorem cl_cast (n : Int) : ((cl n : Nat) : Int) = max 0 (min n 72057594037927935) := by unfold cl; omega
theorem cl_nat (n : Nat) (h : n ≤ 72057594037927935) : cl (n : Int) = n := by unfold cl; omega

theorem code_len8 (n : Nat) (h : n ≤ 72057594037927935) : (code n).length ≤ 8 := code_len 7 n (by omega)

/-- The longer code is the greater number's. -/
theorem code_sorts (m n : Nat) (h : m ≤ n) : (code m).length ≤ (code n).length := by
  revert m
  induction n using Nat.strongRecOn with
  | _ n ih =>
    intro m h
    by_cases h1 : m < 128
    · rw [code_lt m h1]
      exact code_pos n
    · rw [code_ge m (by omega), code_ge n (by omega)]
      simp only [List.length_cons]
      have := ih (n / 128) (by omega) (m / 128) (by omega)
      omega

theorem code_one (n : Nat) : (code n).length = 1 ↔ n < 128 := by
  constructor
  · intro h
    by_cases h1 : n < 128
    · exact h1
    · rw [code_ge n (by omega)] at h
      have := code_pos (n / 128)
      simp only [List.length_cons] at h
      omega
  · intro h; rw [code_lt n h]; rfl

/-! ### What comes next of some bytes -/

/-- From the digit i on, acc so far: the number, the error, what is left. -/
def numGo : Nat → Nat → List UInt8 → Nat × Nat × List UInt8
  | _, _, [] => (0, 20, [])
  | i, acc, b :: t =>
    if i = 8 then (0, 21, [])
    else if 128 ≤ b.toNat then numGo (i + 1) (acc + b.toNat % 128 * 2 ^ (7 * i)) t
    else if b.toNat = 0 ∧ 0 < i then (0, 21, [])
    else (acc + b.toNat % 128 * 2 ^ (7 * i), 0, t)

/-- The number whose code comes next, the error, what is left. -/
def num (l : List UInt8) : Nat × Nat × List UInt8 :=
  if (numGo 0 0 l).2.1 = 0 then numGo 0 0 l else (0, (numGo 0 0 l).2.1, l)

/-- The text that comes next, the error, what is left. -/
def text (l : List UInt8) : List UInt8 × Nat × List UInt8 :=
  if (num l).2.1 = 0 then
    if (num l).1 ≤ (num l).2.2.length then ((num l).2.2.take (num l).1, 0, (num l).2.2.drop (num l).1)
    else ([], 20, l)
  else ([], (num l).2.1, l)

theorem toNat_more (n : Nat) : (UInt8.ofNat (n % 128 + 128)).toNat = n % 128 + 128 := by
  rw [UInt8.toNat_ofNat']; omega
theorem toNat_last (n : Nat) (h : n < 128) : (UInt8.ofNat n).toNat = n := by
  rw [UInt8.toNat_ofNat']; omega

theorem numGo_code : ∀ (n i acc : Nat) (r : List UInt8), i + (code n).length ≤ 8 → (0 < n ∨ i = 0) →
    numGo i acc (code n ++ r) = (acc + n * 2 ^ (7 * i), 0, r) := by
  intro n
  induction n using Nat.strongRecOn with
  | _ n ih =>
    intro i acc r hl hz
    by_cases h1 : n < 128
    · rw [code_lt n h1] at hl ⊢
      simp only [List.length_singleton] at hl
      simp only [List.singleton_append, numGo, toNat_last n h1]
      rw [if_neg (by omega), if_neg (by omega), if_neg (by omega), Nat.mod_eq_of_lt h1]
    · rw [code_ge n (by omega)] at hl ⊢
      simp only [List.length_cons] at hl
      have hp := code_pos (n / 128)
      simp only [List.cons_append, numGo, toNat_more]
      rw [if_neg (by omega), if_pos (by omega), ih (n / 128) (by omega) (i + 1) _ r (by omega) (.inl (by omega))]
      have e1 : (n % 128 + 128) % 128 = n % 128 := by omega
      have e2 : 2 ^ (7 * (i + 1)) = 128 * 2 ^ (7 * i) := by
        rw [show 7 * (i + 1) = 7 * i + 7 by omega, Nat.pow_add, Nat.mul_comm]
      rw [e1, e2]
      have e3 : n / 128 * (128 * 2 ^ (7 * i)) = (n / 128 * 128) * 2 ^ (7 * i) := by rw [Nat.mul_assoc]
      rw [e3, Nat.add_assoc, ← Nat.add_mul]
      have e4 : n % 128 + n / 128 * 128 = n := by omega
      rw [e4]

theorem numGo_cut : ∀ (n i acc k : Nat), k < (code n).length → i + k ≤ 8 → numGo i acc ((code n).take k) = (0, 20, []) := by
  intro n
  induction n using Nat.strongRecOn with
  | _ n ih =>
    intro i acc k hk hi
    cases k with
    | zero => rfl
    | succ k =>
      by_cases h1 : n < 128
      · rw [code_lt n h1] at hk
        simp at hk
      · rw [code_ge n (by omega)] at hk ⊢
        simp only [List.length_cons] at hk
        simp only [List.take_succ_cons, numGo, toNat_more]
        rw [if_neg (by omega), if_pos (by omega), ih (n / 128) (by omega) (i + 1) _ k (by omega) (by omega)]

/-! ### The loop's ways, one by one -/

theorem num_end {l : List UInt8} {i acc : Nat} (h : numGo 0 0 l = numGo i acc []) : num l = (0, 20, l) := by
  unfold num; rw [h]; simp [numGo]
theorem num_eight {l : List UInt8} {acc : Nat} {b : UInt8} {t : List UInt8} (h : numGo 0 0 l = numGo 8 acc (b :: t)) : num l = (0, 21, l) := by
  unfold num; rw [h]; simp [numGo]
theorem num_more {l : List UInt8} {i acc : Nat} {b : UInt8} {t : List UInt8} (h : numGo 0 0 l = numGo i acc (b :: t)) (hi : i < 8) (hb : 128 ≤ b.toNat) : numGo 0 0 l = numGo (i + 1) (acc + b.toNat % 128 * 2 ^ (7 * i)) t := by
  rw [h, numGo, if_neg (by omega), if_pos hb]
theorem num_zero {l : List UInt8} {i acc : Nat} {b : UInt8} {t : List UInt8} (h : numGo 0 0 l = numGo i acc (b :: t)) (hi : i < 8) (hb : b.toNat = 0) (h0 : 0 < i) : num l = (0, 21, l) := by
  rw [numGo, if_neg (by omega), if_neg (by omega), if_pos ⟨hb, h0⟩] at h
  unfold num; rw [h]; rfl
theorem num_last {l : List UInt8} {i acc : Nat} {b : UInt8} {t : List UInt8} (h : numGo 0 0 l = numGo i acc (b :: t)) (hi : i < 8) (hb : b.toNat < 128) (h0 : ¬ (b.toNat = 0 ∧ 0 < i)) : num l = (acc + b.toNat % 128 * 2 ^ (7 * i), 0, t) := by
  rw [numGo, if_neg (by omega), if_neg (by omega), if_neg h0] at h
  unfold num; rw [h]; rfl

theorem pow_le (i : Nat) (hi : i < 8) : 2 ^ (7 * i) ≤ 562949953421312 := by
  have h : 2 ^ (7 * i) ≤ 2 ^ 49 := Nat.pow_le_pow_right (by omega) (by omega)
  exact h
theorem sum_lt (acc i b : Nat) (ha : acc < 2 ^ (7 * i)) : acc + b % 128 * 2 ^ (7 * i) < 2 ^ (7 * (i + 1)) := by
  have e : 2 ^ (7 * (i + 1)) = 128 * 2 ^ (7 * i) := by
    rw [show 7 * (i + 1) = 7 * i + 7 by omega, Nat.pow_add, Nat.mul_comm]
  have h1 : b % 128 * 2 ^ (7 * i) ≤ 127 * 2 ^ (7 * i) := Nat.mul_le_mul_right _ (by omega)
  rw [e]
  generalize 2 ^ (7 * i) = p at *
  generalize b % 128 * p = m at *
  omega
theorem sum_small (acc i b : Nat) (hi : i < 8) (ha : acc < 2 ^ (7 * i)) : b % 128 * 2 ^ (7 * i) ≤ 71494644084506624 ∧ acc + b % 128 * 2 ^ (7 * i) < 72057594037927936 := by
  have h1 : b % 128 * 2 ^ (7 * i) ≤ 127 * 562949953421312 := Nat.mul_le_mul (by omega) (pow_le i hi)
  have h2 := sum_lt acc i b ha
  have h3 : 2 ^ (7 * (i + 1)) ≤ 2 ^ 56 := Nat.pow_le_pow_right (by omega) (by omega)
  exact ⟨h1, Nat.lt_of_lt_of_le h2 h3⟩

theorem num_code (n : Nat) (h : n ≤ 72057594037927935) (r : List UInt8) : num (code n ++ r) = (n, 0, r) := by
  have := numGo_code n 0 0 r (by have := code_len8 n h; omega) (.inr rfl)
  unfold num
  rw [this]
  simp

theorem num_cut (n : Nat) (h : n ≤ 72057594037927935) (k : Nat) (hk : k < (code n).length) : num ((code n).take k) = (0, 20, (code n).take k) := by
  have := numGo_cut n 0 0 k hk (by have := code_len8 n h; omega)
  unfold num
  rw [this]
  simp

theorem num_wrong (l : List UInt8) (h : (num l).2.1 ≠ 0) : (num l).2.2 = l := by
  unfold num at h ⊢
  by_cases h1 : (numGo 0 0 l).2.1 = 0
  · rw [if_pos h1] at h; exact absurd h1 h
  · rw [if_neg h1]
theorem numGo_most : ∀ (l : List UInt8) (i acc : Nat), i ≤ 8 → acc < 2 ^ (7 * i) → (numGo i acc l).1 ≤ 72057594037927935 := by
  intro l
  induction l with
  | nil => intro i acc _ _; simp [numGo]
  | cons b t ih =>
    intro i acc hi ha
    unfold numGo
    split
    · simp
    · rename_i h8
      have h7 : i < 8 := by omega
      split
      · exact ih _ _ (by omega) (sum_lt acc i b.toNat ha)
      · split
        · simp
        · have := (sum_small acc i b.toNat h7 ha).2
          show acc + b.toNat % 128 * 2 ^ (7 * i) ≤ 72057594037927935
          omega
/-- What is read is no more than the most. -/
theorem num_most (l : List UInt8) : (num l).1 ≤ 72057594037927935 := by
  unfold num
  split
  · exact numGo_most l 0 0 (by omega) (by omega)
  · simp

theorem num_nil : num [] = (0, 20, []) := rfl

/-- Two numbers with one code are one. -/
theorem code_inj (m n : Nat) (hm : m ≤ 72057594037927935) (hn : n ≤ 72057594037927935) (h : code m = code n) : m = n := by
  have h1 := num_code m hm []
  have h2 := num_code n hn []
  rw [h, h2] at h1
  exact (congrArg Prod.fst h1).symm

theorem code_same (m n : Nat) (hm : m ≤ 72057594037927935) (hn : n ≤ 72057594037927935) : (code m == code n) = ((m : Int) == (n : Int)) := by
  by_cases h : m = n
  · subst h; simp
  · have h1 : ¬ code m = code n := fun e => h (code_inj m n hm hn e)
    have h2 : ¬ (m : Int) = (n : Int) := by omega
    rw [beq_eq_false_iff_ne.2 h1, beq_eq_false_iff_ne.2 h2]

theorem code_one_b (n : Nat) : (decide ((n : Int) < 128) == (((code n).length : Int) == 1)) = true := by
  have h := code_one n
  by_cases h1 : n < 128
  · have h2 : ((code n).length : Int) = 1 := by have := h.2 h1; omega
    rw [h2]
    simp
    omega
  · have h2 : ¬ ((code n).length : Int) = 1 := fun e => h1 (h.1 (by omega))
    rw [beq_eq_false_iff_ne.2 h2, decide_eq_false (by omega)]
    rfl

def texted (s : List UInt8) : List UInt8 := code s.length ++ s

theorem text_texted (s r : List UInt8) (h : s.length ≤ 72057594037927935) : text (texted s ++ r) = (s, 0, r) := by
  unfold text texted
  rw [List.append_assoc, num_code _ h]
  simp

theorem text_wrong (l : List UInt8) (h : (text l).2.1 ≠ 0) : (text l).1 = [] ∧ (text l).2.2 = l := by
  unfold text at h ⊢
  by_cases h1 : (num l).2.1 = 0
  · by_cases h2 : (num l).1 ≤ (num l).2.2.length
    · simp [h1, h2] at h
    · simp [h1, h2]
  · simp [h1]

theorem take_append_cases {α : Type} (a b : List α) (k : Nat) (h : k < (a ++ b).length) :
    (k < a.length ∧ (a ++ b).take k = a.take k) ∨ ∃ j, j < b.length ∧ (a ++ b).take k = a ++ b.take j := by
  by_cases h1 : k < a.length
  · exact .inl ⟨h1, by rw [List.take_append_of_le_length (by omega)]⟩
  · right
    rw [List.length_append] at h
    refine ⟨k - a.length, by omega, ?_⟩
    rw [List.take_append, List.take_of_length_le (by omega)]

theorem text_cut (s : List UInt8) (h : s.length ≤ 72057594037927935) (k : Nat) (hk : k < (texted s).length) : text ((texted s).take k) = ([], 20, (texted s).take k) := by
  unfold texted at hk ⊢
  rcases take_append_cases _ _ k hk with ⟨h1, e⟩ | ⟨j, hj, e⟩
  · rw [e]; unfold text; rw [num_cut _ h k h1]; simp
  · rw [e]
    unfold text
    rw [num_code _ h]
    have : ¬ s.length ≤ (s.take j).length := by simp; omega
    simp only [this, if_true, if_false]

/-! ### Records -/

/-- A record's bytes. -/
def recd (k : Int) (key val : List UInt8) : List UInt8 := code (cl k) ++ texted key ++ (if k = 1 then texted val else [])

/-- A record out of bytes: its kind, key and value, and the error. -/
def unrec (l : List UInt8) : Nat × List UInt8 × List UInt8 × Nat :=
  if (num l).2.1 ≠ 0 then (0, [], [], (num l).2.1)
  else if (num l).1 ≠ 1 ∧ (num l).1 ≠ 2 then (0, [], [], 21)
  else if (text (num l).2.2).2.1 ≠ 0 then (0, [], [], (text (num l).2.2).2.1)
  else if (num l).1 = 1 then
    if (text (text (num l).2.2).2.2).2.1 ≠ 0 then (0, [], [], (text (text (num l).2.2).2.2).2.1)
    else if (text (text (num l).2.2).2.2).2.2 ≠ [] then (0, [], [], 21)
    else (1, (text (num l).2.2).1, (text (text (num l).2.2).2.2).1, 0)
  else if (text (num l).2.2).2.2 ≠ [] then (0, [], [], 21)
  else (2, (text (num l).2.2).1, [], 0)

theorem numGo_len : ∀ (l : List UInt8) (i acc : Nat), (numGo i acc l).2.2.length ≤ l.length := by
  intro l
  induction l with
  | nil => intro i acc; simp [numGo]
  | cons b t ih =>
    intro i acc
    unfold numGo
    split
    · simp
    · split
      · exact Nat.le_trans (ih _ _) (by simp)
      · split
        · simp
        · simp
theorem num_len (l : List UInt8) : (num l).2.2.length ≤ l.length := by
  unfold num
  split
  · exact numGo_len l 0 0
  · exact Nat.le_refl _
theorem text_len (l : List UInt8) : (text l).2.2.length ≤ l.length := by
  have h := num_len l
  unfold text
  split
  · split
    · simp only [List.length_drop]; omega
    · exact Nat.le_refl _
  · exact Nat.le_refl _

/-! the ways of unrec, one by one -/
theorem unrec_num {l : List UInt8} (h : (num l).2.1 ≠ 0) : unrec l = (0, [], [], (num l).2.1) := by
  unfold unrec; rw [if_pos h]
theorem unrec_kind {l : List UInt8} (h : (num l).2.1 = 0) (h1 : (num l).1 ≠ 1) (h2 : (num l).1 ≠ 2) : unrec l = (0, [], [], 21) := by
  unfold unrec; rw [if_neg (by omega), if_pos ⟨h1, h2⟩]
theorem unrec_key {l : List UInt8} (h : (num l).2.1 = 0) (hk : (num l).1 = 1 ∨ (num l).1 = 2) (h2 : (text (num l).2.2).2.1 ≠ 0) : unrec l = (0, [], [], (text (num l).2.2).2.1) := by
  unfold unrec; rw [if_neg (by omega), if_neg (by omega), if_pos h2]
theorem unrec_val {l : List UInt8} (h : (num l).2.1 = 0) (hk : (num l).1 = 1) (h2 : (text (num l).2.2).2.1 = 0) (h3 : (text (text (num l).2.2).2.2).2.1 ≠ 0) : unrec l = (0, [], [], (text (text (num l).2.2).2.2).2.1) := by
  unfold unrec; rw [if_neg (by omega), if_neg (by omega), if_neg (by omega), if_pos hk, if_pos h3]
theorem unrec_put {l : List UInt8} (h : (num l).2.1 = 0) (hk : (num l).1 = 1) (h2 : (text (num l).2.2).2.1 = 0) (h3 : (text (text (num l).2.2).2.2).2.1 = 0) :
    unrec l = if (text (text (num l).2.2).2.2).2.2 ≠ [] then (0, [], [], 21) else (1, (text (num l).2.2).1, (text (text (num l).2.2).2.2).1, 0) := by
  unfold unrec; rw [if_neg (by omega), if_neg (by omega), if_neg (by omega), if_pos hk, if_neg (by omega)]
theorem unrec_del {l : List UInt8} (h : (num l).2.1 = 0) (hk : (num l).1 = 2) (h2 : (text (num l).2.2).2.1 = 0) :
    unrec l = if (text (num l).2.2).2.2 ≠ [] then (0, [], [], 21) else (2, (text (num l).2.2).1, [], 0) := by
  unfold unrec; rw [if_neg (by omega), if_neg (by omega), if_neg (by omega), if_neg (by omega)]

theorem cl_one : cl 1 = 1 := by decide
theorem cl_two : cl 2 = 2 := by decide

theorem recd_put (key val : List UInt8) : recd 1 key val = code 1 ++ (texted key ++ texted val) := by
  unfold recd; rw [cl_one, if_pos rfl, List.append_assoc]
theorem recd_del (key val : List UInt8) : recd 2 key val = code 2 ++ texted key := by
  unfold recd; rw [cl_two, if_neg (by omega), List.append_nil]

theorem recd_len (k : Int) (key val : List UInt8) : 0 < (recd k key val).length := by
  unfold recd
  have := code_pos (cl k)
  simp only [List.length_append]
  omega

theorem unrec_back_put (key val r : List UInt8) (hk : key.length ≤ 72057594037927935) (hv : val.length ≤ 72057594037927935) :
    unrec (recd 1 key val ++ r) = if r = [] then (1, key, val, 0) else (0, [], [], 21) := by
  rw [recd_put]
  unfold unrec
  rw [List.append_assoc, num_code 1 (by omega), List.append_assoc]
  simp only [text_texted key _ hk, text_texted val _ hv]
  by_cases h : r = [] <;> simp [h]

theorem unrec_back_del (key val r : List UInt8) (hk : key.length ≤ 72057594037927935) :
    unrec (recd 2 key val ++ r) = if r = [] then (2, key, [], 0) else (0, [], [], 21) := by
  rw [recd_del]
  unfold unrec
  rw [List.append_assoc, num_code 2 (by omega)]
  simp only [text_texted key _ hk]
  by_cases h : r = [] <;> simp [h]

theorem unrec_cut_put (key val : List UInt8) (hk : key.length ≤ 72057594037927935) (hv : val.length ≤ 72057594037927935) (k : Nat) (h : k < (recd 1 key val).length) :
    unrec ((recd 1 key val).take k) = (0, [], [], 20) := by
  rw [recd_put] at h ⊢
  rcases take_append_cases _ _ k h with ⟨h1, e⟩ | ⟨j, hj, e⟩
  · rw [e]; unfold unrec; rw [num_cut 1 (by omega) k h1]; simp
  · rw [e]
    unfold unrec
    rw [num_code 1 (by omega)]
    rcases take_append_cases _ _ j hj with ⟨h2, e2⟩ | ⟨i, hi, e2⟩
    · simp only [e2, text_cut key hk j h2]; simp
    · simp only [e2, text_texted key _ hk, text_cut val hv i hi]; simp

theorem unrec_cut_del (key val : List UInt8) (hk : key.length ≤ 72057594037927935) (k : Nat) (h : k < (recd 2 key val).length) :
    unrec ((recd 2 key val).take k) = (0, [], [], 20) := by
  rw [recd_del] at h ⊢
  rcases take_append_cases _ _ k h with ⟨h1, e⟩ | ⟨j, hj, e⟩
  · rw [e]; unfold unrec; rw [num_cut 2 (by omega) k h1]; simp
  · rw [e]
    unfold unrec
    rw [num_code 2 (by omega)]
    simp only [text_cut key hk j hj]; simp

end Go.Proofs.YtimcepoleboldaaGreatDoor.Pk
