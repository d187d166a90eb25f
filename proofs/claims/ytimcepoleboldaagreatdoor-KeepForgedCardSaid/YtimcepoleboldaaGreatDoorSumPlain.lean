/- Plain mathematics of the check sums, on natural numbers: one shift, a byte's step, a text's sum; linear and one to one. It speaks of no program. -/
namespace Go.Proofs.YtimcepoleboldaaGreatDoor.Plain

/-- One bit: shifted down; mixed where the bit that went was 1. -/
def bit (c : Nat) : Nat := if c % 2 = 1 then (c / 2) ^^^ 3988292384 else c / 2

/-- Bit by bit, k times. -/
def bitsN : Nat → Nat → Nat
  | 0, c => c
  | k + 1, c => bit (bitsN k c)

def step (c b : Nat) : Nat := bitsN 8 (c ^^^ b)

def crcFrom (c : Nat) (l : List UInt8) : Nat := l.foldl (fun c b => step c b.toNat) c
def crc (l : List UInt8) : Nat := crcFrom 4294967295 l ^^^ 4294967295

def mixStep (m b : Nat) : Nat := (m ^^^ b) * 1099511628211 % 18446744073709551616
def mixFrom (m : Nat) (l : List UInt8) : Nat := l.foldl (fun m b => mixStep m b.toNat) m
def mix (l : List UInt8) : Nat := mixFrom 14695981039346656037 l

theorem bit_lt (c : Nat) (h : c < 4294967296) : bit c < 4294967296 := by
  unfold bit
  split
  · have : c / 2 ^^^ 3988292384 < 2 ^ 32 := Nat.xor_lt_two_pow (by omega) (by omega)
    omega
  · omega

theorem bitsN_lt (k c : Nat) (h : c < 4294967296) : bitsN k c < 4294967296 := by
  induction k with
  | zero => exact h
  | succ k ih => exact bit_lt _ ih

theorem xor_lt32 (a b : Nat) (h : a < 4294967296) (h' : b < 4294967296) : a ^^^ b < 4294967296 := by
  have : a ^^^ b < 2 ^ 32 := Nat.xor_lt_two_pow (by omega) (by omega)
  omega

theorem step_lt (c b : Nat) (h : c < 4294967296) (h' : b < 256) : step c b < 4294967296 :=
  bitsN_lt _ _ (xor_lt32 _ _ h (by omega))

theorem xor_cancel (a b x : Nat) (h : a ^^^ x = b ^^^ x) : a = b := by
  have h2 : (a ^^^ x) ^^^ x = (b ^^^ x) ^^^ x := by rw [h]
  rwa [Nat.xor_assoc, Nat.xor_assoc, Nat.xor_self, Nat.xor_zero, Nat.xor_zero] at h2

theorem xor_cancel_left (a b x : Nat) (h : x ^^^ a = x ^^^ b) : a = b := by
  rw [Nat.xor_comm x a, Nat.xor_comm x b] at h; exact xor_cancel a b x h

theorem top_xor (c : Nat) (h : c < 4294967296) (x : Nat) (hx : x < 2147483648) : c / 2 ^^^ 3988292384 ≠ x := by
  intro e
  have t1 : (c / 2 ^^^ 3988292384).testBit 31 = true := by
    rw [Nat.testBit_xor, Nat.testBit_lt_two_pow (x := c / 2) (i := 31) (by omega)]
    decide
  have t2 : x.testBit 31 = false := Nat.testBit_lt_two_pow (by omega)
  rw [e, t2] at t1
  exact absurd t1 (by decide)

theorem bit_inj (c d : Nat) (hc : c < 4294967296) (hd : d < 4294967296) (h : bit c = bit d) : c = d := by
  unfold bit at h
  by_cases h1 : c % 2 = 1
  · by_cases h2 : d % 2 = 1
    · rw [if_pos h1, if_pos h2] at h
      have := xor_cancel _ _ _ h
      omega
    · rw [if_pos h1, if_neg h2] at h
      exact absurd h (top_xor c hc _ (by omega))
  · by_cases h2 : d % 2 = 1
    · rw [if_neg h1, if_pos h2] at h
      exact absurd h.symm (top_xor d hd _ (by omega))
    · rw [if_neg h1, if_neg h2] at h
      omega

theorem bitsN_inj (k c d : Nat) (hc : c < 4294967296) (hd : d < 4294967296) (h : bitsN k c = bitsN k d) : c = d := by
  induction k with
  | zero => exact h
  | succ k ih => exact ih (bit_inj _ _ (bitsN_lt _ _ hc) (bitsN_lt _ _ hd) h)

theorem step_inj (c d b : Nat) (hc : c < 4294967296) (hd : d < 4294967296) (hb : b < 256) (h : step c b = step d b) : c = d :=
  xor_cancel _ _ _ (bitsN_inj 8 _ _ (xor_lt32 _ _ hc (by omega)) (xor_lt32 _ _ hd (by omega)) h)

theorem step_inj_byte (c a b : Nat) (hc : c < 4294967296) (ha : a < 256) (hb : b < 256) (h : step c a = step c b) : a = b :=
  xor_cancel_left _ _ _ (bitsN_inj 8 _ _ (xor_lt32 _ _ hc (by omega)) (xor_lt32 _ _ hc (by omega)) h)

theorem bit_xor (a b : Nat) : bit (a ^^^ b) = bit a ^^^ bit b := by
  have hd : (a ^^^ b) / 2 = a / 2 ^^^ b / 2 := Nat.xor_div_two
  have hm : (a ^^^ b) % 2 = (a % 2 + b % 2) % 2 := by
    have := @Nat.xor_mod_two_eq_one a b; omega
  unfold bit
  rw [hd, hm]
  by_cases h1 : a % 2 = 1 <;> by_cases h2 : b % 2 = 1
  · rw [if_neg (by omega), if_pos h1, if_pos h2]
    rw [Nat.xor_assoc, Nat.xor_comm 3988292384 (b / 2 ^^^ 3988292384), Nat.xor_assoc (b / 2), Nat.xor_self, Nat.xor_zero]
  · rw [if_pos (by omega), if_pos h1, if_neg h2]
    rw [Nat.xor_assoc, Nat.xor_comm (b / 2), ← Nat.xor_assoc]
  · rw [if_pos (by omega), if_neg h1, if_pos h2, Nat.xor_assoc]
  · rw [if_neg (by omega), if_neg h1, if_neg h2]

theorem bitsN_xor (k a b : Nat) : bitsN k (a ^^^ b) = bitsN k a ^^^ bitsN k b := by
  induction k with
  | zero => rfl
  | succ k ih => show bit _ = _; rw [ih, bit_xor]; rfl

theorem xor4 (a b x y : Nat) : (a ^^^ b) ^^^ (x ^^^ y) = (a ^^^ x) ^^^ (b ^^^ y) := by
  rw [Nat.xor_assoc, ← Nat.xor_assoc b x y, Nat.xor_comm b x, Nat.xor_assoc x b y, ← Nat.xor_assoc]

theorem step_xor (a b x y : Nat) : step (a ^^^ b) (x ^^^ y) = step a x ^^^ step b y := by
  unfold step; rw [xor4, bitsN_xor]

theorem crcFrom_cons (b : UInt8) (m : List UInt8) (c : Nat) : crcFrom c (b :: m) = crcFrom (step c b.toNat) m := by
  simp only [crcFrom, List.foldl_cons]

theorem byte_lt (b : UInt8) : b.toNat < 256 := b.toNat_lt

theorem crcFrom_lt (l : List UInt8) : ∀ c, c < 4294967296 → crcFrom c l < 4294967296 := by
  induction l with
  | nil => intro c h; simpa only [crcFrom, List.foldl_nil] using h
  | cons b l ih => intro c h; rw [crcFrom_cons]; exact ih _ (step_lt _ _ h (byte_lt b))

theorem crc_lt (l : List UInt8) : crc l < 4294967296 := by
  have h := crcFrom_lt l 4294967295 (by omega)
  unfold crc
  exact xor_lt32 _ _ h (by omega)

theorem crcFrom_append (l m : List UInt8) (c : Nat) : crcFrom c (l ++ m) = crcFrom (crcFrom c l) m := by
  unfold crcFrom; rw [List.foldl_append]

theorem crcFrom_inj (l : List UInt8) : ∀ c d, c < 4294967296 → d < 4294967296 → crcFrom c l = crcFrom d l → c = d := by
  induction l with
  | nil => intro c d _ _ h; simpa only [crcFrom, List.foldl_nil] using h
  | cons b l ih =>
    intro c d hc hd h
    rw [crcFrom_cons, crcFrom_cons] at h
    exact step_inj c d b.toNat hc hd (byte_lt b) (ih _ _ (step_lt _ _ hc (byte_lt b)) (step_lt _ _ hd (byte_lt b)) h)

/-- One byte is another one: another sum. -/
theorem crc_one (l m : List UInt8) (a b : UInt8) (h : crc (l ++ a :: m) = crc (l ++ b :: m)) : a = b := by
  have h1 := xor_cancel _ _ _ h
  rw [crcFrom_append, crcFrom_append, crcFrom_cons, crcFrom_cons] at h1
  have hl := crcFrom_lt l 4294967295 (by omega)
  have h2 := crcFrom_inj m _ _ (step_lt _ _ hl (byte_lt a)) (step_lt _ _ hl (byte_lt b)) h1
  exact UInt8.toNat_inj.1 (step_inj_byte _ _ _ hl (byte_lt a) (byte_lt b) h2)

theorem xor_ff (x : Nat) : (x ^^^ 4294967295) ^^^ 4294967295 = x := by
  rw [Nat.xor_assoc, Nat.xor_self, Nat.xor_zero]

theorem crc_append (l m : List UInt8) : crc (l ++ m) = crcFrom (crc l ^^^ 4294967295) m ^^^ 4294967295 := by
  unfold crc; rw [xor_ff, crcFrom_append]

/-- Three texts of one length, mixed byte by byte. -/
def mixed : List UInt8 → List UInt8 → List UInt8 → List UInt8
  | a :: s, b :: t, c :: u => (a ^^^ b ^^^ c) :: mixed s t u
  | _, _, _ => []

theorem crcFrom_mixed (s : List UInt8) : ∀ (t u : List UInt8) (a b c : Nat), s.length = t.length → s.length = u.length →
    crcFrom (a ^^^ b ^^^ c) (mixed s t u) = crcFrom a s ^^^ crcFrom b t ^^^ crcFrom c u := by
  induction s with
  | nil =>
    intro t u a b c ht hu
    obtain rfl : t = [] := List.eq_nil_of_length_eq_zero ht.symm
    obtain rfl : u = [] := List.eq_nil_of_length_eq_zero hu.symm
    simp only [mixed, crcFrom, List.foldl_nil]
  | cons x s ih =>
    intro t u a b c ht hu
    cases t with
    | nil => simp at ht
    | cons y t =>
      cases u with
      | nil => simp at hu
      | cons z u =>
        simp only [mixed, crcFrom_cons, UInt8.toNat_xor, step_xor]
        exact ih t u _ _ _ (by simpa using ht) (by simpa using hu)

theorem crc_mixed (s t u : List UInt8) (ht : s.length = t.length) (hu : s.length = u.length) :
    crc (mixed s t u) = crc s ^^^ crc t ^^^ crc u := by
  have h := crcFrom_mixed s t u 4294967295 4294967295 4294967295 ht hu
  rw [Nat.xor_self, Nat.zero_xor] at h
  unfold crc
  rw [h]
  generalize crcFrom 4294967295 s = x, crcFrom 4294967295 t = y, crcFrom 4294967295 u = z
  rw [xor4 x 4294967295 y 4294967295, Nat.xor_self, Nat.xor_zero, Nat.xor_assoc (x ^^^ y)]

theorem mixStep_lt (m b : Nat) : mixStep m b < 18446744073709551616 := by unfold mixStep; omega

theorem mixFrom_snoc (m : Nat) (l : List UInt8) (b : UInt8) : mixFrom m (l ++ [b]) = mixStep (mixFrom m l) b.toNat := by
  unfold mixFrom
  generalize mixStep = f
  rw [List.foldl_append, List.foldl_cons, List.foldl_nil]

theorem mix_snoc (l : List UInt8) (b : UInt8) : mix (l ++ [b]) = mixStep (mix l) b.toNat := mixFrom_snoc _ l b

theorem mix_lt (l : List UInt8) : mix l < 18446744073709551616 := by
  rcases List.eq_nil_or_concat l with rfl | ⟨m, b, rfl⟩
  · simp only [mix, mixFrom, List.foldl_nil]; omega
  · rw [List.concat_eq_append, mix_snoc]; exact mixStep_lt _ _

end Go.Proofs.YtimcepoleboldaaGreatDoor.Plain
