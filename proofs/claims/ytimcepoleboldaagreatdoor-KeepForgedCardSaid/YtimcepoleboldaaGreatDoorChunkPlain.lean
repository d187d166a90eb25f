/- Plain mathematics of layer 4: a chunk's bytes, the chunk of some bytes, pieces. It speaks of no program. -/
import Derived.Test.YtimcepoleboldaaGreatDoorPackPlain
import Derived.Test.YtimcepoleboldaaGreatDoorSumPlain
namespace Go.Proofs.YtimcepoleboldaaGreatDoor.Cn

/-- A chunk: its epoch, its number, first, last, its data. -/
structure Chu where
  e : Int
  q : Int
  f : Bool
  l : Bool
  d : List UInt8

@[ext] theorem Chu.ext' {a b : Chu} (h1 : a.e = b.e) (h2 : a.q = b.q) (h3 : a.f = b.f) (h4 : a.l = b.l) (h5 : a.d = b.d) : a = b := by
  cases a; cases b; simp_all

/-- The zero chunk. -/
def zero : Chu := ⟨0, 0, false, false, []⟩

/-- First and last as one number. -/
def flags (f l : Bool) : Nat := (if f then 1 else 0) + (if l then 2 else 0)

theorem flags_le (f l : Bool) : flags f l ≤ 3 := by cases f <;> cases l <;> decide

/-- Four bytes, the lowest first. -/
def le4 (k : Nat) : List UInt8 := [UInt8.ofNat (k % 256), UInt8.ofNat (k / 256 % 256), UInt8.ofNat (k / 65536 % 256), UInt8.ofNat (k / 16777216 % 256)]

theorem le4_length (k : Nat) : (le4 k).length = 4 := rfl

theorem le4_inj (a b : Nat) (ha : a < 4294967296) (hb : b < 4294967296) (h : le4 a = le4 b) : a = b := by
  unfold le4 at h
  simp only [List.cons.injEq, and_true] at h
  obtain ⟨h0, h1, h2, h3⟩ := h
  have g0 := congrArg UInt8.toNat h0
  have g1 := congrArg UInt8.toNat h1
  have g2 := congrArg UInt8.toNat h2
  have g3 := congrArg UInt8.toNat h3
  simp only [UInt8.toNat_ofNat'] at g0 g1 g2 g3
  omega

/-- A chunk's bytes ahead of the check sum. -/
def body (c : Chu) : List UInt8 := Pk.code (Pk.cl c.e) ++ Pk.code (Pk.cl c.q) ++ Pk.code (flags c.f c.l) ++ Pk.texted c.d

/-- Any bytes with their check sum behind them. -/
def sealed (b : List UInt8) : List UInt8 := b ++ le4 (Plain.crc b)

/-- What may be a chunk. -/
def ok (c : Chu) : Prop := 0 ≤ c.e ∧ c.e ≤ 1099511627776 ∧ 0 ≤ c.q ∧ c.q ≤ 1099511627776 ∧ c.d.length ≤ 96

instance (c : Chu) : Decidable (ok c) := by unfold ok; infer_instance

/-- Encode's error. -/
def encE (c : Chu) : Nat := if c.e < 0 ∨ 1099511627776 < c.e ∨ c.q < 0 ∨ 1099511627776 < c.q then 1 else if 96 < c.d.length then 31 else 0

/-- Encode's bytes. -/
def encB (c : Chu) : List UInt8 := if encE c = 0 then sealed (body c) else []

theorem encE_ok (c : Chu) : encE c = 0 ↔ ok c := by
  unfold encE ok
  split
  · constructor
    · intro h; cases h
    · intro h; omega
  · split
    · constructor
      · intro h; cases h
      · intro h; omega
    · constructor
      · intro _; omega
      · intro _; rfl

theorem encE_of_ok {c : Chu} (h : ok c) : encE c = 0 := (encE_ok c).2 h
theorem encB_of_ok {c : Chu} (h : ok c) : encB c = sealed (body c) := by unfold encB; rw [if_pos (encE_of_ok h)]

theorem code_len6 (n : Nat) (h : n ≤ 1099511627776) : (Pk.code n).length ≤ 6 := Pk.code_len 5 n (by omega)

theorem cl_small {n : Int} (h0 : 0 ≤ n) (h : n ≤ 1099511627776) : Pk.cl n = n.toNat ∧ Pk.cl n ≤ 1099511627776 := by
  unfold Pk.cl; omega

theorem body_pos (c : Chu) : 0 < (body c).length := by
  unfold body
  have := Pk.code_pos (Pk.cl c.e)
  simp only [List.length_append]; omega

theorem body_le (c : Chu) (h : ok c) : (body c).length ≤ 124 := by
  obtain ⟨h1, h2, h3, h4, h5⟩ := h
  have a := code_len6 (Pk.cl c.e) (cl_small h1 h2).2
  have b := code_len6 (Pk.cl c.q) (cl_small h3 h4).2
  have d := Pk.code_one (flags c.f c.l)
  have d2 := d.2 (by have := flags_le c.f c.l; omega)
  have f := Pk.code_one c.d.length
  have f2 := f.2 (by omega)
  unfold body Pk.texted
  simp only [List.length_append]
  omega

theorem body_any (c : Chu) (h : c.d.length ≤ 549755813888) : (body c).length ≤ 549755813928 := by
  have a := Pk.code_len8 (Pk.cl c.e) (Pk.cl_le _)
  have b := Pk.code_len8 (Pk.cl c.q) (Pk.cl_le _)
  have d := Pk.code_len8 (flags c.f c.l) (by have := flags_le c.f c.l; omega)
  have f := Pk.code_len8 c.d.length (by omega)
  unfold body Pk.texted
  simp only [List.length_append]
  omega

theorem sealed_length (b : List UInt8) : (sealed b).length = b.length + 4 := by unfold sealed; rw [List.length_append, le4_length]

theorem sealed_le (c : Chu) (h : ok c) : (sealed (body c)).length ≤ 128 := by
  rw [sealed_length]; have := body_le c h; omega

/-- A chunk of small numbers has eight bytes more than its data. -/
theorem sealed_small (c : Chu) (h1 : 0 ≤ c.e) (h2 : c.e < 128) (h3 : 0 ≤ c.q) (h4 : c.q < 128) (h5 : c.d.length ≤ 96) : (sealed (body c)).length = 8 + c.d.length := by
  rw [sealed_length]
  have a := (Pk.code_one (Pk.cl c.e)).2 (by rw [(cl_small h1 (by omega)).1]; omega)
  have b := (Pk.code_one (Pk.cl c.q)).2 (by rw [(cl_small h3 (by omega)).1]; omega)
  have d := (Pk.code_one (flags c.f c.l)).2 (by have := flags_le c.f c.l; omega)
  have f := (Pk.code_one c.d.length).2 (by omega)
  unfold body Pk.texted
  simp only [List.length_append]
  omega

/-! ### Reading -/

/-- What four readings, one behind the other, come to: the numbers, the text, and the errors of all. -/
def r1 (s : List UInt8) := Pk.num s
def r2 (s : List UInt8) := Pk.num (r1 s).2.2
def r3 (s : List UInt8) := Pk.num (r2 s).2.2
def r4 (s : List UInt8) := Pk.text (r3 s).2.2

/-- The chunk that is read, whatever the bytes. -/
def got (s : List UInt8) : Chu := ⟨((r1 s).1 : Int), ((r2 s).1 : Int), (r3 s).1 % 2 = 1, (r3 s).1 / 2 % 2 = 1, (r4 s).1⟩

theorem flags_first (f l : Bool) : decide (flags f l % 2 = 1) = f := by cases f <;> cases l <;> decide
theorem flags_last (f l : Bool) : decide (flags f l / 2 % 2 = 1) = l := by cases f <;> cases l <;> decide

theorem r1_body (c : Chu) (r : List UInt8) : r1 (body c ++ r) = (Pk.cl c.e, 0, Pk.code (Pk.cl c.q) ++ (Pk.code (flags c.f c.l) ++ (Pk.texted c.d ++ r))) := by
  unfold r1 body
  simp only [List.append_assoc]
  rw [Pk.num_code _ (Pk.cl_le _)]
theorem r2_body (c : Chu) (r : List UInt8) : r2 (body c ++ r) = (Pk.cl c.q, 0, Pk.code (flags c.f c.l) ++ (Pk.texted c.d ++ r)) := by
  unfold r2
  rw [r1_body, Pk.num_code _ (Pk.cl_le _)]
theorem r3_body (c : Chu) (r : List UInt8) : r3 (body c ++ r) = (flags c.f c.l, 0, Pk.texted c.d ++ r) := by
  unfold r3
  rw [r2_body, Pk.num_code _ (by have := flags_le c.f c.l; omega)]
theorem r4_body (c : Chu) (r : List UInt8) (h : c.d.length ≤ 96) : r4 (body c ++ r) = (c.d, 0, r) := by
  unfold r4
  rw [r3_body, Pk.text_texted _ _ (by omega)]

theorem got_body (c : Chu) (r : List UInt8) (h : ok c) : got (body c ++ r) = c := by
  obtain ⟨h1, h2, h3, h4, h5⟩ := h
  unfold got
  rw [r1_body, r2_body, r3_body, r4_body c r h5]
  have a := (cl_small h1 h2).1
  have b := (cl_small h3 h4).1
  have e1 : ((Pk.cl c.e : Nat) : Int) = c.e := by omega
  have e2 : ((Pk.cl c.q : Nat) : Int) = c.q := by omega
  apply Chu.ext'
  · exact e1
  · exact e2
  · exact flags_first c.f c.l
  · exact flags_last c.f c.l
  · rfl

/-- Is s the bytes of the chunk that is read out of it? -/
def isC (s : List UInt8) : Prop := encE (got s) = 0 ∧ encB (got s) = s

instance (s : List UInt8) : Decidable (isC s) := by unfold isC; infer_instance

/-- Decode's chunk and error. -/
def decC (s : List UInt8) : Chu := if isC s then got s else zero
def decE (s : List UInt8) : Nat := if isC s then 0 else 21

/-- Bytes are a chunk's just when they are those of some chunk. -/
theorem isC_iff (s : List UInt8) : isC s ↔ ∃ c, ok c ∧ sealed (body c) = s := by
  constructor
  · rintro ⟨h1, h2⟩
    have h3 := (encE_ok _).1 h1
    exact ⟨got s, h3, by rw [← encB_of_ok h3, h2]⟩
  · rintro ⟨c, h, rfl⟩
    have e : got (sealed (body c)) = c := got_body c _ h
    unfold isC
    rw [e]
    exact ⟨encE_of_ok h, encB_of_ok h⟩

theorem dec_enc (c : Chu) (h : ok c) : isC (sealed (body c)) ∧ got (sealed (body c)) = c := ⟨(isC_iff _).2 ⟨c, h, rfl⟩, got_body c _ h⟩

theorem decC_enc (c : Chu) (h : ok c) : decC (sealed (body c)) = c := by
  unfold decC; rw [if_pos (dec_enc c h).1, (dec_enc c h).2]
theorem decE_enc (c : Chu) (h : ok c) : decE (sealed (body c)) = 0 := by
  unfold decE; rw [if_pos (dec_enc c h).1]

/-- What is decoded is a chunk whose bytes are just those. -/
theorem enc_dec (s : List UInt8) (h : decE s = 0) : ok (decC s) ∧ sealed (body (decC s)) = s := by
  unfold decE at h
  by_cases hi : isC s
  · unfold decC
    rw [if_pos hi]
    have h3 := (encE_ok _).1 hi.1
    exact ⟨h3, by rw [← encB_of_ok h3, hi.2]⟩
  · rw [if_neg hi] at h; cases h

theorem sealed_inj (c d : Chu) (hc : ok c) (hd : ok d) (h : sealed (body c) = sealed (body d)) : c = d := by
  have h1 := (dec_enc c hc).2
  have h2 := (dec_enc d hd).2
  rw [h, h2] at h1
  exact h1.symm

/-! ### The document's reading: without the last four bytes -/

/-- What is ahead of the last four bytes. -/
def cut4 (s : List UInt8) : List UInt8 := s.take (s.length - 4)

theorem cut4_sealed (b : List UInt8) : cut4 (sealed b) = b := by
  unfold cut4
  rw [sealed_length]
  unfold sealed
  rw [show b.length + 4 - 4 = b.length by omega]
  exact List.take_left' rfl

/-- May what was read be looked at further? -/
def clean (s : List UInt8) : Prop := (r1 (cut4 s)).2.1 = 0 ∧ (r2 (cut4 s)).2.1 = 0 ∧ (r3 (cut4 s)).2.1 = 0 ∧ (r4 (cut4 s)).2.1 = 0 ∧ (r3 (cut4 s)).1 ≤ 3

instance (s : List UInt8) : Decidable (clean s) := by unfold clean; infer_instance

/-- What the document decodes. -/
theorem ref_got (s : List UInt8) (h : isC s) : 4 ≤ s.length ∧ clean s ∧ got (cut4 s) = got s ∧ encE (got s) = 0 ∧ encB (got s) = s := by
  obtain ⟨c, hc, rfl⟩ := (isC_iff s).1 h
  have hcl : clean (sealed (body c)) := by
    have e := cut4_sealed (body c)
    have f : body c = body c ++ [] := (List.append_nil _).symm
    unfold clean
    rw [e, f, r1_body, r2_body, r3_body, r4_body c [] hc.2.2.2.2]
    exact ⟨rfl, rfl, rfl, rfl, flags_le _ _⟩
  refine ⟨by rw [sealed_length]; omega, hcl, ?_, h.1, h.2⟩
  rw [cut4_sealed, (dec_enc c hc).2]
  have := got_body c [] hc
  rwa [List.append_nil] at this

theorem ref_none (s : List UInt8) (h : ¬ isC s) : ¬ (encE (got (cut4 s)) = 0 ∧ encB (got (cut4 s)) = s) := by
  rintro ⟨h1, h2⟩
  have h3 := (encE_ok _).1 h1
  exact h ((isC_iff s).2 ⟨got (cut4 s), h3, by rw [← encB_of_ok h3, h2]⟩)

/-! ### Bytes of which one is another one -/

/-- One byte of b is another one, or one of the four behind: no seal. -/
theorem spoilt_seal (c d : List UInt8) (l m : List UInt8) (a b : UInt8) (hc : sealed c = l ++ a :: m) (hd : sealed d = l ++ b :: m) : a = b := by
  have hlen : c.length = d.length := by
    have h1 := sealed_length c
    have h2 := sealed_length d
    rw [hc] at h1; rw [hd] at h2
    simp only [List.length_append, List.length_cons] at h1 h2
    omega
  unfold sealed at hc hd
  by_cases hl : l.length < c.length
  · -- in the body
    have key : ∀ (x : List UInt8) (y : UInt8) (z : List UInt8), x.length = c.length → x ++ z = l ++ y :: m →
        x = l ++ y :: m.take (c.length - l.length - 1) ∧ z = m.drop (c.length - l.length - 1) := by
      intro x y z hx he
      obtain ⟨k, hk⟩ : ∃ k, c.length = l.length + k + 1 := ⟨c.length - l.length - 1, by omega⟩
      have hk2 : c.length - l.length - 1 = k := by omega
      rw [hk2]
      have h1 := congrArg (List.take (l.length + k + 1)) he
      have h2 := congrArg (List.drop (l.length + k + 1)) he
      rw [List.take_left' (by omega)] at h1
      rw [List.drop_left' (by omega)] at h2
      rw [List.take_append, List.take_of_length_le (by omega), show l.length + k + 1 - l.length = k + 1 by omega, List.take_succ_cons] at h1
      rw [List.drop_append, List.drop_of_length_le (by omega), show l.length + k + 1 - l.length = k + 1 by omega, List.drop_succ_cons, List.nil_append] at h2
      exact ⟨h1, h2⟩
    obtain ⟨e1, t1⟩ := key c a _ rfl hc
    obtain ⟨e2, t2⟩ := key d b _ hlen.symm hd
    have hcrc := le4_inj _ _ (Plain.crc_lt _) (Plain.crc_lt _) (t1.trans t2.symm)
    rw [e1, e2] at hcrc
    exact Plain.crc_one _ _ _ _ hcrc
  · -- in the four bytes
    have e : c = d := by
      have h1 := congrArg (List.take c.length) hc
      have h2 := congrArg (List.take d.length) hd
      rw [List.take_left' rfl, List.take_append_of_le_length (by omega)] at h1
      rw [List.take_left' rfl, List.take_append_of_le_length (by omega)] at h2
      rw [h1, h2, hlen]
    rw [e, hd] at hc
    have := List.append_cancel_left hc
    simp only [List.cons.injEq, and_true] at this
    exact this.symm

theorem spoilt (c : Chu) (hc : ok c) (l m : List UInt8) (a b : UInt8) (h : sealed (body c) = l ++ a :: m) : isC (l ++ b :: m) ↔ a = b := by
  constructor
  · intro hi
    obtain ⟨d, hd, e⟩ := (isC_iff _).1 hi
    exact spoilt_seal (body c) (body d) l m a b h e
  · rintro rfl
    rw [← h]
    exact (dec_enc c hc).1

/-! ### Cut short, and going on -/

theorem take_none (c : Chu) (hc : ok c) (k : Nat) (hk : k < (sealed (body c)).length) : ¬ isC ((sealed (body c)).take k) := by
  intro hi
  obtain ⟨d, hd, e⟩ := (isC_iff _).1 hi
  -- the body of d is a beginning of the body of c, in which the same is read
  have hlen : (sealed (body d)).length = k := by rw [e, List.length_take]; omega
  have h1 : body d ++ (le4 (Plain.crc (body d)) ++ (sealed (body c)).drop k) = body c ++ le4 (Plain.crc (body c)) := by
    rw [← List.append_assoc]
    show sealed (body d) ++ _ = sealed (body c)
    rw [e, List.take_append_drop]
  have h2 := got_body d (le4 (Plain.crc (body d)) ++ (sealed (body c)).drop k) hd
  rw [h1, got_body c _ hc] at h2
  subst h2
  omega

theorem more_none (c : Chu) (hc : ok c) (m : List UInt8) (hm : m ≠ []) : ¬ isC (sealed (body c) ++ m) := by
  intro hi
  obtain ⟨d, hd, e⟩ := (isC_iff _).1 hi
  have h1 : body d ++ le4 (Plain.crc (body d)) = body c ++ (le4 (Plain.crc (body c)) ++ m) := by
    rw [← List.append_assoc]; exact e
  have h2 := got_body c (le4 (Plain.crc (body c)) ++ m) hc
  rw [← h1, got_body d _ hd] at h2
  subst h2
  have := congrArg List.length e
  rw [List.length_append] at this
  have h3 : m.length = 0 := by omega
  exact hm (List.eq_nil_of_length_eq_zero h3)

/-! ### Pieces -/

/-- Pieces of 96 bytes, with fuel. -/
def cutF : Nat → List UInt8 → List (List UInt8)
  | 0, s => [s]
  | n + 1, s => if 96 < s.length then s.take 96 :: cutF n (s.drop 96) else [s]

/-- The pieces of s. -/
def cut (s : List UInt8) : List (List UInt8) := cutF s.length s

theorem cutF_eq : ∀ (m n : Nat) (s : List UInt8), s.length ≤ m → s.length ≤ n → cutF m s = cutF n s := by
  intro m
  induction m with
  | zero =>
    intro n s hm hn
    cases n with
    | zero => rfl
    | succ n => simp only [cutF]; rw [if_neg (by omega)]
  | succ m ih =>
    intro n s hm hn
    cases n with
    | zero => simp only [cutF]; rw [if_neg (by omega)]
    | succ n =>
      simp only [cutF]
      by_cases h : 96 < s.length
      · rw [if_pos h, if_pos h, ih n (s.drop 96) (by rw [List.length_drop]; omega) (by rw [List.length_drop]; omega)]
      · rw [if_neg h, if_neg h]

theorem cut_long (s : List UInt8) (h : 96 < s.length) : cut s = s.take 96 :: cut (s.drop 96) := by
  unfold cut
  obtain ⟨n, hn⟩ : ∃ n, s.length = n + 1 := ⟨s.length - 1, by omega⟩
  rw [hn]
  simp only [cutF]
  rw [if_pos h, cutF_eq n (s.drop 96).length (s.drop 96) (by rw [List.length_drop]; omega) (Nat.le_refl _)]

theorem cut_short (s : List UInt8) (h : s.length ≤ 96) : cut s = [s] := by
  unfold cut
  cases hn : s.length with
  | zero => rfl
  | succ n => simp only [cutF]; rw [if_neg (by omega)]

theorem cut_pos (s : List UInt8) : 0 < (cut s).length := by
  by_cases h : 96 < s.length
  · rw [cut_long s h]; simp
  · rw [cut_short s (by omega)]; simp

end Go.Proofs.YtimcepoleboldaaGreatDoor.Cn
