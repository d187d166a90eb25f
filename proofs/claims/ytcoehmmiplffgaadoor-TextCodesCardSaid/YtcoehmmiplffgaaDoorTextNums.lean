/- Numbers as words, words as lines: what is printed is read back. No model. -/
import Derived.Test.YtcoehmmiplffgaaDoorTextPlain
import Derived.Lib.AtoiAll
import Derived.Lib.IndexBytes
import Derived.Lib.Split
namespace Go.Proofs.YtcoehmmiplffgaaDoor.Tx
open Ir (In)

theorem dig_toNat {d : Nat} (h : d < 10) : (UInt8.ofNat (48 + d)).toNat = 48 + d := by
  rw [UInt8.toNat_ofNat']
  omega
theorem dig_dg {d : Nat} (h : d < 10) : Ir.dg (UInt8.ofNat (48 + d)) = true := by
  unfold Ir.dg
  rw [dig_toNat h]
  exact decide_eq_true (by omega)

theorem val_append : ∀ (l m : List UInt8) (n : Nat), val n (l ++ m) = (val n l).bind fun k => val k m
  | [], m, n => rfl
  | c :: l, m, n => by
    rw [List.cons_append, val, val]
    by_cases h : Ir.dg c = true
    · rw [if_pos h, if_pos h, val_append l m]
    · rw [if_neg h, if_neg h]; rfl
theorem val_one {n d : Nat} (h : d < 10) : val n [UInt8.ofNat (48 + d)] = some (n * 10 + d) := by
  rw [val, if_pos (dig_dg h), dig_toNat h, val]
  congr 1
  omega

theorem dec_small {u : Nat} (h : u < 10) : Lib.decDigits u = [UInt8.ofNat (48 + u)] := by rw [Lib.decDigits, dif_pos h]
theorem dec_big {u : Nat} (h : ¬ u < 10) : Lib.decDigits u = Lib.decDigits (u / 10) ++ [UInt8.ofNat (48 + u % 10)] := by rw [Lib.decDigits, dif_neg h]

theorem val_dec (u : Nat) : val 0 (Lib.decDigits u) = some u := by
  induction u using Nat.strongRecOn with
  | _ u ih =>
    by_cases h : u < 10
    · rw [dec_small h, val_one h]; simp
    · rw [dec_big h, val_append, ih (u / 10) (by omega)]
      show val (u / 10) _ = _
      rw [val_one (by omega)]
      congr 1
      omega
theorem dec_ne (u : Nat) : Lib.decDigits u ≠ [] := by
  by_cases h : u < 10
  · rw [dec_small h]; simp
  · rw [dec_big h]; simp
theorem dec_head (u : Nat) (h0 : 0 < u) : ∃ d l, Lib.decDigits u = UInt8.ofNat (48 + d) :: l ∧ 0 < d ∧ d < 10 := by
  induction u using Nat.strongRecOn with
  | _ u ih =>
    by_cases h : u < 10
    · exact ⟨u, [], dec_small h, h0, h⟩
    · obtain ⟨d, l, h1, h2, h3⟩ := ih (u / 10) (by omega) (by omega)
      exact ⟨d, l ++ [UInt8.ofNat (48 + u % 10)], by rw [dec_big h, h1]; rfl, h2, h3⟩
theorem dec_len : ∀ (k u : Nat), 1 ≤ k → u < 10 ^ k → (Lib.decDigits u).length ≤ k
  | 0, _, h, _ => by omega
  | k + 1, u, _, h => by
    by_cases hu : u < 10
    · rw [dec_small hu]; simp
    · rw [dec_big hu, List.length_append]
      cases k with
      | zero => simp at h; omega
      | succ k =>
        have := dec_len (k + 1) (u / 10) (by omega) (by rw [Nat.pow_succ] at h; omega)
        simp only [List.length_cons, List.length_nil]
        omega
theorem dec_len10 {u : Nat} (h : u ≤ 2147483647) : (Lib.decDigits u).length ≤ 10 := dec_len 10 u (by omega) (by omega)
theorem dec_all (u : Nat) : ∀ c ∈ Lib.decDigits u, Ir.dg c = true := by
  induction u using Nat.strongRecOn with
  | _ u ih =>
    by_cases h : u < 10
    · rw [dec_small h]
      intro c hc
      simp only [List.mem_singleton] at hc
      subst hc
      exact dig_dg h
    · rw [dec_big h]
      intro c hc
      rw [List.mem_append] at hc
      rcases hc with hc | hc
      · exact ih (u / 10) (by omega) c hc
      · simp only [List.mem_singleton] at hc
        subst hc
        exact dig_dg (by omega)

theorem number_dec {u : Nat} (h : u ≤ 2147483647) : number (Lib.decDigits u) = some (u : Int) := by
  have h1 := dec_len10 h
  have h0 : (Lib.decDigits u).length ≠ 0 := fun e => dec_ne u (List.eq_nil_of_length_eq_zero e)
  unfold number
  rw [val_dec]
  have hc : ¬ ((Lib.decDigits u).length < 1 ∨ 10 < (Lib.decDigits u).length ∨ ((Lib.decDigits u).head? = some 48 ∧ 1 < (Lib.decDigits u).length)) := by
    rintro (h2 | h2 | ⟨h2, h3⟩)
    · omega
    · omega
    · by_cases hu : 0 < u
      · obtain ⟨d, l, h4, h5, h6⟩ := dec_head u hu
        rw [h4] at h2
        simp only [List.head?_cons, Option.some.injEq] at h2
        have h7 := dig_toNat h6
        rw [h2] at h7
        simp at h7
        omega
      · obtain rfl : u = 0 := by omega
        rw [dec_small (by omega)] at h3
        simp at h3
  rw [if_neg hc]
  simp only
  rw [if_pos h]

theorem dg_is {c : UInt8} (h : Ir.dg c = true) : ∃ d, d < 10 ∧ c = UInt8.ofNat (48 + d) ∧ c.toNat - 48 = d := by
  have h1 : 48 ≤ c.toNat ∧ c.toNat ≤ 57 := of_decide_eq_true h
  refine ⟨c.toNat - 48, by omega, ?_, rfl⟩
  rw [show 48 + (c.toNat - 48) = c.toNat by omega]
  exact UInt8.ofNat_toNat.symm

/-- A word of digits without noughts ahead is its number's word. -/
theorem dec_of_val : ∀ (k : Nat) (w : List UInt8) (u : Nat), w.length = k + 1 → (w.head? = some 48 → w.length = 1) → val 0 w = some u → w = Lib.decDigits u ∧ (w.head? ≠ some 48 → 0 < u)
  | k, w, u, hl, h0, hv => by
    rcases List.eq_nil_or_concat w with rfl | ⟨l, c, rfl⟩
    · simp at hl
    rw [List.concat_eq_append] at *
    rw [val_append] at hv
    cases hl2 : val 0 l with
    | none => rw [hl2] at hv; cases hv
    | some v =>
      rw [hl2] at hv
      change val v [c] = some u at hv
      have hc : Ir.dg c = true := by
        cases h : Ir.dg c with
        | true => rfl
        | false => rw [val, h] at hv; simp at hv
      obtain ⟨d, hd, rfl, hd2⟩ := dg_is hc
      rw [val_one hd] at hv
      injection hv with hv
      subst hv
      cases l with
      | nil =>
        rw [val] at hl2
        injection hl2 with hl2
        subst hl2
        refine ⟨by rw [Nat.zero_mul, Nat.zero_add, dec_small hd]; rfl, fun h => ?_⟩
        rcases Nat.eq_zero_or_pos d with rfl | h2
        · exact absurd rfl h
        · omega
      | cons b l =>
        simp only [List.length_append, List.length_cons, List.length_nil] at hl
        cases k with
        | zero => omega
        | succ k =>
          have hb : b ≠ 48 := fun e => by
            subst e
            have := h0 rfl
            simp at this
          have hb' : (b :: l).head? ≠ some 48 := by simpa using hb
          obtain ⟨h1, h2⟩ := dec_of_val k (b :: l) v (by simp; omega) (fun e => absurd e hb') hl2
          have hv0 := h2 hb'
          refine ⟨?_, fun _ => by omega⟩
          rw [dec_big (by omega), show (v * 10 + d) / 10 = v by omega, show (v * 10 + d) % 10 = d by omega, ← h1]

theorem number_some {w : List UInt8} {n : Int} (h : number w = some n) : 0 ≤ n ∧ n ≤ 2147483647 ∧ w = Lib.decDigits n.toNat := by
  unfold number at h
  split at h
  · cases h
  · rename_i hc
    simp only [not_or, not_and, Nat.not_lt] at hc
    obtain ⟨h1, h2, h3⟩ := hc
    cases hv : val 0 w with
    | none => rw [hv] at h; cases h
    | some u =>
      rw [hv] at h
      simp only at h
      split at h
      · rename_i hu
        injection h with h
        subst h
        refine ⟨by omega, by omega, ?_⟩
        exact (dec_of_val (w.length - 1) w u (by omega) (fun e => by have := h3 e; omega) hv).1
      · cases h

/-! ### the library's reading -/
theorem val_ge : ∀ (l : List UInt8) (a v : Nat), val a l = some v → a ≤ v
  | [], a, v, h => by
    rw [val] at h
    injection h with h
    omega
  | c :: l, a, v, h => by
    rw [val] at h
    split at h
    · have := val_ge l _ _ h
      omega
    · cases h
theorem parseUint_val : ∀ (l : List UInt8) (a v : Nat), val a l = some v → v ≤ 2147483647 → Lib.parseUint10 a l = .ok v
  | [], a, v, h, _ => by
    rw [val] at h
    injection h with h
    rw [Lib.parseUint10, h]
  | c :: l, a, v, h, hv => by
    rw [val] at h
    split at h
    · rename_i hc
      have hc' : 48 ≤ c.toNat ∧ c.toNat ≤ 57 := of_decide_eq_true hc
      have := val_ge l _ _ h
      rw [Lib.parseUint10, if_pos hc', if_neg (by omega), if_neg (by omega)]
      exact parseUint_val l _ _ h hv
    · cases h
theorem atoi_dec {u : Nat} (h : u ≤ 2147483647) : Lib.atoiAll (Lib.decDigits u) = .ok (u : Int) := by
  have hv := val_dec u
  have ha := dec_all u
  cases hd : Lib.decDigits u with
  | nil => exact absurd hd (dec_ne u)
  | cons c r =>
    rw [hd] at hv ha
    have hc : 48 ≤ c.toNat ∧ c.toNat ≤ 57 := of_decide_eq_true (ha c (List.mem_cons_self ..))
    have hp := parseUint_val _ _ _ hv h
    unfold Lib.atoiAll
    simp only
    rw [if_neg (by omega)]
    unfold Lib.parseMag
    rw [if_neg (by simp), hp]
    simp only
    rw [if_neg (by omega), if_neg (by omega), if_neg (by omega)]
/-- What the program asks of a word. -/
theorem number_is (w : List UInt8) : number w = match Lib.atoiAll w with
    | .ok v => if 0 ≤ v ∧ v ≤ 2147483647 ∧ Lib.itoa v = w then some v else none
    | _ => none := by
  cases h : number w with
  | some n =>
    obtain ⟨h1, h2, h3⟩ := number_some h
    have h4 : Lib.atoiAll w = .ok n := by
      rw [h3, atoi_dec (by omega)]
      congr 1
      omega
    have h5 : Lib.itoa n = w := by
      unfold Lib.itoa
      rw [if_neg (by omega)]
      exact h3.symm
    rw [h4]
    simp only
    rw [if_pos ⟨h1, h2, h5⟩]
  | none =>
    cases h4 : Lib.atoiAll w with
    | ok v =>
      simp only
      split
      · rename_i hc
        obtain ⟨h1, h2, h3⟩ := hc
        unfold Lib.itoa at h3
        rw [if_neg (by omega)] at h3
        have := number_dec (u := v.toNat) (by omega)
        rw [h3, h] at this
        cases this
      · rfl
    | _ => rfl

/-! ### words -/
theorem words_ne (l : List UInt8) : words l ≠ [] := by
  cases l with
  | nil => simp [words]
  | cons c l =>
    rw [words]
    split
    · simp
    · split <;> simp
theorem words_blank (w l : List UInt8) (h : (32 : UInt8) ∉ w) : words (w ++ 32 :: l) = w :: words l := by
  induction w with
  | nil => rw [List.nil_append, words, if_pos rfl]
  | cons c w ih =>
    simp only [List.mem_cons, not_or] at h
    rw [List.cons_append, words, if_neg (fun e => h.1 e.symm), ih h.2]
theorem words_one (w : List UInt8) (h : (32 : UInt8) ∉ w) : words w = [w] := by
  induction w with
  | nil => rfl
  | cons c w ih =>
    simp only [List.mem_cons, not_or] at h
    rw [words, if_neg (fun e => h.1 e.symm), ih h.2]
theorem words_join : ∀ (w : List UInt8) (ws : List (List UInt8)), (32 : UInt8) ∉ w → (∀ x ∈ ws, (32 : UInt8) ∉ x) → words (join w ws) = w :: ws
  | w, [], h, _ => by
    unfold join
    simp only [List.flatMap_nil, List.append_nil]
    exact words_one w h
  | w, x :: ws, h, hs => by
    have e : join w (x :: ws) = w ++ 32 :: join x ws := by
      unfold join
      simp
    rw [e, words_blank w _ h, words_join x ws (hs x (List.mem_cons_self ..)) (fun y hy => hs y (List.mem_cons_of_mem _ hy))]
theorem join_words : ∀ (l : List UInt8), ∃ w ws, words l = w :: ws ∧ join w ws = l
  | [] => ⟨[], [], rfl, rfl⟩
  | c :: l => by
    obtain ⟨w, ws, h1, h2⟩ := join_words l
    by_cases hc : c = 32
    · refine ⟨[], w :: ws, by rw [words, if_pos hc, h1], ?_⟩
      rw [← h2, hc]
      simp [join]
    · refine ⟨c :: w, ws, by rw [words, if_neg hc, h1], ?_⟩
      rw [← h2]
      rfl
theorem words_clean : ∀ (l : List UInt8), ∀ x ∈ words l, (32 : UInt8) ∉ x
  | [], x, hx => by
    simp [words] at hx
    subst hx
    simp
  | c :: l, x, hx => by
    obtain ⟨w, ws, h1, _⟩ := join_words l
    have ih := words_clean l
    rw [h1] at ih
    rw [words] at hx
    by_cases hc : c = 32
    · rw [if_pos hc, h1] at hx
      rcases List.mem_cons.1 hx with rfl | hx
      · simp
      · exact ih x hx
    · rw [if_neg hc, h1] at hx
      simp only [List.mem_cons] at hx
      rcases hx with rfl | hx
      · simp only [List.mem_cons, not_or]
        exact ⟨fun e => hc e.symm, ih w (List.mem_cons_self ..)⟩
      · exact ih x (List.mem_cons_of_mem _ hx)

/-! ### the library's Cut and Split -/
theorem indexByte_none : ∀ (l : List UInt8) (c : UInt8), c ∉ l → Lib.indexByte l c = -1
  | [], _, _ => rfl
  | b :: l, c, h => by
    simp only [List.mem_cons, not_or] at h
    have hb : (b == c) = false := by
      rw [beq_eq_false_iff_ne]
      exact fun e => h.1 e.symm
    rw [Lib.indexByte, hb, indexByte_none l c h.2]
    rfl
theorem indexByte_at : ∀ (w l : List UInt8) (c : UInt8), c ∉ w → Lib.indexByte (w ++ c :: l) c = (w.length : Int)
  | [], l, c, _ => by simp [Lib.indexByte]
  | b :: w, l, c, h => by
    simp only [List.mem_cons, not_or] at h
    have hb : (b == c) = false := by
      rw [beq_eq_false_iff_ne]
      exact fun e => h.1 e.symm
    rw [List.cons_append, Lib.indexByte, hb, indexByte_at w l c h.2]
    have h2 : ((w.length : Int) == -1) = false := by
      rw [beq_eq_false_iff_ne]
      omega
    simp [h2]
theorem cut_some {s t r : List UInt8} (h : cutLF s = some (t, r)) : Lib.cut s [10] = (t, r, true) := by
  obtain ⟨rfl, h2⟩ := cutLF_some h
  unfold Lib.cut
  rw [Lib.index_one, indexByte_at t r 10 h2, if_pos (by omega)]
  simp
theorem cut_none {s : List UInt8} (h : cutLF s = none) : Lib.cut s [10] = (s, [], false) := by
  unfold Lib.cut
  rw [Lib.index_one, indexByte_none s 10 (cutLF_none h), if_neg (by omega)]

theorem blank_split (l : List UInt8) : (32 : UInt8) ∉ l ∨ ∃ w r, l = w ++ 32 :: r ∧ (32 : UInt8) ∉ w := by
  induction l with
  | nil => exact .inl (by simp)
  | cons c l ih =>
    by_cases hc : c = 32
    · exact .inr ⟨[], l, by rw [hc]; rfl, by simp⟩
    · rcases ih with h | ⟨w, r, h1, h2⟩
      · exact .inl (by simp only [List.mem_cons, not_or]; exact ⟨fun e => hc e.symm, h⟩)
      · exact .inr ⟨c :: w, r, by rw [h1]; rfl, by simp only [List.mem_cons, not_or]; exact ⟨fun e => hc e.symm, h2⟩⟩
theorem split_words (n : Nat) : ∀ (l : List UInt8) (f : Nat), l.length ≤ n → l.length < f → Lib.splitK [32] 0 (Lib.countFrom [32] f l) l = words l := by
  induction n with
  | zero =>
    intro l f h hf
    obtain rfl := List.eq_nil_of_length_eq_zero (Nat.le_zero.1 h)
    cases f with
    | zero => omega
    | succ f => rfl
  | succ n ih =>
    intro l f h hf
    cases f with
    | zero => omega
    | succ f =>
      rcases blank_split l with h1 | ⟨w, r, rfl, h1⟩
      · have : Lib.index l [32] = -1 := by rw [Lib.index_one, indexByte_none l 32 h1]
        rw [Lib.countFrom, if_pos (by rw [this]; rfl), words_one l h1]
        rfl
      · have e : Lib.index (w ++ 32 :: r) [32] = (w.length : Int) := by rw [Lib.index_one, indexByte_at w r 32 h1]
        have hne : ¬ (Lib.index (w ++ 32 :: r) [32] == -1) = true := by
          rw [e]
          intro h
          have := beq_iff_eq.1 h
          omega
        have ed : (w ++ 32 :: r).drop ((Lib.index (w ++ 32 :: r) [32]).toNat + [(32 : UInt8)].length) = r := by
          rw [e]
          simp
        rw [Lib.countFrom, if_neg hne, ed, Nat.add_comm, Lib.splitK, if_neg hne, ed, words_blank w r h1]
        simp only [List.length_append, List.length_cons] at h hf
        rw [ih r f (by omega) (by omega), e]
        simp
theorem split_is (l : List UInt8) : Lib.splitK [32] 0 (Lib.count l [32]) l = words l := split_words l.length l _ (Nat.le_refl _) (Nat.lt_succ_self _)
end Go.Proofs.YtcoehmmiplffgaaDoor.Tx
