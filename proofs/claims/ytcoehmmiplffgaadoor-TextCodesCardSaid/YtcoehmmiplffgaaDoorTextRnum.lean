/- The document's Number. -/
import Derived.Test.YtcoehmmiplffgaaDoorTextNums
import Derived.Test.YtcoehmmiplffgaaDoorIrNames
import Derived.Test.YtcoehmmiplffgaaDoorIrRefNames
namespace Go.Proofs.YtcoehmmiplffgaaDoor
open Go.ChangeShapes Go.WideShapes Go.RowKit Go.Deep

theorem val_take {s : ByteArray} {k v : Nat} (hk : k < s.size) (h : Tx.val 0 (s.data.toList.take k) = some v) :
    Tx.val 0 (s.data.toList.take (k + 1)) = if Ir.dg s[k] then some (v * 10 + (s[k].toNat - 48)) else none := by
  have h1 := byte_at hk
  obtain ⟨h2, h3⟩ := List.getElem?_eq_some_iff.1 h1
  rw [List.take_succ_eq_append_getElem h2, Tx.val_append, h, h3]
  show Tx.val v [s[k]] = _
  rw [Tx.val]
  rfl
theorem val_none {s : ByteArray} {k : Nat} (h : Tx.val 0 (s.data.toList.take k) = none) : Tx.val 0 s.data.toList = none := by
  rw [← List.take_append_drop k s.data.toList, Tx.val_append, h]
  rfl
theorem val_small : ∀ (k : Nat) (l : List UInt8) (v : Nat), l.length = k → Tx.val 0 l = some v → v < 10 ^ k
  | 0, l, v, hl, h => by
    rw [List.eq_nil_of_length_eq_zero hl, Tx.val] at h
    injection h with h
    subst h
    decide
  | k + 1, l, v, hl, h => by
    rcases List.eq_nil_or_concat l with rfl | ⟨m, c, rfl⟩
    · simp at hl
    · rw [List.concat_eq_append] at *
      rw [Tx.val_append] at h
      cases h2 : Tx.val 0 m with
      | none => rw [h2] at h; cases h
      | some u =>
        rw [h2] at h
        have ih := val_small k m u (by simpa using hl) h2
        change Tx.val u [c] = some v at h
        rw [Tx.val] at h
        split at h
        · rename_i hc
          have hc' : 48 ≤ c.toNat ∧ c.toNat ≤ 57 := of_decide_eq_true hc
          rw [Tx.val] at h
          injection h with h
          rw [Nat.pow_succ]
          omega
        · cases h
theorem num_bad {s : ByteArray} (h : s.size < 1 ∨ 10 < s.size ∨ (s.data.toList.head? = some 48 ∧ 1 < s.size)) : Tx.number s.data.toList = none := by
  unfold Tx.number
  rw [bytes_length, if_pos h]
theorem num_val {s : ByteArray} (h : ¬ (s.size < 1 ∨ 10 < s.size ∨ (s.data.toList.head? = some 48 ∧ 1 < s.size))) : Tx.number s.data.toList = match Tx.val 0 s.data.toList with
    | some n => if n ≤ 2147483647 then some (n : Int) else none
    | none => none := by
  unfold Tx.number
  rw [bytes_length, if_neg h]
  rfl
theorem head_at {s : ByteArray} (h0 : 0 < s.size) : s.data.toList.head? = some s[0] := by
  rw [List.head?_eq_getElem?, byte_at h0]

/-- A word's number, and whether it has one. -/
def NumPost (l : List UInt8) (w : World) (e : Ending) (w' : World) : Prop := ∃ n : Int, e = .returned (.tuple #[.int .i64 n, .bool (Tx.number l).isSome]) ∧ (∀ m, Tx.number l = some m → n = m) ∧ w = w'
theorem numPost_none {l : List UInt8} {w : World} {n : Int} (h : Tx.number l = none) : NumPost l w (.returned (.tuple #[.int .i64 n, .bool false])) w := ⟨n, by rw [h]; rfl, fun m hm => (by rw [h] at hm; cases hm), rfl⟩

set_option maxRecDepth 20000 in
set_option maxHeartbeats 1600000 in
theorem rnum_any (s : ByteArray) (w : World) : Calls Tryd.prog 55 #[.string s] w (NumPost s.data.toList w) := by
  by_cases h0 : s.size = 0
  · have HN := Lib.hid (num_bad (s := s) (.inl (by omega)))
    have h0' : (s.size : Int) < 1 := by omega
    clear h0
    go_enter Tryd.func55, Tryd.ntmps55
    go_wp2_with fail
    go_ret2
    exact numPost_none HN.out
  have hp : 0 < s.size := by omega
  have hp1 : (1 : Int) ≤ s.size := by omega
  by_cases hl : 10 < s.size
  · have HN := Lib.hid (num_bad (s := s) (.inr (.inl hl)))
    have h0' : (10 : Int) < s.size := by omega
    go_enter Tryd.func55, Tryd.ntmps55
    go_wp2_with fail
    go_ret2
    exact numPost_none HN.out
  have hl' : (s.size : Int) ≤ 10 := by omega
  by_cases hz : s[0] = 48 ∧ 1 < s.size
  · have HN := Lib.hid (num_bad (s := s) (.inr (.inr ⟨by rw [head_at hp, hz.1], hz.2⟩)))
    have h1' : (1 : Int) < s.size := by omega
    have e48 : ((s[0].toNat : Int) == 48) = true := by rw [hz.1]; rfl
    clear hz
    go_enter Tryd.func55, Tryd.ntmps55
    go_wp2_with fail
    go_ret2
    exact numPost_none HN.out
  have HV := Lib.hid (num_val (s := s) (by
    rintro (h | h | ⟨h, h'⟩)
    · omega
    · exact hl h
    · rw [head_at hp] at h
      injection h with h
      exact hz ⟨h, h'⟩))
  have hz2 : ((s[0].toNat : Int) == 48) = false ∨ ((s[0].toNat : Int) == 48) = true ∧ (s.size : Int) ≤ 1 := by
    by_cases h : s[0] = 48
    · exact .inr ⟨by rw [h]; rfl, by have : ¬ 1 < s.size := fun h2 => hz ⟨h, h2⟩; omega⟩
    · refine .inl ?_
      rw [beq_eq_false_iff_ne]
      intro h2
      exact h (UInt8.toNat_inj.1 (by show s[0].toNat = 48; omega))
  clear hz
  rcases hz2 with hz3 | ⟨hz3, hz4⟩
  all_goals
    go_enter Tryd.func55, Tryd.ntmps55
    go_wp2_with fail
    go_loop [4, 5] (fun n i => ∃ k v : Nat, k ≤ s.size ∧ v ≤ 10000000000 ∧ n = .int .i64 (v : Int) ∧ i = .int .i64 (k : Int) ∧ Hid (Tx.val 0 (s.data.toList.take k) = some v)) (fun _ i => s.size - (intOf i).toNat)
    case atStart => exact ⟨0, 0, Nat.zero_le _, by omega, rfl, rfl, Lib.hid rfl⟩
    case round =>
      obtain ⟨k, v, hk, hv, rfl, rfl, HA⟩ := hrel
      by_cases hlt : k < s.size
      · have hki : (k : Int) < (s.size : Int) := by omega
        have hc := s[k].toNat_lt
        have HT := Lib.hid (val_take hlt HA.out)
        by_cases hy : 48 ≤ s[k].toNat ∧ s[k].toNat ≤ 57
        · have hd := dg_true hy
          have hlen : (s.data.toList.take (k + 1)).length = k + 1 := by rw [List.length_take, bytes_length]; omega
          have HN := Lib.hid (show Tx.val 0 (s.data.toList.take (k + 1)) = some (v * 10 + (s[k].toNat - 48)) by rw [HT.out, if_pos hd])
          have hsm := val_small (k + 1) _ _ hlen HN.out
          have hpw : 10 ^ (k + 1) ≤ 10 ^ 10 := Nat.pow_le_pow_right (by omega) (by omega)
          have hvv : v * 10 + (s[k].toNat - 48) ≤ 10000000000 := by omega
          have z1 : (48 : Int) ≤ (s[k].toNat : Int) := by omega
          have z2 : (s[k].toNat : Int) ≤ 57 := by omega
          clear hy hd hlen hsm hpw HT
          go_wp2_with fail
          go_round
          case rel => exact ⟨k + 1, _, by omega, hvv, by go_num, by go_num, HN⟩
          case measure => simp [intOf]; omega
        · have HN := Lib.hid (show Tx.number s.data.toList = none by
            rw [HV.out, val_none (s := s) (k := k + 1) (by rw [HT.out, dg_false hy]; rfl)])
          have hcase : s[k].toNat < 48 ∨ 57 < s[k].toNat := by omega
          clear hy HT
          rcases hcase with h | h
          · have z1 : (s[k].toNat : Int) < 48 := by omega
            clear h hc
            go_wp2_with fail
            go_ret2
            exact numPost_none HN.out
          · have z1 : (57 : Int) < (s[k].toNat : Int) := by omega
            have z2 : (48 : Int) ≤ (s[k].toNat : Int) := by omega
            clear h hc
            go_wp2_with fail
            go_ret2
            exact numPost_none HN.out
      · obtain rfl : k = s.size := by omega
        have hall : s.data.toList.take s.size = s.data.toList := List.take_of_length_le (by rw [bytes_length]; omega)
        have HN := Lib.hid (show Tx.number s.data.toList = if v ≤ 2147483647 then some (v : Int) else none by rw [HV.out, ← hall, HA.out])
        by_cases hm : v ≤ 2147483647
        · have HM := Lib.hid (show Tx.number s.data.toList = some (v : Int) by rw [HN.out, if_pos hm])
          have hmi : (v : Int) ≤ 2147483647 := by omega
          clear hm HN hall
          go_wp2_with fail
          go_ret2
          exact ⟨v, by rw [HM.out]; rfl, fun m hm => by rw [HM.out] at hm; injection hm, rfl⟩
        · have HM := Lib.hid (show Tx.number s.data.toList = none by rw [HN.out, if_neg hm])
          have hmi : decide ((v : Int) ≤ 2147483647) = false := decide_eq_false (by omega)
          clear hm HN hall
          go_wp2_with fail
          go_ret2
          exact numPost_none HM.out
end Go.Proofs.YtcoehmmiplffgaaDoor
