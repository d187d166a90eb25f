/- What may be a name: the document's. -/
import Derived.Test.YtcoehmmiplffgaaDoorIrNames
namespace Go.Proofs.YtcoehmmiplffgaaDoor
open Go.ChangeShapes Go.WideShapes Go.RowKit Go.Deep

theorem lt_true {c : UInt8} (h : 97 ≤ c.toNat ∧ c.toNat ≤ 122) : Ir.lt c = true := decide_eq_true h
theorem lt_false {c : UInt8} (h : ¬ (97 ≤ c.toNat ∧ c.toNat ≤ 122)) : Ir.lt c = false := decide_eq_false h
theorem dg_true {c : UInt8} (h : 48 ≤ c.toNat ∧ c.toNat ≤ 57) : Ir.dg c = true := decide_eq_true h
theorem dg_false {c : UInt8} (h : ¬ (48 ≤ c.toNat ∧ c.toNat ≤ 57)) : Ir.dg c = false := decide_eq_false h

theorem nm_good' {s : ByteArray} (h0 : 0 < s.size) (h12 : s.size ≤ 12) (h : ∀ k, (hk : k < s.size) → (Ir.dg s[k] || Ir.lt s[k]) = true ∧ (k = 0 → Ir.dg s[k] = false)) : Ir.nm s = true :=
  nm_good h0 h12 ((h 0 h0).2 rfl) (fun k hk => (h k hk).1)

set_option maxRecDepth 20000 in
set_option maxHeartbeats 1600000 in
theorem rname_any (s : ByteArray) (w : World) : Calls Tryd.prog 27 #[.string s] w fun e w' => e = .returned (.bool (Ir.nm s)) ∧ w = w' := by
  by_cases h0 : s.size = 0
  · have HN := Lib.hid (nm_empty h0)
    have h0' : (s.size : Int) < 1 := by omega
    clear h0
    go_enter Tryd.func27, Tryd.ntmps27
    go_wp2_with fail
    go_ret
    exact ⟨ret_bool HN.out.symm, rfl⟩
  have hp : 0 < s.size := by omega
  have hp1 : (1 : Int) ≤ s.size := by omega
  by_cases hl : 12 < s.size
  · have HN := Lib.hid (nm_long hl)
    have h0' : (12 : Int) < s.size := by omega
    go_enter Tryd.func27, Tryd.ntmps27
    go_wp2_with fail
    go_ret
    exact ⟨ret_bool HN.out.symm, rfl⟩
  have hl' : (s.size : Int) ≤ 12 := by omega
  go_enter Tryd.func27, Tryd.ntmps27
  go_wp2_with fail
  go_loop [3] (fun i => ∃ k : Nat, k ≤ s.size ∧ i = .int .i64 (k : Int) ∧ ∀ j, (hj : j < s.size) → j < k → (Ir.dg s[j] || Ir.lt s[j]) = true ∧ (j = 0 → Ir.dg s[j] = false)) (fun i => s.size - (intOf i).toNat)
  case atStart => exact ⟨0, Nat.zero_le _, rfl, fun j _ h => absurd h (Nat.not_lt_zero _)⟩
  case round =>
    obtain ⟨k, hk, rfl, hall⟩ := hrel
    have HA := Lib.hid hall
    clear hall
    by_cases hlt : k < s.size
    · have hki : (k : Int) < (s.size : Int) := by omega
      have hc := s[k].toNat_lt
      have next : (Ir.dg s[k] || Ir.lt s[k]) = true → (k = 0 → Ir.dg s[k] = false) → ∀ j, (hj : j < s.size) → j < k + 1 → (Ir.dg s[j] || Ir.lt s[j]) = true ∧ (j = 0 → Ir.dg s[j] = false) := fun h1 h2 j hj hjk => by
        rcases Nat.lt_succ_iff_lt_or_eq.1 hjk with h | rfl
        · exact HA.out j hj h
        · exact ⟨h1, h2⟩
      have NX := Lib.hid next
      clear next
      by_cases hz : 97 ≤ s[k].toNat ∧ s[k].toNat ≤ 122
      · have HL := Lib.hid (lt_true hz)
        have HD := Lib.hid (dg_false (c := s[k]) (by omega))
        have z1 : (97 : Int) ≤ (s[k].toNat : Int) := by omega
        have z2 : (s[k].toNat : Int) ≤ 122 := by omega
        have z3 : (48 : Int) ≤ (s[k].toNat : Int) := by omega
        have z4 : (57 : Int) < (s[k].toNat : Int) := by omega
        clear hz hc
        go_wp2_with fail
        go_round
        case rel => exact ⟨k + 1, by omega, by go_num, NX.out (by rw [HL.out, HD.out]; rfl) (fun _ => HD.out)⟩
        case measure => simp [intOf]; omega
      · by_cases hy : 48 ≤ s[k].toNat ∧ s[k].toNat ≤ 57
        · have HD := Lib.hid (dg_true hy)
          have z1 : (s[k].toNat : Int) < 97 := by omega
          have z2 : (s[k].toNat : Int) ≤ 57 := by omega
          have z3 : (48 : Int) ≤ (s[k].toNat : Int) := by omega
          clear hz hc hy
          by_cases hk0 : k = 0
          · subst hk0
            have HN := Lib.hid (nm_digit hp HD.out)
            go_wp2_with fail
            go_ret
            exact ⟨ret_bool HN.out.symm, rfl⟩
          · have hkp : (0 : Int) < (k : Int) := by omega
            have hkz : ((k : Int) == 0) = false := by simp; omega
            go_wp2_with fail
            go_round
            case rel => exact ⟨k + 1, by omega, by go_num, NX.out (by rw [HD.out]; rfl) (fun h => absurd h hk0)⟩
            case measure => simp [intOf]; omega
        · have HN := Lib.hid (nm_bad hlt (dg_false hy) (lt_false hz))
          have hcase : s[k].toNat < 48 ∨ (57 < s[k].toNat ∧ s[k].toNat < 97) ∨ 122 < s[k].toNat := by omega
          clear hz hy
          rcases hcase with h | ⟨h, h'⟩ | h
          · have z1 : (s[k].toNat : Int) < 48 := by omega
            have z2 : (s[k].toNat : Int) < 97 := by omega
            clear h hc
            go_wp2_with fail
            go_ret
            exact ⟨ret_bool HN.out.symm, rfl⟩
          · have z1 : (57 : Int) < (s[k].toNat : Int) := by omega
            have z2 : (s[k].toNat : Int) < 97 := by omega
            have z3 : (48 : Int) ≤ (s[k].toNat : Int) := by omega
            clear h h' hc
            go_wp2_with fail
            go_ret
            exact ⟨ret_bool HN.out.symm, rfl⟩
          · have z1 : (122 : Int) < (s[k].toNat : Int) := by omega
            have z2 : (57 : Int) < (s[k].toNat : Int) := by omega
            have z3 : (48 : Int) ≤ (s[k].toNat : Int) := by omega
            have z4 : (97 : Int) ≤ (s[k].toNat : Int) := by omega
            have z5 : decide ((s[k].toNat : Int) ≤ 122) = false := decide_eq_false (by omega)
            clear h hc
            go_wp2_with fail
            go_ret
            exact ⟨ret_bool HN.out.symm, rfl⟩
    · obtain rfl : k = s.size := by omega
      have HN := Lib.hid (nm_good' hp (by omega) (fun j hj => HA.out j hj hj))
      go_wp2_with fail
      go_ret
      exact ⟨ret_bool HN.out.symm, rfl⟩
end Go.Proofs.YtcoehmmiplffgaaDoor
