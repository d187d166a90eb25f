/- What may be a name: the program's and the document's. -/
import Derived.Test.YtcoehmmiplffgaaDoorQuiets
import Derived.Test.YtcoehmmiplffgaaDoorIrPlain
import Derived.Lib.SmallJoins
namespace Go.Proofs.YtcoehmmiplffgaaDoor
open Go.ChangeShapes Go.WideShapes Go.RowKit Go.Deep

theorem ret_bool {a b : Bool} (h : a = b) : Ending.returned (Value.bool a) = .returned (.bool b) := by rw [h]

theorem digit_any (c : UInt8) (w : World) : Calls Tryd.prog 75 #[.int .u8 (c.toNat : Int)] w fun e w' => e = .returned (.bool (Ir.dg c)) ∧ w = w' := by
  have hc : c.toNat < 256 := c.toNat_lt
  go_enter Tryd.func75, Tryd.ntmps75
  go_wp2
  all_goals
    go_ret
    exact ⟨ret_bool (by unfold Ir.dg; first | exact (decide_eq_false (by omega)).symm | exact (decide_eq_true (by omega)).symm | exact decide_eq_decide.2 (by omega)), rfl⟩
theorem letter_any (c : UInt8) (w : World) : Calls Tryd.prog 76 #[.int .u8 (c.toNat : Int)] w fun e w' => e = .returned (.bool (Ir.lt c)) ∧ w = w' := by
  have hc : c.toNat < 256 := c.toNat_lt
  go_enter Tryd.func76, Tryd.ntmps76
  go_wp2
  all_goals
    go_ret
    exact ⟨ret_bool (by unfold Ir.lt; first | exact (decide_eq_false (by omega)).symm | exact (decide_eq_true (by omega)).symm | exact decide_eq_decide.2 (by omega)), rfl⟩

theorem byte_at {s : ByteArray} {k : Nat} (h : k < s.size) : s.data.toList[k]? = some s[k] := by
  rw [List.getElem?_eq_getElem (by simpa using h)]
  rfl
theorem bytes_length (s : ByteArray) : s.data.toList.length = s.size := by simp

/-- A name, byte by byte. -/
theorem nm_is {s : ByteArray} (h0 : 0 < s.size) : Ir.nm s = (decide (s.size ≤ 12) && !Ir.dg s[0] && s.data.toList.all fun c => Ir.dg c || Ir.lt c) := by
  have h1 := byte_at h0
  have h2 := bytes_length s
  unfold Ir.nm
  generalize s.data.toList = l at *
  match l, h1 with
  | c :: l, h1 =>
    simp at h1
    subst h1
    simp at h2
    show (decide (l.length ≤ 11) && !Ir.dg s[0] && (s[0] :: l).all fun c => Ir.dg c || Ir.lt c) = _
    rw [show decide (l.length ≤ 11) = decide (s.size ≤ 12) from decide_eq_decide.2 (by omega)]
theorem nm_empty {s : ByteArray} (h0 : s.size = 0) : Ir.nm s = false := by
  have h2 := bytes_length s
  unfold Ir.nm
  rw [List.eq_nil_of_length_eq_zero (h2.trans h0)]
  rfl
theorem nm_long {s : ByteArray} (h0 : 12 < s.size) : Ir.nm s = false := by
  rw [nm_is (by omega), decide_eq_false (by omega)]
  rfl
theorem nm_digit {s : ByteArray} (h0 : 0 < s.size) (h : Ir.dg s[0] = true) : Ir.nm s = false := by
  rw [nm_is h0, h]
  simp
theorem nm_bad {s : ByteArray} {k : Nat} (hk : k < s.size) (h : Ir.dg s[k] = false) (h' : Ir.lt s[k] = false) : Ir.nm s = false := by
  rw [nm_is (by omega)]
  have : (s.data.toList.all fun c => Ir.dg c || Ir.lt c) = false := by
    rw [List.all_eq_false]
    exact ⟨s[k], List.mem_of_getElem? (byte_at hk), by simp [h, h']⟩
  rw [this]
  simp
theorem nm_good {s : ByteArray} (h0 : 0 < s.size) (h12 : s.size ≤ 12) (hd : Ir.dg s[0] = false) (h : ∀ k, (hk : k < s.size) → (Ir.dg s[k] || Ir.lt s[k]) = true) : Ir.nm s = true := by
  rw [nm_is h0, decide_eq_true h12, hd]
  have : (s.data.toList.all fun c => Ir.dg c || Ir.lt c) = true := by
    rw [List.all_eq_true]
    intro c hc
    obtain ⟨k, hk, rfl⟩ := List.mem_iff_getElem.1 hc
    have hk' : k < s.size := by simpa using hk
    exact h k hk'
  rw [this]
  rfl

set_option maxRecDepth 20000 in
set_option maxHeartbeats 800000 in
theorem name_any (s : ByteArray) (w : World) : Calls Tryd.prog 64 #[.string s] w fun e w' => e = .returned (.bool (Ir.nm s)) ∧ w = w' := by
  by_cases h0 : s.size = 0
  · have HN := Lib.hid (nm_empty h0)
    have h0' : (s.size : Int) < 1 := by omega
    clear h0
    rw [HN.out]
    go_enter Tryd.func64, Tryd.ntmps64
    go_wp2_with fail
    go_ret
    exact ⟨rfl, rfl⟩
  have hp : 0 < s.size := by omega
  have hp1 : (1 : Int) ≤ s.size := by omega
  by_cases hl : 12 < s.size
  · have HN := Lib.hid (nm_long hl)
    have h0' : (12 : Int) < s.size := by omega
    rw [HN.out]
    go_enter Tryd.func64, Tryd.ntmps64
    go_wp2_with fail
    go_ret
    exact ⟨rfl, rfl⟩
  have hl' : (s.size : Int) ≤ 12 := by omega
  cases hd : Ir.dg s[0] with
  | true =>
    have HN := Lib.hid (nm_digit hp hd)
    have HD := Lib.hid hd
    clear hd
    rw [HN.out]
    go_enter Tryd.func64, Tryd.ntmps64
    go_wp2_with (go_at_call 75; refine (digit_any _ _).mono ?_; rintro e w' ⟨rfl, rfl⟩; rw [HD.out])
    go_ret
    exact ⟨rfl, rfl⟩
  | false =>
    have HD := Lib.hid hd
    clear hd
    go_enter Tryd.func64, Tryd.ntmps64
    go_wp2_with (go_at_call 75; refine (digit_any _ _).mono ?_; rintro e w' ⟨rfl, rfl⟩; rw [HD.out])
    go_loop [19] (fun i => ∃ k : Nat, k ≤ s.size ∧ i = .int .i64 (k : Int) ∧ ∀ j, (hj : j < s.size) → j < k → (Ir.dg s[j] || Ir.lt s[j]) = true) (fun i => s.size - (intOf i).toNat)
    case atStart => exact ⟨0, Nat.zero_le _, rfl, fun j _ h => absurd h (Nat.not_lt_zero _)⟩
    case round =>
      obtain ⟨k, hk, rfl, hall⟩ := hrel
      have HA := Lib.hid hall
      clear hall
      by_cases hlt : k < s.size
      · have hki : (k : Int) < (s.size : Int) := by omega
        cases hd : Ir.dg s[k] with
        | true =>
          have HK := Lib.hid hd
          clear hd
          go_wp2_with (go_at_call 75; refine (digit_any _ _).mono ?_; rintro e w' ⟨rfl, rfl⟩; rw [HK.out])
          go_round
          case rel => exact ⟨k + 1, by omega, by go_num, fun j hj hjk => by
            rcases Nat.lt_succ_iff_lt_or_eq.1 hjk with h | rfl
            · exact HA.out j hj h
            · rw [HK.out]; rfl⟩
          case measure => simp [intOf]; omega
        | false =>
          have HK := Lib.hid hd
          clear hd
          cases hd : Ir.lt s[k] with
          | true =>
            have HL := Lib.hid hd
            clear hd
            go_wp2_with (first | (go_at_call 75; refine (digit_any _ _).mono ?_; rintro e w' ⟨rfl, rfl⟩; rw [HK.out]) | (go_at_call 76; refine (letter_any _ _).mono ?_; rintro e w' ⟨rfl, rfl⟩; rw [HL.out]))
            go_round
            case rel => exact ⟨k + 1, by omega, by go_num, fun j hj hjk => by
              rcases Nat.lt_succ_iff_lt_or_eq.1 hjk with h | rfl
              · exact HA.out j hj h
              · rw [HK.out, HL.out]; rfl⟩
            case measure => simp [intOf]; omega
          | false =>
            have HL := Lib.hid hd
            clear hd
            have HN := Lib.hid (nm_bad hlt HK.out HL.out)
            go_wp2_with (first | (go_at_call 75; refine (digit_any _ _).mono ?_; rintro e w' ⟨rfl, rfl⟩; rw [HK.out]) | (go_at_call 76; refine (letter_any _ _).mono ?_; rintro e w' ⟨rfl, rfl⟩; rw [HL.out]))
            go_ret
            exact ⟨ret_bool HN.out.symm, rfl⟩
      · obtain rfl : k = s.size := by omega
        have HN := Lib.hid (nm_good hp (by omega) HD.out (fun j hj => HA.out j hj hj))
        go_wp2_with fail
        go_ret
        exact ⟨ret_bool HN.out.symm, rfl⟩
end Go.Proofs.YtcoehmmiplffgaaDoor
