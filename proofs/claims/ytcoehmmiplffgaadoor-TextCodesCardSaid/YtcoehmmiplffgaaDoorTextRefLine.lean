/- The document's line: Digits, word, numbers, line. -/
import Derived.Test.YtcoehmmiplffgaaDoorTextLine
import Derived.Test.YtcoehmmiplffgaaDoorIrRefNames
import Derived.Test.YtcoehmmiplffgaaDoorIrRow
namespace Go.Proofs.YtcoehmmiplffgaaDoor
open Go.ChangeShapes Go.WideShapes Go.RowKit Go.Deep

/-! ### Digits -/
def tenB : ByteArray := ⟨#[48, 49, 50, 51, 52, 53, 54, 55, 56, 57]⟩
theorem ten_at {d : Nat} (h : d < 10) : (⟨#[48, 49, 50, 51, 52, 53, 54, 55, 56, 57]⟩ : ByteArray).extract d (d + 1) = Tx.mkB [UInt8.ofNat (48 + d)] := by
  rcases (by omega : d = 0 ∨ d = 1 ∨ d = 2 ∨ d = 3 ∨ d = 4 ∨ d = 5 ∨ d = 6 ∨ d = 7 ∨ d = 8 ∨ d = 9) with rfl | rfl | rfl | rfl | rfl | rfl | rfl | rfl | rfl | rfl <;> decide
theorem mkB_append (a b : List UInt8) : Tx.mkB a ++ Tx.mkB b = Tx.mkB (a ++ b) := by
  apply ByteArray.ext
  show _ = (a ++ b).toArray
  rw [ByteArray.data_append]
  simp [Tx.mkB]
theorem mkB_size (a : List UInt8) : (Tx.mkB a).size = a.length := by simp [Tx.mkB, ByteArray.size]

set_option maxRecDepth 20000 in
set_option maxHeartbeats 1000000 in
theorem digits_any (n : Int) (w : World) (h0 : 0 ≤ n) (h1 : n ≤ 2147483647) :
    Calls Tryd.prog 30 #[.int .i64 n] w fun e w' => e = .returned (.string (Tx.mkB (Lib.decDigits n.toNat))) ∧ w = w' := by
  obtain ⟨u, rfl⟩ : ∃ u : Nat, n = (u : Int) := ⟨n.toNat, by omega⟩
  have hu : u ≤ 2147483647 := by omega
  clear h0 h1
  go_enter Tryd.func30, Tryd.ntmps30
  go_wp2_with fail
  go_loop [0, 3] (fun v s => ∃ (q : Nat) (t : List UInt8), q ≤ 2147483647 ∧ t.length ≤ 100 ∧ v = .int .i64 (q : Int) ∧ s = .string (Tx.mkB t) ∧ Hid (Lib.decDigits u = Lib.decDigits q ++ t ∧ t.length + (Lib.decDigits q).length ≤ 10)) (fun v _ => (intOf v).toNat)
  case atStart => exact ⟨u, [], hu, by simp, rfl, rfl, Lib.hid ⟨by simp, by have := Tx.dec_len' 10 u (by omega) (by omega); simpa using this⟩⟩
  case round =>
    obtain ⟨q, t, hq, ht, rfl, rfl, HD⟩ := hrel
    by_cases hb : 9 < q
    · have hbi : (9 : Int) < (q : Int) := by omega
      obtain ⟨C, hC⟩ : ∃ C, C = Tx.mkB [UInt8.ofNat (48 + q % 10)] := ⟨_, rfl⟩
      obtain ⟨T, hT⟩ : ∃ T, T = Tx.mkB t := ⟨_, rfl⟩
      obtain ⟨R, hR⟩ : ∃ R, R = Tx.mkB (UInt8.ofNat (48 + q % 10) :: t) := ⟨_, rfl⟩
      have hd := ten_at (d := q % 10) (by omega)
      rw [← hC] at hd
      have happ : C ++ T = R := by rw [hC, hT, hR, mkB_append]; rfl
      have hsz : ¬ 9223372036854775807 < C.size + T.size := by rw [hC, hT, mkB_size, mkB_size]; simp; omega
      have hdec : Lib.decDigits u = Lib.decDigits (q / 10) ++ (UInt8.ofNat (48 + q % 10) :: t) := by
        rw [HD.out.1]
        conv => lhs; rw [Lib.decDigits, dif_neg (by omega)]
        simp
      have hlen : (UInt8.ofNat (48 + q % 10) :: t).length + (Lib.decDigits (q / 10)).length ≤ 10 := by
        have := HD.out.2
        have e : (Lib.decDigits q).length = (Lib.decDigits (q / 10)).length + 1 := by
          conv => lhs; rw [Lib.decDigits, dif_neg (by omega)]
          simp
        simp only [List.length_cons]
        omega
      have HX := Lib.hid (And.intro hdec (And.intro hlen hR))
      rw [← hT]
      have HT := Lib.hid hT
      clear hdec hlen hC hT hR
      go_wp2_with fail
      go_round
      case rel => exact ⟨q / 10, _, by omega, by have := HX.out.2.1; simp only [List.length_cons] at this ⊢; omega, by go_num, by rw [HX.out.2.2], Lib.hid ⟨HX.out.1, HX.out.2.1⟩⟩
      case measure => simp [intOf]; omega
    · have hbi : (q : Int) ≤ 9 := by omega
      obtain ⟨C, hC⟩ : ∃ C, C = Tx.mkB [UInt8.ofNat (48 + q)] := ⟨_, rfl⟩
      obtain ⟨T, hT⟩ : ∃ T, T = Tx.mkB t := ⟨_, rfl⟩
      obtain ⟨R, hR⟩ : ∃ R, R = Tx.mkB (UInt8.ofNat (48 + q) :: t) := ⟨_, rfl⟩
      have hd := ten_at (d := q) (by omega)
      rw [← hC] at hd
      have happ : C ++ T = R := by rw [hC, hT, hR, mkB_append]; rfl
      have hsz : ¬ 9223372036854775807 < C.size + T.size := by rw [hC, hT, mkB_size, mkB_size]; simp; omega
      have hsz2 : ¬ 9223372036854775807 < min (q + 1) 10 - q + T.size := by rw [hT, mkB_size]; omega
      have hdec : Lib.decDigits u = UInt8.ofNat (48 + q) :: t := by
        rw [HD.out.1]
        conv => lhs; rw [Lib.decDigits, dif_pos (by omega)]
        rfl
      have HX := Lib.hid (And.intro hdec hR)
      rw [← hT]
      clear hdec hC hT hR hb
      go_wp2_with fail
      go_ret
      exact ⟨by rw [HX.out.1, ← HX.out.2] <;> rfl, rfl⟩

/-! ### word -/
def wordsC : Array Value := #[.string ⟨#[]⟩, .string ⟨#[99, 111, 110, 115, 116]⟩, .string ⟨#[99, 111, 112, 121]⟩, .string ⟨#[97, 100, 100]⟩, .string ⟨#[115, 117, 98]⟩, .string ⟨#[109, 117, 108]⟩, .string ⟨#[108, 101, 115, 115]⟩, .string ⟨#[100, 105, 118]⟩, .string ⟨#[108, 111, 97, 100]⟩, .string ⟨#[115, 116, 111, 114, 101]⟩, .string ⟨#[111, 117, 116]⟩, .string ⟨#[99, 97, 108, 108]⟩, .string ⟨#[106, 117, 109, 112]⟩, .string ⟨#[98, 114, 97, 110, 99, 104]⟩, .string ⟨#[114, 101, 116]⟩]
theorem words_at {k : Nat} (h : k < 15) (code : Bool) : wordsC[k]? = some (.string ⟨(Tx.word (k : Int) code).toArray⟩) := by
  rcases (by omega : k = 0 ∨ k = 1 ∨ k = 2 ∨ k = 3 ∨ k = 4 ∨ k = 5 ∨ k = 6 ∨ k = 7 ∨ k = 8 ∨ k = 9 ∨ k = 10 ∨ k = 11 ∨ k = 12 ∨ k = 13 ∨ k = 14) with rfl | rfl | rfl | rfl | rfl | rfl | rfl | rfl | rfl | rfl | rfl | rfl | rfl | rfl | rfl <;> rfl

theorem word_21 (code : Bool) : Tx.word 21 code = if code then [102, 101, 116, 99, 104] else [] := rfl
theorem word_22 (code : Bool) : Tx.word 22 code = if code then [115, 97, 118, 101] else [] := rfl
theorem word_no {op : Int} (code : Bool) (h : op < 0 ∨ 15 ≤ op) (h1 : op ≠ 21) (h2 : op ≠ 22) : Tx.word op code = [] := by
  unfold Tx.word
  rw [if_neg (by omega), if_neg (by omega), if_neg (by omega), if_neg (by omega), if_neg (by omega), if_neg (by omega), if_neg (by omega), if_neg (by omega), if_neg (by omega), if_neg (by omega), if_neg (by omega), if_neg (by omega), if_neg (by omega), if_neg (by omega), if_neg h1, if_neg h2]

set_option maxRecDepth 20000 in
set_option maxHeartbeats 2000000 in
theorem rword_any (op : Int) (code : Bool) (w : World) :
    Calls Tryd.prog 31 #[.int .i64 op, .bool code] w fun e w' => e = .returned (.string ⟨(Tx.word op code).toArray⟩) ∧ Below w.heap.size w w' := by
  have HB := Lib.hid (show Below w.heap.size w (w.alloc (.cells #[.string ⟨#[]⟩, .string ⟨#[99, 111, 110, 115, 116]⟩, .string ⟨#[99, 111, 112, 121]⟩, .string ⟨#[97, 100, 100]⟩, .string ⟨#[115, 117, 98]⟩, .string ⟨#[109, 117, 108]⟩, .string ⟨#[108, 101, 115, 115]⟩, .string ⟨#[100, 105, 118]⟩, .string ⟨#[108, 111, 97, 100]⟩, .string ⟨#[115, 116, 111, 114, 101]⟩, .string ⟨#[111, 117, 116]⟩, .string ⟨#[99, 97, 108, 108]⟩, .string ⟨#[106, 117, 109, 112]⟩, .string ⟨#[98, 114, 97, 110, 99, 104]⟩, .string ⟨#[114, 101, 116]⟩] 9)) from (Below.refl _ _).alloc (Nat.le_refl _) _)
  by_cases hin : 0 ≤ op ∧ op < 15
  · obtain ⟨k, rfl⟩ : ∃ k : Nat, op = (k : Int) := ⟨op.toNat, by omega⟩
    have hk : k < 15 := by omega
    have hki : (k : Int) < 15 := by omega
    have hc : (w.alloc (.cells #[.string ⟨#[]⟩, .string ⟨#[99, 111, 110, 115, 116]⟩, .string ⟨#[99, 111, 112, 121]⟩, .string ⟨#[97, 100, 100]⟩, .string ⟨#[115, 117, 98]⟩, .string ⟨#[109, 117, 108]⟩, .string ⟨#[108, 101, 115, 115]⟩, .string ⟨#[100, 105, 118]⟩, .string ⟨#[108, 111, 97, 100]⟩, .string ⟨#[115, 116, 111, 114, 101]⟩, .string ⟨#[111, 117, 116]⟩, .string ⟨#[99, 97, 108, 108]⟩, .string ⟨#[106, 117, 109, 112]⟩, .string ⟨#[98, 114, 97, 110, 99, 104]⟩, .string ⟨#[114, 101, 116]⟩] 9)).cell? ⟨w.heap.size, k, none⟩ = some (.string ⟨(Tx.word (k : Int) code).toArray⟩) := ((Blk.new w 9 wordsC).cell k).trans (words_at hk code)
    clear hin
    go_enter Tryd.func31, Tryd.ntmps31
    go_wp2_with fail
    go_ret
    exact ⟨rfl, HB.out⟩
  · have hout : op < 0 ∨ 15 ≤ op := by omega
    by_cases h21 : op = 21
    · subst h21
      cases code with
      | true =>
        clear hin hout
        go_enter Tryd.func31, Tryd.ntmps31
        go_wp2_with fail
        go_ret
        exact ⟨rfl, HB.out⟩
      | false =>
        clear hin hout
        go_enter Tryd.func31, Tryd.ntmps31
        go_wp2_with fail
        go_ret
        exact ⟨rfl, HB.out⟩
    · by_cases h22 : op = 22
      · subst h22
        cases code with
        | true =>
          clear hin hout
          go_enter Tryd.func31, Tryd.ntmps31
          go_wp2_with fail
          go_ret
          exact ⟨rfl, HB.out⟩
        | false =>
          clear hin hout
          go_enter Tryd.func31, Tryd.ntmps31
          go_wp2_with fail
          go_ret
          exact ⟨rfl, HB.out⟩
      · have HW := Lib.hid (word_no code hout h21 h22)
        have e1 : (op == 21) = false := by simpa using h21
        have e2 : (op == 22) = false := by simpa using h22
        clear hin h21 h22
        rw [HW.out]
        rcases hout with h | h
        · have hge : decide (0 ≤ op) = false := decide_eq_false (by omega)
          cases code with
          | true =>
            go_enter Tryd.func31, Tryd.ntmps31
            go_wp2_with fail
            go_ret
            exact ⟨rfl, HB.out⟩
          | false =>
            go_enter Tryd.func31, Tryd.ntmps31
            go_wp2_with fail
            go_ret
            exact ⟨rfl, HB.out⟩
        · have hge : 0 ≤ op := by omega
          have hlt : decide (op < 15) = false := decide_eq_false (by omega)
          cases code with
          | true =>
            go_enter Tryd.func31, Tryd.ntmps31
            go_wp2_with fail
            go_ret
            exact ⟨rfl, HB.out⟩
          | false =>
            go_enter Tryd.func31, Tryd.ntmps31
            go_wp2_with fail
            go_ret
            exact ⟨rfl, HB.out⟩
end Go.Proofs.YtcoehmmiplffgaaDoor
