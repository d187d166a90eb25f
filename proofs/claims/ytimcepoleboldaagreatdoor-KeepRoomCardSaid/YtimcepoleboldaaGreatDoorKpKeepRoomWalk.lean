/- The walk of KeepRoom: true of any room, any strings. -/
import Derived.Test.YtimcepoleboldaaGreatDoorKpD
import Derived.IntWalk
namespace Go.Proofs.YtimcepoleboldaaGreatDoor
open Go.RowKit Go.Deep

theorem not_odd_one (k v : ByteArray) : ¬ Kp.odd [⟨1, k, v⟩] := by
  rintro ⟨x, hx, h1, h2⟩
  simp at hx
  subst hx
  exact h1 rfl
theorem recs_one (w : World) (k : Int) (a b : ByteArray) (hk : -9223372036854775808 ≤ k ∧ k ≤ 9223372036854775807) : Recs (w.alloc (.cells #[.int .i64 k, .string a, .string b] 32)) (.slice (some ⟨w.heap.size, 0, none⟩) 1 1) [⟨k, a, b⟩] := by
  refine ⟨some ⟨w.heap.size, 0, none⟩, 1, rfl, fun j x hj => ?_⟩
  match j, hj with
  | 0, hj =>
    simp at hj
    subst hj
    exact ⟨hk, w.heap.size, 0, rfl, by simp, by simp, by simp, by simp⟩
  | j + 1, hj => simp at hj
theorem size_puts_one (k v : ByteArray) (hk : k.size ≤ 300) (hv : v.size ≤ 300) : (Kp.batch (Kp.puts [(k, v)])).length ≤ 12192 := by
  have h : Kp.size [(k, v)] = k.size + v.size + 0 := rfl
  have := Kp.batch_short (m := [(k, v)]) (by omega) (by show 1 ≤ _; omega)
  rw [h] at this
  have : ([(k, v)] : Kp.Mp).length = 1 := rfl
  omega

set_option maxRecDepth 20000 in
set_option maxHeartbeats 8000000 in
theorem room_walk (room : Nat) (key value more : ByteArray) (w : World) (hr : room < 256) :
    Calls Tryz.prog 8 #[.int .u8 (room : Int), .string key, .string value, .string more] w fun x w' => x = .returned (.bool true) ∧ Below w.heap.size w w' := by
  go_enter Tryz.func8, Tryz.ntmps8
  by_cases k1 : 300 < key.size
  · have k1' : (300 : Int) < (key.size : Int) := by omega
    go_wp2_with fail
    go_ret
    exact ⟨rfl, Below.refl _ _⟩
  by_cases k2 : 300 < value.size
  · have k1' : ¬ (300 : Int) < (key.size : Int) := by omega
    have k2' : (300 : Int) < (value.size : Int) := by omega
    go_wp2_with fail
    go_ret
    exact ⟨rfl, Below.refl _ _⟩
  by_cases k3 : 300 < more.size
  · have k1' : ¬ (300 : Int) < (key.size : Int) := by omega
    have k2' : ¬ (300 : Int) < (value.size : Int) := by omega
    have k3' : (300 : Int) < (more.size : Int) := by omega
    go_wp2_with fail
    go_ret
    exact ⟨rfl, Below.refl _ _⟩
  have k1' : (key.size : Int) ≤ 300 := by omega
  have k2' : (value.size : Int) ≤ 300 := by omega
  have k3' : (more.size : Int) ≤ 300 := by omega
  have HN := Lib.hid (show key.size ≤ 300 ∧ value.size ≤ 300 ∧ more.size ≤ 300 by omega)
  clear k1 k2 k3
  go_wp2_with fail
  refine (disk_new w).mono ?_
  rintro e w1 ⟨rfl, hd1, hb1⟩
  obtain ⟨g, hg⟩ : ∃ g, g = w.heap.size + 1 := ⟨_, rfl⟩
  rw [← hg] at hd1 ⊢
  have HB1 := Lib.hid hb1
  have HD1 := Lib.hid hd1
  clear hg hb1 hd1
  go_wp2_with fail
  refine (shop_new HD1.out (by decide) (by decide)).mono ?_
  rintro e w2 ⟨K2, s, mb, n, st2, rfl, -, hS, hn, hc, hm⟩
  have HS2 := Lib.hid hS
  have HB2 := Lib.hid (HB1.out.trans (hc.to_below HB1.out.size))
  have HM2 := Lib.hid (show n ≤ 12192 ∧ st2.many ≤ 2 from ⟨hn, hm⟩)
  clear hS hc hn hm HD1 HB1
  go_wp2_with fail
  have HR3 := Lib.hid (recs_one w2 1 key value (by decide))
  have hb3 : Below w2.heap.size w2 (w2.alloc (.cells #[.int .i64 1, .string key, .string value] 32)) := (Below.refl _ _).alloc (Nat.le_refl _) _
  have HS3 := Lib.hid (HS2.out.below hb3)
  have HB3 := Lib.hid (HB2.out.trans (hb3.mono HB2.out.size))
  clear hb3 HS2 HB2
  generalize w2.heap.size = a2 at *
  generalize w2.alloc (.cells #[.int .i64 1, .string key, .string value] 32) = w3 at *
  have h3 : Kp.heavy [⟨1, key, value⟩] = key.size + value.size + 0 := rfl
  refine (shop_put HS3.out (by decide) HR3.out (by rw [h3]; show 0 + _ ≤ _; have := HN.out; omega) (by show 0 + 1 ≤ _; omega) (by have := HM2.out; omega) (by show _ + 1 ≤ _; have := HM2.out; omega)).mono ?_
  rintro e w4 ⟨E, K4, mb4, n4, st4, e4, rfl, -, hS4, he0, he1, hn4, hc4, -, hm4, hE, -, -⟩
  have hz4 : Kp.size [(key, value)] = key.size + value.size + 0 := rfl
  have h0 : E = 0 := by
    rcases hE with h | ⟨_, h⟩ | ⟨_, _, h | h⟩
    · exact h
    · exact absurd h (not_odd_one key value)
    · rw [Kp.all_one, hz4] at h
      have := HN.out
      omega
    · have := size_puts_one key value HN.out.1 HN.out.2.1
      rw [Kp.all_one] at h
      omega
  subst h0
  have HS4 := Lib.hid hS4
  have HB4 := Lib.hid (HB3.out.trans (hc4.to_below HB3.out.size))
  have HM4 := Lib.hid (show n4 ≤ 12193 ∧ st4.many ≤ 260 ∧ e4 ≤ 2 by have := HM2.out; refine ⟨?_, ?_, ?_⟩ <;> first | omega | (simp at hn4; omega))
  rw [if_pos rfl, Kp.all_one] at HS4
  clear hS4 hc4 hn4 he0 he1 hm4 hE HS3 HB3 HM2 HR3 h3 hz4
  have hr' : (room : Int) < 256 := by omega
  go_wp2_with fail
  refine (shop_again HS4.out (by have := HM4.out; omega) (by have := HM4.out; omega) (by omega) (by omega)).mono ?_
  rintro e w5 ⟨K5, s5, mb5, n5, st5, rfl, -, hS5, hn5, hc5, hm5⟩
  have HS5 := Lib.hid hS5
  have HB5 := Lib.hid (HB4.out.trans (hc5.to_below HB4.out.size))
  have HM5 := Lib.hid (show n5 ≤ 12192 ∧ st5.many ≤ 262 ∧ e4 + 1 ≤ 3 by have := HM4.out; omega)
  clear hS5 hc5 hn5 hm5 HS4 HB4 HM4
  have hz5 : ((Kp.size [(key, value)] : Nat) : Int) = (key.size : Int) + (value.size : Int) := by show ((key.size + value.size + 0 : Nat) : Int) = _; omega
  go_wp2_with fail
  refine (shop_bytes HS5.out).mono ?_
  rintro e w6 ⟨rfl, rfl⟩
  rw [hz5]
  have HR6 := Lib.hid (recs_one w5 1 key more (by decide))
  have hb6 : Below w5.heap.size w5 (w5.alloc (.cells #[.int .i64 1, .string key, .string more] 32)) := (Below.refl _ _).alloc (Nat.le_refl _) _
  have HS6 := Lib.hid (HS5.out.below hb6)
  have HB6 := Lib.hid (HB5.out.trans (hb6.mono HB5.out.size))
  go_wp2_with fail
  clear hb6 HS5 HB5
  generalize w5.heap.size = a5 at *
  generalize w5.alloc (.cells #[.int .i64 1, .string key, .string more] 32) = w6 at *
  have h6 : Kp.heavy [⟨1, key, more⟩] = key.size + more.size + 0 := rfl
  have h7 : Kp.size [(key, value)] = key.size + value.size + 0 := rfl
  have h8 : Kp.size [(key, more)] = key.size + more.size + 0 := rfl
  refine (shop_put HS6.out (by have := HM5.out; omega) HR6.out (by rw [h6, h7]; have := HN.out; omega) (by show 1 + 1 ≤ _; omega) (by have := HM5.out; omega) (by show _ + 1 ≤ _; have := HM5.out; omega)).mono ?_
  rintro e w7 ⟨E, K7, mb7, n7, st7, e7, rfl, -, hS7, -, -, -, hc7, -, -, hE, hE0, -⟩
  rw [Kp.size_one] at hS7 hE hE0
  rw [h7, h8] at hE hE0
  have HS7 := Lib.hid hS7
  have HB7 := Lib.hid (HB6.out.trans (hc7.to_below HB6.out.size))
  have hk : key.size ≤ maxLen := by unfold maxLen; have := HN.out; omega
  by_cases hf : key.size + more.size ≤ room ∨ more.size ≤ value.size
  · have h0 : E = 0 := by
      rcases hE with h | ⟨_, h⟩ | ⟨_, _, h | h⟩
      · exact h
      · exact absurd h (not_odd_one key more)
      · omega
      · have := size_puts_one key more HN.out.1 HN.out.2.2
        omega
    subst h0
    rw [if_pos rfl] at HS7
    clear hS7 hc7 hE hE0 HS6 HB6
    have HG := Lib.hid (shop_get HS7.out hk (by show 1 ≤ _; omega))
    have hlk : Kp.look [(key, more)] key = some more := by show (if key = key then some more else _) = _; rw [if_pos rfl]
    rw [hlk] at HG
    have hself : (more.toList == more.toList) = true := by simp
    have hcase : ((key.size : Int) + (more.size : Int) ≤ (room : Int)) ∨ (¬ ((key.size : Int) + (more.size : Int) ≤ (room : Int)) ∧ (more.size : Int) ≤ (value.size : Int)) := by omega
    clear hf h6 h7 h8 hk
    rcases hcase with f1 | ⟨f1, f2⟩
    all_goals
      go_wp2_with fail
      refine HG.out.mono ?_
      rintro e w8 ⟨rfl, hb8⟩
      have HB8 := Lib.hid (HB7.out.trans (hb8.mono HB7.out.size))
      clear hb8
      go_wp2_with fail
      go_ret
      exact ⟨rfl, HB8.out⟩
  · have h0 : E = 50 := by
      rcases hE with h | ⟨_, h⟩ | ⟨h, _⟩
      · have := hE0 h
        omega
      · exact absurd h (not_odd_one key more)
      · exact h
    subst h0
    rw [if_neg (by decide)] at HS7
    clear hS7 hc7 hE hE0 HS6 HB6
    have HG := Lib.hid (shop_get HS7.out hk (by show 1 ≤ _; omega))
    have hlk : Kp.look [(key, value)] key = some value := by show (if key = key then some value else _) = _; rw [if_pos rfl]
    rw [hlk] at HG
    have hself : (value.toList == value.toList) = true := by simp
    have f1 : ¬ ((key.size : Int) + (more.size : Int) ≤ (room : Int)) := by omega
    have f2 : ¬ ((more.size : Int) ≤ (value.size : Int)) := by omega
    clear hf h6 h7 h8 hk
    go_wp2_with fail
    refine HG.out.mono ?_
    rintro e w8 ⟨rfl, hb8⟩
    have HB8 := Lib.hid (HB7.out.trans (hb8.mono HB7.out.size))
    clear hb8
    go_wp2_with fail
    · go_ret
      exact ⟨rfl, HB8.out⟩
    · rename_i hx
      exfalso
      rcases hx with hx | hx <;> simp at hx <;> omega
end Go.Proofs.YtimcepoleboldaaGreatDoor
