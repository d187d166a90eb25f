/- The law's bound on functions of layer 8. -/
import Derived.Test.YtcoehmmiplffgaaDoorIrAt
import Derived.Deep.Cut
namespace Go.Proofs.YtcoehmmiplffgaaDoor
open Go.ChangeShapes Go.WideShapes Go.RowKit Go.Deep

def okT (x : Ir.In) : Prop := x.args.length ≤ 20 ∧ x.name.size ≤ 256
/-- Not heavier than the law's bound. -/
structure LightT (bs : List (List Ir.In)) : Prop where
  blocks : bs.length ≤ 50
  count : Ir.count bs ≤ 300
  ins : ∀ b, b ∈ bs → ∀ x, x ∈ b → okT x

def msumT : List (List Ir.In) → Nat
  | [] => 0
  | b :: l => min b.length 1048576 + msumT l
theorem msumT_append : ∀ a b : List (List Ir.In), msumT (a ++ b) = msumT a + msumT b
  | [], b => by simp [msumT]
  | x :: a, b => by
    show _ + msumT (a ++ b) = _ + msumT a + msumT b
    rw [msumT_append a b]
    omega
theorem msumT_up {bs : List (List Ir.In)} {k : Nat} {b : List Ir.In} (h : bs[k]? = some b) : msumT (bs.take (k + 1)) = msumT (bs.take k) + min b.length 1048576 := by
  obtain ⟨h1, rfl⟩ := List.getElem?_eq_some_iff.1 h
  rw [List.take_succ_eq_append_getElem h1, msumT_append]
  show _ + (_ + 0) = _
  omega
theorem msumT_small : ∀ bs : List (List Ir.In), msumT bs ≤ 300 → Ir.count bs = msumT bs ∧ ∀ b, b ∈ bs → b.length ≤ 300
  | [], _ => ⟨rfl, fun _ h => by cases h⟩
  | b :: l, h => by
    have h' : min b.length 1048576 + msumT l ≤ 300 := h
    obtain ⟨h1, h2⟩ := msumT_small l (by omega)
    refine ⟨by show b.length + Ir.count l = min b.length 1048576 + msumT l; omega, fun c hc => ?_⟩
    rcases List.mem_cons.1 hc with rfl | hc
    · omega
    · exact h2 c hc

/-- The instructions of a block that the law looks at. -/
def seenT (b : List Ir.In) (k : Nat) : Prop := ∀ m, m < k → m ≤ 300 → ∀ x, b[m]? = some x → okT x

def HeavyT (bs : List (List Ir.In)) (w : World) (e : Ending) (w' : World) : Prop := ∃ h : Bool, e = .returned (.bool h) ∧ w = w' ∧ (h = false → LightT bs)

theorem light_ofT {bs : List (List Ir.In)} (hl : bs.length ≤ 50) (hm : msumT bs ≤ 300) (hs : ∀ (j : Nat) (b : List Ir.In), bs[j]? = some b → seenT b 301) : LightT bs := by
  obtain ⟨h1, h2⟩ := msumT_small bs hm
  refine ⟨hl, by omega, fun b hb x hx => ?_⟩
  obtain ⟨j, hj, rfl⟩ := List.mem_iff_getElem.1 hb
  obtain ⟨k, hk, rfl⟩ := List.mem_iff_getElem.1 hx
  have := h2 _ hb
  exact hs j _ (List.getElem?_eq_getElem hj) k (by omega) (by omega) _ (List.getElem?_eq_getElem hk)

set_option maxRecDepth 20000 in
set_option maxHeartbeats 1600000 in
theorem heavyT_any (v : Value) (bs : List (List Ir.In)) (w : World) (hv : Blks w v bs) : Calls Tryd.prog 9 #[v] w (HeavyT bs w) := by
  obtain ⟨A, cap, rfl⟩ := hv.form
  have HV := Lib.hid hv
  clear hv
  by_cases hbig : 50 < bs.length
  · have hb1 : (50 : Int) < (bs.length : Int) := by omega
    clear hbig
    go_enter Tryd.func9, Tryd.ntmps9
    go_wp2_with fail
    go_ret
    exact ⟨true, rfl, rfl, fun h => by cases h⟩
  · have hb1 : (bs.length : Int) ≤ 50 := by omega
    have HB := Lib.hid (show bs.length ≤ 50 by omega)
    clear hbig
    go_enter Tryd.func9, Tryd.ntmps9
    go_wp2_with fail
    go_loop [3, 4] (fun n i => ∃ k : Nat, k ≤ bs.length ∧ msumT (bs.take k) ≤ 1048876 ∧ i = .int .i64 (k : Int) ∧ n = .int .i64 ((msumT (bs.take k) : Nat) : Int) ∧ ∀ j b, j < k → bs[j]? = some b → seenT b 301) (fun _ i => bs.length - (intOf i).toNat)
    case atStart => exact ⟨0, Nat.zero_le _, by simp [msumT], rfl, rfl, fun j b h => absurd h (Nat.not_lt_zero _)⟩
    case round =>
      obtain ⟨k, hk, hsz, rfl, rfl, hall⟩ := hrel
      have HA := Lib.hid hall
      clear hall
      obtain ⟨n0, hn0⟩ : ∃ n0, n0 = msumT (bs.take k) := ⟨_, rfl⟩
      rw [← hn0] at hsz ⊢
      have HN := Lib.hid hn0
      clear hn0
      by_cases hn : n0 ≤ 300
      · have hni : (n0 : Int) ≤ 300 := by omega
        by_cases hlt : k < bs.length
        · have hki : (k : Int) < (bs.length : Int) := by omega
          obtain ⟨b, hb⟩ : ∃ b, bs[k]? = some b := ⟨_, List.getElem?_eq_getElem hlt⟩
          obtain ⟨bl, off, B, cbp, rfl, l1, c1, hI⟩ := HV.out.at hb
          have HI := Lib.hid hI
          have HU := Lib.hid (msumT_up hb)
          have HBK := Lib.hid hb
          clear hI hb
          go_wp2_with fail
          all_goals
            go_loop [5] (fun m => ∃ k2 : Nat, k2 ≤ 301 ∧ m = .int .i64 (k2 : Int) ∧ seenT b k2) (fun m => 301 - (intOf m).toNat)
            case atStart => exact ⟨0, Nat.zero_le _, rfl, fun m h => absurd h (Nat.not_lt_zero _)⟩
            case round =>
              obtain ⟨k2, hk2, rfl, hs2⟩ := hrel
              have HS := Lib.hid hs2
              clear hs2
              by_cases hlt2 : k2 < b.length
              · have hki2 : (k2 : Int) < (b.length : Int) := by omega
                by_cases h300 : k2 ≤ 300
                · have h5i : (k2 : Int) ≤ 300 := by omega
                  obtain ⟨x, hx⟩ : ∃ x, b[k2]? = some x := ⟨_, List.getElem?_eq_getElem hlt2⟩
                  obtain ⟨bl2, off2, B2, cbp2, rfl, l2, ⟨-, -, -, -, c4, c5⟩, -⟩ := HI.out.at hx
                  have HX := Lib.hid hx
                  clear hx
                  by_cases hok : okT x
                  · have HOK := Lib.hid hok
                    have o1 : (x.args.length : Int) ≤ 20 := by have := hok.1; omega
                    have o2 : (x.name.size : Int) ≤ 256 := by have := hok.2; omega
                    clear hok
                    go_wp2_with fail
                    go_round
                    case rel => exact ⟨k2 + 1, by omega, by go_num, fun m hm hm5 y hy => by
                      rcases Nat.lt_succ_iff_lt_or_eq.1 hm with h | rfl
                      · exact HS.out m h hm5 y hy
                      · rw [HX.out] at hy
                        injection hy with hy
                        subst hy
                        exact HOK.out⟩
                    case measure => simp [intOf]; omega
                  · have hcase : 20 < (x.args.length : Int) ∨ ((x.args.length : Int) ≤ 20 ∧ 256 < (x.name.size : Int)) := by
                      unfold okT at hok
                      omega
                    clear hok
                    rcases hcase with h | ⟨h, h'⟩
                    all_goals
                      go_wp2_with fail
                      go_ret
                      exact ⟨true, rfl, rfl, fun h => by cases h⟩
                · have h5i : decide ((k2 : Int) ≤ 300) = false := decide_eq_false (by omega)
                  have HS9 := Lib.hid (show seenT b 301 from fun m hm h5 y hy => HS.out m (by omega) h5 y hy)
                  go_wp2_with fail
                  go_round
                  case rel => exact ⟨k + 1, by omega, by have := HU.out; have := HN.out; omega, by go_num, congrArg (Value.int .i64) (by have := HU.out; have := HN.out; omega), fun j c hj hc => by
                    rcases Nat.lt_succ_iff_lt_or_eq.1 hj with h | rfl
                    · exact HA.out j c h hc
                    · rw [HBK.out] at hc
                      injection hc with hc
                      subst hc
                      exact HS9.out⟩
                  case measure => simp [intOf]; omega
              · have HS9 := Lib.hid (show seenT b 301 from fun m hm h5 y hy => HS.out m (by have := (List.getElem?_eq_some_iff.1 hy).1; omega) h5 y hy)
                go_wp2_with fail
                go_round
                case rel => exact ⟨k + 1, by omega, by have := HU.out; have := HN.out; omega, by go_num, congrArg (Value.int .i64) (by have := HU.out; have := HN.out; omega), fun j c hj hc => by
                  rcases Nat.lt_succ_iff_lt_or_eq.1 hj with h | rfl
                  · exact HA.out j c h hc
                  · rw [HBK.out] at hc
                    injection hc with hc
                    subst hc
                    exact HS9.out⟩
                case measure => simp [intOf]; omega
        · have HL := Lib.hid (show LightT bs from light_ofT HB.out (by have := HN.out; rw [List.take_of_length_le (by omega)] at this; omega) (fun j b hb => HA.out j b (by have := (List.getElem?_eq_some_iff.1 hb).1; omega) hb))
          go_wp2_with fail
          go_ret
          exact ⟨false, by first | rfl | exact congrArg (fun z => Ending.returned (Value.bool z)) (decide_eq_false (by omega)), rfl, fun _ => HL.out⟩
      · have hni : (300 : Int) < (n0 : Int) := by omega
        by_cases hlt : k < bs.length
        all_goals
          go_wp2_with fail
          go_ret
          exact ⟨true, rfl, rfl, fun h => by cases h⟩
end Go.Proofs.YtcoehmmiplffgaaDoor
