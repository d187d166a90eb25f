/- The walk of LogKeeps: true of any lists, any sectors that are kept. -/
import Derived.Test.YtgahcbhdnplnoaaDoorLogSole
import Derived.Test.YtgahcbhdnplnoaaDoorLogInputs
import Derived.IntWalk
namespace Go.Proofs.YtgahcbhdnplnoaaDoor
open Go.RowKit

theorem size_append (a b : List ByteArray) : size (a ++ b) = size a + size b := by
  unfold size
  rw [List.length_append, List.map_append, List.sum_append]
  omega

/-- What the loop knows: k lists are behind it. -/
def KeepsLoop (w0 : World) (g len : Nat) (vw vi : Value) (wr : World) : Prop :=
  ∃ (k : Nat) (st : Dk.St) (t : Lg.Top) (L : List (Int × List UInt8)) (N : Nat) (ep : Int), vi = .int .i64 (k : Int) ∧ k ≤ len ∧ Sole w0 g st wr ∧ Lg.Still st ∧ Lg.Good st.is t L N ep ∧ RowS wr w0.heap.size vw (recsOf L) ∧
    size (recsOf L) ≤ 8192 * k ∧ t.e ≤ k ∧ st.cuts = 0 ∧ st.many ≤ 300 * k

/-- What the loop before it knows. -/
def Sum8Loop (w : World) (ls : List (List ByteArray)) (vn vi : Value) (wr : World) : Prop :=
  ∃ (k n : Nat), vi = .int .i64 (k : Int) ∧ k ≤ ls.length ∧ vn = .int .i64 (n : Int) ∧ n ≤ 4000000 ∧ (n ≤ 8192 → ∀ j l, j < k → ls[j]? = some l → size l ≤ 8192) ∧ w = wr

set_option maxRecDepth 20000 in
set_option maxHeartbeats 8000000 in
theorem keeps_walk (v : Value) (ls : List (List ByteArray)) (bits : Nat) (w : World) (hl : Lists w v ls) (hbits : bits < 18446744073709551616) :
    Calls Tryd.prog 7 #[v, .int .u64 (bits : Int)] w fun x w' => x = .returned (.bool true) ∧ Below w.heap.size w w' := by
  have HL := Lib.hid hl
  obtain ⟨A, cap, rfl, hat⟩ := hl
  clear hat
  by_cases hbig : 1048576 < ls.length
  · have hb1 : 1048576 < (ls.length : Int) := by omega
    clear HL
    go_enter Tryd.func7, Tryd.ntmps7
    go_wp2_with fail
    refine wp_loop_rounds 1 ?_
    rw [rounds_succ]
    go_wp2_with fail
    go_ret
    exact ⟨rfl, Below.refl _ _⟩
  · have hb1 : (ls.length : Int) ≤ 1048576 := by omega
    go_enter Tryd.func7, Tryd.ntmps7
    go_wp2_with fail
    go_loopw [5, 6] (fun vn vi wr => Sum8Loop w ls vn vi wr) (fun _ vi _ => ls.length - (intOf vi).toNat)
    case atStart => exact ⟨0, ls.length, rfl, Nat.zero_le _, by first | rfl | exact congrArg (Value.int .i64) (Int.min_eq_left hb1), by omega, fun _ j l h => absurd h (by omega), rfl⟩
    case round =>
      obtain ⟨k, n, rfl, hk, rfl, hn, hall, rfl⟩ := hrel
      by_cases hlt : k < ls.length
      · by_cases hn4 : n ≤ 8192
        · obtain ⟨l, hlk⟩ : ∃ l, ls[k]? = some l := ⟨_, List.getElem?_eq_getElem hlt⟩
          obtain ⟨A', cap', e1, hat⟩ := HL.out
          obtain ⟨b1, o1, u, rfl, l1, c1, hs1⟩ := hat k l hlk
          injection e1 with e1 e2 e3
          subst e1 e3
          clear e2 hat
          go_wp2_with fail
          refine (long_any u l w hs1).mono ?_
          rintro e w' ⟨m, rfl, hm, hm1, hm2, rfl⟩
          have HR := Lib.hid (show Sum8Loop w ls (.int .i64 ((n + m : Nat) : Int)) (.int .i64 ((k + 1 : Nat) : Int)) w from ⟨k + 1, n + m, rfl, by omega, rfl, by omega, fun h j l' hj hl' => by
            rcases Nat.lt_or_ge j k with h2 | h2
            · exact hall (by omega) j l' h2 hl'
            · obtain rfl : j = k := by omega
              rw [hlk] at hl'
              injection hl' with hl'
              subst hl'
              rw [← hm1 (by omega)]
              omega, rfl⟩)
          clear hm1 hm2 hall hs1 hlk
          go_wp2_with fail
          go_roundw
          case rel =>
            have := HR.out
            rw [Int.natCast_add, Int.natCast_add] at this
            exact this
          case measure => simp [intOf]; omega
        · clear hall HL
          go_wp2_with fail
          go_ret
          exact ⟨rfl, Below.refl _ _⟩
      · by_cases hn4 : n ≤ 8192
        · have hsz := Lib.hid (show ∀ j l, ls[j]? = some l → size l ≤ 8192 from fun j l h => hall hn4 j l (by have := (List.getElem?_eq_some_iff.1 h).1; omega) h)
          clear hall
          by_cases h20 : 20 < ls.length
          · clear HL hsz
            go_wp2_with fail
            go_ret
            exact ⟨rfl, Below.refl _ _⟩
          · go_wp2_with fail
            refine (sole_new w).mono ?_
            rintro e w1 ⟨rfl, h1s⟩
            obtain ⟨g, hg⟩ : ∃ g, g = w.heap.size + 1 := ⟨_, rfl⟩
            rw [← hg] at h1s ⊢
            clear hg
            have o0 := own_none w1
            have hb0 : Below w1.heap.size w1 (w1.alloc (.cells #[] 9)) := (Below.refl _ _).alloc (Nat.le_refl _) _
            have HG := Lib.hid (show KeepsLoop w g ls.length (.slice (some ⟨w1.heap.size, 0, none⟩) 0 0) (.int .i64 0) (w1.alloc (.cells #[] 9)) from ⟨0, _, _, [], 0, 0, rfl, Nat.zero_le _, h1s.up hb0, Lg.Still.new, Lg.Good.zero, RowS.lower (show RowS _ w1.heap.size _ [] from o0) h1s.below.size, by simp [recsOf, mks, size], Int.le_refl _, rfl, Nat.zero_le _⟩)
            clear o0 hb0 h1s
            go_wp2_with fail
            go_loopw [8, 9] (fun vw vi wx => KeepsLoop w g ls.length vw vi wx) (fun _ vi _ => ls.length - (intOf vi).toNat)
            case atStart => exact HG.out
            case round =>
              clear HG
              obtain ⟨k, st, t, L, N, ep, rfl, hk, hS, hs, hg, hrow, hsize, hte, hc, hm⟩ := hrel
              have hN := hg.fit
              by_cases hlt2 : k < ls.length
              · obtain ⟨l1, hlk1⟩ : ∃ l, ls[k]? = some l := ⟨_, List.getElem?_eq_getElem hlt2⟩
                obtain ⟨A', cap', e1, hat⟩ := HL.out
                obtain ⟨b1, o1, x1, rfl, lt1, c1, hs1⟩ := hat k l1 hlk1
                injection e1 with e1 e2 e3
                subst e1 e3
                have hz1 := hsz.out k l1 hlk1
                clear e2 hat hlk1
                go_wp2_with fail
                refine (sole_open hS hs hg (by omega) (.inl hc) (by omega)).mono ?_
                rintro e w2 ⟨q, vr, st2, rfl, h2s, hl2, hr2, hch2, hs2, hv2, hc2, hm2⟩
                have hrow2 := hrow.kept hch2 (fun _ => rfl)
                have hrs2 := hr2.strs
                clear hr2 hch2 hrow hS
                go_wp2_with fail
                refine (same_any _ _ (recsOf L) (recsOf L) w2 hrs2 hrow2.strs (by unfold size at hsize; omega)).mono ?_
                rintro e w3 ⟨rfl, hq3⟩
                rw [decide_eq_true (rfl : recsOf L = recsOf L)]
                have h3s := h2s.up hq3.below
                have hl3 := hl2.up hq3.below
                have hrow3 : RowS w3 w.heap.size u8 (recsOf L) := hrow2.kept (T := fun _ => false) (B := 0) hq3 (fun _ => rfl)
                have d1 := (h3s.below.cell (p := ⟨b1, o1 + k, none⟩) lt1).trans c1
                clear hrs2 hrow2 hq3 h2s hl2
                go_wp2_with fail
                refine (sole_append h3s hs2 hv2 (by show t.e + 1 ≤ _; omega) hl3 (hs1.below h3s.below) (by omega) (by omega)).mono ?_
                rintro e w4 ⟨st4, h4s, hch4, hm4, hcase⟩
                have hrow4 := hrow3.kept hch4 (fun _ => rfl)
                have d2 := (h4s.below.cell (p := ⟨b1, o1 + k, none⟩) lt1).trans c1
                have hmany := manyB_recs hg
                clear hrow3 hch4 h3s hl3 d1
                rcases hcase with ⟨g1, rfl, rfl, -⟩ | ⟨g1, g2, rfl, -, hs4, hc4, ep4, hv4⟩ | ⟨g1, g2, _⟩
                · go_wp2_with fail
                  refine (refmany_any x1 l1 w4 (hs1.below h4s.below) (by omega)).mono ?_
                  rintro e w5 ⟨m, rfl, hm0, hm1, hm2, hb5⟩
                  have hrow5 := hrow4.kept (T := fun _ => false) (B := 0) (Ch.of_below hb5) (fun _ => rfl)
                  have h5s := h4s.up hb5
                  have hmi : 127 < (m : Int) + (N : Int) := by
                    rcases Nat.lt_or_ge 127 m with h | h
                    · omega
                    · have := hm1 h; omega
                  clear hm1 hm2 hrow4 h4s hb5 d2
                  go_wp2_with fail
                  refine (used_any _ (recsOf L) w5 hrow5.strs (by omega)).mono ?_
                  rintro e w' ⟨rfl, rfl⟩
                  rw [hmany]
                  go_wp2_with fail
                  refine (sole_cut h5s 1 bits (by omega) hbits).mono ?_
                  rintro e w6 ⟨rfl, h6s, hch6⟩
                  have hrow6 := hrow5.kept hch6 (fun _ => rfl)
                  clear hrow5 hch6 h5s
                  go_wp2_with fail
                  refine (sole_barrier h6s (by show st4.many ≤ _; omega)).mono ?_
                  rintro e w7 ⟨rfl, h7s, hch7⟩
                  have hrow7 := hrow6.kept hch7 (fun _ => rfl)
                  clear hrow6 hch7 h6s
                  have hmb := Dk.many_barrier (st4.cut 1 bits)
                  have hmb' : (st4.cut 1 bits).many = st4.many := rfl
                  go_wp2_with fail
                  refine (sole_power h7s).mono ?_
                  rintro e w8 ⟨rfl, h8s, hch8⟩
                  have hrow8 := hrow7.kept hch8 (fun _ => rfl)
                  clear hrow7 hch8 h7s
                  obtain ⟨k4, k5, k6⟩ := up_crash (.inl hs2) bits
                  have hmp := Dk.many_power (st4.cut 1 bits).barrier
                  have HF := Lib.hid (show KeepsLoop w g ls.length u8 (.int .i64 ((k + 1 : Nat) : Int)) w8 from ⟨k + 1, _, _, L, N, ep, rfl, by omega, h8s, k4, by rw [k5]; exact hv2.good, hrow8, by omega, by show t.e + 1 ≤ _; omega, k6, by omega⟩)
                  clear hrow8 h8s k4 k5 hs2 hv2 hg
                  go_wp2_with fail
                  go_roundw
                  case rel =>
                    have := HF.out
                    rw [Int.natCast_add] at this
                    exact this
                  case measure => simp [intOf]; omega
                · go_wp2_with fail
                  refine (refmany_any x1 l1 w4 (hs1.below h4s.below) (by omega)).mono ?_
                  rintro e w5 ⟨m, rfl, hm0, hm1, hm2, hb5⟩
                  have hrow5 := hrow4.kept (T := fun _ => false) (B := 0) (Ch.of_below hb5) (fun _ => rfl)
                  have h5s := h4s.up hb5
                  have hmi : (m : Int) + (N : Int) ≤ 127 := by
                    rcases Nat.lt_or_ge 127 m with h | h
                    · have := hm2 h; omega
                    · have := hm1 h; omega
                  have d3 := (h5s.below.cell (p := ⟨b1, o1 + k, none⟩) lt1).trans c1
                  have hr5 := hs1.below h5s.below
                  clear hm1 hm2 hrow4 h4s hb5 d2
                  go_wp2_with fail
                  refine (used_any _ (recsOf L) w5 hrow5.strs (by omega)).mono ?_
                  rintro e w' ⟨rfl, rfl⟩
                  rw [hmany]
                  have hlen1 : (recsOf L).length + l1.length ≤ 1048576 := by unfold size at hsize hz1; omega
                  have hz5 := h5s.below.size
                  go_wp2_with (at_builtin; refine wpList_append_texts rfl (.tmp 98) (.tmp 102) rfl hrow5 hr5 hlen1 hz5 rfl rfl ?_; intro v6 w6 hrow6 hg6)
                  have hch6 : Ch Ts w.heap.size w5 w6 := ch_of_append hrow5 hg6 (fun _ => rfl)
                  have h6s := h5s.kept hch6 (fun _ => rfl) (fun _ _ => rfl) (fun _ => rfl)
                  have hrow6' : RowS w6 w.heap.size v6 (recsOf L ++ l1) := hrow6
                  clear hrow6 hrow5 hg6 hch6 h5s hr5 d3
                  refine (sole_cut h6s 1 bits (by omega) hbits).mono ?_
                  rintro e w7 ⟨rfl, h7s, hch7⟩
                  have hrow7 := hrow6'.kept hch7 (fun _ => rfl)
                  clear hrow6' hch7 h6s
                  go_wp2_with fail
                  refine (sole_barrier h7s (by show st4.many ≤ _; omega)).mono ?_
                  rintro e w8 ⟨rfl, h8s, hch8⟩
                  have hrow8 := hrow7.kept hch8 (fun _ => rfl)
                  clear hrow7 hch8 h7s
                  have hmb := Dk.many_barrier (st4.cut 1 bits)
                  have hmb' : (st4.cut 1 bits).many = st4.many := rfl
                  go_wp2_with fail
                  refine (sole_power h8s).mono ?_
                  rintro e w9 ⟨rfl, h9s, hch9⟩
                  have hrow9 := hrow8.kept hch9 (fun _ => rfl)
                  clear hrow8 hch9 h8s
                  obtain ⟨k4, k5, k6⟩ := up_crash (.inl hs4) bits
                  have hmp := Dk.many_power (st4.cut 1 bits).barrier
                  have HF := Lib.hid (show KeepsLoop w g ls.length v6 (.int .i64 ((k + 1 : Nat) : Int)) w9 from ⟨k + 1, _, _, _, _, ep4, rfl, by omega, h9s, k4, by rw [k5]; exact hv4.good, by rw [recsOf_bls]; exact hrow9, by rw [recsOf_bls, size_append]; omega, by show t.e + 1 ≤ _; omega, k6, by omega⟩)
                  clear hrow9 h9s k4 k5 hs2 hv2 hg hs4 hv4
                  go_wp2_with fail
                  go_roundw
                  case rel =>
                    have := HF.out
                    rw [Int.natCast_add] at this
                    exact this
                  case measure => simp [intOf]; omega
                · omega
              · go_wp2_with fail
                refine (sole_open hS hs hg (by omega) (.inl hc) (by omega)).mono ?_
                rintro e w2 ⟨q, vr, st2, rfl, h2s, hl2, hr2, hch2, hs2, hv2, hc2, hm2⟩
                have hrow2 := hrow.kept hch2 (fun _ => rfl)
                have hrs2 := hr2.strs
                clear hr2 hch2 hrow hS
                go_wp2_with fail
                refine (same_any _ _ (recsOf L) (recsOf L) w2 hrs2 hrow2.strs (by unfold size at hsize; omega)).mono ?_
                rintro e w3 ⟨rfl, hq3⟩
                rw [decide_eq_true (rfl : recsOf L = recsOf L)]
                go_wp2_with fail
                go_ret
                exact ⟨rfl, (h2s.up hq3.below).below⟩
        · clear hall HL
          go_wp2_with fail
          go_ret
          exact ⟨rfl, Below.refl _ _⟩

end Go.Proofs.YtgahcbhdnplnoaaDoor
