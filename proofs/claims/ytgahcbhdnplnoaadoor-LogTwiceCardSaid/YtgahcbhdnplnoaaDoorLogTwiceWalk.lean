/- The walk of LogTwice: true of any records, any number of openings, any sectors that are kept. -/
import Derived.Test.YtgahcbhdnplnoaaDoorLogSole
namespace Go.Proofs.YtgahcbhdnplnoaaDoor
open Go.RowKit

/-- What the loop knows: k openings are behind it. -/
def TwiceLoop (w0 : World) (g : Nat) (R : List ByteArray) (v : Value) (wr : World) : Prop :=
  ∃ (k : Nat) (st : Dk.St) (t : Lg.Top) (ep : Int), v = .int .i64 (k : Int) ∧ k ≤ 12 ∧ Sole w0 g st wr ∧ Lg.Still st ∧ Lg.Good st.is t ((bls R).map fun r => (1, r)) (manyB R) ep ∧ t.e ≤ 1 + 2 * k ∧ st.cuts = 0 ∧ st.many ≤ 200 + 4 * k

theorem strs_slice {w : World} {v : Value} {l : List ByteArray} (h : Strs w v l) : ∃ A cap, v = .slice A l.length cap := by
  obtain ⟨A, cap, h1, _⟩ := h
  exact ⟨A, cap, h1⟩

set_option maxRecDepth 20000 in
set_option maxHeartbeats 2000000 in
theorem twice_walk (v : Value) (R : List ByteArray) (a1 : Int) (bits : Nat) (w : World) (hR : Strs w v R) (h1 : 0 ≤ a1 ∧ a1 ≤ 255) (hbits : bits < 18446744073709551616) :
    Calls Tryd.prog 3 #[v, .int .u8 a1, .int .u64 (bits : Int)] w fun x w' => x = .returned (.bool true) ∧ Below w.heap.size w w' := by
  obtain ⟨T, hT⟩ : ∃ T, a1.tmod 12 = T := ⟨_, rfl⟩
  have hT' : 0 ≤ T ∧ T < 12 := by rw [← hT, Int.tmod_eq_emod_of_nonneg h1.1]; omega
  have HRS := Lib.hid hR
  go_enter Tryd.func3, Tryd.ntmps3
  go_wp2_with fail
  refine (long_any v R w hR).mono ?_
  rintro e w' ⟨n, rfl, hn, hn1, hn2, rfl⟩
  by_cases hbig : 4096 < n
  · go_wp2_with fail
    go_ret
    exact ⟨rfl, Below.refl _ _⟩
  · have hsz : size R ≤ 4096 := by rw [← hn1 (by omega)]; omega
    have hni : (n : Int) ≤ 4096 := by omega
    clear hn hn1 hn2 hbig hR
    go_wp2_with fail
    refine (sole_new w).mono ?_
    rintro e w1 ⟨rfl, h1s⟩
    obtain ⟨g, hg⟩ : ∃ g, g = w.heap.size + 1 := ⟨_, rfl⟩
    rw [← hg] at h1s ⊢
    clear hg
    go_wp2_with fail
    refine (sole_open h1s Lg.Still.new Lg.Good.zero (by decide) (.inl rfl) (by decide)).mono ?_
    rintro e w2 ⟨q, vr, st2, rfl, h2s, hl2, -, -, hs2, hv2, hc2, hm2⟩
    have hc2' : st2.cuts = 0 := by rw [hc2]; rfl
    have hm2' : st2.many ≤ 2 := hm2
    clear hc2 hm2 h1s
    go_wp2_with fail
    refine (sole_append h2s hs2 hv2 (by decide) hl2 (h2s.strs HRS.out) (by omega) (by omega)).mono ?_
    rintro e w3 ⟨st3, h3s, hch3, hm3, hcase⟩
    rcases hcase with ⟨g1, rfl, rfl, hl3⟩ | ⟨g1, g2, rfl, hl3, hs3, hc3, ep', hv3⟩ | ⟨g1, g2, _⟩
    · clear h2s hl2 hch3 hl3
      go_wp2_with fail
      refine (refmany_any v R w3 (h3s.strs HRS.out) (by omega)).mono ?_
      rintro e w4 ⟨m, rfl, _, hm1, hm2, hb4⟩
      have hmi : 127 < (m : Int) := by
        rcases Nat.lt_or_ge 127 m with h | h
        · omega
        · have := hm1 h; omega
      go_wp2_with fail
      go_ret
      exact ⟨rfl, (h3s.up hb4).below⟩
    · have hN : 0 + manyB R = manyB R := Nat.zero_add _
      rw [hN] at hl3 hv3
      have hroom := room_any _ _ _ _ w3 hl3
      have HG := Lib.hid (show TwiceLoop w g R (.int .i64 0) w3 from ⟨0, st3, _, ep', rfl, by omega, h3s, hs3, hv3.good, by show (0 : Int) + 1 ≤ 1 + 2 * ((0 : Nat) : Int); omega, by omega, by omega⟩)
      clear h2s hl2 hch3 hl3 h3s hs3 hv3 hs2 hv2 hm3 hc3
      go_wp2_with fail
      refine hroom.mono ?_
      rintro e w' ⟨rfl, rfl⟩
      clear hroom
      go_wp2_with fail
      go_loopw [12] (fun i wr => TwiceLoop w g R i wr) (fun i _ => T.toNat - (intOf i).toNat)
      case atStart => exact HG.out
      case round =>
        obtain ⟨k, st, t, ep, rfl, hk, hS, hs, hg, hte, hc, hm⟩ := hrel
        have hlen : R.length ≤ 4096 := by unfold size at hsz; omega
        by_cases hlt : (k : Int) < T
        · by_cases h3 : k % 3 = 2
          · have h3i : ((k : Int) % 3 == 2) = true := by rw [beq_iff_eq]; omega
            obtain ⟨X, hX⟩ : ∃ X : Int, 1 + (k : Int) % 2 = X := ⟨_, rfl⟩
            have hX' : X = 1 ∨ X = 2 := by omega
            have HXT := Lib.hid hX'
            go_wp2_with fail
            refine (sole_cut hS X bits (by omega) hbits).mono ?_
            rintro e w4 ⟨rfl, h4s, -⟩
            clear hS
            go_wp2_with fail
            have hcu : (st.cut X bits).cuts = X.toNat := rfl
            refine (sole_open_cut h4s (hs.cut X bits) (by show Lg.Good st.is t _ _ _; exact hg) (by omega) (by rw [hcu]; omega) (by show st.many ≤ _; omega)).mono ?_
            rintro e w7 ⟨v7, st7, rfl, h7s, -, hof7, ⟨t7, ht7, hg7⟩, hm7⟩
            have hm7' : st7.many ≤ st.many + 2 := hm7
            clear h4s hm7
            go_wp2_with fail
            refine (sole_power h7s).mono ?_
            rintro e w8 ⟨rfl, h8s, -⟩
            obtain ⟨p1, p2, p3⟩ := hof7.power
            have hm8 := Dk.many_power st7
            clear h7s
            go_wp2_with fail
            refine (sole_cut h8s 0 0 (by omega) (by omega)).mono ?_
            rintro e w9 ⟨rfl, h9s, -⟩
            have hg9 : Lg.Good (st7.power.cut 0 0).is t7 ((bls R).map fun r => (1, r)) (manyB R) ep := by
              show Lg.Good st7.power.is _ _ _ _
              rw [p2]; exact hg7
            have hs9 := p1.cut 0 0
            have hc9 : (st7.power.cut 0 0).cuts = 0 := rfl
            have hm9 : (st7.power.cut 0 0).many ≤ st.many + 2 := by show st7.power.many ≤ _; rw [hm8]; omega
            clear h8s p1 p2 p3 hm8 hm7' hg7 hof7
            generalize st7.power.cut 0 0 = st9 at *
            go_wp2_with fail
            refine (sole_open h9s hs9 hg9 (by omega) (.inl hc9) (by omega)).mono ?_
            rintro e w5 ⟨q5, v5, st5, rfl, h5s, hl5, hr5, -, hs5, hv5, hc5, hm5⟩
            have hrs5 := hr5.strs
            rw [recsOf_new] at hrs5
            clear hr5
            go_wp2_with fail
            refine (same_any _ v R R _ hrs5 (h5s.strs HRS.out) (by omega)).mono ?_
            rintro e w6 ⟨rfl, hq6⟩
            rw [decide_eq_true (rfl : R = R)]
            have h6s := h5s.up hq6.below
            have hroom6 := room_any _ _ _ _ w6 (hl5.up hq6.below)
            clear hrs5 hq6 h5s hl5
            go_wp2_with fail
            refine hroom6.mono ?_
            rintro e w' ⟨rfl, rfl⟩
            clear hroom6
            go_wp2_with fail
            go_roundw
            case rel => exact ⟨k + 1, st5, _, _, by go_num, by omega, h6s, hs5, hv5.good, by show t7.e + 1 ≤ _; omega, by omega, by omega⟩
            case measure => simp [intOf]; omega
          · have h3i : ((k : Int) % 3 == 2) = false := by rw [beq_eq_false_iff_ne]; omega
            go_wp2_with fail
            refine (sole_open hS hs hg (by omega) (.inl hc) (by omega)).mono ?_
            rintro e w5 ⟨q5, v5, st5, rfl, h5s, hl5, hr5, -, hs5, hv5, hc5, hm5⟩
            have hrs5 := hr5.strs
            rw [recsOf_new] at hrs5
            clear hr5
            go_wp2_with fail
            refine (same_any _ v R R _ hrs5 (h5s.strs HRS.out) (by omega)).mono ?_
            rintro e w6 ⟨rfl, hq6⟩
            rw [decide_eq_true (rfl : R = R)]
            have h6s := h5s.up hq6.below
            have hroom6 := room_any _ _ _ _ w6 (hl5.up hq6.below)
            clear hrs5 hq6 h5s hl5
            go_wp2_with fail
            refine hroom6.mono ?_
            rintro e w' ⟨rfl, rfl⟩
            clear hroom6
            go_wp2_with fail
            go_roundw
            case rel => exact ⟨k + 1, st5, _, _, by go_num, by omega, h6s, hs5, hv5.good, by show t.e + 1 ≤ _; omega, by omega, by omega⟩
            case measure => simp [intOf]; omega
        · have hNle : manyB R ≤ 127 := by omega
          go_wp2_with fail
          refine (refmany_any v R _ (hS.strs HRS.out) (by omega)).mono ?_
          rintro e w4 ⟨m, rfl, _, hm1, hm2, hb4⟩
          have hmi : m = manyB R := by
            rcases Nat.lt_or_ge 127 m with h | h
            · have := hm2 h; omega
            · exact hm1 h
          subst hmi
          go_wp2_with fail
          go_ret
          exact ⟨by simp, (hS.up hb4).below⟩
    · omega

end Go.Proofs.YtgahcbhdnplnoaaDoor
