/- The walk of LogRenews: true of any lists, any sectors that are kept. -/
import Derived.Test.YtgahcbhdnplnoaaDoorLogSole
import Derived.Test.YtgahcbhdnplnoaaDoorLogInputs
import Derived.Deep.RegionHeld3
import Derived.IntWalk
namespace Go.Proofs.YtgahcbhdnplnoaaDoor
open Go.RowKit

/-- What the loop knows: k lists are behind it. -/
def RenewsLoop (w0 : World) (g len : Nat) (vl vi : Value) (wr : World) : Prop :=
  ∃ (k q : Nat) (st : Dk.St) (t : Lg.Top) (L : List (Int × List UInt8)) (N : Nat) (ep : Int), vl = .pointer (some ⟨q, 0, none⟩) ∧ vi = .int .i64 (k : Int) ∧ k ≤ len ∧ Sole w0 g st wr ∧ Lg.Still st ∧ Lg.Live st.is t L N ep ∧
    Lgw wr w0.heap.size q g ⟨t, N, 0⟩ ∧ t.e ≤ 1 + 2 * k ∧ st.cuts = 0 ∧ st.many ≤ 2 + 300 * k

/-- What the loop before it knows. -/
def SumLoop (w : World) (ls : List (List ByteArray)) (vn vi : Value) (wr : World) : Prop :=
  ∃ (k n : Nat), vi = .int .i64 (k : Int) ∧ k ≤ ls.length ∧ vn = .int .i64 (n : Int) ∧ n ≤ 4000000 ∧ (n ≤ 4096 → ∀ j l, j < k → ls[j]? = some l → size l ≤ 4096) ∧ w = wr

theorem room_at {w : World} {B q g N : Nat} {t : Lg.Top} {z : Int} (hl : Lgw w B q g ⟨t, N, z⟩) : Calls Tryd.prog 14 #[.pointer (some ⟨q, 0, none⟩)] w fun e w' => e = .returned (.int .i64 (127 - (N : Int))) ∧ w = w' :=
  room_any _ _ _ _ _ hl

/-- Many, where it is known how many places there are. -/
theorem many_at (x : Value) (l : List ByteArray) (w : World) (hr : Strs w x l) (hz : size l ≤ 4096) (h : manyB l ≤ 127) :
    Calls Tryd.prog 13 #[x] w fun e w' => e = .returned (.int .i64 ((manyB l : Nat) : Int)) ∧ Below w.heap.size w w' := by
  refine (refmany_any x l w hr (by omega)).mono ?_
  rintro e w' ⟨n, rfl, _, h1, h2, hb⟩
  refine ⟨?_, hb⟩
  rcases Nat.lt_or_ge 127 n with h3 | h3
  · have := h2 h3; omega
  · rw [h1 h3]
/-- Many, where there are too many beside X. -/
theorem many_over (X : Nat) (x : Value) (l : List ByteArray) (w : World) (hr : Strs w x l) (hz : size l ≤ 4096) (hX : X ≤ 127) (h : 127 < X + manyB l) :
    Calls Tryd.prog 13 #[x] w fun e w' => ∃ n : Nat, e = .returned (.int .i64 (n : Int)) ∧ IntKind.i64.wrap ((X : Int) + (n : Int)) = (X : Int) + (n : Int) ∧ (127 : Int) < (X : Int) + (n : Int) ∧ Below w.heap.size w w' := by
  refine (refmany_any x l w hr (by omega)).mono ?_
  rintro e w' ⟨n, rfl, h0, h1, h2, hb⟩
  refine ⟨n, rfl, IntWalk.i64_in _ (by omega), ?_, hb⟩
  rcases Nat.lt_or_ge 127 n with h3 | h3
  · omega
  · rw [h1 h3]; omega

set_option maxRecDepth 20000 in
set_option maxHeartbeats 16000000 in
theorem renews_walk (v : Value) (ls : List (List ByteArray)) (bits : Nat) (w : World) (hl : Lists w v ls) (hbits : bits < 18446744073709551616) :
    Calls Tryd.prog 5 #[v, .int .u64 (bits : Int)] w fun x w' => x = .returned (.bool true) ∧ Below w.heap.size w w' := by
  have HL := Lib.hid hl
  obtain ⟨A, cap, rfl, hat⟩ := hl
  clear hat
  by_cases hbig : 1048576 < ls.length
  · have hb1 : 1048576 < (ls.length : Int) := by omega
    clear HL
    go_enter Tryd.func5, Tryd.ntmps5
    go_wp2_with fail
    refine wp_loop_rounds 1 ?_
    rw [rounds_succ]
    go_wp2_with fail
    go_ret
    exact ⟨rfl, Below.refl _ _⟩
  · have hb1 : (ls.length : Int) ≤ 1048576 := by omega
    go_enter Tryd.func5, Tryd.ntmps5
    go_wp2_with fail
    go_loopw [5, 6] (fun vn vi wr => SumLoop w ls vn vi wr) (fun _ vi _ => ls.length - (intOf vi).toNat)
    case atStart => exact ⟨0, ls.length, rfl, Nat.zero_le _, by first | rfl | exact congrArg (Value.int .i64) (Int.min_eq_left hb1), by omega, fun _ j l h => absurd h (by omega), rfl⟩
    case round =>
      obtain ⟨k, n, rfl, hk, rfl, hn, hall, rfl⟩ := hrel
      by_cases hlt : k < ls.length
      · by_cases hn4 : n ≤ 4096
        · obtain ⟨l, hlk⟩ : ∃ l, ls[k]? = some l := ⟨_, List.getElem?_eq_getElem hlt⟩
          obtain ⟨A', cap', e1, hat⟩ := HL.out
          obtain ⟨b1, o1, u, rfl, l1, c1, hs1⟩ := hat k l hlk
          injection e1 with e1 e2 e3
          subst e1 e3
          clear e2 hat
          go_wp2_with fail
          refine (long_any u l w hs1).mono ?_
          rintro e w' ⟨m, rfl, hm, hm1, hm2, rfl⟩
          have HR := Lib.hid (show SumLoop w ls (.int .i64 ((n + m : Nat) : Int)) (.int .i64 ((k + 1 : Nat) : Int)) w from ⟨k + 1, n + m, rfl, by omega, rfl, by omega, fun h j l' hj hl' => by
            rcases Nat.lt_or_ge j k with h2 | h2
            · exact hall (by omega) j l' h2 hl'
            · obtain rfl : j = k := by omega
              rw [hlk] at hl'
              injection hl' with hl'
              subst hl'
              rw [← hm1 (by omega)]
              omega, rfl⟩)
          clear hm1 hm2 hall hs1 hlk
          go_wp2_with fail
          go_roundw
          case rel =>
            have := HR.out
            rw [Int.natCast_add, Int.natCast_add] at this
            exact this
          case measure => simp [intOf]; omega
        · clear hall HL
          go_wp2_with fail
          go_ret
          exact ⟨rfl, Below.refl _ _⟩
      · by_cases hn4 : n ≤ 4096
        · have hsz := Lib.hid (show ∀ j l, ls[j]? = some l → size l ≤ 4096 from fun j l h => hall hn4 j l (by have := (List.getElem?_eq_some_iff.1 h).1; omega) h)
          clear hall
          by_cases h20 : 20 < ls.length
          · clear HL hsz
            go_wp2_with fail
            go_ret
            exact ⟨rfl, Below.refl _ _⟩
          · go_wp2_with fail
            refine (sole_new w).mono ?_
            rintro e w1 ⟨rfl, h1s⟩
            obtain ⟨g, hg⟩ : ∃ g, g = w.heap.size + 1 := ⟨_, rfl⟩
            rw [← hg] at h1s ⊢
            clear hg
            go_wp2_with fail
            refine (sole_open h1s Lg.Still.new Lg.Good.zero (by decide) (.inl rfl) (by decide)).mono ?_
            rintro e w2 ⟨q, vr, st2, rfl, h2s, hl2, -, -, hs2, hv2, hc2, hm2⟩
            have hc2' : st2.cuts = 0 := by rw [hc2]; rfl
            have hm2' : st2.many ≤ 2 := hm2
            have HG := Lib.hid (show RenewsLoop w g ls.length (.pointer (some ⟨q, 0, none⟩)) (.int .i64 0) w2 from ⟨0, q, st2, _, [], 0, 0, rfl, rfl, Nat.zero_le _, h2s, hs2, hv2, hl2, by show (0 : Int) + 1 ≤ 1 + 2 * ((0 : Nat) : Int); omega, hc2', by omega⟩)
            clear hc2 hm2 h1s h2s hl2 hs2 hv2 hc2' hm2'
            go_wp2_with fail
            go_loopw [8, 11] (fun vl vi wx => RenewsLoop w g ls.length vl vi wx) (fun _ vi _ => ls.length - (intOf vi).toNat)
            case atStart => exact HG.out
            case round =>
              clear HG
              obtain ⟨k, q, st, t, L, N, ep, rfl, rfl, hk, hS, hs, hv, hlg, hte, hc, hm⟩ := hrel
              have hN := hv.good.fit
              by_cases hlt2 : k + 1 < ls.length
              · obtain ⟨l1, hlk1⟩ : ∃ l, ls[k]? = some l := ⟨_, List.getElem?_eq_getElem (by omega)⟩
                obtain ⟨l2, hlk2⟩ : ∃ l, ls[k + 1]? = some l := ⟨_, List.getElem?_eq_getElem hlt2⟩
                obtain ⟨A', cap', e1, hat⟩ := HL.out
                obtain ⟨b1, o1, x1, rfl, lt1, c1, hs1⟩ := hat k l1 hlk1
                obtain ⟨b2, o2, x2, eb, -, c2, hs2⟩ := hat (k + 1) l2 hlk2
                injection eb with eb
                injection eb with eb1 eb2
                subst eb1 eb2
                injection e1 with e1 e2 e3
                subst e1 e3
                have hz1 := hsz.out k l1 hlk1
                have hz2 := hsz.out (k + 1) l2 hlk2
                clear e2 hat hlk1 hlk2
                have d1 := (hS.below.cell (p := ⟨b1, o1 + k, none⟩) lt1).trans c1
                have d2 := (hS.below.cell (p := ⟨b1, o1 + (k + 1), none⟩) lt1).trans c2
                have hr1 := hS.strs hs1
                have hr2 := hS.strs hs2
                have hbD := (Quiet.drewN wr 1).below
                have hSD : Sole w g st wr.drew := hS.up hbD
                have hlgD : Lgw wr.drew w.heap.size q g ⟨t, N, 0⟩ := hlg.up hbD
                have hr1D : Strs wr.drew x1 l1 := hr1.below hbD
                have HREN := sole_renew hSD hs hv (by omega) hlgD hr1D (by omega) (by omega)
                have HC := Lib.hid (show ∀ W, Below w.heap.size w W → (W.cell? ⟨b1, o1 + k, none⟩ = some x1 ∧ W.cell? ⟨b1, o1 + (k + 1), none⟩ = some x2 ∧ Below w.heap.size w W) from fun W hb => ⟨(hb.cell (p := ⟨b1, o1 + k, none⟩) lt1).trans c1, (hb.cell (p := ⟨b1, o1 + (k + 1), none⟩) lt1).trans c2, hb⟩)
                have hD0 := HC.out wr.drew hSD.below
                have hk0 : (0 : Int) ≤ (k : Int) := by omega
                have hk1 : (k : Int) < (ls.length : Int) := by omega
                have hk2 : (k : Int) + 1 < (ls.length : Int) := by omega
                have hk3 : IntKind.i64.wrap ((k : Int) + 1) = (k : Int) + 1 := IntWalk.i64_in _ (by omega)
                by_cases hX : manyB l1 ≤ 127
                · have HR : Calls Tryd.prog 19 #[.pointer (some ⟨q, 0, none⟩), x1] wr.drew fun e w' => e = .returned (.int .i64 0) ∧ (w'.cell? ⟨b1, o1 + k, none⟩ = some x1 ∧ w'.cell? ⟨b1, o1 + (k + 1), none⟩ = some x2 ∧ Below w.heap.size w w') ∧ ∃ st', Sole w g st' w' ∧ Lgw w' w.heap.size q g ⟨Lg.newTop t, manyB l1, 0⟩ ∧ Lg.Still st' ∧ st'.cuts = 0 ∧ st'.many ≤ st.many + 130 ∧ Lg.Live st'.is (Lg.newTop t) ((bls l1).map fun r => (t.e + 1, r)) (manyB l1) (t.e + 1) := by
                    refine HREN.mono ?_
                    rintro e w3 ⟨st3, h3s, -, hm3, hcase⟩
                    rcases hcase with ⟨g1, _⟩ | ⟨_, _, rfl, hl3, hs3, hc3, hv3⟩ | ⟨_, g2, _⟩
                    · omega
                    · exact ⟨rfl, HC.out w3 h3s.below, st3, h3s, hl3, hs3, by omega, hm3, hv3⟩
                    · omega
                  have HM : ∀ W, (W.cell? ⟨b1, o1 + k, none⟩ = some x1 ∧ W.cell? ⟨b1, o1 + (k + 1), none⟩ = some x2 ∧ Below w.heap.size w W) → Calls Tryd.prog 13 #[x1] W fun e w' => e = .returned (.int .i64 ((manyB l1 : Nat) : Int)) ∧ Below W.heap.size W w' ∧ (w'.cell? ⟨b1, o1 + k, none⟩ = some x1 ∧ w'.cell? ⟨b1, o1 + (k + 1), none⟩ = some x2 ∧ Below w.heap.size w w') := by
                    intro W hW
                    refine (many_at x1 l1 W (hs1.below hW.2.2) hz1 hX).mono ?_
                    rintro e w' ⟨rfl, hb⟩
                    exact ⟨rfl, hb, HC.out w' (hW.2.2.trans (hb.mono hW.2.2.size))⟩
                  clear HREN
                  generalize manyB l1 = X at HR HM hX
                  have hX3 : ((127 : Int) - (X : Int) != 127 - (X : Int)) = false := by simp
                  have hX2 : IntKind.i64.wrap (127 - (X : Int)) = 127 - (X : Int) := IntWalk.i64_in _ (by omega)
                  have HRR := Lib.hid HR; have HMM := Lib.hid HM
                  clear HR HM hSD hlgD hr1D hS hlg hr1 hr2 d1 d2 hs hv hbD
                  go_wp2_with fail
                  go_region_held3 (fun W => W.cell? ⟨b1, o1 + k, none⟩ = some x1 ∧ W.cell? ⟨b1, o1 + (k + 1), none⟩ = some x2 ∧ Below w.heap.size w W) (first | assumption | go_keep)
                    (first
                      | (go_at_call 19; refine HRR.out.mono ?_; rintro e w3 ⟨rfl, hC3, st3, h3s, hl3, hs3, hc3, hm3, hv3⟩)
                      | (go_at_call 14; refine (room_at hl3).mono ?_; rintro e w' ⟨rfl, rfl⟩)
                      | (go_at_call 13; refine (HMM.out _ (by assumption)).mono ?_; rintro e w4 ⟨rfl, hb4, hC4⟩))
                  have h4s := h3s.up hb4
                  have hl4 := hl3.up hb4
                  have hte4 : (Lg.newTop t).e ≤ 2 + 2 * k := by show t.e + 1 ≤ _; omega
                  clear h3s hl3 hb4 hC3
                  obtain ⟨f1, f2, f3⟩ := hC4
                  have HAPP := Lib.hid (sole_append h4s hs3 hv3 (by omega) hl4 (hs2.below f3) (by omega) (by omega))
                  clear h4s hl4
                  go_wp2_with fail
                  refine HAPP.out.mono ?_
                  rintro e w5 ⟨st5, h5s, -, hm5, hcase⟩
                  clear HAPP
                  rcases hcase with ⟨g1, rfl, rfl, -⟩ | ⟨g1, g2, rfl, -, hs5, hc5, ep5, hv5⟩ | ⟨g1, g2, _⟩
                  · have HM2 : ∀ W, (W.cell? ⟨b1, o1 + k, none⟩ = some x1 ∧ W.cell? ⟨b1, o1 + (k + 1), none⟩ = some x2 ∧ Below w.heap.size w W) → Calls Tryd.prog 13 #[x2] W fun e w' => ∃ n : Nat, e = .returned (.int .i64 (n : Int)) ∧ IntKind.i64.wrap ((X : Int) + (n : Int)) = (X : Int) + (n : Int) ∧ (127 : Int) < (X : Int) + (n : Int) ∧ (w'.cell? ⟨b1, o1 + k, none⟩ = some x1 ∧ w'.cell? ⟨b1, o1 + (k + 1), none⟩ = some x2 ∧ Below w.heap.size w w') := by
                      intro W hW
                      refine (many_over X x2 l2 W (hs2.below hW.2.2) hz2 (by omega) (by omega)).mono ?_
                      rintro e w' ⟨n, rfl, k1, k2, hb⟩
                      exact ⟨n, rfl, k1, k2, HC.out w' (hW.2.2.trans (hb.mono hW.2.2.size))⟩
                    have HMM2 := Lib.hid HM2
                    have hD5 := HC.out w5 h5s.below
                    have hD6 := HC.out w5.drew (h5s.below.trans ((Quiet.drewN w5 1).below.mono h5s.below.size))
                    clear HM2 h5s hm5 hv3 hs3 hc3 g1
                    have hk4 : (0 : Int) ≤ (k : Int) + 1 := by omega
                    have hk5 : ((k : Int) + 1).toNat = k + 1 := by omega
                    go_wp2_with fail
                    go_region_held3 (fun W => W.cell? ⟨b1, o1 + k, none⟩ = some x1 ∧ W.cell? ⟨b1, o1 + (k + 1), none⟩ = some x2 ∧ Below w.heap.size w W) (first | assumption | go_keep)
                      (first
                        | (go_at_call 13; with_reducible (refine (HMM.out _ (by assumption)).mono ?_); rintro e w6 ⟨rfl, -, hC6⟩)
                        | (go_at_call 13; with_reducible (refine (HMM2.out _ (by assumption)).mono ?_); rintro e w7 ⟨m, rfl, hw7, hm7, hC7⟩))
                    go_wp2_with fail
                    go_ret
                    exact ⟨rfl, hC7.2.2⟩
                  · generalize manyB l2 = Y at g1 g2 hv5 hc5
                    go_wp2_with fail
                    refine (sole_cut h5s 1 bits (by omega) hbits).mono ?_
                    rintro e w6 ⟨rfl, h6s, -⟩
                    go_wp2_with fail
                    refine (sole_barrier h6s (by show st5.many ≤ _; omega)).mono ?_
                    rintro e w7 ⟨rfl, h7s, -⟩
                    have hmb := Dk.many_barrier (st5.cut 1 bits)
                    have hmb' : (st5.cut 1 bits).many = st5.many := rfl
                    go_wp2_with fail
                    refine (sole_power h7s).mono ?_
                    rintro e w8 ⟨rfl, h8s, -⟩
                    obtain ⟨k4, k5, k6⟩ := up_crash (.inl hs5) bits
                    have hmp := Dk.many_power (st5.cut 1 bits).barrier
                    have hg8 : Lg.Good ((st5.cut 1 bits).barrier).power.is (Lg.newTop t) ((bls l1).map (fun r => (t.e + 1, r)) ++ (bls l2).map fun r => ((Lg.newTop t).e, r)) (X + Y) ep5 := by rw [k5]; exact hv5.good
                    have hm8 : ((st5.cut 1 bits).barrier).power.many ≤ 2 + 300 * k + 270 := by omega
                    clear h5s h6s h7s k5 hmb hmb' hmp hm3 hm5 hv5
                    generalize ((st5.cut 1 bits).barrier).power = st8 at *
                    have hD8 := HC.out w8 h8s.below
                    obtain ⟨j1, j2, j3⟩ := hD8
                    -- want
                    have o0 := own_none w8
                    have hb0 : Below w8.heap.size w8 (w8.alloc (.cells #[] 9)) := (Below.refl _ _).alloc (Nat.le_refl _) _
                    have hA0 : Strs (w8.alloc (.cells #[] 9)) x1 l1 := (hs1.below j3).below hb0
                    have hz0 : w8.heap.size ≤ (w8.alloc (.cells #[] 9)).heap.size := by simp
                    have i1 := (hb0.cell (p := ⟨b1, o1 + k, none⟩) (Nat.lt_of_lt_of_le lt1 j3.size)).trans j1
                    have i2 := (hb0.cell (p := ⟨b1, o1 + (k + 1), none⟩) (Nat.lt_of_lt_of_le lt1 j3.size)).trans j2
                    have hlen1 : l1.length ≤ 4096 := by unfold size at hz1; omega
                    have hlen2 : l2.length ≤ 4096 := by unfold size at hz2; omega
                    go_wp2_with (first
                      | (at_builtin; refine wpList_append_texts rfl (.tmp 118) (.tmp 122) rfl (l := []) o0 hA0 (by simp; omega) hz0 rfl rfl ?_; intro v16 w16 p1 hg16; have hb16 := hb0.grown hg16 hz0 (fun k e => (o0.lt k e).1); have hW16 := (hs2.below j3).below hb16; have hz16 := hb16.size; have i3 := (hb16.cell (p := ⟨b1, o1 + (k + 1), none⟩) (Nat.lt_of_lt_of_le lt1 j3.size)).trans j2)
                      | (at_builtin; refine wpList_append_texts rfl (.tmp 124) (.tmp 129) rfl p1 hW16 (by simp; omega) hz16 rfl rfl ?_; intro v17 w17 p2 hg17; have hb17 := hb16.grown hg17 hz16 (fun k e => (p1.lt k e).1)))
                    rw [List.nil_append] at p2
                    have hS17 := h8s.up hb17
                    clear o0 p1 hA0 hW16 hg16 hg17 hb16 hz0 hz16 hb0 h8s i1 i2 i3 j1 j2
                    refine (sole_open hS17 k4 hg8 (by omega) (.inl k6) (by omega)).mono ?_
                    rintro e w18 ⟨q18, v18, st18, rfl, h18s, hl18, hr18, hch18, hs18, hv18, hc18, hm18⟩
                    have hrec := hr18.strs
                    rw [recsOf_bls, recsOf_new] at hrec
                    have hwant := RowS.strs (RowS.kept (show RowS w17 w8.heap.size v17 (l1 ++ l2) from p2) hch18 (fun _ => rfl))
                    clear hr18 hch18 hS17 p2 hb17
                    go_wp2_with fail
                    refine (same_any _ _ (l1 ++ l2) (l1 ++ l2) w18 hrec hwant (by simp; omega)).mono ?_
                    rintro e w19 ⟨rfl, hq19⟩
                    rw [decide_eq_true (rfl : l1 ++ l2 = l1 ++ l2)]
                    have HF := Lib.hid (show RenewsLoop w g ls.length (.pointer (some ⟨q18, 0, none⟩)) (.int .i64 ((k + 1 : Nat) : Int)) w19 from ⟨k + 1, q18, st18, _, _, X + Y, ep5, rfl, rfl, by omega, h18s.up hq19.below, hs18, hv18, hl18.up hq19.below, by show (Lg.newTop t).e + 1 ≤ _; omega, by omega, by omega⟩)
                    clear hrec hwant hq19 h18s hl18 hs18 hv18
                    go_wp2_with fail
                    go_roundw
                    case rel =>
                      have := HF.out
                      rw [Int.natCast_add] at this
                      exact this
                    case measure => simp [intOf]; omega
                  · omega
                · have HR : Calls Tryd.prog 19 #[.pointer (some ⟨q, 0, none⟩), x1] wr.drew fun e w' => e = .returned (.int .i64 50) ∧ (w'.cell? ⟨b1, o1 + k, none⟩ = some x1 ∧ w'.cell? ⟨b1, o1 + (k + 1), none⟩ = some x2 ∧ Below w.heap.size w w') := by
                    refine HREN.mono ?_
                    rintro e w3 ⟨st3, h3s, -, hm3, hcase⟩
                    rcases hcase with ⟨_, rfl, _⟩ | ⟨g1, _⟩ | ⟨g1, _⟩
                    · exact ⟨rfl, HC.out w3 h3s.below⟩
                    · omega
                    · omega
                  have HRR := Lib.hid HR
                  clear HREN HR hSD hlgD hr1D hS hlg hr1 hr2 d1 d2 hs hv hbD
                  go_wp2_with fail
                  first
                    | go_region_with (first
                        | (go_at_call 19; refine HRR.out.mono ?_; rintro e w3 ⟨rfl, hC3⟩)
                        | (refine wpAny_take (i := 8) (v := undef) rfl (by kernel_rfl) (by kernel_rfl) (by kernel_rfl) (fun _ _ _ h => h) (Or.inr ⟨by rfl, rfl⟩) ?_)
                        | (refine wpAny_take (i := 9) (v := undef) rfl (by kernel_rfl) (by kernel_rfl) (by kernel_rfl) (fun _ _ _ h => h) (Or.inr ⟨by rfl, rfl⟩) ?_)
                        | (refine wpAny_take (i := 10) (v := undef) rfl (by kernel_rfl) (by kernel_rfl) (by kernel_rfl) (fun _ _ _ h => h) (Or.inr ⟨by rfl, rfl⟩) ?_)
                        | (refine wpAny_take (i := 11) (v := undef) rfl (by kernel_rfl) (by kernel_rfl) (by kernel_rfl) (fun _ _ _ h => h) (Or.inr ⟨by rfl, rfl⟩) ?_)
                        | (refine wpAny_take (i := 12) (v := undef) rfl (by kernel_rfl) (by kernel_rfl) (by kernel_rfl) (fun _ _ _ h => h) (Or.inr ⟨by rfl, rfl⟩) ?_)
                        | (refine wpAny_take (i := 13) (v := undef) rfl (by kernel_rfl) (by kernel_rfl) (by kernel_rfl) (fun _ _ _ h => h) (Or.inr ⟨by rfl, rfl⟩) ?_)
                        | (refine wpAny_take (i := 14) (v := undef) rfl (by kernel_rfl) (by kernel_rfl) (by kernel_rfl) (fun _ _ _ h => h) (Or.inr ⟨by rfl, rfl⟩) ?_)
                        | (refine wpAny_take (i := 15) (v := undef) rfl (by kernel_rfl) (by kernel_rfl) (by kernel_rfl) (fun _ _ _ h => h) (Or.inr ⟨by rfl, rfl⟩) ?_)
                        | (refine wpAny_take (i := 16) (v := undef) rfl (by kernel_rfl) (by kernel_rfl) (by kernel_rfl) (fun _ _ _ h => h) (Or.inr ⟨by rfl, rfl⟩) ?_))
                    | fail
                  all_goals
                    obtain ⟨f1, f2, f3⟩ := hC3
                    have hr3 := hs1.below f3
                    clear HRR hD0 HC f2
                    go_wp2_with fail
                    refine (refmany_any x1 l1 w3 hr3 (by omega)).mono ?_
                    rintro e w4 ⟨m, rfl, hm0, hm1, hm2, hb4⟩
                    have hmi : 127 < (m : Int) := by
                      rcases Nat.lt_or_ge 127 m with h | h
                      · omega
                      · have := hm1 h; omega
                    go_wp2_with fail
                    go_ret
                    exact ⟨rfl, f3.trans (hb4.mono f3.size)⟩
              · go_wp2_with fail
                go_ret
                exact ⟨rfl, hS.below⟩
        · clear hall HL
          go_wp2_with fail
          go_ret
          exact ⟨rfl, Below.refl _ _⟩

end Go.Proofs.YtgahcbhdnplnoaaDoor
