/- The walk of LogCuts: true of any records, any place of the cut, any sectors that are kept. -/
import Derived.Test.YtgahcbhdnplnoaaDoorLogSole
namespace Go.Proofs.YtgahcbhdnplnoaaDoor
open Go.RowKit

theorem mod_in (a : Int) (m : Int) (hm : 0 < m) (h2 : m ≤ 1000) : ∃ k : Int, 0 ≤ k ∧ k < m ∧ (wrap64 (a.tmod m + m)).tmod m = k := by
  have h1 := Int.lt_tmod_of_pos a hm
  have h3 := Int.tmod_lt_of_pos a hm
  generalize a.tmod m = t at *
  have e : wrap64 (t + m) = t + m := by unfold wrap64; omega
  rw [e]
  have h4 : 0 ≤ (t + m).tmod m := Int.tmod_nonneg _ (by omega)
  have h5 := Int.tmod_lt_of_pos (t + m) hm
  exact ⟨_, h4, h5, rfl⟩

theorem begins_yes (A W : List ByteArray) (j : Nat) : (A.length ≤ (A ++ W.take j).length ∧ A = (A ++ W.take j).take A.length) ∧
    ((A ++ W.take j).length ≤ (A ++ W).length ∧ A ++ W.take j = (A ++ W).take (A ++ W.take j).length) := by
  refine ⟨⟨by rw [List.length_append]; omega, by simp⟩, ⟨by simp only [List.length_append, List.length_take]; omega, ?_⟩⟩
  rw [List.length_append, List.take_length_add_append]
  congr 1
  rw [List.length_take]
  by_cases h : j ≤ W.length
  · rw [Nat.min_eq_left h]
  · rw [Nat.min_eq_right (by omega), List.take_length, List.take_of_length_le (by omega)]

set_option maxRecDepth 20000 in
set_option maxHeartbeats 4000000 in
theorem cuts_law (va : Value) (A : List ByteArray) (vw : Value) (W : List ByteArray) (renew : Bool) (n : Int) (keep : Nat) (again : Int) (w : World) (hA : Strs w va A) (hW : Strs w vw W) (_ : -9223372036854775808 ≤ n ∧ n ≤ 9223372036854775807) (hkeep : keep < 18446744073709551616) (_ : -9223372036854775808 ≤ again ∧ again ≤ 9223372036854775807) :
    Calls Tryd.prog 8 #[va, vw, .bool renew, .int .i64 n, .int .u64 (keep : Int), .int .i64 again] w fun x w' => x = .returned (.bool true) ∧ Below w.heap.size w w' := by
  obtain ⟨x, hx0, hx1, hx⟩ := mod_in n 140 (by omega) (by omega)
  obtain ⟨y, hy0, hy1, hy⟩ := mod_in again 3 (by omega) (by omega)
  have HAS := Lib.hid hA; have HWS := Lib.hid hW
  go_enter Tryd.func8, Tryd.ntmps8
  go_wp2_with fail
  refine (long_any va A w hA).mono ?_
  rintro e w' ⟨n1, rfl, hn, hn1, hn2, rfl⟩
  by_cases hbig : 4096 < n1
  · go_wp2_with fail
    go_ret
    exact ⟨rfl, Below.refl _ _⟩
  · have hsA : size A ≤ 4096 := by rw [← hn1 (by omega)]; omega
    have hni : (n1 : Int) ≤ 4096 := by omega
    clear hn hn1 hn2 hbig hA
    go_wp2_with fail
    refine (long_any vw W w hW).mono ?_
    rintro e w' ⟨n2, rfl, hn, hn1, hn2, rfl⟩
    by_cases hbig : 4096 < n2
    · go_wp2_with fail
      go_ret
      exact ⟨rfl, Below.refl _ _⟩
    · have hsW : size W ≤ 4096 := by rw [← hn1 (by omega)]; omega
      have hni2 : (n2 : Int) ≤ 4096 := by omega
      clear hn hn1 hn2 hbig hW
      have hlA : A.length ≤ 4096 := by unfold size at hsA; omega
      have hlW : W.length ≤ 4096 := by unfold size at hsW; omega
      go_wp2_with fail
      refine (sole_new w).mono ?_
      rintro e w1 ⟨rfl, h1s⟩
      obtain ⟨g, hg⟩ : ∃ g, g = w.heap.size + 1 := ⟨_, rfl⟩
      rw [← hg] at h1s ⊢
      clear hg
      go_wp2_with fail
      refine (sole_open h1s Lg.Still.new Lg.Good.zero (by decide) (.inl rfl) (by decide)).mono ?_
      rintro e w2 ⟨q, vr, st2, rfl, h2s, hl2, -, -, hs2, hv2, hc2, hm2⟩
      have hc2' : st2.cuts = 0 := by rw [hc2]; rfl
      have hm2' : st2.many ≤ 2 := hm2
      clear hc2 hm2 h1s
      go_wp2_with fail
      refine (sole_append h2s hs2 hv2 (by decide) hl2 (h2s.strs HAS.out) (by omega) (by omega)).mono ?_
      rintro e w3 ⟨st3, h3s, hch3, hm3, hcase⟩
      rcases hcase with ⟨g1, rfl, rfl, hl3⟩ | ⟨g1, g2, rfl, hl3, hs3, hc3, ep', hv3⟩ | ⟨g1, g2, _⟩
      · clear h2s hl2 hch3 hl3
        go_wp2_with fail
        refine (refmany_any va A w3 (h3s.strs HAS.out) (by omega)).mono ?_
        rintro e w4 ⟨m, rfl, _, hm1, hm2, hb4⟩
        have hmi : 127 < (m : Int) := by
          rcases Nat.lt_or_ge 127 m with h | h
          · omega
          · have := hm1 h; omega
        go_wp2_with fail
        go_ret
        exact ⟨rfl, (h3s.up hb4).below⟩
      · have hrA : recsOf ([] ++ (bls A).map fun r => ((Lg.Top.mk ((0 : Int) + 1) 0 0).e, r)) = A := recsOf_bls [] _ A
        clear h2s hl2 hch3 hs2 hv2
        go_wp2_with fail
        refine (sole_cut h3s (1 + x) keep (by omega) hkeep).mono ?_
        rintro e w4 ⟨rfl, h4s, hch4⟩
        have hl4 := hl3.disk hch4
        have hm4 : (st3.cut (1 + x) keep).many ≤ 200 := by show st3.many ≤ _; omega
        have hs4 := hs3.cut (1 + x) keep
        have hv4 : Lg.Live (st3.cut (1 + x) keep).is _ _ _ _ := hv3
        clear h3s hl3 hch4 hs3 hv3 hm3 hc3
        generalize st3.cut (1 + x) keep = st4 at *
        cases renew with
        | false =>
          go_wp2_with fail
          refine (sole_append_out h4s hs4 hv4 (by decide) hl4 (h4s.strs HWS.out) (by omega) (by omega)).mono ?_
          rintro e w5 ⟨F, st5, t5, L5, N5, ep5, rfl, h5s, hu5, hg5, hout, ht5, hm5⟩
          rw [hrA] at hout
          have ht5' : t5.e ≤ 2 := ht5
          clear h4s hs4 hv4 hl4 hrA ht5
          go_wp2_with fail
          refine (sole_cut h5s 1 keep (by omega) hkeep).mono ?_
          rintro e w6 ⟨rfl, h6s, -⟩
          go_wp2_with fail
          refine (sole_barrier h6s (by show st5.many ≤ _; omega)).mono ?_
          rintro e w7 ⟨rfl, h7s, -⟩
          have hmb := Dk.many_barrier (st5.cut 1 keep)
          have hmb' : (st5.cut 1 keep).many = st5.many := rfl
          go_wp2_with fail
          refine (sole_power h7s).mono ?_
          rintro e w8 ⟨rfl, h8s, -⟩
          obtain ⟨k1, k2, k3⟩ := up_crash hu5 keep
          have hmp := Dk.many_power (st5.cut 1 keep).barrier
          have hg8 : Lg.Good ((st5.cut 1 keep).barrier).power.is t5 L5 N5 ep5 := by rw [k2]; exact hg5
          clear h5s h6s h7s hg5 hu5 k2 k3
          generalize ((st5.cut 1 keep).barrier).power = st8 at *
          go_wp2_with fail
          refine (sole_cut h8s (1 + y) keep (by omega) hkeep).mono ?_
          rintro e w9 ⟨rfl, h9s, -⟩
          have hs9 := k1.cut (1 + y) keep
          have hg9 : Lg.Good (st8.cut (1 + y) keep).is t5 L5 N5 ep5 := hg8
          have hm9 : (st8.cut (1 + y) keep).many ≤ 400 := by show st8.many ≤ _; omega
          clear h8s k1 hg8 hmp hmb hmb'
          generalize st8.cut (1 + y) keep = st9 at *
          go_wp2_with fail
          refine (sole_open_either h9s hs9 hg9 (by omega) (by omega)).mono ?_
          rintro e w10 ⟨o1, o2, o3, st10, t10, rfl, h10s, hu10, hg10, ht10, hm10⟩
          clear h9s hs9 hg9
          go_wp2_with fail
          refine (sole_power h10s).mono ?_
          rintro e w11 ⟨rfl, h11s, -⟩
          obtain ⟨k1, k2⟩ := up_power hu10
          have hmp := Dk.many_power st10
          clear h10s
          go_wp2_with fail
          refine (sole_cut h11s 0 0 (by omega) (by omega)).mono ?_
          rintro e w12 ⟨rfl, h12s, -⟩
          have hs12 := k1.cut 0 0
          have hg12 : Lg.Good (st10.power.cut 0 0).is t10 L5 N5 ep5 := by
            show Lg.Good st10.power.is _ _ _ _
            rw [k2]; exact hg10
          have hm12 : (st10.power.cut 0 0).many ≤ 500 := by show st10.power.many ≤ _; omega
          have hc12 : (st10.power.cut 0 0).cuts = 0 := rfl
          clear h11s k1 k2 hmp hg10 hu10
          generalize st10.power.cut 0 0 = st12 at *
          go_wp2_with fail
          refine (sole_open h12s hs12 hg12 (by omega) (.inl hc12) (by omega)).mono ?_
          rintro e w13 ⟨q13, v13, st13, rfl, h13s, -, hr13, -, hs13, hv13, hc13, hm13⟩
          clear h12s hs12 hg12
          go_wp2_with fail
          refine (sole_open h13s hs13 hv13.good (by show t10.e + 1 < _; omega) (.inl (by omega)) (by omega)).mono ?_
          rintro e w14 ⟨q14, v14, st14, rfl, h14s, -, hr14, hch14, hs14, hv14, hc14, hm14⟩
          have hr13' := hr13.kept hch14 (fun _ => rfl)
          clear h13s hs13 hv13 hr13 hch14
          generalize recsOf L5 = S at *
          have hlS : S.length ≤ 10000 := by
            rcases hout with ⟨_, h⟩ | ⟨_, h⟩ | ⟨_, h⟩
            · rw [h]; simp; try omega
            · rw [h]; omega
            · obtain ⟨j, h⟩ := h; rw [h]; simp; omega
          go_wp2_with fail
          refine (same_any _ _ S S w14 hr13'.strs hr14.strs (by omega)).mono ?_
          rintro e w15 ⟨rfl, hq15⟩
          rw [decide_eq_true (rfl : S = S)]
          have h15s := h14s.up hq15.below
          have hS15 := hr13'.strs.below hq15.below
          have hA15 := h15s.strs HAS.out
          have hW15 := h15s.strs HWS.out
          have hB15 := h15s.below
          clear h14s hr13' hr14 hq15 h15s hs14 hv14
          rcases hout with ⟨rfl, hS⟩ | ⟨rfl, hS⟩ | ⟨rfl, hS⟩
          · have hS2 : S = A ++ W := hS
            subst hS2
            -- all
            have o0 := own_none w15
            have hA0 := hA15.below ((Below.refl w15.heap.size w15).alloc (Nat.le_refl _) (.cells #[] 9))
            have hz0 : w15.heap.size ≤ (w15.alloc (.cells #[] 9)).heap.size := by simp
            have hb0 : Below w15.heap.size w15 (w15.alloc (.cells #[] 9)) := (Below.refl _ _).alloc (Nat.le_refl _) _
            go_wp2_with (first
              | (at_builtin; refine wpList_append_texts rfl (.tmp 114) (.tmp 115) rfl (l := []) o0 hA0 (by simp; omega) hz0 rfl rfl ?_; intro v16 w16 o1 hg16; have hb16 := hb0.grown hg16 hz0 (fun k e => (o0.lt k e).1); have hW16 := hW15.below hb16; have hz16 := hb16.size)
              | (at_builtin; refine wpList_append_texts rfl (.tmp 117) (.tmp 118) rfl o1 hW16 (by simp; omega) hz16 rfl rfl ?_; intro v17 w17 o2 hg17; have hb17 := hb16.grown hg17 hz16 (fun k e => (o1.lt k e).1)))
            have hall := Strs.of_row o2
            rw [List.nil_append] at hall
            have hbF : Below w15.heap.size w15 w17 := hb17
            have hS17 := hS15.below hbF
            have hA17 := hA15.below hbF
            have hW17 := hW15.below hbF
            have hBF := hB15.trans (hbF.mono hB15.size)
            clear o0 o1 o2 hA0 hW16 hg16 hg17 hb16 hb17 hz0 hz16 hb0 hS15 hA15 hW15 hB15
            refine (same_any _ _ (A ++ W) (A ++ W) w17 hS17 hall (by simp; omega)).mono ?_
            rintro e w18 ⟨rfl, hq18⟩
            rw [decide_eq_true (rfl : A ++ W = A ++ W)]
            go_wp2_with fail
            go_ret
            exact ⟨rfl, hBF.trans (hq18.below.mono hBF.size)⟩
          · have hS2 := hS.symm
            subst hS2
            -- all
            have o0 := own_none w15
            have hA0 := hA15.below ((Below.refl w15.heap.size w15).alloc (Nat.le_refl _) (.cells #[] 9))
            have hz0 : w15.heap.size ≤ (w15.alloc (.cells #[] 9)).heap.size := by simp
            have hb0 : Below w15.heap.size w15 (w15.alloc (.cells #[] 9)) := (Below.refl _ _).alloc (Nat.le_refl _) _
            go_wp2_with (first
              | (at_builtin; refine wpList_append_texts rfl (.tmp 114) (.tmp 115) rfl (l := []) o0 hA0 (by simp; omega) hz0 rfl rfl ?_; intro v16 w16 o1 hg16; have hb16 := hb0.grown hg16 hz0 (fun k e => (o0.lt k e).1); have hW16 := hW15.below hb16; have hz16 := hb16.size)
              | (at_builtin; refine wpList_append_texts rfl (.tmp 117) (.tmp 118) rfl o1 hW16 (by simp; omega) hz16 rfl rfl ?_; intro v17 w17 o2 hg17; have hb17 := hb16.grown hg17 hz16 (fun k e => (o1.lt k e).1)))
            have hall := Strs.of_row o2
            rw [List.nil_append] at hall
            have hbF : Below w15.heap.size w15 w17 := hb17
            have hS17 := hS15.below hbF
            have hA17 := hA15.below hbF
            have hW17 := hW15.below hbF
            have hBF := hB15.trans (hbF.mono hB15.size)
            clear o0 o1 o2 hA0 hW16 hg16 hg17 hb16 hb17 hz0 hz16 hb0 hS15 hA15 hW15 hB15
            obtain ⟨z1, z2⟩ := begins_yes A W 0
            rw [List.take_zero, List.append_nil] at z1 z2
            refine (begins_any _ _ A A w17 hA17 hS17 (by omega)).mono ?_
            rintro e w18 ⟨rfl, hq18⟩
            rw [decide_eq_true z1]
            have hBG := hBF.trans (hq18.below.mono hBF.size)
            have hS18 := hS17.below hq18.below
            have hall18 := hall.below hq18.below
            have hA18 := hA17.below hq18.below
            clear hS17 hall hA17 hq18 z1 hW17
            go_wp2_with fail
            refine (begins_any _ _ A (A ++ W) w18 hS18 hall18 (by omega)).mono ?_
            rintro e w19 ⟨rfl, hq19⟩
            rw [decide_eq_true z2]
            have hBH := hBG.trans (hq19.below.mono hBG.size)
            have hS19 := hS18.below hq19.below
            have hA19 := hA18.below hq19.below
            clear hS18 hall18 hA18 hq19 z2
            go_wp2_with fail
            refine (same_any _ _ A A w19 hS19 hA19 (by omega)).mono ?_
            rintro e w20 ⟨rfl, hq20⟩
            rw [decide_eq_true (rfl : A = A)]
            go_wp2_with fail
            go_ret
            exact ⟨rfl, hBH.trans (hq20.below.mono hBH.size)⟩
          · obtain ⟨j, hS2⟩ : ∃ j, S = A ++ W.take j := hS
            subst hS2
            -- all
            have o0 := own_none w15
            have hA0 := hA15.below ((Below.refl w15.heap.size w15).alloc (Nat.le_refl _) (.cells #[] 9))
            have hz0 : w15.heap.size ≤ (w15.alloc (.cells #[] 9)).heap.size := by simp
            have hb0 : Below w15.heap.size w15 (w15.alloc (.cells #[] 9)) := (Below.refl _ _).alloc (Nat.le_refl _) _
            go_wp2_with (first
              | (at_builtin; refine wpList_append_texts rfl (.tmp 114) (.tmp 115) rfl (l := []) o0 hA0 (by simp; omega) hz0 rfl rfl ?_; intro v16 w16 o1 hg16; have hb16 := hb0.grown hg16 hz0 (fun k e => (o0.lt k e).1); have hW16 := hW15.below hb16; have hz16 := hb16.size)
              | (at_builtin; refine wpList_append_texts rfl (.tmp 117) (.tmp 118) rfl o1 hW16 (by simp; omega) hz16 rfl rfl ?_; intro v17 w17 o2 hg17; have hb17 := hb16.grown hg17 hz16 (fun k e => (o1.lt k e).1)))
            have hall := Strs.of_row o2
            rw [List.nil_append] at hall
            have hbF : Below w15.heap.size w15 w17 := hb17
            have hS17 := hS15.below hbF
            have hA17 := hA15.below hbF
            have hW17 := hW15.below hbF
            have hBF := hB15.trans (hbF.mono hB15.size)
            clear o0 o1 o2 hA0 hW16 hg16 hg17 hb16 hb17 hz0 hz16 hb0 hS15 hA15 hW15 hB15
            obtain ⟨z1, z2⟩ := begins_yes A W j
            refine (begins_any _ _ A (A ++ W.take j) w17 hA17 hS17 (by omega)).mono ?_
            rintro e w18 ⟨rfl, hq18⟩
            rw [decide_eq_true z1]
            have hBG := hBF.trans (hq18.below.mono hBF.size)
            have hS18 := hS17.below hq18.below
            have hall18 := hall.below hq18.below
            clear hS17 hall hA17 hq18 z1 hW17
            go_wp2_with fail
            refine (begins_any _ _ (A ++ W.take j) (A ++ W) w18 hS18 hall18 (by omega)).mono ?_
            rintro e w19 ⟨rfl, hq19⟩
            rw [decide_eq_true z2]
            have hBH := hBG.trans (hq19.below.mono hBG.size)
            clear hS18 hall18 hq19 z2
            go_wp2_with fail
            go_ret
            exact ⟨rfl, hBH⟩
        | true =>
          go_wp2_with fail
          refine (sole_renew_out h4s hs4 hv4 (by decide) hl4 (h4s.strs HWS.out) (by omega) (by omega)).mono ?_
          rintro e w5 ⟨F, st5, t5, L5, N5, ep5, rfl, h5s, hu5, hg5, hout, ht5, hm5⟩
          rw [hrA] at hout
          have ht5' : t5.e ≤ 2 := ht5
          clear h4s hs4 hv4 hl4 hrA ht5
          go_wp2_with fail
          refine (sole_cut h5s 1 keep (by omega) hkeep).mono ?_
          rintro e w6 ⟨rfl, h6s, -⟩
          go_wp2_with fail
          refine (sole_barrier h6s (by show st5.many ≤ _; omega)).mono ?_
          rintro e w7 ⟨rfl, h7s, -⟩
          have hmb := Dk.many_barrier (st5.cut 1 keep)
          have hmb' : (st5.cut 1 keep).many = st5.many := rfl
          go_wp2_with fail
          refine (sole_power h7s).mono ?_
          rintro e w8 ⟨rfl, h8s, -⟩
          obtain ⟨k1, k2, k3⟩ := up_crash hu5 keep
          have hmp := Dk.many_power (st5.cut 1 keep).barrier
          have hg8 : Lg.Good ((st5.cut 1 keep).barrier).power.is t5 L5 N5 ep5 := by rw [k2]; exact hg5
          clear h5s h6s h7s hg5 hu5 k2 k3
          generalize ((st5.cut 1 keep).barrier).power = st8 at *
          go_wp2_with fail
          refine (sole_cut h8s (1 + y) keep (by omega) hkeep).mono ?_
          rintro e w9 ⟨rfl, h9s, -⟩
          have hs9 := k1.cut (1 + y) keep
          have hg9 : Lg.Good (st8.cut (1 + y) keep).is t5 L5 N5 ep5 := hg8
          have hm9 : (st8.cut (1 + y) keep).many ≤ 400 := by show st8.many ≤ _; omega
          clear h8s k1 hg8 hmp hmb hmb'
          generalize st8.cut (1 + y) keep = st9 at *
          go_wp2_with fail
          refine (sole_open_either h9s hs9 hg9 (by omega) (by omega)).mono ?_
          rintro e w10 ⟨o1, o2, o3, st10, t10, rfl, h10s, hu10, hg10, ht10, hm10⟩
          clear h9s hs9 hg9
          go_wp2_with fail
          refine (sole_power h10s).mono ?_
          rintro e w11 ⟨rfl, h11s, -⟩
          obtain ⟨k1, k2⟩ := up_power hu10
          have hmp := Dk.many_power st10
          clear h10s
          go_wp2_with fail
          refine (sole_cut h11s 0 0 (by omega) (by omega)).mono ?_
          rintro e w12 ⟨rfl, h12s, -⟩
          have hs12 := k1.cut 0 0
          have hg12 : Lg.Good (st10.power.cut 0 0).is t10 L5 N5 ep5 := by
            show Lg.Good st10.power.is _ _ _ _
            rw [k2]; exact hg10
          have hm12 : (st10.power.cut 0 0).many ≤ 500 := by show st10.power.many ≤ _; omega
          have hc12 : (st10.power.cut 0 0).cuts = 0 := rfl
          clear h11s k1 k2 hmp hg10 hu10
          generalize st10.power.cut 0 0 = st12 at *
          go_wp2_with fail
          refine (sole_open h12s hs12 hg12 (by omega) (.inl hc12) (by omega)).mono ?_
          rintro e w13 ⟨q13, v13, st13, rfl, h13s, -, hr13, -, hs13, hv13, hc13, hm13⟩
          clear h12s hs12 hg12
          go_wp2_with fail
          refine (sole_open h13s hs13 hv13.good (by show t10.e + 1 < _; omega) (.inl (by omega)) (by omega)).mono ?_
          rintro e w14 ⟨q14, v14, st14, rfl, h14s, -, hr14, hch14, hs14, hv14, hc14, hm14⟩
          have hr13' := hr13.kept hch14 (fun _ => rfl)
          clear h13s hs13 hv13 hr13 hch14
          generalize recsOf L5 = S at *
          have hlS : S.length ≤ 10000 := by
            rcases hout with ⟨_, h⟩ | ⟨_, h⟩ | ⟨_, h⟩
            · rw [h]; simp; try omega
            · rw [h]; omega
            · rcases h with h | h <;> rw [h] <;> omega
          go_wp2_with fail
          refine (same_any _ _ S S w14 hr13'.strs hr14.strs (by omega)).mono ?_
          rintro e w15 ⟨rfl, hq15⟩
          rw [decide_eq_true (rfl : S = S)]
          have h15s := h14s.up hq15.below
          have hS15 := hr13'.strs.below hq15.below
          have hA15 := h15s.strs HAS.out
          have hW15 := h15s.strs HWS.out
          have hB15 := h15s.below
          clear h14s hr13' hr14 hq15 h15s hs14 hv14
          rcases hout with ⟨rfl, hS⟩ | ⟨rfl, hS⟩ | ⟨rfl, hS⟩
          · have hS2 : W = S := hS.symm
            subst hS2
            -- all
            have o0 := own_none w15
            have hA0 := hA15.below ((Below.refl w15.heap.size w15).alloc (Nat.le_refl _) (.cells #[] 9))
            have hz0 : w15.heap.size ≤ (w15.alloc (.cells #[] 9)).heap.size := by simp
            have hb0 : Below w15.heap.size w15 (w15.alloc (.cells #[] 9)) := (Below.refl _ _).alloc (Nat.le_refl _) _
            go_wp2_with (first
              | (at_builtin; refine wpList_append_texts rfl (.tmp 114) (.tmp 115) rfl (l := []) o0 hA0 (by simp; omega) hz0 rfl rfl ?_; intro v16 w16 o1 hg16; have hb16 := hb0.grown hg16 hz0 (fun k e => (o0.lt k e).1); have hW16 := hW15.below hb16; have hz16 := hb16.size)
              | (at_builtin; refine wpList_append_texts rfl (.tmp 117) (.tmp 118) rfl o1 hW16 (by simp; omega) hz16 rfl rfl ?_; intro v17 w17 o2 hg17; have hb17 := hb16.grown hg17 hz16 (fun k e => (o1.lt k e).1)))
            have hall := Strs.of_row o2
            rw [List.nil_append] at hall
            have hbF : Below w15.heap.size w15 w17 := hb17
            have hS17 := hS15.below hbF
            have hA17 := hA15.below hbF
            have hW17 := hW15.below hbF
            have hBF := hB15.trans (hbF.mono hB15.size)
            clear o0 o1 o2 hA0 hW16 hg16 hg17 hb16 hb17 hz0 hz16 hb0 hS15 hA15 hW15 hB15
            refine (same_any _ _ W W w17 hS17 hW17 (by omega)).mono ?_
            rintro e w18 ⟨rfl, hq18⟩
            rw [decide_eq_true (rfl : W = W)]
            go_wp2_with fail
            go_ret
            exact ⟨rfl, hBF.trans (hq18.below.mono hBF.size)⟩
          · have hS2 := hS.symm
            subst hS2
            -- all
            have o0 := own_none w15
            have hA0 := hA15.below ((Below.refl w15.heap.size w15).alloc (Nat.le_refl _) (.cells #[] 9))
            have hz0 : w15.heap.size ≤ (w15.alloc (.cells #[] 9)).heap.size := by simp
            have hb0 : Below w15.heap.size w15 (w15.alloc (.cells #[] 9)) := (Below.refl _ _).alloc (Nat.le_refl _) _
            go_wp2_with (first
              | (at_builtin; refine wpList_append_texts rfl (.tmp 114) (.tmp 115) rfl (l := []) o0 hA0 (by simp; omega) hz0 rfl rfl ?_; intro v16 w16 o1 hg16; have hb16 := hb0.grown hg16 hz0 (fun k e => (o0.lt k e).1); have hW16 := hW15.below hb16; have hz16 := hb16.size)
              | (at_builtin; refine wpList_append_texts rfl (.tmp 117) (.tmp 118) rfl o1 hW16 (by simp; omega) hz16 rfl rfl ?_; intro v17 w17 o2 hg17; have hb17 := hb16.grown hg17 hz16 (fun k e => (o1.lt k e).1)))
            have hall := Strs.of_row o2
            rw [List.nil_append] at hall
            have hbF : Below w15.heap.size w15 w17 := hb17
            have hS17 := hS15.below hbF
            have hA17 := hA15.below hbF
            have hW17 := hW15.below hbF
            have hBF := hB15.trans (hbF.mono hB15.size)
            clear o0 o1 o2 hA0 hW16 hg16 hg17 hb16 hb17 hz0 hz16 hb0 hS15 hA15 hW15 hB15
            refine (same_any _ _ A A w17 hS17 hA17 (by omega)).mono ?_
            rintro e w18 ⟨rfl, hq18⟩
            rw [decide_eq_true (rfl : A = A)]
            go_wp2_with fail
            go_ret
            exact ⟨rfl, hBF.trans (hq18.below.mono hBF.size)⟩
          · rcases (show S = A ∨ S = W from hS) with hS2 | hS2
            · have hS3 := hS2.symm
              subst hS3
              -- all
              have o0 := own_none w15
              have hA0 := hA15.below ((Below.refl w15.heap.size w15).alloc (Nat.le_refl _) (.cells #[] 9))
              have hz0 : w15.heap.size ≤ (w15.alloc (.cells #[] 9)).heap.size := by simp
              have hb0 : Below w15.heap.size w15 (w15.alloc (.cells #[] 9)) := (Below.refl _ _).alloc (Nat.le_refl _) _
              go_wp2_with (first
                | (at_builtin; refine wpList_append_texts rfl (.tmp 114) (.tmp 115) rfl (l := []) o0 hA0 (by simp; omega) hz0 rfl rfl ?_; intro v16 w16 o1 hg16; have hb16 := hb0.grown hg16 hz0 (fun k e => (o0.lt k e).1); have hW16 := hW15.below hb16; have hz16 := hb16.size)
                | (at_builtin; refine wpList_append_texts rfl (.tmp 117) (.tmp 118) rfl o1 hW16 (by simp; omega) hz16 rfl rfl ?_; intro v17 w17 o2 hg17; have hb17 := hb16.grown hg17 hz16 (fun k e => (o1.lt k e).1)))
              have hall := Strs.of_row o2
              rw [List.nil_append] at hall
              have hbF : Below w15.heap.size w15 w17 := hb17
              have hS17 := hS15.below hbF
              have hA17 := hA15.below hbF
              have hW17 := hW15.below hbF
              have hBF := hB15.trans (hbF.mono hB15.size)
              clear o0 o1 o2 hA0 hW16 hg16 hg17 hb16 hb17 hz0 hz16 hb0 hS15 hA15 hW15 hB15
              refine (same_any _ _ A A w17 hS17 hA17 (by omega)).mono ?_
              rintro e w18 ⟨rfl, hq18⟩
              rw [decide_eq_true (rfl : A = A)]
              go_wp2_with fail
              go_ret
              exact ⟨rfl, hBF.trans (hq18.below.mono hBF.size)⟩
            · have hS3 := hS2.symm
              subst hS3
              -- all
              have o0 := own_none w15
              have hA0 := hA15.below ((Below.refl w15.heap.size w15).alloc (Nat.le_refl _) (.cells #[] 9))
              have hz0 : w15.heap.size ≤ (w15.alloc (.cells #[] 9)).heap.size := by simp
              have hb0 : Below w15.heap.size w15 (w15.alloc (.cells #[] 9)) := (Below.refl _ _).alloc (Nat.le_refl _) _
              go_wp2_with (first
                | (at_builtin; refine wpList_append_texts rfl (.tmp 114) (.tmp 115) rfl (l := []) o0 hA0 (by simp; omega) hz0 rfl rfl ?_; intro v16 w16 o1 hg16; have hb16 := hb0.grown hg16 hz0 (fun k e => (o0.lt k e).1); have hW16 := hW15.below hb16; have hz16 := hb16.size)
                | (at_builtin; refine wpList_append_texts rfl (.tmp 117) (.tmp 118) rfl o1 hW16 (by simp; omega) hz16 rfl rfl ?_; intro v17 w17 o2 hg17; have hb17 := hb16.grown hg17 hz16 (fun k e => (o1.lt k e).1)))
              have hall := Strs.of_row o2
              rw [List.nil_append] at hall
              have hbF : Below w15.heap.size w15 w17 := hb17
              have hS17 := hS15.below hbF
              have hA17 := hA15.below hbF
              have hW17 := hW15.below hbF
              have hBF := hB15.trans (hbF.mono hB15.size)
              clear o0 o1 o2 hA0 hW16 hg16 hg17 hb16 hb17 hz0 hz16 hb0 hS15 hA15 hW15 hB15
              refine (same_any _ _ W A w17 hS17 hA17 (by omega)).mono ?_
              rintro e w18 ⟨rfl, hq18⟩
              have hBG := hBF.trans (hq18.below.mono hBF.size)
              have hS18 := hS17.below hq18.below
              have hW18 := hW17.below hq18.below
              clear hS17 hA17 hW17 hq18 hall
              by_cases hd : W = A
              · rw [decide_eq_true hd]
                go_wp2_with fail
                go_ret
                exact ⟨rfl, hBG⟩
              · rw [decide_eq_false hd]
                go_wp2_with fail
                refine (same_any _ _ W W w18 hS18 hW18 (by omega)).mono ?_
                rintro e w19 ⟨rfl, hq19⟩
                rw [decide_eq_true (rfl : W = W)]
                go_wp2_with fail
                go_ret
                exact ⟨rfl, hBG.trans (hq19.below.mono hBG.size)⟩
      · omega

end Go.Proofs.YtgahcbhdnplnoaaDoor
