/- The walk of KeepCuts: true of any records, any place of the cut, any sectors that are kept. -/
import Derived.Test.YtimcepoleboldaaGreatDoorKpKeepDim
import Derived.Test.YtimcepoleboldaaGreatDoorKeepLongs
import Derived.Test.YtimcepoleboldaaGreatDoorKeepAll
import Derived.IntWalk
namespace Go.Proofs.YtimcepoleboldaaGreatDoor
open Go.RowKit Go.Deep

theorem mod_in (a : Int) (m : Int) (hm : 0 < m) (h2 : m ≤ 1000) : ∃ k : Int, 0 ≤ k ∧ k < m ∧ (wrap64 (a.tmod m + m)).tmod m = k := by
  have h1 := Int.lt_tmod_of_pos a hm
  have h3 := Int.tmod_lt_of_pos a hm
  generalize a.tmod m = t at *
  have e : wrap64 (t + m) = t + m := by unfold wrap64; omega
  rw [e]
  have h4 : 0 ≤ (t + m).tmod m := Int.tmod_nonneg _ (by omega)
  have h5 := Int.tmod_lt_of_pos (t + m) hm
  exact ⟨_, h4, h5, rfl⟩
theorem solid_empty (w : World) (base g : Nat) : Solid w base (.slice (some ⟨g, 0, none⟩) 0 0) [] := ⟨⟨_, 0, rfl, fun j e hj => by simp at hj⟩, .inl rfl⟩

set_option maxRecDepth 20000 in
set_option maxHeartbeats 8000000 in
theorem kcuts_walk (va vn : Value) (a l : List Kp.Rc) (n : Int) (keep : Nat) (w : World) (ha : Recs w va a) (hl : Recs w vn l) (_ : -9223372036854775808 ≤ n ∧ n ≤ 9223372036854775807) (hkeep : keep < 18446744073709551616) :
    Calls Tryz.prog 6 #[va, vn, .int .i64 n, .int .u64 (keep : Int)] w fun x w' => x = .returned (.bool true) ∧ Below w.heap.size w w' := by
  obtain ⟨x, hx0, hx1, hx⟩ := mod_in n 140 (by omega) (by omega)
  have HA := Lib.hid ha
  have HL := Lib.hid hl
  have HLN := Lib.hid (longs_any va a w ha)
  go_enter Tryz.func6, Tryz.ntmps6
  go_wp2_with fail
  refine HLN.out.mono ?_
  rintro e w1 ⟨n1, rfl, hn1, hn2, hn3, hq⟩
  have HQ1 := Lib.hid hq
  clear hq HLN ha hl
  by_cases k1 : 4096 < n1
  · have k1' : (4096 : Int) < (n1 : Int) := by omega
    go_wp2_with fail
    go_ret
    exact ⟨rfl, HQ1.out.below⟩
  have k1' : (n1 : Int) ≤ 4096 := by omega
  have HN1 := Lib.hid (show rsize a ≤ 4096 by rw [← hn2 (by omega)]; omega)
  clear k1 hn1 hn2 hn3
  go_wp2_with fail
  refine (longs_any vn l w1 (HL.out.below HQ1.out.below)).mono ?_
  rintro e w0 ⟨n2, rfl, hn1, hn2, hn3, hq⟩
  have HQ := Lib.hid (show Quiet w w0 from HQ1.out.trans hq)
  clear hq HQ1
  by_cases k2 : 4096 < n2
  · have k2' : (4096 : Int) < (n2 : Int) := by omega
    go_wp2_with fail
    go_ret
    exact ⟨rfl, HQ.out.below⟩
  have k2' : (n2 : Int) ≤ 4096 := by omega
  have HN2 := Lib.hid (show rsize l ≤ 4096 by rw [← hn2 (by omega)]; omega)
  clear k2 hn1 hn2 hn3
  go_wp2_with fail
  have HA0 := Lib.hid (HA.out.below HQ.out.below)
  have HL0 := Lib.hid (HL.out.below HQ.out.below)
  refine (disk_new w0).mono ?_
  rintro e w1 ⟨rfl, hd1, hb1⟩
  obtain ⟨g, hg⟩ : ∃ g, g = w0.heap.size + 1 := ⟨_, rfl⟩
  rw [← hg] at hd1 ⊢
  have HB1 := Lib.hid hb1
  have HD1 := Lib.hid hd1
  clear hg hb1 hd1 HA HL
  go_wp2_with fail
  refine (shop_new HD1.out (by decide) (by decide)).mono ?_
  rintro e w2 ⟨K2, s, mb, n, st2, rfl, -, hS, hn, hc, hm⟩
  have hb3 : Below w2.heap.size w2 (w2.alloc (.cells #[] 65)) := (Below.refl _ _).alloc (Nat.le_refl _) _
  have HS3 := Lib.hid (hS.below hb3)
  have hb2 := HB1.out.trans (hc.to_below HB1.out.size)
  have HB3 := Lib.hid (hb2.trans (hb3.mono hb2.size))
  have HM3 := Lib.hid (show n ≤ 12192 ∧ st2.many ≤ 2 from ⟨hn, hm⟩)
  clear hS hc hn hm HD1 HB1 hb2 hb3
  have hz1 : Kp.heavy a + a.length ≤ 4096 := by have := HN1.out; unfold rsize at this; omega
  have hz2 : Kp.heavy l + l.length ≤ 4096 := by have := HN2.out; unfold rsize at this; omega
  have HZ := Lib.hid (And.intro hz1 hz2)
  go_wp2_with fail
  refine (shop_put HS3.out (by decide) (HA0.out.below HB3.out) (by show 0 + _ ≤ _; omega) (by show 0 + _ ≤ _; omega) (by have := HM3.out; omega) (by have := HM3.out; omega)).mono ?_
  rintro e w4 ⟨E, K4, mb4, n4, st4, e4, rfl, -, hS4, he0, he1, hn4, hc4, -, hm4, -, -, -⟩
  obtain ⟨m, hmm⟩ : ∃ m, m = if E = 0 then Kp.all [] a else [] := ⟨_, rfl⟩
  rw [← hmm] at hS4
  have HS4 := Lib.hid hS4
  have HB4 := Lib.hid (HB3.out.trans (hc4.to_below HB3.out.size))
  have HM4 := Lib.hid (show n4 ≤ 17000 ∧ st4.many ≤ 260 ∧ e4 ≤ 2 by have := HM3.out; omega)
  have h1 := Kp.size_all_le a []
  have h2 := Kp.length_all_le a []
  have hms : Kp.size m ≤ 4096 ∧ m.length ≤ 4096 := by
    rw [hmm]
    split
    · change _ ≤ 0 + _ at h1
      change _ ≤ 0 + _ at h2
      omega
    · exact ⟨Nat.zero_le _, Nat.zero_le _⟩
  have HMS := Lib.hid hms
  have HE4 := Lib.hid (solid_empty w4 0 w2.heap.size)
  clear hS4 hc4 hn4 he0 he1 hm4 HS3 HB3 HM3 hz1 hz2 h1 h2 hms
  have hsplit : (E == 0) = true ∧ m = Kp.all [] a ∨ (E == 0) = false ∧ m = [] := by
    by_cases h0 : E = 0
    · rw [if_pos h0] at hmm
      exact .inl ⟨by simp [h0], hmm⟩
    · rw [if_neg h0] at hmm
      exact .inr ⟨by simp [h0], hmm⟩
  clear hmm
  rcases hsplit with ⟨h0, hmm⟩ | ⟨h0, hmm⟩
  focus
    go_wp2_with fail
    refine (sall_any _ va 0 [] a w4 HE4.out (Nat.zero_le _) (HA0.out.below HB4.out) trivial (by show 0 + _ ≤ _; have := HZ.out; omega)).mono ?_
    rintro e w5 ⟨v5, rfl, he5, hb5⟩
    rw [← hmm] at he5
    have HE5 := Lib.hid he5
    have HS5 := Lib.hid (HS4.out.below hb5)
    have HB5 := Lib.hid (HB4.out.trans (hb5.mono HB4.out.size))
    clear he5 hb5 HE4 HS4 HB4 hmm
    go_wp2_with fail
  rotate_left
  focus
    have HE5 := Lib.hid (show Solid w4 0 (.slice (some ⟨w2.heap.size, 0, none⟩) 0 0) m by rw [hmm]; exact HE4.out)
    have HS5 := HS4
    have HB5 := HB4
    clear HE4 HS4 HB4 hmm
    go_wp2_with fail
    generalize w4 = w5 at *
    generalize (Value.slice (some ⟨w2.heap.size, 0, none⟩) 0 0) = v5 at *
  all_goals
    have hu := HS5.out.up
    refine (sall_any v5 vn 0 m l w5 HE5.out (Nat.zero_le _) (HL0.out.below HB5.out) hu (by have := HZ.out; have := HMS.out; omega)).mono ?_
    rintro e w6 ⟨v6, rfl, he6, hb6⟩
    have HW6 := Lib.hid he6
    have HE6 := Lib.hid (HE5.out.below hb6)
    have HS6 := Lib.hid (HS5.out.below hb6)
    have HB6 := Lib.hid (HB5.out.trans (hb6.mono HB5.out.size))
    clear he6 hb6 HE5 HS5 HB5 hu
    go_wp2_with fail
    refine (shop_cut HS6.out (1 + x) keep (by omega) hkeep).mono ?_
    rintro e w7 ⟨rfl, hS7, hc7⟩
    have HS7 := Lib.hid hS7
    have HB7 := Lib.hid (HB6.out.trans (hc7.to_below HB6.out.size))
    have HE7 := Lib.hid (HE6.out.kept hc7 (fun _ => rfl))
    have HW7 := Lib.hid (HW6.out.kept hc7 (fun _ => rfl))
    have HM7 := Lib.hid (show (st4.cut (1 + x) keep).many ≤ 260 from HM4.out.2.1)
    clear hS7 hc7 HS6 HB6 HE6 HW6
    generalize st4.cut (1 + x) keep = st7 at *
    go_wp2_with fail
    refine (dim_put HS7.out (by have := HM4.out; omega) (HL0.out.below HB7.out) (by have := HZ.out; have := HMS.out; omega) (by have := HZ.out; have := HMS.out; omega) (by have := HM7.out; omega) (by have := HM4.out; have := HZ.out; omega)).mono ?_
    rintro e w8 ⟨F, K8, st8, t8, L8, N8, ep8, rfl, hd8, hc8, ho8, hg8, he8, hm8, hcase⟩
    have HB8 := Lib.hid (HB7.out.trans (hc8.to_below HB7.out.size))
    have HE8 := Lib.hid (HE7.out.kept hc8 (fun _ => rfl))
    have HW8 := Lib.hid (HW7.out.kept hc8 (fun _ => rfl))
    have HCASE := Lib.hid hcase
    have HG8 := Lib.hid hg8
    have HO8 := Lib.hid ho8
    have HM8 := Lib.hid (show t8.e ≤ 3 ∧ st8.many ≤ 600 by have := HM7.out; have := HM4.out; omega)
    have HD8 := Lib.hid hd8
    clear hd8 hc8 ho8 hg8 he8 hm8 hcase HS7 HB7 HE7 HW7
    go_wp2_with fail
    refine (@cut_any K8 w0.heap.size g st8 1 keep w8 HD8.out (by decide) hkeep).mono ?_
    rintro e w9 ⟨rfl, hd9, hc9⟩
    have HD9 := Lib.hid hd9
    have HB9 := Lib.hid (HB8.out.trans (hc9.to_below HB8.out.size))
    have HE9 := Lib.hid (HE8.out.kept hc9 (fun _ => rfl))
    have HW9 := Lib.hid (HW8.out.kept hc9 (fun _ => rfl))
    clear hd9 hc9 HD8 HB8 HE8 HW8
    go_wp2_with fail
    refine (@barrier_any K8 w0.heap.size g (st8.cut 1 keep) w9 HD9.out (by show st8.many ≤ _; have := HM8.out; omega)).mono ?_
    rintro e w10 ⟨rfl, hd10, hc10⟩
    have HD10 := Lib.hid hd10
    have HB10 := Lib.hid (HB9.out.trans (hc10.to_below HB9.out.size))
    have HE10 := Lib.hid (HE9.out.kept hc10 (fun _ => rfl))
    have HW10 := Lib.hid (HW9.out.kept hc10 (fun _ => rfl))
    have hmb := Dk.many_barrier (st8.cut 1 keep)
    have hmb' : (st8.cut 1 keep).many = st8.many := rfl
    have hmp := Dk.many_power (st8.cut 1 keep).barrier
    have HM10 := Lib.hid (show ((st8.cut 1 keep).barrier).power.many ≤ 700 by have := HM8.out; omega)
    clear hd10 hc10 HD9 HB9 HE9 HW9 hmb hmb' hmp
    go_wp2_with fail
    refine (@power_any K8 w0.heap.size g (st8.cut 1 keep).barrier w10 HD10.out).mono ?_
    rintro e w11 ⟨rfl, hd11, hc11⟩
    have HD11 := Lib.hid hd11
    have HB11 := Lib.hid (HB10.out.trans (hc11.to_below HB10.out.size))
    have HE11 := Lib.hid (HE10.out.kept hc11 (fun _ => rfl))
    have HW11 := Lib.hid (HW10.out.kept hc11 (fun _ => rfl))
    obtain ⟨q1, q2, q3⟩ := on_again HO8.out keep
    have HG11 := Lib.hid (show Lg.Good ((st8.cut 1 keep).barrier).power.is t8 L8 N8 ep8 by rw [q2]; exact HG8.out)
    have HQ11 := Lib.hid (And.intro q1 q3)
    clear hd11 hc11 HD10 HB10 HE10 HW10 q1 q2 q3 HG8 HO8
    generalize ((st8.cut 1 keep).barrier).power = st11 at *
    go_wp2_with fail
    refine (shop_open HD11.out HQ11.out.1 HG11.out (by have := HM8.out; omega) HQ11.out.2 (by have := HM10.out; omega) (by decide) (by decide)).mono ?_
    rintro e w12 ⟨K12, s12, mb12, n12, st12, rfl, -, hS12, hn12, hc12, hm12⟩
    obtain ⟨mm, hmm⟩ : ∃ mm, mm = Kp.mapOf (L8.map (·.2)) := ⟨_, rfl⟩
    rw [← hmm] at hS12 HCASE
    have HS12 := Lib.hid hS12
    have HB12 := Lib.hid (HB11.out.trans (hc12.to_below HB11.out.size))
    have HE12 := Lib.hid (HE11.out.kept hc12 (fun _ => rfl))
    have HW12 := Lib.hid (HW11.out.kept hc12 (fun _ => rfl))
    have hz1 := Kp.size_all_le l m
    have hz2 := Kp.length_all_le l m
    have HZ2 := Lib.hid (show Kp.size (Kp.all m l) ≤ 100000 ∧ (Kp.all m l).length ≤ 100000 ∧ mm.length ≤ 100000 by
      have h1 := HZ.out
      have h2 := HMS.out
      refine ⟨by omega, by omega, ?_⟩
      rcases HCASE.out with ⟨_, h⟩ | ⟨_, h⟩ | ⟨_, h⟩ <;> rw [h] <;> omega)
    clear hS12 hn12 hc12 hm12 HD11 HB11 HE11 HW11 hmm hz1 hz2 HG11 HQ11
    rcases HCASE.out with ⟨f0, hr⟩ | ⟨f0, hr⟩ | ⟨f0, hr⟩
    · have HR := Lib.hid hr
      subst f0
      clear hr HCASE
      go_wp2_with fail
      refine (shop_has HS12.out HW12.out.1 (by have := HZ2.out; omega) (by have := HZ2.out; omega) (by have := HZ2.out; omega)).mono ?_
      rintro e w13 ⟨b, rfl, hb, hb13⟩
      obtain rfl := hb HR.out
      have HF := Lib.hid (HQ.out.below.trans ((HB12.out.trans (hb13.mono HB12.out.size)).mono HQ.out.below.size))
      clear hb hb13
      go_wp2_with fail
      go_ret
      exact ⟨rfl, HF.out⟩
    · have HR := Lib.hid hr
      have hf0 : (F == 0) = false := by simp [f0]
      clear hr HCASE f0
      go_wp2_with fail
      refine (shop_has HS12.out HE12.out.1 (by have := HZ2.out; omega) (by have := HMS.out; omega) (by have := HMS.out; omega)).mono ?_
      rintro e w13 ⟨b, rfl, hb, hb13⟩
      obtain rfl := hb HR.out
      have HF := Lib.hid (HQ.out.below.trans ((HB12.out.trans (hb13.mono HB12.out.size)).mono HQ.out.below.size))
      clear hb hb13
      go_wp2_with fail
      go_ret
      exact ⟨rfl, HF.out⟩
    · have HR := Lib.hid hr
      subst f0
      clear hr HCASE
      go_wp2_with fail
      refine (shop_has HS12.out HE12.out.1 (by have := HZ2.out; omega) (by have := HMS.out; omega) (by have := HMS.out; omega)).mono ?_
      rintro e w13 ⟨b, rfl, hb, hb13⟩
      have HF := Lib.hid (HQ.out.below.trans ((HB12.out.trans (hb13.mono HB12.out.size)).mono HQ.out.below.size))
      have HS13 := Lib.hid (HS12.out.below hb13)
      have HW13 := Lib.hid (HW12.out.below hb13)
      have HB13 := Lib.hid (HB12.out.trans (hb13.mono HB12.out.size))
      clear hb hb13 HS12 HW12 HB12 HE12
      cases b with
      | true =>
        go_wp2_with fail
        go_ret
        exact ⟨rfl, HF.out⟩
      | false =>
        go_wp2_with fail
        refine (shop_has HS13.out HW13.out.1 (by have := HZ2.out; omega) (by have := HZ2.out; omega) (by have := HZ2.out; omega)).mono ?_
        rintro e w14 ⟨b, rfl, hb, hb14⟩
        obtain rfl := hb HR.out
        have HF2 := Lib.hid (HQ.out.below.trans ((HB13.out.trans (hb14.mono HB13.out.size)).mono HQ.out.below.size))
        clear hb hb14
        go_wp2_with fail
        go_ret
        exact ⟨rfl, HF2.out⟩
end Go.Proofs.YtimcepoleboldaaGreatDoor
