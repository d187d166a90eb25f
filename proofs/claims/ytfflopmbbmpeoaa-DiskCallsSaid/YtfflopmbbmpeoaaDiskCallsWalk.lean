/- The walk of DiskCalls: true of any numbers. -/
import Derived.Test.YtfflopmbbmpeoaaDiskTwo
import Derived.Deep.LoopGhost
namespace Go.Proofs.Ytfflopmbbmpeoaa
open Go.RowKit

namespace Dk
def X : ByteArray := ⟨#[120]⟩
/-- The disk behind i rounds. -/
def cs (k : Int) (keep : Nat) : Nat → St
  | 0 => St.new.cut k keep
  | i + 1 => if i % 2 = 0 then (cs k keep i).write i X else (cs k keep i).barrier

theorem step_low {st : St} {i : Nat} (hi : i < 256) (ho : st.off = false) (hc : 2 ≤ st.cuts) (hf : st.fails = 0) :
    (st.writeE i X = 0 ∧ (st.write i X).off = false ∧ (st.write i X).cuts = st.cuts - 1 ∧ (st.write i X).fails = 0 ∧ (st.write i X).many = st.many + 1) ∧
    (st.barrierE = 0 ∧ st.barrier.off = false ∧ st.barrier.cuts = st.cuts - 1 ∧ st.barrier.fails = 0 ∧ st.barrier.many = st.many + 1) := by
  have hd : st.due = 0 := by unfold St.due; rw [if_neg (by omega), if_neg (by omega)]
  have h1 := write_ok (bars_mk (st := st) (i := (i : Int)) (s := X) ho (by omega) (by omega) (by decide)) hd
  have h2 := barrier_ok ho hd
  rw [h1.2, h2.2]
  refine ⟨⟨h1.1, ho, rfl, ?_, rfl⟩, h2.1, ho, rfl, ?_, rfl⟩
  · show st.fails - 1 = 0; omega
  · show st.fails - 1 = 0; omega
theorem step_cut {st : St} {i : Nat} (hi : i < 256) (ho : st.off = false) (hc : st.cuts = 1) :
    (st.writeE i X = 33 ∧ (st.write i X).off = true ∧ (st.write i X).many = st.many + 1) ∧ (st.barrierE = 33 ∧ st.barrier.off = true ∧ st.barrier.many = st.many + 1) := by
  have hd : st.due = 33 := by unfold St.due; rw [if_pos hc]
  have h1 := write_cut (bars_mk (st := st) (i := (i : Int)) (s := X) ho (by omega) (by omega) (by decide)) hd
  have h2 := barrier_cut ho hd
  rw [h1.2, h2.2]
  exact ⟨⟨h1.1, rfl, rfl⟩, h2.1, rfl, rfl⟩
theorem step_off {st : St} {i : Int} {s : ByteArray} (ho : st.off = true) : (st.writeE i s = 33 ∧ st.write i s = st) ∧ (st.barrierE = 33 ∧ st.barrier = st) := by
  have hb := bars_reach (st := st) (i := i) (x := 33) s (by unfold St.reach; rw [if_pos ho]) (by decide)
  have h1 := write_bars (st := st) (i := i) (s := s) (by rw [hb]; decide)
  exact ⟨⟨by rw [h1.1, hb], h1.2⟩, barrier_off ho⟩
theorem step_out (st : St) {i : Int} (s : ByteArray) (hi : i < 0 ∨ 256 ≤ i) : st.write i s = st := by
  have h0 : st.reach i ≠ 0 := by
    intro e
    have := reach_ok e
    omega
  exact (write_bars (by unfold St.bars; rw [if_pos h0]; exact h0)).2

/-- Ahead of the k-th round the power is on, behind it off. -/
theorem cs_at {k : Nat} (hk : 0 < k) (keep i : Nat) (hi : i ≤ 30) :
    (i < k → (cs k keep i).off = false ∧ (cs k keep i).cuts = k - i ∧ (cs k keep i).fails = 0 ∧ (cs k keep i).many = i) ∧ (k ≤ i → (cs k keep i).off = true ∧ (cs k keep i).many = k) := by
  induction i with
  | zero => exact ⟨fun _ => ⟨rfl, by show (k : Int).toNat = k - 0; omega, rfl, rfl⟩, fun h => by omega⟩
  | succ i ih =>
    obtain ⟨ih1, ih2⟩ := ih (by omega)
    have e : cs k keep (i + 1) = if i % 2 = 0 then (cs k keep i).write i X else (cs k keep i).barrier := rfl
    refine ⟨fun h => ?_, fun h => ?_⟩
    · obtain ⟨a, b, c, d⟩ := ih1 (by omega)
      obtain ⟨⟨-, a1, b1, c1, d1⟩, -, a2, b2, c2, d2⟩ := step_low (i := i) (by omega) a (by omega) c
      rw [e]
      split
      · exact ⟨a1, by omega, c1, by omega⟩
      · exact ⟨a2, by omega, c2, by omega⟩
    · by_cases h2 : k ≤ i
      · obtain ⟨a, d⟩ := ih2 h2
        have hs := step_off (i := (i : Int)) (s := X) a
        rw [e]
        split
        · rw [hs.1.2]; exact ⟨a, d⟩
        · rw [hs.2.2]; exact ⟨a, d⟩
      · obtain ⟨a, b, c, d⟩ := ih1 (by omega)
        obtain ⟨⟨-, a1, d1⟩, -, a2, d2⟩ := step_cut (i := i) (by omega) a (by omega)
        rw [e]
        split
        · exact ⟨a1, by omega⟩
        · exact ⟨a2, by omega⟩
/-- What a round's call answers. -/
theorem cs_says {k : Nat} (hk : 0 < k) (keep i : Nat) (hi : i < 30) (x : Int) (b : Bool) (hx : x = if k ≤ i + 1 then 33 else 0) (hb : b = decide (k ≤ i + 1)) :
    (cs k keep i).writeE i X = x ∧ (cs k keep i).barrierE = x ∧ (cs k keep (i + 1)).off = b ∧ (cs k keep i).many ≤ 1073741824 := by
  have hm := cs_at hk keep i (by omega)
  have hn := cs_at hk keep (i + 1) (by omega)
  subst hx hb
  have hmany : (cs k keep i).many ≤ 1073741824 := by
    by_cases h : k ≤ i
    · rw [(hm.2 h).2]; omega
    · rw [(hm.1 (by omega)).2.2.2]; omega
  by_cases h : k ≤ i + 1
  · rw [if_pos h, decide_eq_true h]
    by_cases h2 : k ≤ i
    · have hs := step_off (i := (i : Int)) (s := X) (hm.2 h2).1
      exact ⟨hs.1.1, hs.2.1, (hn.2 h).1, hmany⟩
    · obtain ⟨a, b, c, d⟩ := hm.1 (by omega)
      obtain ⟨⟨e1, -⟩, e2, -⟩ := step_cut (i := i) (by omega) a (by omega)
      exact ⟨e1, e2, (hn.2 h).1, hmany⟩
  · rw [if_neg h, decide_eq_false h]
    obtain ⟨a, b, c, d⟩ := hm.1 (by omega)
    obtain ⟨⟨e1, -⟩, e2, -⟩ := step_low (i := i) (by omega) a (by omega) c
    exact ⟨e1, e2, (hn.1 (by omega)).1, hmany⟩
theorem cs_even {k : Int} {keep i : Nat} (h : i % 2 = 0) : cs k keep (i + 1) = (cs k keep i).write i X := if_pos h
theorem cs_odd {k : Int} {keep i : Nat} (h : ¬ i % 2 = 0) : cs k keep (i + 1) = (cs k keep i).barrier := if_neg h
end Dk

def CallsLoop (w0 : World) (gd gr : Nat) (k keep : Nat) (v10 : Value) (wr : World) : Prop :=
  ∃ i : Nat, i ≤ 30 ∧ v10 = .int .i64 (i : Int) ∧ Two w0 gd gr (Dk.cs k keep i) (Dk.cs k keep i) wr

set_option maxRecDepth 20000 in
set_option maxHeartbeats 800000 in
theorem calls_walk (n bad keep : Nat) (w : World) (hn : n < 256) (hb : bad < 256) (hk : keep < 18446744073709551616) :
    Calls Try.prog 3 #[.int .u8 (n : Int), .int .u8 (bad : Int), .int .u64 (keep : Int)] w fun e w' => e = .returned (.bool true) ∧ Below w.heap.size w w' := by
  have HN := Lib.hid (one_new w)
  obtain ⟨k, hke, hk0, hk20⟩ : ∃ k : Nat, (1 : Int) + (n : Int) % 20 = (k : Int) ∧ 0 < k ∧ k ≤ 20 := ⟨1 + n % 20, by omega, by omega, by omega⟩
  have hkx : -9223372036854775808 ≤ (k : Int) ∧ (k : Int) ≤ 9223372036854775807 := by omega
  have HKX := Lib.hid hkx; clear hkx
  go_enter Try.func3, Try.ntmps3
  go_wp2_with fail
  refine HN.out.mono ?_
  rintro e w1 ⟨rfl, h1⟩
  clear hke
  go_wp2_with fail
  refine (two_new h1).mono ?_
  rintro e w2 ⟨rfl, h2⟩
  generalize w.heap.size + 1 = gd at *
  generalize w1.heap.size + 1 = gr at *
  clear h1
  go_wp2_with fail
  refine (two_cut h2 _ keep HKX.out hk).mono ?_
  rintro e w3 ⟨rfl, h3⟩
  clear h2
  go_wp2_with fail
  refine (two_rcut h3 _ keep HKX.out.2 hk).mono ?_
  rintro e w4 ⟨rfl, h4⟩
  clear h3
  go_wp2_with fail
  go_loopw [10] (CallsLoop w gd gr k keep) (fun v _ => 30 - (intOf v).toNat)
  case atStart => exact ⟨0, by omega, rfl, h4⟩
  case round =>
    obtain ⟨i, hi, rfl, hT⟩ := hrel
    clear h4
    by_cases hlt : i < 30
    · obtain ⟨x, b, hx, hbb⟩ : ∃ (x : Int) (b : Bool), x = (if k ≤ i + 1 then 33 else 0) ∧ b = decide (k ≤ i + 1) := ⟨_, _, rfl, rfl⟩
      obtain ⟨s1, s2, s3, s4⟩ := Dk.cs_says hk0 keep i hlt x b hx hbb
      have S1 := Lib.hid s1; have S2 := Lib.hid s2; have S3 := Lib.hid s3
      have HX := Lib.hid hx; have HB := Lib.hid hbb
      have HO1 := Lib.hid (Dk.step_out (Dk.cs k keep i) (i := -1) Dk.X (by decide))
      have HO2 := Lib.hid (Dk.step_out (Dk.cs k keep i) (i := 256) Dk.X (by decide))
      clear s1 s2 s3 hx hbb
      have hcase : (k ≤ i + 1 ∧ x = 33 ∧ b = true) ∨ (¬ k ≤ i + 1 ∧ x = 0 ∧ b = false) := by
        by_cases h : k ≤ i + 1
        · exact .inl ⟨h, by rw [HX.out, if_pos h], by rw [HB.out, decide_eq_true h]⟩
        · exact .inr ⟨h, by rw [HX.out, if_neg h], by rw [HB.out, decide_eq_false h]⟩
      clear HX HB
      rcases hcase with ⟨hc, rfl, rfl⟩ | ⟨hc, rfl, rfl⟩
      all_goals
        cases t3 : ((i : Int) % 3 == (bad : Int) % 3) with
        | true =>
          by_cases ev : i % 2 = 0
          · have t2 : ((i : Int) % 2 == 0) = true := by simp; omega
            have HEV := Lib.hid (Dk.cs_even (k := (k : Int)) (keep := keep) ev)
            clear ev
            go_wp2_with fail
            refine (two_write hT (-1) Dk.X s4).mono ?_
            rintro e w5 ⟨rfl, h5⟩
            rw [HO1.out] at h5
            clear hT
            go_wp2_with fail
            refine (two_rwrite h5 (-1) Dk.X s4).mono ?_
            rintro e w6 ⟨rfl, h6⟩
            rw [HO1.out] at h6
            clear h5
            go_wp2_with fail
            refine (two_write h6 (256) Dk.X s4).mono ?_
            rintro e w7 ⟨rfl, h7⟩
            rw [HO2.out] at h7
            clear h6
            go_wp2_with fail
            refine (two_rwrite h7 (256) Dk.X s4).mono ?_
            rintro e w8 ⟨rfl, h8⟩
            rw [HO2.out] at h8
            clear h7
            go_wp2_with fail
            refine (two_write h8 (i : Int) Dk.X s4).mono ?_
            rintro e w9 ⟨rfl, h9⟩
            rw [S1.out]
            rw [← HEV.out] at h9
            go_wp2_with fail
            refine (two_rwrite h9 (i : Int) Dk.X s4).mono ?_
            rintro e w10 ⟨rfl, h10⟩
            rw [← HEV.out] at h10
            clear h9 h8
            go_wp2_with fail
            refine (one_dead h10.one).mono ?_
            rintro e w11 ⟨rfl, rfl⟩
            rw [S3.out]
            go_wp2_with fail
            go_roundw
            case rel => exact ⟨i + 1, by omega, by go_num, h10⟩
            case measure => simp [intOf]; omega
          · have t2 : ((i : Int) % 2 == 0) = false := by simp; omega
            have HEV := Lib.hid (Dk.cs_odd (k := (k : Int)) (keep := keep) ev)
            clear ev
            go_wp2_with fail
            refine (two_write hT (-1) Dk.X s4).mono ?_
            rintro e w5 ⟨rfl, h5⟩
            rw [HO1.out] at h5
            clear hT
            go_wp2_with fail
            refine (two_rwrite h5 (-1) Dk.X s4).mono ?_
            rintro e w6 ⟨rfl, h6⟩
            rw [HO1.out] at h6
            clear h5
            go_wp2_with fail
            refine (two_write h6 (256) Dk.X s4).mono ?_
            rintro e w7 ⟨rfl, h7⟩
            rw [HO2.out] at h7
            clear h6
            go_wp2_with fail
            refine (two_rwrite h7 (256) Dk.X s4).mono ?_
            rintro e w8 ⟨rfl, h8⟩
            rw [HO2.out] at h8
            clear h7
            go_wp2_with fail
            refine (two_barrier h8 s4).mono ?_
            rintro e w9 ⟨rfl, h9⟩
            rw [S2.out]
            rw [← HEV.out] at h9
            go_wp2_with fail
            refine (two_rbarrier h9 s4).mono ?_
            rintro e w10 ⟨rfl, h10⟩
            rw [← HEV.out] at h10
            clear h9 h8
            go_wp2_with fail
            refine (one_dead h10.one).mono ?_
            rintro e w11 ⟨rfl, rfl⟩
            rw [S3.out]
            go_wp2_with fail
            go_roundw
            case rel => exact ⟨i + 1, by omega, by go_num, h10⟩
            case measure => simp [intOf]; omega
        | false =>
          by_cases ev : i % 2 = 0
          · have t2 : ((i : Int) % 2 == 0) = true := by simp; omega
            have HEV := Lib.hid (Dk.cs_even (k := (k : Int)) (keep := keep) ev)
            clear ev
            go_wp2_with fail
            refine (two_write hT (i : Int) Dk.X s4).mono ?_
            rintro e w9 ⟨rfl, h9⟩
            rw [S1.out]
            rw [← HEV.out] at h9
            go_wp2_with fail
            refine (two_rwrite h9 (i : Int) Dk.X s4).mono ?_
            rintro e w10 ⟨rfl, h10⟩
            rw [← HEV.out] at h10
            clear h9 hT
            go_wp2_with fail
            refine (one_dead h10.one).mono ?_
            rintro e w11 ⟨rfl, rfl⟩
            rw [S3.out]
            go_wp2_with fail
            go_roundw
            case rel => exact ⟨i + 1, by omega, by go_num, h10⟩
            case measure => simp [intOf]; omega
          · have t2 : ((i : Int) % 2 == 0) = false := by simp; omega
            have HEV := Lib.hid (Dk.cs_odd (k := (k : Int)) (keep := keep) ev)
            clear ev
            go_wp2_with fail
            refine (two_barrier hT s4).mono ?_
            rintro e w9 ⟨rfl, h9⟩
            rw [S2.out]
            rw [← HEV.out] at h9
            go_wp2_with fail
            refine (two_rbarrier h9 s4).mono ?_
            rintro e w10 ⟨rfl, h10⟩
            rw [← HEV.out] at h10
            clear h9 hT
            go_wp2_with fail
            refine (one_dead h10.one).mono ?_
            rintro e w11 ⟨rfl, rfl⟩
            rw [S3.out]
            go_wp2_with fail
            go_roundw
            case rel => exact ⟨i + 1, by omega, by go_num, h10⟩
            case measure => simp [intOf]; omega
    · have hm := (Dk.cs_at hk0 keep i (by omega)).2 (by omega)
      have HM := Lib.hid hm.2
      clear hm
      go_wp2_with fail
      refine (one_calls hT.one).mono ?_
      rintro e w5 ⟨rfl, rfl⟩
      rw [HM.out]
      go_wp2_with fail
      refine (two_rcalls hT).mono ?_
      rintro e w5 ⟨rfl, rfl⟩
      rw [HM.out]
      go_wp2_with fail
      go_ret
      exact ⟨rfl, hT.below⟩

end Go.Proofs.Ytfflopmbbmpeoaa
