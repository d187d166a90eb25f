/- The walk of TextLines: true of any function. -/
import Derived.Test.YtbmajjeiggfngaaDoorTextCount
namespace Go.Proofs.YtbmajjeiggfngaaDoor
open Go.ChangeShapes Go.WideShapes Go.RowKit Go.Deep

theorem count_at {l : List UInt8} {k : Nat} {c : UInt8} (h : l[k]? = some c) : (l.take (k + 1)).count 10 = (l.take k).count 10 + if c = 10 then 1 else 0 := by
  obtain ⟨h1, rfl⟩ := List.getElem?_eq_some_iff.1 h
  rw [List.take_succ_eq_append_getElem h1, List.count_append, List.count_singleton]
  by_cases hc : l[k] = 10
  · rw [if_pos hc, if_pos (by simp [hc])]
  · rw [if_neg hc, if_neg (by simpa using hc)]

set_option maxRecDepth 100000 in
set_option maxHeartbeats 8000000 in
theorem lines_walk (f : Ir.Fu) (bv : Value) (w : World) (hv : Blks w bv f.blocks) (hp : -9223372036854775808 ≤ f.params ∧ f.params ≤ 9223372036854775807) (hr : -9223372036854775808 ≤ f.regs ∧ f.regs ≤ 9223372036854775807) (hw : PrWorld w) :
    Calls Tryd.prog 3 #[FuV f bv] w fun e w' => e = .returned (.bool true) ∧ Below w.heap.size w w' := by
  obtain ⟨A, cap, hbv⟩ := hv.form
  subst hbv
  have hb1 : Below w.heap.size w (w.alloc (.cells #[.string f.name, .int .i64 f.params, .int .i64 f.regs, .slice A f.blocks.length cap] 24)) := (Below.refl _ _).alloc (Nat.le_refl _) _
  have hbox := Blk.new w 24 #[.string f.name, .int .i64 f.params, .int .i64 f.regs, .slice A f.blocks.length cap]
  obtain ⟨c0, c1, c2, c3⟩ := cells4 hbox
  have HV := Lib.hid (And.intro (hv.below hb1) (And.intro hp (And.intro hr (And.intro (hw.below hb1) (And.intro hbox hb1)))))
  clear hb1 hbox hv hp hr hw
  go_enter Tryd.func3, Tryd.ntmps3
  go_upto_region 1 with fail
  generalize w.alloc (.cells #[.string f.name, .int .i64 f.params, .int .i64 f.regs, .slice A f.blocks.length cap] 24) = w1 at *
  go_wp2_with fail
  refine (heavyT_any _ f.blocks w1 HV.out.1).mono ?_
  rintro e w2 ⟨h, rfl, rfl, hl⟩
  cases h with
  | true =>
    go_wp2_with fail
    go_ret
    exact ⟨rfl, HV.out.2.2.2.2.2⟩
  | false =>
    have HL := Lib.hid (hl rfl)
    clear hl
    by_cases hn : 256 < f.name.size
    · have hn' : (256 : Int) < (f.name.size : Int) := by omega
      clear hn
      go_wp2_with fail
      go_ret
      exact ⟨rfl, HV.out.2.2.2.2.2⟩
    · have hn' : (f.name.size : Int) ≤ 256 := by omega
      have hsm := HL.out.smalR HV.out.1
      have HSM := Lib.hid hsm
      obtain ⟨E, hE⟩ : ∃ E, E = Tx.prE false (cdOf f) := ⟨_, rfl⟩
      obtain ⟨S, hS⟩ : ∃ S, S = Tx.mkB (Tx.pr false (cdOf f)) := ⟨_, rfl⟩
      have HP := Lib.hid (show Calls Tryd.prog 11 #[FuV f (.slice A f.blocks.length cap)] w1 fun e w' => e = .returned (.tuple #[.string S, .int .i64 E]) ∧ Below w1.heap.size w1 w' from by
        rw [hE, hS]
        exact print_any f _ w1 HV.out.1 hsm (by omega) HV.out.2.1 HV.out.2.2.1 HV.out.2.2.2.1)
      have HQ := Lib.hid (show ∀ w2, Below w1.heap.size w1 w2 → Calls Tryd.prog 12 #[FuV f (.slice A f.blocks.length cap)] w2 fun e w' => e = .returned (.tuple #[.string S, .int .i64 E]) ∧ Below w2.heap.size w2 w' from fun w2 hb => by
        rw [hE, hS]
        exact rPrint_any f _ w2 (HV.out.1.below hb) hsm (by omega) HV.out.2.1 HV.out.2.2.1)
      have HES := Lib.hid (And.intro hE hS)
      clear hn hsm hE hS
      go_wp2_with fail
      refine HP.out.mono ?_
      rintro e w2 ⟨rfl, hb2⟩
      obtain ⟨k0, k1, k2, k3⟩ := cells4 (HV.out.2.2.2.2.1.older hb2 HV.out.2.2.2.2.1.lt)
      have HQ2 := Lib.hid (HQ.out w2 hb2)
      have HB2 := Lib.hid hb2
      clear hb2 HQ HP c0 c1 c2 c3
      go_wp2_with fail
      refine HQ2.out.mono ?_
      rintro e w3 ⟨rfl, hb3⟩
      have hb13 : Below w1.heap.size w1 w3 := HB2.out.trans (hb3.mono HB2.out.size)
      have hbox3 := HV.out.2.2.2.2.1.older hb13 HV.out.2.2.2.2.1.lt
      obtain ⟨m0, m1, m2, m3⟩ := cells4 hbox3
      have HB3 := Lib.hid (And.intro hb13 (HV.out.2.2.2.2.2.trans (hb13.mono HV.out.2.2.2.2.2.size)))
      have hEE : (E != E) = false := by simp
      clear hb13 hbox3 hb3 k0 k1 k2 k3 HQ2
      by_cases h0 : E = 0
      · have hE0 : Tx.prE false (cdOf f) = 0 := by rw [← HES.out.1]; exact h0
        have hSl : S.data.toList = Tx.prW false (cdOf f) := by rw [HES.out.2, Tx.list_mkB]; unfold Tx.pr; rw [if_pos hE0]
        have hcnt : S.data.toList.count 10 = 1 + f.blocks.length + Ir.count f.blocks := by rw [hSl]; exact prW_count hE0
        have hsz : S.size ≤ 40000000000000 := by rw [HES.out.2, mkB_size]; exact pr_len HSM.out
        have hfst : S.extract 0 5 = ⟨#[102, 117, 110, 99, 32]⟩ := by
          have e : (S.extract 0 5).data.toList = [102, 117, 110, 99, 32] := by
            rw [← prW_first (cdOf f), ← hSl]
            simp
          rw [← Tx.mkB_list (S.extract 0 5), e]
          rfl
        have h5 : 5 ≤ S.size := by
          have e := congrArg List.length (prW_first (cdOf f))
          rw [← hSl, List.length_take] at e
          simp at e
          omega
        have hlc := HSM.out.count
        have HS := Lib.hid (And.intro hcnt (And.intro hfst (And.intro hsz (And.intro h5 hlc))))
        have hszi : (S.size : Int) ≤ 40000000000000 := by omega
        subst h0
        clear hE0 hSl hcnt hsz hfst h5 hlc hEE
        go_wp2_with fail
        go_loop [7, 8] (fun n i => ∃ k : Nat, k ≤ S.size ∧ i = .int .i64 (k : Int) ∧ n = .int .i64 (((S.data.toList.take k).count 10 : Nat) : Int)) (fun _ i => S.size - (intOf i).toNat)
        case atStart => exact ⟨0, Nat.zero_le _, rfl, rfl⟩
        case round =>
          obtain ⟨k, hk, rfl, rfl⟩ := hrel
          have hck : (S.data.toList.take k).count 10 ≤ k := Nat.le_trans List.count_le_length (by rw [List.length_take]; omega)
          obtain ⟨q, hq⟩ : ∃ q, q = (S.data.toList.take k).count 10 := ⟨_, rfl⟩
          rw [← hq] at hck ⊢
          have HQ := Lib.hid hq
          clear hq
          by_cases hlt : k < S.size
          · have hki : (k : Int) < (S.size : Int) := by omega
            have hup := count_at (byte_at hlt)
            rw [← HQ.out] at hup
            have HU := Lib.hid hup
            clear hup
            by_cases h10 : S[k] = 10
            · have he : ((S[k].toNat : Int) == 10) = true := by rw [h10]; rfl
              have HU1 := Lib.hid (show (S.data.toList.take (k + 1)).count 10 = q + 1 by rw [HU.out, if_pos h10])
              clear h10
              go_wp2_with fail
              go_round
              case rel => exact ⟨k + 1, by omega, by go_num, by rw [HU1.out]; go_num⟩
              case measure => simp [intOf]; omega
            · have he : ((S[k].toNat : Int) == 10) = false := by
                rw [beq_eq_false_iff_ne]
                intro h
                apply h10
                have h2 : S[k].toNat = 10 := by omega
                exact UInt8.toNat_inj.1 h2
              have HU1 := Lib.hid (show (S.data.toList.take (k + 1)).count 10 = q by rw [HU.out, if_neg h10]; omega)
              clear h10
              go_wp2_with fail
              go_round
              case rel => exact ⟨k + 1, by omega, by go_num, by rw [HU1.out]⟩
              case measure => simp [intOf]; omega
          · obtain rfl : k = S.size := by omega
            have hall : q = 1 + f.blocks.length + Ir.count f.blocks := by
              rw [HQ.out, List.take_of_length_le (by rw [bytes_length]; exact Nat.le_refl _)]
              exact HS.out.1
            have HQ2 := Lib.hid hall
            have hbl : (f.blocks.length : Int) ≤ 5000 := by have := HS.out.2.2.2.2; omega
            clear hall hck hk
            go_wp2_with fail
            go_loop [9, 10] (fun n i => ∃ k : Nat, k ≤ f.blocks.length ∧ i = .int .i64 (k : Int) ∧ n = .int .i64 ((1 + f.blocks.length + Ir.count (f.blocks.take k) : Nat) : Int)) (fun _ i => f.blocks.length - (intOf i).toNat)
            case atStart => exact ⟨0, Nat.zero_le _, rfl, by simp [Ir.count]⟩
            case round =>
              obtain ⟨j, hj, rfl, rfl⟩ := hrel
              have hcj : 1 + f.blocks.length + Ir.count (f.blocks.take j) ≤ 10000 := by have := Ir.count_take f.blocks j; have := HS.out.2.2.2.2; omega
              obtain ⟨n, hn⟩ : ∃ n, n = 1 + f.blocks.length + Ir.count (f.blocks.take j) := ⟨_, rfl⟩
              rw [← hn] at hcj ⊢
              have HN := Lib.hid hn
              clear hn
              by_cases hlt : j < f.blocks.length
              · have hji : (j : Int) < (f.blocks.length : Int) := by omega
                obtain ⟨b, hb⟩ : ∃ b, f.blocks[j]? = some b := ⟨_, List.getElem?_eq_getElem hlt⟩
                obtain ⟨bl, off, D, cbp, rfl, l1, d1, -⟩ := (HV.out.1.below HB3.out.1).at hb
                have hbi : b.length ≤ 5000 := by have := Ir.count_up hb; have := Ir.count_take f.blocks (j + 1); have := HS.out.2.2.2.2; omega
                have HNX := Lib.hid (show 1 + f.blocks.length + Ir.count (f.blocks.take (j + 1)) = n + b.length by rw [Ir.count_up hb, HN.out]; omega)
                clear hb
                go_wp2_with fail
                go_round
                case rel => exact ⟨j + 1, by omega, by go_num, by rw [HNX.out]; go_num⟩
                case measure => simp [intOf]; omega
              · obtain rfl : j = f.blocks.length := by omega
                have hnq : n = q := by rw [HN.out, HQ2.out, List.take_of_length_le (Nat.le_refl _)]
                have hex := HS.out.2.1
                have h5 : (5 : Int) ≤ (S.size : Int) := by have := HS.out.2.2.2.1; omega
                subst hnq
                have hself : ((n : Int) == (n : Int)) = true := beq_self_eq_true _
                clear hcj hj
                go_wp2_with fail
                go_ret
                exact ⟨rfl, HB3.out.2⟩
      · have hne : (E != 0) = true := by simpa using h0
        have hSe : S = ⟨#[]⟩ := by rw [HES.out.2]; unfold Tx.pr; rw [← HES.out.1, if_neg h0]; rfl
        subst hSe
        clear h0
        go_wp2_with fail
        go_ret
        exact ⟨rfl, HB3.out.2⟩
end Go.Proofs.YtbmajjeiggfngaaDoor
