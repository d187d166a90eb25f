/- The walk of TextBehind: true of any function and any text behind it. -/
import Derived.Test.YtcoehmmiplffgaaDoorTkTextPrintsWalk
namespace Go.Proofs.YtcoehmmiplffgaaDoor
open Go.ChangeShapes Go.WideShapes Go.RowKit Go.Deep

theorem parse_nil_at (code : Bool) : (Tx.parse code []).1 = 80 ∧ (Tx.parse code []).2.1 = 1 := by
  unfold Tx.parse
  rw [if_pos rfl]
  exact ⟨rfl, rfl⟩

set_option maxRecDepth 100000 in
set_option maxHeartbeats 8000000 in
theorem behind_walk (f : Ir.Fu) (bv : Value) (more : ByteArray) (w : World) (hv : Blks w bv f.blocks) (hp : -9223372036854775808 ≤ f.params ∧ f.params ≤ 9223372036854775807) (hr : -9223372036854775808 ≤ f.regs ∧ f.regs ≤ 9223372036854775807) (_hm : more.size ≤ maxLen) (hw : Rdy w) :
    Calls Tryd.prog 3 #[FuV f bv, .string more] w fun e w' => e = .returned (.bool true) ∧ Below w.heap.size w w' := by
  obtain ⟨A, cap, hbv⟩ := hv.form
  subst hbv
  have hb1 : Below w.heap.size w (w.alloc (.cells #[.string f.name, .int .i64 f.params, .int .i64 f.regs, .slice A f.blocks.length cap] 24)) := (Below.refl _ _).alloc (Nat.le_refl _) _
  have hbox := Blk.new w 24 #[.string f.name, .int .i64 f.params, .int .i64 f.regs, .slice A f.blocks.length cap]
  obtain ⟨c0, c1, c2, c3⟩ := cells4 hbox
  have HV := Lib.hid (And.intro (hv.below hb1) (And.intro hp (And.intro hr (And.intro (hw.below hb1) (And.intro hbox hb1)))))
  clear hb1 hbox hv hp hr hw
  go_enter Tryd.func3, Tryd.ntmps3
  go_upto_region 1 with fail
  generalize w.alloc (.cells #[.string f.name, .int .i64 f.params, .int .i64 f.regs, .slice A f.blocks.length cap] 24) = w1 at *
  go_wp2_with fail
  refine (heavyT_any _ f.blocks w1 HV.out.1).mono ?_
  rintro e w2 ⟨h, rfl, rfl, hl⟩
  cases h with
  | true =>
    go_wp2_with fail
    go_ret
    exact ⟨rfl, HV.out.2.2.2.2.2⟩
  | false =>
    have HL := Lib.hid (hl rfl)
    clear hl
    by_cases hn : 256 < f.name.size
    · have hn' : (256 : Int) < (f.name.size : Int) := by omega
      clear hn
      go_wp2_with fail
      go_ret
      exact ⟨rfl, HV.out.2.2.2.2.2⟩
    · have hn' : (f.name.size : Int) ≤ 256 := by omega
      by_cases hm : 256 < more.size
      · have hm' : (256 : Int) < (more.size : Int) := by omega
        clear hn hm
        go_wp2_with fail
        go_ret
        exact ⟨rfl, HV.out.2.2.2.2.2⟩
      · have hm' : (more.size : Int) ≤ 256 := by omega
        have hsm := HL.out.smalR HV.out.1
        obtain ⟨E, hE⟩ : ∃ E, E = Tx.prE false (cdOf f) := ⟨_, rfl⟩
        obtain ⟨S, hS⟩ : ∃ S, S = Tx.mkB (Tx.pr false (cdOf f)) := ⟨_, rfl⟩
        have HQ := Lib.hid (show Calls Tryd.prog 10 #[FuV f (.slice A f.blocks.length cap)] w1 fun e w' => e = .returned (.tuple #[.string S, .int .i64 E]) ∧ Below w1.heap.size w1 w' from by
          rw [hE, hS]
          exact rPrint_any f _ w1 HV.out.1 hsm (by omega) HV.out.2.1 HV.out.2.2.1)
        have HES := Lib.hid (And.intro hE hS)
        have HLC := Lib.hid (show f.blocks.length ≤ 50 ∧ Ir.count f.blocks ≤ 300 from ⟨HL.out.blocks, HL.out.count⟩)
        clear hn hsm hE hS hm
        go_wp2_with fail
        refine HQ.out.mono ?_
        rintro e w2 ⟨rfl, hb2⟩
        have HB2 := Lib.hid hb2
        clear hb2 HQ
        by_cases h0 : E = 0
        · have hE0 : Tx.prE false (cdOf f) = 0 := by rw [← HES.out.1]; exact h0
          have hSl : S.data.toList = Tx.prW false (cdOf f) := by rw [HES.out.2, Tx.list_mkB]; unfold Tx.pr; rw [if_pos hE0]
          have hsz : S.size ≤ 200000 := by rw [← bytes_length, hSl]; exact pr_short HL.out hE0
          have hap : (S ++ more).data.toList = Tx.prW false (cdOf f) ++ more.data.toList := by rw [← hSl]; simp
          have hsa : (S ++ more).size ≤ 990000 := by rw [← bytes_length, hap, List.length_append, ← hSl, bytes_length, bytes_length]; omega
          have hszi : (S.size : Int) + (more.size : Int) ≤ 200256 := by omega
          obtain ⟨g, n, E2, hg, hn2, hE2, hpp, hqq⟩ := parses_two (S ++ more) hsa
          have HZ := Lib.hid (show Sized g.blocks by rw [hg]; exact sized_of false (S ++ more).data.toList (by rw [bytes_length]; exact hsa))
          have HN := Lib.hid (show E2 ≠ 0 → ((1 + f.blocks.length + Ir.count f.blocks : Nat) : Int) < n from fun hne => by
            rw [hap] at hn2 hE2
            rw [hn2]
            rw [hE2] at hne
            exact Int.ofNat_lt.2 (Tx.parse_line (c := cdOf f) hE0 hne))
          have HPA := Lib.hid (hpp w2 (HV.out.2.2.2.1.below HB2.out))
          have HQA := Lib.hid hqq
          subst h0
          clear hE0 hSl hsz hap hsa hg hn2 hE2 hpp hqq
          go_wp2_with fail
          refine HPA.out.mono ?_
          rintro e w3 ⟨hb3, gv, rfl, hF⟩
          obtain ⟨B, cbp, rfl⟩ := hF.blks.form
          have hbA : Below w3.heap.size w3 (w3.alloc (.cells #[.string g.name, .int .i64 g.params, .int .i64 g.regs, .slice B g.blocks.length cbp] 24)) := (Below.refl _ _).alloc (Nat.le_refl _) _
          have hx := Blk.new w3 24 #[.string g.name, .int .i64 g.params, .int .i64 g.regs, .slice B g.blocks.length cbp]
          have h24 := hb3.trans (hbA.mono hb3.size)
          have HB := Lib.hid (And.intro hx (And.intro (HB2.out.trans (h24.mono HB2.out.size)) (hF.blks.below hbA)))
          clear hx hbA hb3 hF h24
          go_upto_region 8 with fail
          generalize w3.alloc (.cells #[.string g.name, .int .i64 g.params, .int .i64 g.regs, .slice B g.blocks.length cbp] 24) = w4 at *
          go_wp2_with fail
          refine (HQA.out w4).mono ?_
          rintro e w5 ⟨hb5, gv2, rfl, hF2⟩
          obtain ⟨D, cdp, rfl⟩ := hF2.blks.form
          have hbA : Below w5.heap.size w5 (w5.alloc (.cells #[.string g.name, .int .i64 g.params, .int .i64 g.regs, .slice D g.blocks.length cdp] 24)) := (Below.refl _ _).alloc (Nat.le_refl _) _
          have h46 := hb5.trans (hbA.mono hb5.size)
          have hx := Blk.new w5 24 #[.string g.name, .int .i64 g.params, .int .i64 g.regs, .slice D g.blocks.length cdp]
          have h16 := HB.out.2.1.trans (h46.mono HB.out.2.1.size)
          obtain ⟨k0, k1, k2, k3⟩ := cells4 (HB.out.1.older h46 HB.out.1.lt)
          obtain ⟨m0, m1, m2, m3⟩ := cells4 hx
          obtain ⟨n0, n1, n2, n3⟩ := cells4 (HV.out.2.2.2.2.1.older h16 HV.out.2.2.2.2.1.lt)
          have HS := Lib.hid (samefunc_any g (.slice B g.blocks.length cbp) (.slice D g.blocks.length cdp) _ (HB.out.2.2.below h46) (hF2.blks.below hbA) HZ.out)
          have HB6 := Lib.hid (And.intro (HV.out.2.2.2.2.2.trans (h16.mono HV.out.2.2.2.2.2.size)) (HV.out.1.below h16))
          clear hx hbA hb5 hF2 h46 h16 c0 c1 c2 c3
          go_upto_region 9 with fail
          generalize w5.alloc (.cells #[.string g.name, .int .i64 g.params, .int .i64 g.regs, .slice D g.blocks.length cdp] 24) = w6 at *
          have hbl : (f.blocks.length : Int) ≤ 50 := by have := HLC.out; omega
          have eE : (E2 == E2) = true := by simp
          have eN : (n == n) = true := by simp
          have HS' := Lib.hid (show Calls Tryd.prog 13 #[.agg #[.string g.name, .int .i64 g.params, .int .i64 g.regs, .slice B g.blocks.length cbp], .agg #[.string g.name, .int .i64 g.params, .int .i64 g.regs, .slice D g.blocks.length cdp]] w6 _ from HS.out)
          go_wp2_with fail
          go_loop [16, 17] (fun n i => ∃ k : Nat, k ≤ f.blocks.length ∧ i = .int .i64 (k : Int) ∧ n = .int .i64 ((1 + f.blocks.length + Ir.count (f.blocks.take k) : Nat) : Int)) (fun _ i => f.blocks.length - (intOf i).toNat)
          case atStart => exact ⟨0, Nat.zero_le _, rfl, by simp [Ir.count]⟩
          case round =>
            obtain ⟨j, hj, rfl, rfl⟩ := hrel
            have hcj : 1 + f.blocks.length + Ir.count (f.blocks.take j) ≤ 10000 := by have := Ir.count_take f.blocks j; have := HLC.out; omega
            obtain ⟨q, hq⟩ : ∃ q, q = 1 + f.blocks.length + Ir.count (f.blocks.take j) := ⟨_, rfl⟩
            rw [← hq] at hcj ⊢
            have HQ2 := Lib.hid hq
            clear hq
            by_cases hlt : j < f.blocks.length
            · have hji : (j : Int) < (f.blocks.length : Int) := by omega
              obtain ⟨b, hb⟩ : ∃ b, f.blocks[j]? = some b := ⟨_, List.getElem?_eq_getElem hlt⟩
              obtain ⟨bl, off, dd, dcp, rfl, l1, d1, -⟩ := HB6.out.2.at hb
              have hbi : b.length ≤ 5000 := by have := Ir.count_up hb; have := Ir.count_take f.blocks (j + 1); have := HLC.out; omega
              have HNX := Lib.hid (show 1 + f.blocks.length + Ir.count (f.blocks.take (j + 1)) = q + b.length by rw [Ir.count_up hb, HQ2.out]; omega)
              clear hb
              go_wp2_with fail
              go_round
              case rel => exact ⟨j + 1, by omega, by go_num, by rw [HNX.out]; go_num⟩
              case measure => simp [intOf]; omega
            · obtain rfl : j = f.blocks.length := by omega
              have hnq : q = 1 + f.blocks.length + Ir.count f.blocks := by rw [HQ2.out, List.take_of_length_le (Nat.le_refl _)]
              clear hj
              by_cases hz : E2 = 0
              · subst hz
                go_wp2_with (go_at_call 13; (with_reducible refine HS'.out.mono ?_); rintro e w7 ⟨rfl, hb7⟩; have HB7 := Lib.hid hb7; clear hb7)
                go_ret
                exact ⟨rfl, HB6.out.1.trans (HB7.out.mono HB6.out.1.size)⟩
              · have hgt : (q : Int) < n := by rw [hnq]; exact HN.out hz
                have hzf : (E2 == 0) = false := by simpa using hz
                clear hz hnq
                go_wp2_with (go_at_call 13; (with_reducible refine HS'.out.mono ?_); rintro e w7 ⟨rfl, hb7⟩; have HB7 := Lib.hid hb7; clear hb7)
                go_ret
                exact ⟨rfl, HB6.out.1.trans (HB7.out.mono HB6.out.1.size)⟩
        · have hne : (E != 0) = true := by simpa using h0
          obtain ⟨g, n, E2, -, hn2, hE2, hpp, -⟩ := parses_two ⟨#[]⟩ (Nat.zero_le _)
          obtain rfl : E2 = 80 := hE2.trans (parse_nil_at false).1
          obtain rfl : n = 1 := by rw [hn2]; exact congrArg Int.ofNat (parse_nil_at false).2
          have HPA := Lib.hid (hpp w2 (HV.out.2.2.2.1.below HB2.out))
          clear h0 hn2 hE2 hpp
          go_wp2_with fail
          refine HPA.out.mono ?_
          rintro e w3 ⟨hb3, gv, rfl, hF⟩
          obtain ⟨B, cbp, rfl⟩ := hF.blks.form
          have hbA : Below w3.heap.size w3 (w3.alloc (.cells #[.string g.name, .int .i64 g.params, .int .i64 g.regs, .slice B g.blocks.length cbp] 24)) := (Below.refl _ _).alloc (Nat.le_refl _) _
          have h24 := hb3.trans (hbA.mono hb3.size)
          have h14 := HB2.out.trans (h24.mono HB2.out.size)
          have HB := Lib.hid (HV.out.2.2.2.2.2.trans (h14.mono HV.out.2.2.2.2.2.size))
          clear hbA hb3 hF h24 h14
          go_upto_region 6 with fail
          generalize w3.alloc (.cells #[.string g.name, .int .i64 g.params, .int .i64 g.regs, .slice B g.blocks.length cbp] 24) = w4 at *
          go_wp2_with fail
          go_ret
          exact ⟨rfl, HB.out⟩
end Go.Proofs.YtcoehmmiplffgaaDoor
