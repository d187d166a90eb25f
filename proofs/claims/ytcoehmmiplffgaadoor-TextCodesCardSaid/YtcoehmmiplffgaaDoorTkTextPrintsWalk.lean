/- The walk of TextPrints: true of any function. -/
import Derived.Test.YtcoehmmiplffgaaDoorTkTextOneWalk
import Derived.Test.YtcoehmmiplffgaaDoorTkE
namespace Go.Proofs.YtcoehmmiplffgaaDoor
open Go.ChangeShapes Go.WideShapes Go.RowKit Go.Deep

theorem LightT.light {bs : List (List Ir.In)} (h : LightT bs) : Light bs :=
  ⟨by have := h.blocks; omega, by have := h.count; omega, fun b hb x hx => ⟨by have := (h.ins b hb x hx).1; omega, by have := (h.ins b hb x hx).2; omega⟩⟩
theorem mem_count {bs : List (List Ir.In)} {b : List Ir.In} (hb : b ∈ bs) : b.length ≤ Ir.count bs := by
  obtain ⟨j, hj, rfl⟩ := List.mem_iff_getElem.1 hb
  have h1 := Ir.count_up (List.getElem?_eq_getElem hj)
  have h2 := Ir.count_take bs (j + 1)
  omega
theorem LightT.sized {bs : List (List Ir.In)} (h : LightT bs) : Sized bs :=
  ⟨by have := h.blocks; omega, fun b hb => ⟨by have := mem_count hb; have := h.count; omega, fun x hx => by have := (h.ins b hb x hx).1; omega⟩⟩

set_option maxRecDepth 100000 in
set_option maxHeartbeats 8000000 in
theorem prints_walk (f : Ir.Fu) (bv : Value) (w : World) (hv : Blks w bv f.blocks) (hp : -9223372036854775808 ≤ f.params ∧ f.params ≤ 9223372036854775807) (hr : -9223372036854775808 ≤ f.regs ∧ f.regs ≤ 9223372036854775807) (hw : Rdy w) :
    Calls Tryd.prog 4 #[FuV f bv] w fun e w' => e = .returned (.bool true) ∧ Below w.heap.size w w' := by
  obtain ⟨A, cap, hbv⟩ := hv.form
  subst hbv
  have hb1 : Below w.heap.size w (w.alloc (.cells #[.string f.name, .int .i64 f.params, .int .i64 f.regs, .slice A f.blocks.length cap] 24)) := (Below.refl _ _).alloc (Nat.le_refl _) _
  have hbox := Blk.new w 24 #[.string f.name, .int .i64 f.params, .int .i64 f.regs, .slice A f.blocks.length cap]
  obtain ⟨c0, c1, c2, c3⟩ := cells4 hbox
  have HV := Lib.hid (And.intro (hv.below hb1) (And.intro hp (And.intro hr (And.intro (hw.below hb1) (And.intro hbox hb1)))))
  clear hb1 hbox hv hp hr hw
  go_enter Tryd.func4, Tryd.ntmps4
  go_upto_region 1 with fail
  generalize w.alloc (.cells #[.string f.name, .int .i64 f.params, .int .i64 f.regs, .slice A f.blocks.length cap] 24) = w1 at *
  go_wp2_with fail
  refine (heavyT_any _ f.blocks w1 HV.out.1).mono ?_
  rintro e w2 ⟨h, rfl, rfl, hl⟩
  cases h with
  | true =>
    go_wp2_with fail
    go_ret
    exact ⟨rfl, HV.out.2.2.2.2.2⟩
  | false =>
    have HL := Lib.hid (hl rfl)
    clear hl
    by_cases hn : 256 < f.name.size
    · have hn' : (256 : Int) < (f.name.size : Int) := by omega
      clear hn
      go_wp2_with fail
      go_ret
      exact ⟨rfl, HV.out.2.2.2.2.2⟩
    · have hn' : (f.name.size : Int) ≤ 256 := by omega
      have hsm := HL.out.smalR HV.out.1
      have HSM := Lib.hid hsm
      obtain ⟨E, hE⟩ : ∃ E, E = Tx.prE false (cdOf f) := ⟨_, rfl⟩
      obtain ⟨S, hS⟩ : ∃ S, S = Tx.mkB (Tx.pr false (cdOf f)) := ⟨_, rfl⟩
      obtain ⟨K, hK⟩ : ∃ K, K = Ir.check f := ⟨_, rfl⟩
      have HP := Lib.hid (show Calls Tryd.prog 14 #[FuV f (.slice A f.blocks.length cap)] w1 fun e w' => e = .returned (.tuple #[.string S, .int .i64 E]) ∧ Below w1.heap.size w1 w' from by
        rw [hE, hS]
        exact print_any f _ w1 HV.out.1 hsm (by omega) HV.out.2.1 HV.out.2.2.1 HV.out.2.2.2.1.prw)
      have HQ := Lib.hid (show ∀ w2, Below w1.heap.size w1 w2 → Calls Tryd.prog 10 #[FuV f (.slice A f.blocks.length cap)] w2 fun e w' => e = .returned (.tuple #[.string S, .int .i64 E]) ∧ Below w2.heap.size w2 w' from fun w2 hb => by
        rw [hE, hS]
        exact rPrint_any f _ w2 (HV.out.1.below hb) hsm (by omega) HV.out.2.1 HV.out.2.2.1)
      have HC := Lib.hid (show ∀ w2, Below w1.heap.size w1 w2 → Calls Tryd.prog 15 #[FuV f (.slice A f.blocks.length cap)] w2 fun e w' => e = .returned (.int .i64 K) ∧ Below w2.heap.size w2 w' from fun w2 hb => by
        rw [hK]
        exact rcheck_any f A cap w2 (HV.out.1.below hb) HL.out.light)
      have HES := Lib.hid (And.intro hE (And.intro hS hK))
      clear hn hsm hE hS hK
      go_wp2_with fail
      refine HP.out.mono ?_
      rintro e w2 ⟨rfl, hb2⟩
      obtain ⟨k0, k1, k2, k3⟩ := cells4 (HV.out.2.2.2.2.1.older hb2 HV.out.2.2.2.2.1.lt)
      have HQ2 := Lib.hid (HQ.out w2 hb2)
      have HB2 := Lib.hid hb2
      clear hb2 HQ HP c0 c1 c2 c3
      go_wp2_with fail
      refine HQ2.out.mono ?_
      rintro e w3 ⟨rfl, hb3⟩
      have hb13 : Below w1.heap.size w1 w3 := HB2.out.trans (hb3.mono HB2.out.size)
      have hbox3 := HV.out.2.2.2.2.1.older hb13 HV.out.2.2.2.2.1.lt
      obtain ⟨m0, m1, m2, m3⟩ := cells4 hbox3
      have HB3 := Lib.hid hb13
      have HC3 := Lib.hid (HC.out w3 hb13)
      have hEE : (E != E) = false := by simp
      clear hb13 hbox3 hb3 k0 k1 k2 k3 HQ2 HC HB2
      go_wp2_with fail
      refine HC3.out.mono ?_
      rintro e w4 ⟨rfl, hb4⟩
      have hb14 : Below w1.heap.size w1 w4 := HB3.out.trans (hb4.mono HB3.out.size)
      obtain ⟨n0, n1, n2, n3⟩ := cells4 (HV.out.2.2.2.2.1.older hb14 HV.out.2.2.2.2.1.lt)
      have HB4 := Lib.hid (And.intro hb14 (HV.out.2.2.2.2.2.trans (hb14.mono HV.out.2.2.2.2.2.size)))
      clear hb14 hb4 m0 m1 m2 m3 HC3 hEE HB3
      by_cases hk : K = 0
      · obtain ⟨p0, pb⟩ := Tx.may_prints (HES.out.2.2.symm.trans hk)
        have hE0 : E = 0 := HES.out.1.trans p0
        have hSl : S.data.toList = Tx.prW false (cdOf f) := by rw [HES.out.2.1, Tx.list_mkB]; unfold Tx.pr; rw [if_pos p0]
        have hsz : S.size ≤ 200000 := by rw [← bytes_length, hSl]; exact pr_short HL.out p0
        obtain ⟨g, n, E2, hg, hn2, hE2, hpp, -⟩ := parses_two S (by omega)
        rw [hSl, Tx.parse_back p0, pb] at hg hn2 hE2
        obtain rfl : g = f := hg
        obtain rfl : n = 0 := hn2
        obtain rfl : E2 = 0 := hE2
        have HPA := Lib.hid (hpp w4 (HV.out.2.2.2.1.below HB4.out.1))
        have hszi : (S.size : Int) ≤ 200000 := by omega
        subst hk
        subst hE0
        clear p0 pb hSl hsz hpp
        go_wp2_with fail
        refine HPA.out.mono ?_
        rintro e w5 ⟨hb5, gv, rfl, hF⟩
        obtain ⟨B, cbp, rfl⟩ := hF.blks.form
        have hbA : Below w5.heap.size w5 (w5.alloc (.cells #[.string g.name, .int .i64 g.params, .int .i64 g.regs, .slice B g.blocks.length cbp] 24)) := (Below.refl _ _).alloc (Nat.le_refl _) _
        have h46 := hb5.trans (hbA.mono hb5.size)
        have h16 := HB4.out.1.trans (h46.mono HB4.out.1.size)
        have hx := Blk.new w5 24 #[.string g.name, .int .i64 g.params, .int .i64 g.regs, .slice B g.blocks.length cbp]
        obtain ⟨k0, k1, k2, k3⟩ := cells4 (HV.out.2.2.2.2.1.older h16 HV.out.2.2.2.2.1.lt)
        obtain ⟨m0, m1, m2, m3⟩ := cells4 hx
        have HS := Lib.hid (samefunc_any g (.slice A g.blocks.length cap) (.slice B g.blocks.length cbp) _ (HV.out.1.below h16) (hF.blks.below hbA) HL.out.sized)
        have HB6 := Lib.hid (HV.out.2.2.2.2.2.trans (h16.mono HV.out.2.2.2.2.2.size))
        clear hx hbA hb5 hF h46 h16 n0 n1 n2 n3
        go_upto_region 10 with fail
        generalize w5.alloc (.cells #[.string g.name, .int .i64 g.params, .int .i64 g.regs, .slice B g.blocks.length cbp] 24) = w6 at *
        have HS' := Lib.hid (show Calls Tryd.prog 13 #[.agg #[.string g.name, .int .i64 g.params, .int .i64 g.regs, .slice A g.blocks.length cap], .agg #[.string g.name, .int .i64 g.params, .int .i64 g.regs, .slice B g.blocks.length cbp]] w6 _ from HS.out)
        go_wp2_with (go_at_call 13; (with_reducible refine HS'.out.mono ?_); rintro e w7 ⟨rfl, hb7⟩; have HB7 := Lib.hid hb7; clear hb7)
        go_ret
        exact ⟨rfl, HB6.out.trans (HB7.out.mono HB6.out.size)⟩
      · have hkn : (K != 0) = true := by simpa using hk
        clear hk
        by_cases h0 : E = 0
        · subst h0
          go_wp2_with fail
          go_ret
          exact ⟨rfl, HB4.out.2⟩
        · have hne : (E == 0) = false := by simpa using h0
          have hSe : S = ⟨#[]⟩ := by rw [HES.out.2.1]; unfold Tx.pr; rw [← HES.out.1, if_neg h0]; rfl
          subst hSe
          clear h0
          go_wp2_with fail
          go_ret
          exact ⟨rfl, HB4.out.2⟩
end Go.Proofs.YtcoehmmiplffgaaDoor
