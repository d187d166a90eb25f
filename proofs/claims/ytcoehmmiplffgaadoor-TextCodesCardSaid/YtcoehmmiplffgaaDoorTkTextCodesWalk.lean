/- The walk of TextCodes: true of any code. -/
import Derived.Test.YtcoehmmiplffgaaDoorTkTextPrintsWalk
import Derived.Test.YtcoehmmiplffgaaDoorTextPrintC
import Derived.Test.YtcoehmmiplffgaaDoorTextCodeOpen
namespace Go.Proofs.YtcoehmmiplffgaaDoor
open Go.ChangeShapes Go.WideShapes Go.RowKit Go.Deep

theorem shp_true (op : Int) : Tx.shp op true ≠ 5 := by
  unfold Tx.shp
  repeat' split
  all_goals first | decide | simp_all
theorem mk_args0 {k : Nat} (op : Int) (vs : List Tx.Pt) (h : k ≠ 5) : (Tx.mk k op vs).args = [] := by
  unfold Tx.mk
  split <;> first | rfl | exact absurd rfl h
theorem count_map (g : Ir.In → Ir.In) : ∀ bs : List (List Ir.In), Ir.count (bs.map fun b => b.map g) = Ir.count bs
  | [] => rfl
  | b :: bs => by
    show (b.map g).length + _ = b.length + _
    rw [List.length_map]
    exact congrArg _ (count_map g bs)
theorem bare_small {c : Tx.Cd} {s : List UInt8} (h : (Tx.parse true s).2.2 = Tx.bare true c) : Small 5000 (Tx.bare true c).blocks := fun b hb x hx => by
  refine ⟨?_, ?_⟩
  · obtain ⟨b0, -, rfl⟩ := List.mem_map.1 hb
    obtain ⟨x0, -, rfl⟩ := List.mem_map.1 hx
    unfold Tx.bareI
    rw [mk_args0 _ _ (shp_true _)]
    exact Nat.zero_le _
  · have h1 := (parse_small true s).2.2
    rw [h] at h1
    exact (h1 b hb x hx).2
theorem pcode_ok {S : ByteArray} {d : Tx.Cd} {w : World} (hs : S.size ≤ 990000) (hr : Rdy w) (h : Tx.parse true S.data.toList = (0, 0, d)) :
    Calls Tryd.prog 18 #[.string S] w fun e w' => Below w.heap.size w w' ∧ ∃ gv, e = .returned (.tuple #[CdV d gv, .int .i64 0, .int .i64 0]) ∧ Blks w' gv d.blocks := by
  have := ParseCode_any S w hs hr
  rw [h] at this
  refine this.mono ?_
  rintro e w2 ⟨hb2, gv, rfl, hF⟩
  exact ⟨hb2, gv, rfl, hF.blks⟩

set_option maxRecDepth 100000 in
set_option maxHeartbeats 8000000 in
theorem codes_walk (c : Tx.Cd) (bv : Value) (w : World) (hv : Blks w bv c.blocks) (hp : -9223372036854775808 ≤ c.params ∧ c.params ≤ 9223372036854775807) (hr : -9223372036854775808 ≤ c.regs ∧ c.regs ≤ 9223372036854775807) (hq : -9223372036854775808 ≤ c.slots ∧ c.slots ≤ 9223372036854775807) (hw : Rdy w) :
    Calls Tryd.prog 5 #[CdV c bv] w fun e w' => e = .returned (.bool true) ∧ Below w.heap.size w w' := by
  obtain ⟨A, cap, hbv⟩ := hv.form
  subst hbv
  have hb1 : Below w.heap.size w (w.alloc (.cells (CdC c (.slice A c.blocks.length cap)) 37)) := (Below.refl _ _).alloc (Nat.le_refl _) _
  have hbox := Blk.new w 37 (CdC c (.slice A c.blocks.length cap))
  obtain ⟨c0, c1, c2, c3, c4⟩ := cells5 hbox
  have HV := Lib.hid (And.intro (hv.below hb1) (And.intro hp (And.intro hr (And.intro (hw.below hb1) (And.intro hbox (And.intro hb1 hq))))))
  clear hb1 hbox hv hp hr hw hq
  go_enter Tryd.func5, Tryd.ntmps5
  go_upto_region 1 with fail
  generalize w.alloc (.cells #[.string c.name, .int .i64 c.params, .int .i64 c.regs, .int .i64 c.slots, .slice A c.blocks.length cap] 37) = w1 at *
  go_wp2_with fail
  refine (heavyT_any _ c.blocks w1 HV.out.1).mono ?_
  rintro e w2 ⟨h, rfl, rfl, hl⟩
  cases h with
  | true =>
    go_wp2_with fail
    go_ret
    exact ⟨rfl, HV.out.2.2.2.2.2.1⟩
  | false =>
    have HL := Lib.hid (hl rfl)
    clear hl
    by_cases hn : 256 < c.name.size
    · have hn' : (256 : Int) < (c.name.size : Int) := by omega
      clear hn
      go_wp2_with fail
      go_ret
      exact ⟨rfl, HV.out.2.2.2.2.2.1⟩
    · have hn' : (c.name.size : Int) ≤ 256 := by omega
      have hsm := HL.out.smalR HV.out.1
      have h64 : In64c c := ⟨by omega, HV.out.2.1, HV.out.2.2.1, HV.out.2.2.2.2.2.2⟩
      obtain ⟨E, hE⟩ : ∃ E, E = Tx.prE true c := ⟨_, rfl⟩
      obtain ⟨S, hS⟩ : ∃ S, S = Tx.mkB (Tx.pr true c) := ⟨_, rfl⟩
      have HP := Lib.hid (show Calls Tryd.prog 16 #[CdV c (.slice A c.blocks.length cap)] w1 fun e w' => e = .returned (.tuple #[.string S, .int .i64 E]) ∧ Below w1.heap.size w1 w' from by
        rw [hE, hS]
        exact printc_any c _ w1 HV.out.1 hsm h64 HV.out.2.2.2.1.prw)
      have HQ := Lib.hid (show ∀ w2, Below w1.heap.size w1 w2 → Calls Tryd.prog 17 #[CdV c (.slice A c.blocks.length cap)] w2 fun e w' => e = .returned (.tuple #[.string S, .int .i64 E]) ∧ Below w2.heap.size w2 w' from fun w2 hb => by
        rw [hE, hS]
        exact rPrintC_any c _ w2 (HV.out.1.below hb) hsm h64)
      have HES := Lib.hid (And.intro hE (And.intro hS h64))
      clear hn hsm hE hS h64
      go_wp2_with fail
      refine HP.out.mono ?_
      rintro e w2 ⟨rfl, hb2⟩
      obtain ⟨k0, k1, k2, k3, k4⟩ := cells5 (HV.out.2.2.2.2.1.older hb2 HV.out.2.2.2.2.1.lt)
      have HQ2 := Lib.hid (HQ.out w2 hb2)
      have HB2 := Lib.hid hb2
      clear hb2 HQ HP c0 c1 c2 c3 c4
      go_wp2_with fail
      refine HQ2.out.mono ?_
      rintro e w3 ⟨rfl, hb3⟩
      have hb13 : Below w1.heap.size w1 w3 := HB2.out.trans (hb3.mono HB2.out.size)
      have HB3 := Lib.hid (And.intro hb13 (HV.out.2.2.2.2.2.1.trans (hb13.mono HV.out.2.2.2.2.2.1.size)))
      have hEE : (E != E) = false := by simp
      clear hb13 hb3 k0 k1 k2 k3 k4 HQ2 HB2
      by_cases h0 : E = 0
      · have p0 : Tx.prE true c = 0 := HES.out.1.symm.trans h0
        have hSl : S.data.toList = Tx.prW true c := by rw [HES.out.2.1, Tx.list_mkB]; unfold Tx.pr; rw [if_pos p0]
        have hsz : S.size ≤ 200000 := by rw [← bytes_length, hSl]; exact pr_short HL.out p0
        have hpb : Tx.parse true S.data.toList = (0, 0, Tx.bare true c) := by rw [hSl]; exact Tx.parse_back p0
        obtain ⟨d, hd⟩ : ∃ d, d = Tx.bare true c := ⟨_, rfl⟩
        have hds : Small 5000 d.blocks := by rw [hd]; exact bare_small (s := S.data.toList) (by rw [hpb])
        have hdc : d.blocks.length + Ir.count d.blocks ≤ 5000 := by
          rw [hd]
          show (c.blocks.map fun b => b.map (Tx.bareI true)).length + Ir.count (c.blocks.map fun b => b.map (Tx.bareI true)) ≤ 5000
          rw [List.length_map, count_map]
          have := HL.out.blocks
          have := HL.out.count
          omega
        have hd64 : In64c d := by
          rw [hd]
          obtain ⟨q1, q2, q3, q4⟩ := HES.out.2.2
          exact ⟨q1, q2, q3, q4⟩
        rw [← hd] at hpb
        have hpr : Tx.prE true d = 0 ∧ Tx.mkB (Tx.pr true d) = S := by
          have hok := Tx.parse_ok (code := true) (s := S.data.toList) (by rw [hpb])
          rw [hpb] at hok
          refine ⟨hok.1, ?_⟩
          unfold Tx.pr
          rw [if_pos hok.1, hok.2.1, Tx.mkB_list]
        have HPA := Lib.hid (pcode_ok (by omega) (HV.out.2.2.2.1.below HB3.out.1) hpb)
        have HPC := Lib.hid (show ∀ (u : Value) (W : World), Blks W u d.blocks → PrWorld W → Calls Tryd.prog 16 #[CdV d u] W fun e w' => e = .returned (.tuple #[.string S, .int .i64 0]) ∧ Below W.heap.size W w' from fun u W hu hW => by
          have := printc_any d u W hu (smalR_of hdc hds hu) hd64 hW
          unfold PrPost at this
          rw [hpr.1, hpr.2] at this
          exact this)
        subst h0
        clear p0 hSl hsz hpb hd hds hdc hd64 hpr
        go_wp2_with fail
        refine HPA.out.mono ?_
        rintro e w5 ⟨hb5, gv, rfl, hF⟩
        obtain ⟨B, cbp, rfl⟩ := hF.form
        have hbA : Below w5.heap.size w5 (w5.alloc (.cells (CdC d (.slice B d.blocks.length cbp)) 37)) := (Below.refl _ _).alloc (Nat.le_refl _) _
        have h36 := hb5.trans (hbA.mono hb5.size)
        have h16 := HB3.out.1.trans (h36.mono HB3.out.1.size)
        obtain ⟨m0, m1, m2, m3, m4⟩ := cells5 (Blk.new w5 37 (CdC d (.slice B d.blocks.length cbp)))
        have HS := Lib.hid (HPC.out (.slice B d.blocks.length cbp) _ (hF.below hbA) (HV.out.2.2.2.1.below h16).prw)
        have HB6 := Lib.hid (HV.out.2.2.2.2.2.1.trans (h16.mono HV.out.2.2.2.2.2.1.size))
        clear hbA hb5 hF h36 h16 HPC HPA
        go_upto_region 10 with fail
        generalize w5.alloc (.cells #[.string d.name, .int .i64 d.params, .int .i64 d.regs, .int .i64 d.slots, .slice B d.blocks.length cbp] 37) = w6 at *
        go_wp2_with fail
        refine HS.out.mono ?_
        rintro e w7 ⟨rfl, hb7⟩
        have HB7 := Lib.hid (HB6.out.trans (hb7.mono HB6.out.size))
        clear hb7 m0 m1 m2 m3 m4
        go_wp2_with fail
        go_ret
        exact ⟨rfl, HB7.out⟩
      · have hne : (E != 0) = true := by simpa using h0
        have hSe : S = ⟨#[]⟩ := by rw [HES.out.2.1]; unfold Tx.pr; rw [← HES.out.1, if_neg h0]; rfl
        subst hSe
        clear h0
        go_wp2_with fail
        go_ret
        exact ⟨rfl, HB3.out.2⟩
end Go.Proofs.YtcoehmmiplffgaaDoor
