/- The walk of IrBlocks: true of any function. -/
import Derived.Test.YtkkbmfgkapdndaaDoorIrZero
import Derived.Deep.RegionHeld3
import Derived.Deep.RegionWith
namespace Go.Proofs.YtkkbmfgkapdndaaDoor
open Go.ChangeShapes Go.WideShapes Go.RowKit Go.Deep

/-- What an instruction of a function that may be is. -/
theorem ins_may {f : Ir.Fu} (h : May f) {k m : Nat} {b : List Ir.In} {x : Ir.In} (hb : f.blocks[k]? = some b) (hx : b[m]? = some x) :
    Ir.last x.op = decide (b.length - (m + 1) = 0) ∧ Ir.within (Ir.uses x) f.regs = true ∧ Ir.within (Ir.targets x) (f.blocks.length : Int) = true ∧ Ir.dest x < f.regs ∧ (0 < (Ir.targets x).length ∨ ¬ b.length - (m + 1) = 0 ∨ x.op = 14) := by
  obtain ⟨h1, h2, h3, h4, h5⟩ := one_zero (h.ins b (List.mem_of_getElem? hb) m x hx)
  refine ⟨h2, h4, h5, ?_, ?_⟩
  · unfold Ir.dest
    split
    · exact (h3 ‹_›).2
    · have := h.nums.1
      omega
  · by_cases he : b.length - (m + 1) = 0
    · rw [decide_eq_true he] at h2
      unfold Ir.last at h2
      rcases of_decide_eq_true h2 with h6 | h6 | h6
      · left
        unfold Ir.targets
        rw [(show Ir.fa x.op = 3 by rw [h6]; decide), if_pos rfl]
        simp
      · left
        unfold Ir.targets
        rw [(show Ir.fb x.op = 3 by rw [h6]; decide), if_pos rfl]
        simp only [List.length_append, List.length_cons]
        omega
      · exact Or.inr (Or.inr h6)
    · exact Or.inr (Or.inl he)

/-- A function's box, and one instruction of its blocks where it lies. -/
structure At (w0 : World) (bf : Nat) (f : Ir.Fu) (A : Option Addr) (cap : Nat) (bx ox : Nat) (x : Ir.In) (sl : Value) (W : World) : Prop where
  box : BoxF w0 bf f A cap W
  lt : bx < W.heap.size
  cells : W.cell? ⟨bx, ox, none⟩ = some (.int .i64 x.op) ∧ W.cell? ⟨bx, ox + 1, none⟩ = some (.int .i64 x.d) ∧ W.cell? ⟨bx, ox + 2, none⟩ = some (.int .i64 x.a) ∧ W.cell? ⟨bx, ox + 3, none⟩ = some (.int .i64 x.b) ∧ W.cell? ⟨bx, ox + 4, none⟩ = some (.string x.name) ∧ W.cell? ⟨bx, ox + 5, none⟩ = some sl
  rx : InR W (InsC x sl).toList x
theorem At.to {w0 W W' : World} {bf : Nat} {f : Ir.Fu} {A : Option Addr} {cap : Nat} {bx ox : Nat} {x : Ir.In} {sl : Value} (h : At w0 bf f A cap bx ox x sl W) (hb : Below W.heap.size W W') : At w0 bf f A cap bx ox x sl W' := by
  obtain ⟨h1, h2, ⟨x0, x1, x2, x3, x4, x5⟩, h4⟩ := h
  have hc : ∀ i v, W.cell? ⟨bx, i, none⟩ = some v → W'.cell? ⟨bx, i, none⟩ = some v := fun i v hv => (hb.cell (p := ⟨bx, i, none⟩) h2).trans hv
  exact ⟨h1.to hb, Nat.lt_of_lt_of_le h2 hb.size, ⟨hc _ _ x0, hc _ _ x1, hc _ _ x2, hc _ _ x3, hc _ _ x4, hc _ _ x5⟩, h4.below hb⟩

set_option maxRecDepth 20000 in
set_option maxHeartbeats 6400000 in
theorem blocks_walk (f : Ir.Fu) (bv : Value) (a1 a2 : Int) (w : World) (hv : Blks w bv f.blocks) (_hp : -9223372036854775808 ≤ f.params ∧ f.params ≤ 9223372036854775807) (_hr : -9223372036854775808 ≤ f.regs ∧ f.regs ≤ 9223372036854775807)
    (ha1 : 0 ≤ a1 ∧ a1 ≤ 255) (ha2 : 0 ≤ a2 ∧ a2 ≤ 255) (ht : Tbl w) :
    Calls Tryd.prog 3 #[FuV f bv, .int .u8 a1, .int .u8 a2] w fun e w' => e = .returned (.bool true) ∧ Below w.heap.size w w' := by
  obtain ⟨A, cap, rfl⟩ := hv.form
  have hB := BoxF.new hv
  obtain ⟨c0, c1, c2, c3⟩ := hB.cells
  have HB := Lib.hid hB
  have HT := Lib.hid ht
  have HA := Lib.hid (And.intro ha1 ha2)
  clear hB hv ht _hp _hr ha1 ha2
  go_enter Tryd.func3, Tryd.ntmps3
  go_upto_region 1 with fail
  generalize w.alloc (.cells #[.string f.name, .int .i64 f.params, .int .i64 f.regs, .slice A f.blocks.length cap] 24) = w1 at *
  go_wp2_with fail
  refine (heavy_any _ f.blocks w1 HB.out.blks).mono ?_
  rintro e w2 ⟨h, rfl, rfl, hl⟩
  cases h with
  | true =>
    go_wp2_with fail
    go_ret
    exact ⟨rfl, HB.out.below⟩
  | false =>
    have HL := Lib.hid (hl rfl)
    clear hl
    by_cases hn : 1024 < f.name.size
    · have hn' : (1024 : Int) < (f.name.size : Int) := by omega
      clear hn
      go_wp2_with fail
      go_ret
      exact ⟨rfl, HB.out.below⟩
    · have hn' : (f.name.size : Int) ≤ 1024 := by omega
      clear hn
      go_upto_region 3 with fail
      clear hn'
      go_wp2_with fail
      refine (check_any f A cap w1 (HT.out.below HB.out.below) HB.out.blks HL.out).mono ?_
      rintro e w2 ⟨rfl, hb2⟩
      have HB2 := Lib.hid (HB.out.to hb2)
      clear hb2 c0 c1 c2 c3 HB
      obtain ⟨c0, c1, c2, c3⟩ := HB2.out.cells
      obtain ⟨C, hC⟩ : ∃ C, C = Ir.check f := ⟨_, rfl⟩
      rw [← hC]
      have HC := Lib.hid hC
      have hne : (C != C) = false := bne_self_eq_false C
      clear hC
      go_wp2_with fail
      refine (rcheck_any f A cap w2 HB2.out.blks HL.out).mono ?_
      rintro e w3 ⟨rfl, hb3⟩
      have HB3 := Lib.hid (HB2.out.to hb3)
      clear hb3 c0 c1 c2 c3 HB2
      obtain ⟨c0, c1, c2, c3⟩ := HB3.out.cells
      rw [← HC.out]
      by_cases h0 : C = 0
      · have HM := Lib.hid (may_of (HC.out.symm.trans h0))
        subst h0
        obtain ⟨k, hk, hrem⟩ := rest_in a1 f.blocks.length HA.out.1.1 (by have := HM.out.nums.1; omega)
        obtain ⟨b, hb⟩ : ∃ b, f.blocks[k]? = some b := ⟨_, List.getElem?_eq_getElem hk⟩
        obtain ⟨m, hm, hrem2⟩ := rest_in a2 b.length HA.out.2.1 (HM.out.nums.2.1 b (List.mem_of_getElem? hb))
        obtain ⟨x, hx⟩ : ∃ x, b[m]? = some x := ⟨_, List.getElem?_eq_getElem hm⟩
        obtain ⟨bl, off, B, cbp, rfl, l1, d1, hI⟩ := HB3.out.blks.at hb
        obtain ⟨bx, ox, D, ccp, rfl, l2, ⟨x0, x1, x2, x3, x4, x5⟩, hin⟩ := hI.at hx
        have HAT := Lib.hid (show At w w.heap.size f (some ⟨bl, off, none⟩) cap bx (ox + m * 6) x (.slice D x.args.length ccp) w3 from ⟨HB3.out, l2, ⟨x0, x1, x2, x3, x4, x5⟩, hin⟩)
        obtain ⟨Lb, hLb⟩ : ∃ Lb, Lb = decide (b.length - (m + 1) = 0) := ⟨_, rfl⟩
        have hend : ((m : Int) == (b.length : Int) - 1) = Lb := (at_end hm).trans hLb.symm
        have HX := Lib.hid (ins_may HM.out hb hx)
        have hbi : (b.length : Int) ≤ 500 := by have := HL.out.count; have := count_ge hb; omega
        have hki : (k : Int) < (f.blocks.length : Int) := by omega
        have hmi : (m : Int) < (b.length : Int) := by omega
        have hlz : ¬ (f.blocks.length : Int) = 0 := by omega
        have hmz : ¬ (b.length : Int) = 0 := by omega
        have hcv1 := wrap_byte HA.out.1
        have hcv2 := wrap_byte HA.out.2
        have HLb := Lib.hid (HX.out.1.trans hLb.symm)
        have HLB := Lib.hid hLb
        have HAR := Lib.hid (show x.args.length ≤ 1048000 by have := light_args HL.out hb hx; omega)
        clear hI hin hb hx hk hm hLb
        go_upto_region 8 with fail
        go_quiet (fail)
        go_wp2_with fail
        have HQ4 := Lib.hid (HAT.out.to (Quiet.drewN w3 nq).below)
        clear c0 c1 c2 c3 d1 x0 x1 x2 x3 x4 x5 l1 l2 HB3 HAT hne hcv1 hcv2 hrem hrem2
        generalize w3.drewN nq = w4 at *
        have hself : (Lb != Lb) = false := bne_self_eq_false Lb
        refine (last_any x.op w4).mono ?_
        rintro e w5 ⟨rfl, rfl⟩
        rw [HLb.out]
        obtain ⟨⟨c0, c1, c2, c3⟩, ⟨x0, x1, x2, x3, x4, x5⟩⟩ := And.intro HQ4.out.box.cells HQ4.out.cells
        go_wp2_with fail
        refine (targets_any x (.slice D x.args.length ccp) w4 (HT.out.below HQ4.out.box.below) HQ4.out.rx).mono ?_
        rintro e w5 ⟨v5, rfl, hr5, hb5⟩
        have HN5 := Lib.hid (hr5.nums (targets_in64 HQ4.out.rx))
        have HQ5 := Lib.hid (HQ4.out.to hb5)
        clear hr5 hb5 c0 c1 c2 c3 x0 x1 x2 x3 x4 x5 HQ4
        obtain ⟨⟨c0, c1, c2, c3⟩, ⟨x0, x1, x2, x3, x4, x5⟩⟩ := And.intro HQ5.out.box.cells HQ5.out.cells
        obtain ⟨TA, tcap, rfl, -⟩ := id HN5.out
        have HWT := Lib.hid HX.out.2.2.1
        have htl : ((Ir.targets x).length : Int) ≤ 1048576 := by have := targets_len x; omega
        generalize Ir.targets x = T at *
        go_wp2_with fail
        go_loopw [11] (fun i wr => ∃ k : Nat, k ≤ T.length ∧ i = .int .i64 (k : Int) ∧ At w w.heap.size f (some ⟨bl, off, none⟩) cap bx (ox + m * 6) x (.slice D x.args.length ccp) wr ∧ Nums wr (.slice TA T.length tcap) T) (fun i _ => T.length - (intOf i).toNat)
        case atStart => exact ⟨0, Nat.zero_le _, rfl, HQ5.out, HN5.out⟩
        case round =>
          obtain ⟨i, hi, rfl, hq, hn⟩ := hrel
          have HQ6 := Lib.hid hq
          have HN6 := Lib.hid hn
          clear c0 c1 c2 c3 x0 x1 x2 x3 x4 x5 HQ5 HN5 hq hn
          obtain ⟨⟨c0, c1, c2, c3⟩, ⟨x0, x1, x2, x3, x4, x5⟩⟩ := And.intro HQ6.out.box.cells HQ6.out.cells
          by_cases hlt : i < T.length
          · have hii : (i : Int) < (T.length : Int) := by omega
            obtain ⟨t, ht⟩ : ∃ t, T[i]? = some t := ⟨_, List.getElem?_eq_getElem hlt⟩
            obtain ⟨tb, to, rfl, l1, d1⟩ := HN6.out.at ht
            obtain ⟨r1, r2⟩ := within_at HWT.out ht
            have g1 : decide (t < 0) = false := decide_eq_false (by omega)
            have g2 : decide ((f.blocks.length : Int) ≤ t) = false := decide_eq_false (by omega)
            clear ht
            go_upto_region 16 with fail
            go_quiet (fail)
            have HQ7 := Lib.hid (HQ6.out.to (Quiet.drewN wr nq).below)
            have HN7 := Lib.hid (HN6.out.below (Quiet.drewN wr nq).below)
            clear c0 c1 c2 c3 x0 x1 x2 x3 x4 x5 HQ6 HN6 d1 l1
            generalize wr.drewN nq = w7 at *
            go_wp2_with fail
            go_roundw
            case rel => exact ⟨i + 1, by omega, by go_num, HQ7.out, HN7.out⟩
            case measure => simp [intOf]; omega
          · go_upto_region 18 with fail
            go_wp2_with fail
            refine (uses_any x (.slice D x.args.length ccp) wr (HT.out.below HQ6.out.box.below) HQ6.out.rx HAR.out).mono ?_
            rintro e w8 ⟨v8, rfl, hr8, hb8⟩
            have HM8 := Lib.hid (hr8.nums (uses_in64 HQ6.out.rx))
            have HN8 := Lib.hid (HN6.out.below hb8)
            have HQ8 := Lib.hid (HQ6.out.to hb8)
            clear hr8 hb8 c0 c1 c2 c3 x0 x1 x2 x3 x4 x5 HQ6 HN6
            obtain ⟨⟨c0, c1, c2, c3⟩, ⟨x0, x1, x2, x3, x4, x5⟩⟩ := And.intro HQ8.out.box.cells HQ8.out.cells
            obtain ⟨UA, ucap, rfl, -⟩ := id HM8.out
            have HWU := Lib.hid HX.out.2.1
            have hul : ((Ir.uses x).length : Int) ≤ 1048576 := by have := uses_len x HAR.out; omega
            generalize Ir.uses x = U at *
            go_wp2_with fail
            go_loopw [13] (fun i wr => ∃ k : Nat, k ≤ U.length ∧ i = .int .i64 (k : Int) ∧ At w w.heap.size f (some ⟨bl, off, none⟩) cap bx (ox + m * 6) x (.slice D x.args.length ccp) wr ∧ Nums wr (.slice UA U.length ucap) U) (fun i _ => U.length - (intOf i).toNat)
            case atStart => exact ⟨0, Nat.zero_le _, rfl, HQ8.out, HM8.out⟩
            case round =>
              obtain ⟨j, hj, rfl, hq, hn⟩ := hrel
              have HQ9 := Lib.hid hq
              have HN9 := Lib.hid hn
              clear c0 c1 c2 c3 x0 x1 x2 x3 x4 x5 HQ8 HM8 HN8 hq hn
              obtain ⟨⟨c0, c1, c2, c3⟩, ⟨x0, x1, x2, x3, x4, x5⟩⟩ := And.intro HQ9.out.box.cells HQ9.out.cells
              by_cases hlt2 : j < U.length
              · have hji : (j : Int) < (U.length : Int) := by omega
                obtain ⟨u, hu⟩ : ∃ u, U[j]? = some u := ⟨_, List.getElem?_eq_getElem hlt2⟩
                obtain ⟨ub, uo, rfl, l1, d1⟩ := HN9.out.at hu
                obtain ⟨r1, r2⟩ := within_at HWU.out hu
                have g1 : decide (u < 0) = false := decide_eq_false (by omega)
                have g2 : decide (f.regs ≤ u) = false := decide_eq_false (by omega)
                clear hu
                go_upto_region 22 with fail
                go_quiet (fail)
                have HQ7 := Lib.hid (HQ9.out.to (Quiet.drewN wr nq).below)
                have HN7 := Lib.hid (HN9.out.below (Quiet.drewN wr nq).below)
                clear c0 c1 c2 c3 x0 x1 x2 x3 x4 x5 HQ9 HN9 d1 l1
                generalize wr.drewN nq = w7 at *
                go_wp2_with fail
                go_roundw
                case rel => exact ⟨j + 1, by omega, by go_num, HQ7.out, HN7.out⟩
                case measure => simp [intOf]; omega
              · go_upto_region 24 with fail
                have HQD := Lib.hid (HQ9.out.to (Below.refl _ _).drew)
                have HD := Lib.hid (fun (W : World) (h : At w w.heap.size f (some ⟨bl, off, none⟩) cap bx (ox + m * 6) x (.slice D x.args.length ccp) W) => def_any x (.slice D x.args.length ccp) W (HT.out.below h.box.below) h.rx)
                have hdest := HX.out.2.2.2.1
                have HO := Lib.hid HX.out.2.2.2.2
                generalize Ir.dest x = Dd at *
                clear HQ9
                have hwr : IntKind.i64.wrap ((b.length : Int) - 1) = (b.length : Int) - 1 := IntWalk.i64_in _ (by omega)
                by_cases hT0 : 0 < T.length
                · have hT1 : (0 : Int) < (T.length : Int) := by omega
                  clear hlt hlt2 HO HX HWT HWU HL HM HC HA HAR HLB HLb hend hself hlz hmz htl hul c0 c1 c3 HN9 hi hj
                  refine wp_region_held_drew (S := (fun W => W.cell? ⟨w.heap.size, 2, none⟩ = some (.int .i64 f.regs) ∧ W.cell? ⟨bx, ox + m * 6, none⟩ = some (.int .i64 x.op) ∧ W.cell? ⟨bx, ox + m * 6 + 1, none⟩ = some (.int .i64 x.d) ∧ W.cell? ⟨bx, ox + m * 6 + 2, none⟩ = some (.int .i64 x.a) ∧ W.cell? ⟨bx, ox + m * 6 + 3, none⟩ = some (.int .i64 x.b) ∧ W.cell? ⟨bx, ox + m * 6 + 4, none⟩ = some (.string x.name) ∧ W.cell? ⟨bx, ox + m * 6 + 5, none⟩ = some (.slice D x.args.length ccp))) (by kernel_rfl) ⟨c2, x0, x1, x2, x3, x4, x5⟩ (fun hHeld => ?_)
                  refine wpAnyH_take (i := 0) (v := ?v1) rfl (by kernel_rfl) (by kernel_rfl) (by kernel_rfl) (fun _ _ _ h => h) (Or.inl ⟨by rfl, ?hy1⟩) (by assumption) ?rest1
                  case hy1 => (intro W hSW; (try dsimp only at hSW); go_simp; try (with_reducible rfl))
                  try simp only [List.getElem_toArray, List.getElem_cons_zero, Act.put, List.setIfInBounds_toArray, List.set_cons_zero, List.set_cons_succ]
                  refine wpAnyH_take (i := 1) (v := ?v2) rfl (by kernel_rfl) (by kernel_rfl) (by kernel_rfl) (fun _ _ _ h => h) (Or.inl ⟨by rfl, ?hy2⟩) (by assumption) ?rest2
                  case hy2 => (intro W hSW; (try dsimp only at hSW); go_simp; try (with_reducible rfl))
                  try simp only [List.getElem_toArray, List.getElem_cons_succ, List.getElem_cons_zero, Act.put, List.setIfInBounds_toArray, List.set_cons_zero, List.set_cons_succ]
                  refine wpAnyH_take (i := 2) (v := ?v3) rfl (by kernel_rfl) (by kernel_rfl) (by kernel_rfl) (fun _ _ _ h => h) (Or.inl ⟨by rfl, ?hy3⟩) (by assumption) ?rest3
                  case hy3 => (intro W hSW; (try dsimp only at hSW); go_simp; try (with_reducible rfl))
                  try simp only [List.getElem_toArray, List.getElem_cons_succ, List.getElem_cons_zero, Act.put, List.setIfInBounds_toArray, List.set_cons_zero, List.set_cons_succ]
                  refine wpAnyH_take (i := 3) (v := ?v4) rfl (by kernel_rfl) (by kernel_rfl) (by kernel_rfl) (fun _ _ _ h => h) (Or.inl ⟨by rfl, ?hy4⟩) (by assumption) ?rest4
                  case hy4 => (intro W hSW; (try dsimp only at hSW); go_simp; try (with_reducible rfl))
                  try simp only [List.getElem_toArray, List.getElem_cons_succ, List.getElem_cons_zero, Act.put, List.setIfInBounds_toArray, List.set_cons_zero, List.set_cons_succ]
                  refine wpAnyH_take (i := 5) (v := ?v5) rfl (by kernel_rfl) (by kernel_rfl) (by kernel_rfl) (fun _ _ _ h => h) (Or.inl ⟨by rfl, ?hy5⟩) (by assumption) ?rest5
                  case hy5 => (intro W hSW; (try dsimp only at hSW); go_simp; try (with_reducible rfl))
                  try simp only [List.getElem_toArray, List.getElem_cons_succ, List.getElem_cons_zero, Act.put, List.setIfInBounds_toArray, List.set_cons_zero, List.set_cons_succ]
                  refine wpAnyH_take (i := 6) (v := ?v6) rfl (by kernel_rfl) (by kernel_rfl) (by kernel_rfl) (fun _ _ _ h => h) (Or.inl ⟨by rfl, ?hy6⟩) (by assumption) ?rest6
                  case hy6 => (intro W hSW; (try dsimp only at hSW); go_simp; try (with_reducible rfl))
                  try simp only [List.getElem_toArray, List.getElem_cons_succ, List.getElem_cons_zero, Act.put, List.setIfInBounds_toArray, List.set_cons_zero, List.set_cons_succ]
                  refine wpAnyH_ready (rs := [4]) (by kernel_rfl) (by simp) ?_
                  refine AllReadyH.cons rfl (fun K hK => ?_) AllReadyH.nil
                  go_simp
                  go_at_call 13
                  refine (HD.out _ HQD.out).mono ?_
                  rintro e w9 ⟨rfl, hb⟩
                  have HQE := Lib.hid (HQD.out.to hb)
                  clear hb
                  refine hK.out _ _ (And.intro HQE.out.box.cells.2.2.1 HQE.out.cells) (fun hHeld => ?_)
                  clear hK K
                  try simp only [List.getElem_toArray, List.getElem_cons_succ, List.getElem_cons_zero, Act.put, List.setIfInBounds_toArray, List.set_cons_zero, List.set_cons_succ]
                  refine wpAnyH_take (i := 7) (v := ?v7) rfl (by kernel_rfl) (by kernel_rfl) (by kernel_rfl) (fun _ _ _ h => h) (Or.inl ⟨by rfl, ?hy7⟩) (by assumption) ?rest7
                  case hy7 => (intro W hSW; (try dsimp only at hSW); go_simp; try (with_reducible rfl))
                  try simp only [List.getElem_toArray, List.getElem_cons_succ, List.getElem_cons_zero, Act.put, List.setIfInBounds_toArray, List.set_cons_zero, List.set_cons_succ]
                  refine wpAnyH_take (i := 8) (v := ?v8) rfl (by kernel_rfl) (by kernel_rfl) (by kernel_rfl) (fun _ _ _ h => h) (Or.inl ⟨by rfl, ?hy8⟩) (by assumption) ?rest8
                  case hy8 => (intro W hSW; (try dsimp only at hSW); go_simp; try (with_reducible rfl))
                  try simp only [List.getElem_toArray, List.getElem_cons_succ, List.getElem_cons_zero, Act.put, List.setIfInBounds_toArray, List.set_cons_zero, List.set_cons_succ]
                  refine wpAnyH_take (i := 9) (v := ?v9) rfl (by kernel_rfl) (by kernel_rfl) (by kernel_rfl) (fun _ _ _ h => h) (Or.inl ⟨by rfl, ?hy9⟩) (by assumption) ?rest9
                  case hy9 => (intro W hSW; (try dsimp only at hSW); go_simp; try (with_reducible rfl))
                  try simp only [List.getElem_toArray, List.getElem_cons_succ, List.getElem_cons_zero, Act.put, List.setIfInBounds_toArray, List.set_cons_zero, List.set_cons_succ]
                  refine wpAnyH_take (i := 10) (v := ?v10) rfl (by kernel_rfl) (by kernel_rfl) (by kernel_rfl) (fun _ _ _ h => h) (Or.inl ⟨by rfl, ?hy10⟩) (by assumption) ?rest10
                  case hy10 => (intro W hSW; (try dsimp only at hSW); go_simp; try (with_reducible rfl))
                  try simp only [List.getElem_toArray, List.getElem_cons_succ, List.getElem_cons_zero, Act.put, List.setIfInBounds_toArray, List.set_cons_zero, List.set_cons_succ]
                  refine wpAnyH_take (i := 11) (v := ?v11) rfl (by kernel_rfl) (by kernel_rfl) (by kernel_rfl) (fun _ _ _ h => h) (Or.inl ⟨by rfl, ?hy11⟩) (by assumption) ?rest11
                  case hy11 => (intro W hSW; (try dsimp only at hSW); go_simp; try (with_reducible rfl))
                  try simp only [List.getElem_toArray, List.getElem_cons_succ, List.getElem_cons_zero, Act.put, List.setIfInBounds_toArray, List.set_cons_zero, List.set_cons_succ]
                  refine wpAnyH_take (i := 12) (v := ?v12) rfl (by kernel_rfl) (by kernel_rfl) (by kernel_rfl) (fun _ _ _ h => h) (Or.inl ⟨by rfl, ?hy12⟩) (by assumption) ?rest12
                  case hy12 => (intro W hSW; (try dsimp only at hSW); go_simp; try (with_reducible rfl))
                  try simp only [List.getElem_toArray, List.getElem_cons_succ, List.getElem_cons_zero, Act.put, List.setIfInBounds_toArray, List.set_cons_zero, List.set_cons_succ]
                  refine wpAnyH_take (i := 13) (v := undef) rfl (by kernel_rfl) (by kernel_rfl) (by kernel_rfl) (fun _ _ _ h => h) (Or.inr ⟨by rfl, rfl⟩) (by assumption) ?_
                  try simp only [List.getElem_toArray, List.getElem_cons_succ, List.getElem_cons_zero, Act.put, List.setIfInBounds_toArray, List.set_cons_zero, List.set_cons_succ]
                  refine wpAnyH_take (i := 14) (v := undef) rfl (by kernel_rfl) (by kernel_rfl) (by kernel_rfl) (fun _ _ _ h => h) (Or.inr ⟨by rfl, rfl⟩) (by assumption) ?_
                  try simp only [List.getElem_toArray, List.getElem_cons_succ, List.getElem_cons_zero, Act.put, List.setIfInBounds_toArray, List.set_cons_zero, List.set_cons_succ]
                  refine wpAnyH_take (i := 15) (v := undef) rfl (by kernel_rfl) (by kernel_rfl) (by kernel_rfl) (fun _ _ _ h => h) (Or.inr ⟨by rfl, rfl⟩) (by assumption) ?_
                  try simp only [List.getElem_toArray, List.getElem_cons_succ, List.getElem_cons_zero, Act.put, List.setIfInBounds_toArray, List.set_cons_zero, List.set_cons_succ]
                  refine wpAnyH_take (i := 16) (v := undef) rfl (by kernel_rfl) (by kernel_rfl) (by kernel_rfl) (fun _ _ _ h => h) (Or.inr ⟨by rfl, rfl⟩) (by assumption) ?_
                  try simp only [List.getElem_toArray, List.getElem_cons_succ, List.getElem_cons_zero, Act.put, List.setIfInBounds_toArray, List.set_cons_zero, List.set_cons_succ]
                  refine wpAnyH_take (i := 17) (v := undef) rfl (by kernel_rfl) (by kernel_rfl) (by kernel_rfl) (fun _ _ _ h => h) (Or.inr ⟨by rfl, rfl⟩) (by assumption) ?_
                  try simp only [List.getElem_toArray, List.getElem_cons_succ, List.getElem_cons_zero, Act.put, List.setIfInBounds_toArray, List.set_cons_zero, List.set_cons_succ]
                  refine wpAnyH_take (i := 18) (v := ?v13) rfl (by kernel_rfl) (by kernel_rfl) (by kernel_rfl) (fun _ _ _ h => h) (Or.inl ⟨by rfl, ?hy13⟩) (by assumption) ?rest13
                  case hy13 => (intro W hSW; (try dsimp only at hSW); go_simp; try (with_reducible rfl))
                  try simp only [List.getElem_toArray, List.getElem_cons_succ, List.getElem_cons_zero, Act.put, List.setIfInBounds_toArray, List.set_cons_zero, List.set_cons_succ]
                  refine wpAnyH_take (i := 19) (v := ?v14) rfl (by kernel_rfl) (by kernel_rfl) (by kernel_rfl) (fun _ _ _ h => h) (Or.inl ⟨by rfl, ?hy14⟩) (by assumption) ?rest14
                  case hy14 => (intro W hSW; (try dsimp only at hSW); go_simp; try (with_reducible rfl))
                  try simp only [List.getElem_toArray, List.getElem_cons_succ, List.getElem_cons_zero, Act.put, List.setIfInBounds_toArray, List.set_cons_zero, List.set_cons_succ]
                  refine wpAnyH_take (i := 20) (v := undef) rfl (by kernel_rfl) (by kernel_rfl) (by kernel_rfl) (fun _ _ _ h => h) (Or.inr ⟨by rfl, rfl⟩) (by assumption) ?_
                  try simp only [List.getElem_toArray, List.getElem_cons_succ, List.getElem_cons_zero, Act.put, List.setIfInBounds_toArray, List.set_cons_zero, List.set_cons_succ]
                  refine wpAnyH_take (i := 21) (v := undef) rfl (by kernel_rfl) (by kernel_rfl) (by kernel_rfl) (fun _ _ _ h => h) (Or.inr ⟨by rfl, rfl⟩) (by assumption) ?_
                  try simp only [List.getElem_toArray, List.getElem_cons_succ, List.getElem_cons_zero, Act.put, List.setIfInBounds_toArray, List.set_cons_zero, List.set_cons_succ]
                  refine wpAnyH_take (i := 22) (v := undef) rfl (by kernel_rfl) (by kernel_rfl) (by kernel_rfl) (fun _ _ _ h => h) (Or.inr ⟨by rfl, rfl⟩) (by assumption) ?_
                  try simp only [List.getElem_toArray, List.getElem_cons_succ, List.getElem_cons_zero, Act.put, List.setIfInBounds_toArray, List.set_cons_zero, List.set_cons_succ]
                  refine wpAnyH_take (i := 23) (v := undef) rfl (by kernel_rfl) (by kernel_rfl) (by kernel_rfl) (fun _ _ _ h => h) (Or.inr ⟨by rfl, rfl⟩) (by assumption) ?_
                  try simp only [List.getElem_toArray, List.getElem_cons_succ, List.getElem_cons_zero, Act.put, List.setIfInBounds_toArray, List.set_cons_zero, List.set_cons_succ]
                  refine wpAnyH_take (i := 24) (v := undef) rfl (by kernel_rfl) (by kernel_rfl) (by kernel_rfl) (fun _ _ _ h => h) (Or.inr ⟨by rfl, rfl⟩) (by assumption) ?_
                  try simp only [List.getElem_toArray, List.getElem_cons_succ, List.getElem_cons_zero, Act.put, List.setIfInBounds_toArray, List.set_cons_zero, List.set_cons_succ]
                  refine wpAnyH_take (i := 25) (v := undef) rfl (by kernel_rfl) (by kernel_rfl) (by kernel_rfl) (fun _ _ _ h => h) (Or.inr ⟨by rfl, rfl⟩) (by assumption) ?_
                  try simp only [List.getElem_toArray, List.getElem_cons_succ, List.getElem_cons_zero, Act.put, List.setIfInBounds_toArray, List.set_cons_zero, List.set_cons_succ]
                  refine wpAnyH_take (i := 26) (v := ?v15) rfl (by kernel_rfl) (by kernel_rfl) (by kernel_rfl) (fun _ _ _ h => h) (Or.inl ⟨by rfl, ?hy15⟩) (by assumption) ?rest15
                  case hy15 => (intro W hSW; (try dsimp only at hSW); go_simp; try (with_reducible rfl))
                  try simp only [List.getElem_toArray, List.getElem_cons_succ, List.getElem_cons_zero, Act.put, List.setIfInBounds_toArray, List.set_cons_zero, List.set_cons_succ]
                  refine wpAnyH_take (i := 27) (v := ?v16) rfl (by kernel_rfl) (by kernel_rfl) (by kernel_rfl) (fun _ _ _ h => h) (Or.inl ⟨by rfl, ?hy16⟩) (by assumption) ?rest16
                  case hy16 => (intro W hSW; (try dsimp only at hSW); go_simp; try (with_reducible rfl))
                  try simp only [List.getElem_toArray, List.getElem_cons_succ, List.getElem_cons_zero, Act.put, List.setIfInBounds_toArray, List.set_cons_zero, List.set_cons_succ]
                  refine wpAnyH_take (i := 28) (v := ?v17) rfl (by kernel_rfl) (by kernel_rfl) (by kernel_rfl) (fun _ _ _ h => h) (Or.inl ⟨by rfl, ?hy17⟩) (by assumption) ?rest17
                  case hy17 => (intro W hSW; (try dsimp only at hSW); go_simp; try (with_reducible rfl))
                  try simp only [List.getElem_toArray, List.getElem_cons_succ, List.getElem_cons_zero, Act.put, List.setIfInBounds_toArray, List.set_cons_zero, List.set_cons_succ]
                  refine wpAnyH_done (by kernel_rfl) ?_ _
                  go_wp2_with fail
                  go_ret
                  exact ⟨rfl, HQE.out.box.below⟩
                · have hT1 : decide (0 < T.length) = false := decide_eq_false hT0
                  have hT2 : decide ((0 : Int) < (T.length : Int)) = false := decide_eq_false (by omega)
                  by_cases hm1 : (m : Int) < (b.length : Int) - 1
                  · clear hlt hlt2 HO HX HWT HWU HL HM HC HA HAR HLB HLb hend hself hlz hmz htl hul c0 c1 c3 HN9 hi hj
                    refine wp_region_held_drew (S := (fun W => W.cell? ⟨w.heap.size, 2, none⟩ = some (.int .i64 f.regs) ∧ W.cell? ⟨bx, ox + m * 6, none⟩ = some (.int .i64 x.op) ∧ W.cell? ⟨bx, ox + m * 6 + 1, none⟩ = some (.int .i64 x.d) ∧ W.cell? ⟨bx, ox + m * 6 + 2, none⟩ = some (.int .i64 x.a) ∧ W.cell? ⟨bx, ox + m * 6 + 3, none⟩ = some (.int .i64 x.b) ∧ W.cell? ⟨bx, ox + m * 6 + 4, none⟩ = some (.string x.name) ∧ W.cell? ⟨bx, ox + m * 6 + 5, none⟩ = some (.slice D x.args.length ccp))) (by kernel_rfl) ⟨c2, x0, x1, x2, x3, x4, x5⟩ (fun hHeld => ?_)
                    refine wpAnyH_take (i := 0) (v := ?v18) rfl (by kernel_rfl) (by kernel_rfl) (by kernel_rfl) (fun _ _ _ h => h) (Or.inl ⟨by rfl, ?hy18⟩) (by assumption) ?rest18
                    case hy18 => (intro W hSW; (try dsimp only at hSW); go_simp; try (with_reducible rfl))
                    try simp only [List.getElem_toArray, List.getElem_cons_zero, Act.put, List.setIfInBounds_toArray, List.set_cons_zero, List.set_cons_succ]
                    refine wpAnyH_take (i := 1) (v := ?v19) rfl (by kernel_rfl) (by kernel_rfl) (by kernel_rfl) (fun _ _ _ h => h) (Or.inl ⟨by rfl, ?hy19⟩) (by assumption) ?rest19
                    case hy19 => (intro W hSW; (try dsimp only at hSW); go_simp; try (with_reducible rfl))
                    try simp only [List.getElem_toArray, List.getElem_cons_succ, List.getElem_cons_zero, Act.put, List.setIfInBounds_toArray, List.set_cons_zero, List.set_cons_succ]
                    refine wpAnyH_take (i := 2) (v := ?v20) rfl (by kernel_rfl) (by kernel_rfl) (by kernel_rfl) (fun _ _ _ h => h) (Or.inl ⟨by rfl, ?hy20⟩) (by assumption) ?rest20
                    case hy20 => (intro W hSW; (try dsimp only at hSW); go_simp; try (with_reducible rfl))
                    try simp only [List.getElem_toArray, List.getElem_cons_succ, List.getElem_cons_zero, Act.put, List.setIfInBounds_toArray, List.set_cons_zero, List.set_cons_succ]
                    refine wpAnyH_take (i := 3) (v := ?v21) rfl (by kernel_rfl) (by kernel_rfl) (by kernel_rfl) (fun _ _ _ h => h) (Or.inl ⟨by rfl, ?hy21⟩) (by assumption) ?rest21
                    case hy21 => (intro W hSW; (try dsimp only at hSW); go_simp; try (with_reducible rfl))
                    try simp only [List.getElem_toArray, List.getElem_cons_succ, List.getElem_cons_zero, Act.put, List.setIfInBounds_toArray, List.set_cons_zero, List.set_cons_succ]
                    refine wpAnyH_take (i := 5) (v := ?v22) rfl (by kernel_rfl) (by kernel_rfl) (by kernel_rfl) (fun _ _ _ h => h) (Or.inl ⟨by rfl, ?hy22⟩) (by assumption) ?rest22
                    case hy22 => (intro W hSW; (try dsimp only at hSW); go_simp; try (with_reducible rfl))
                    try simp only [List.getElem_toArray, List.getElem_cons_succ, List.getElem_cons_zero, Act.put, List.setIfInBounds_toArray, List.set_cons_zero, List.set_cons_succ]
                    refine wpAnyH_take (i := 6) (v := ?v23) rfl (by kernel_rfl) (by kernel_rfl) (by kernel_rfl) (fun _ _ _ h => h) (Or.inl ⟨by rfl, ?hy23⟩) (by assumption) ?rest23
                    case hy23 => (intro W hSW; (try dsimp only at hSW); go_simp; try (with_reducible rfl))
                    try simp only [List.getElem_toArray, List.getElem_cons_succ, List.getElem_cons_zero, Act.put, List.setIfInBounds_toArray, List.set_cons_zero, List.set_cons_succ]
                    refine wpAnyH_ready (rs := [4]) (by kernel_rfl) (by simp) ?_
                    refine AllReadyH.cons rfl (fun K hK => ?_) AllReadyH.nil
                    go_simp
                    go_at_call 13
                    refine (HD.out _ HQD.out).mono ?_
                    rintro e w9 ⟨rfl, hb⟩
                    have HQE := Lib.hid (HQD.out.to hb)
                    clear hb
                    refine hK.out _ _ (And.intro HQE.out.box.cells.2.2.1 HQE.out.cells) (fun hHeld => ?_)
                    clear hK K
                    try simp only [List.getElem_toArray, List.getElem_cons_succ, List.getElem_cons_zero, Act.put, List.setIfInBounds_toArray, List.set_cons_zero, List.set_cons_succ]
                    refine wpAnyH_take (i := 7) (v := ?v24) rfl (by kernel_rfl) (by kernel_rfl) (by kernel_rfl) (fun _ _ _ h => h) (Or.inl ⟨by rfl, ?hy24⟩) (by assumption) ?rest24
                    case hy24 => (intro W hSW; (try dsimp only at hSW); go_simp; try (with_reducible rfl))
                    try simp only [List.getElem_toArray, List.getElem_cons_succ, List.getElem_cons_zero, Act.put, List.setIfInBounds_toArray, List.set_cons_zero, List.set_cons_succ]
                    refine wpAnyH_take (i := 8) (v := ?v25) rfl (by kernel_rfl) (by kernel_rfl) (by kernel_rfl) (fun _ _ _ h => h) (Or.inl ⟨by rfl, ?hy25⟩) (by assumption) ?rest25
                    case hy25 => (intro W hSW; (try dsimp only at hSW); go_simp; try (with_reducible rfl))
                    try simp only [List.getElem_toArray, List.getElem_cons_succ, List.getElem_cons_zero, Act.put, List.setIfInBounds_toArray, List.set_cons_zero, List.set_cons_succ]
                    refine wpAnyH_take (i := 9) (v := ?v26) rfl (by kernel_rfl) (by kernel_rfl) (by kernel_rfl) (fun _ _ _ h => h) (Or.inl ⟨by rfl, ?hy26⟩) (by assumption) ?rest26
                    case hy26 => (intro W hSW; (try dsimp only at hSW); go_simp; try (with_reducible rfl))
                    try simp only [List.getElem_toArray, List.getElem_cons_succ, List.getElem_cons_zero, Act.put, List.setIfInBounds_toArray, List.set_cons_zero, List.set_cons_succ]
                    refine wpAnyH_take (i := 10) (v := ?v27) rfl (by kernel_rfl) (by kernel_rfl) (by kernel_rfl) (fun _ _ _ h => h) (Or.inl ⟨by rfl, ?hy27⟩) (by assumption) ?rest27
                    case hy27 => (intro W hSW; (try dsimp only at hSW); go_simp; try (with_reducible rfl))
                    try simp only [List.getElem_toArray, List.getElem_cons_succ, List.getElem_cons_zero, Act.put, List.setIfInBounds_toArray, List.set_cons_zero, List.set_cons_succ]
                    refine wpAnyH_take (i := 11) (v := ?v28) rfl (by kernel_rfl) (by kernel_rfl) (by kernel_rfl) (fun _ _ _ h => h) (Or.inl ⟨by rfl, ?hy28⟩) (by assumption) ?rest28
                    case hy28 => (intro W hSW; (try dsimp only at hSW); go_simp; try (with_reducible rfl))
                    try simp only [List.getElem_toArray, List.getElem_cons_succ, List.getElem_cons_zero, Act.put, List.setIfInBounds_toArray, List.set_cons_zero, List.set_cons_succ]
                    refine wpAnyH_take (i := 12) (v := ?v29) rfl (by kernel_rfl) (by kernel_rfl) (by kernel_rfl) (fun _ _ _ h => h) (Or.inl ⟨by rfl, ?hy29⟩) (by assumption) ?rest29
                    case hy29 => (intro W hSW; (try dsimp only at hSW); go_simp; try (with_reducible rfl))
                    try simp only [List.getElem_toArray, List.getElem_cons_succ, List.getElem_cons_zero, Act.put, List.setIfInBounds_toArray, List.set_cons_zero, List.set_cons_succ]
                    refine wpAnyH_take (i := 13) (v := ?v30) rfl (by kernel_rfl) (by kernel_rfl) (by kernel_rfl) (fun _ _ _ h => h) (Or.inl ⟨by rfl, ?hy30⟩) (by assumption) ?rest30
                    case hy30 => (intro W hSW; (try dsimp only at hSW); go_simp; try (with_reducible rfl))
                    try simp only [List.getElem_toArray, List.getElem_cons_succ, List.getElem_cons_zero, Act.put, List.setIfInBounds_toArray, List.set_cons_zero, List.set_cons_succ]
                    refine wpAnyH_take (i := 14) (v := ?v31) rfl (by kernel_rfl) (by kernel_rfl) (by kernel_rfl) (fun _ _ _ h => h) (Or.inl ⟨by rfl, ?hy31⟩) (by assumption) ?rest31
                    case hy31 => (intro W hSW; (try dsimp only at hSW); go_simp; try (with_reducible rfl))
                    try simp only [List.getElem_toArray, List.getElem_cons_succ, List.getElem_cons_zero, Act.put, List.setIfInBounds_toArray, List.set_cons_zero, List.set_cons_succ]
                    refine wpAnyH_take (i := 15) (v := ?v32) rfl (by kernel_rfl) (by kernel_rfl) (by kernel_rfl) (fun _ _ _ h => h) (Or.inl ⟨by rfl, ?hy32⟩) (by assumption) ?rest32
                    case hy32 => (intro W hSW; (try dsimp only at hSW); go_simp; try (with_reducible rfl))
                    try simp only [List.getElem_toArray, List.getElem_cons_succ, List.getElem_cons_zero, Act.put, List.setIfInBounds_toArray, List.set_cons_zero, List.set_cons_succ]
                    refine wpAnyH_take (i := 16) (v := ?v33) rfl (by kernel_rfl) (by kernel_rfl) (by kernel_rfl) (fun _ _ _ h => h) (Or.inl ⟨by rfl, ?hy33⟩) (by assumption) ?rest33
                    case hy33 => (intro W hSW; (try dsimp only at hSW); go_simp; try (with_reducible rfl))
                    try simp only [List.getElem_toArray, List.getElem_cons_succ, List.getElem_cons_zero, Act.put, List.setIfInBounds_toArray, List.set_cons_zero, List.set_cons_succ]
                    refine wpAnyH_take (i := 17) (v := ?v34) rfl (by kernel_rfl) (by kernel_rfl) (by kernel_rfl) (fun _ _ _ h => h) (Or.inl ⟨by rfl, ?hy34⟩) (by assumption) ?rest34
                    case hy34 => (intro W hSW; (try dsimp only at hSW); go_simp; try (with_reducible rfl))
                    try simp only [List.getElem_toArray, List.getElem_cons_succ, List.getElem_cons_zero, Act.put, List.setIfInBounds_toArray, List.set_cons_zero, List.set_cons_succ]
                    refine wpAnyH_take (i := 18) (v := ?v35) rfl (by kernel_rfl) (by kernel_rfl) (by kernel_rfl) (fun _ _ _ h => h) (Or.inl ⟨by rfl, ?hy35⟩) (by assumption) ?rest35
                    case hy35 => (intro W hSW; (try dsimp only at hSW); go_simp; try (with_reducible rfl))
                    try simp only [List.getElem_toArray, List.getElem_cons_succ, List.getElem_cons_zero, Act.put, List.setIfInBounds_toArray, List.set_cons_zero, List.set_cons_succ]
                    refine wpAnyH_take (i := 19) (v := ?v36) rfl (by kernel_rfl) (by kernel_rfl) (by kernel_rfl) (fun _ _ _ h => h) (Or.inl ⟨by rfl, ?hy36⟩) (by assumption) ?rest36
                    case hy36 => (intro W hSW; (try dsimp only at hSW); go_simp; try (with_reducible rfl))
                    try simp only [List.getElem_toArray, List.getElem_cons_succ, List.getElem_cons_zero, Act.put, List.setIfInBounds_toArray, List.set_cons_zero, List.set_cons_succ]
                    refine wpAnyH_take (i := 20) (v := undef) rfl (by kernel_rfl) (by kernel_rfl) (by kernel_rfl) (fun _ _ _ h => h) (Or.inr ⟨by rfl, rfl⟩) (by assumption) ?_
                    try simp only [List.getElem_toArray, List.getElem_cons_succ, List.getElem_cons_zero, Act.put, List.setIfInBounds_toArray, List.set_cons_zero, List.set_cons_succ]
                    refine wpAnyH_take (i := 21) (v := undef) rfl (by kernel_rfl) (by kernel_rfl) (by kernel_rfl) (fun _ _ _ h => h) (Or.inr ⟨by rfl, rfl⟩) (by assumption) ?_
                    try simp only [List.getElem_toArray, List.getElem_cons_succ, List.getElem_cons_zero, Act.put, List.setIfInBounds_toArray, List.set_cons_zero, List.set_cons_succ]
                    refine wpAnyH_take (i := 22) (v := undef) rfl (by kernel_rfl) (by kernel_rfl) (by kernel_rfl) (fun _ _ _ h => h) (Or.inr ⟨by rfl, rfl⟩) (by assumption) ?_
                    try simp only [List.getElem_toArray, List.getElem_cons_succ, List.getElem_cons_zero, Act.put, List.setIfInBounds_toArray, List.set_cons_zero, List.set_cons_succ]
                    refine wpAnyH_take (i := 23) (v := undef) rfl (by kernel_rfl) (by kernel_rfl) (by kernel_rfl) (fun _ _ _ h => h) (Or.inr ⟨by rfl, rfl⟩) (by assumption) ?_
                    try simp only [List.getElem_toArray, List.getElem_cons_succ, List.getElem_cons_zero, Act.put, List.setIfInBounds_toArray, List.set_cons_zero, List.set_cons_succ]
                    refine wpAnyH_take (i := 24) (v := undef) rfl (by kernel_rfl) (by kernel_rfl) (by kernel_rfl) (fun _ _ _ h => h) (Or.inr ⟨by rfl, rfl⟩) (by assumption) ?_
                    try simp only [List.getElem_toArray, List.getElem_cons_succ, List.getElem_cons_zero, Act.put, List.setIfInBounds_toArray, List.set_cons_zero, List.set_cons_succ]
                    refine wpAnyH_take (i := 25) (v := undef) rfl (by kernel_rfl) (by kernel_rfl) (by kernel_rfl) (fun _ _ _ h => h) (Or.inr ⟨by rfl, rfl⟩) (by assumption) ?_
                    try simp only [List.getElem_toArray, List.getElem_cons_succ, List.getElem_cons_zero, Act.put, List.setIfInBounds_toArray, List.set_cons_zero, List.set_cons_succ]
                    refine wpAnyH_take (i := 26) (v := ?v37) rfl (by kernel_rfl) (by kernel_rfl) (by kernel_rfl) (fun _ _ _ h => h) (Or.inl ⟨by rfl, ?hy37⟩) (by assumption) ?rest37
                    case hy37 => (intro W hSW; (try dsimp only at hSW); go_simp; try (with_reducible rfl))
                    try simp only [List.getElem_toArray, List.getElem_cons_succ, List.getElem_cons_zero, Act.put, List.setIfInBounds_toArray, List.set_cons_zero, List.set_cons_succ]
                    refine wpAnyH_take (i := 27) (v := ?v38) rfl (by kernel_rfl) (by kernel_rfl) (by kernel_rfl) (fun _ _ _ h => h) (Or.inl ⟨by rfl, ?hy38⟩) (by assumption) ?rest38
                    case hy38 => (intro W hSW; (try dsimp only at hSW); go_simp; try (with_reducible rfl))
                    try simp only [List.getElem_toArray, List.getElem_cons_succ, List.getElem_cons_zero, Act.put, List.setIfInBounds_toArray, List.set_cons_zero, List.set_cons_succ]
                    refine wpAnyH_take (i := 28) (v := ?v39) rfl (by kernel_rfl) (by kernel_rfl) (by kernel_rfl) (fun _ _ _ h => h) (Or.inl ⟨by rfl, ?hy39⟩) (by assumption) ?rest39
                    case hy39 => (intro W hSW; (try dsimp only at hSW); go_simp; try (with_reducible rfl))
                    try simp only [List.getElem_toArray, List.getElem_cons_succ, List.getElem_cons_zero, Act.put, List.setIfInBounds_toArray, List.set_cons_zero, List.set_cons_succ]
                    refine wpAnyH_done (by kernel_rfl) ?_ _
                    go_wp2_with fail
                    go_ret
                    exact ⟨rfl, HQE.out.box.below⟩
                  · have hm2 : decide ((m : Int) < (b.length : Int) - 1) = false := decide_eq_false hm1
                    have h14 : x.op = 14 := by
                      rcases HO.out with h | h | h
                      · exact absurd h hT0
                      · omega
                      · exact h
                    have h14' : (x.op == 14) = true := by simp [h14]
                    clear h14
                    go_region_held3 (fun W => W.cell? ⟨w.heap.size, 2, none⟩ = some (.int .i64 f.regs) ∧ W.cell? ⟨bx, ox + m * 6, none⟩ = some (.int .i64 x.op) ∧ W.cell? ⟨bx, ox + m * 6 + 1, none⟩ = some (.int .i64 x.d) ∧ W.cell? ⟨bx, ox + m * 6 + 2, none⟩ = some (.int .i64 x.a) ∧ W.cell? ⟨bx, ox + m * 6 + 3, none⟩ = some (.int .i64 x.b) ∧ W.cell? ⟨bx, ox + m * 6 + 4, none⟩ = some (.string x.name) ∧ W.cell? ⟨bx, ox + m * 6 + 5, none⟩ = some (.slice D x.args.length ccp)) (first | assumption | exact ⟨c2, x0, x1, x2, x3, x4, x5⟩ | go_keep)
                      (first | (go_at_call 13; (with_reducible refine (HD.out _ HQD.out).mono ?_); rintro e w9 ⟨rfl, hb⟩; have HQE := Lib.hid (HQD.out.to hb); have g9 := And.intro HQE.out.box.cells.2.2.1 HQE.out.cells; clear hb))
                    go_wp2_with fail
                    go_ret
                    exact ⟨rfl, HQE.out.box.below⟩
      · have h0' : (C != 0) = true := by simp [h0]
        clear h0
        go_wp2_with fail
        go_ret
        exact ⟨rfl, HB3.out.below⟩
end Go.Proofs.YtkkbmfgkapdndaaDoor
