/- Several texts in one: TextRins. -/
import Derived.Test.YtcoehmmiplffgaaDoorTkA
/- The document's ins. -/
namespace Go.Proofs.YtcoehmmiplffgaaDoor
open Go.ChangeShapes Go.WideShapes Go.RowKit Go.Deep

set_option maxRecDepth 100000 in
set_option maxHeartbeats 20000000 in
theorem rins_any (v : Value) (u : ByteArray) (os : List ByteArray) (code : Bool) (w : World) (hv : Strs w v (u :: os)) (hl : os.length ≤ 1000000) :
    Calls Tryd.prog 37 #[v, .bool code] w (InsPost (Tx.readI code u.data.toList (os.map fun b => b.data.toList)) w) := by
  obtain ⟨A, cap, rfl, ⟨hcap, -⟩, hat⟩ := id hv
  simp only [List.length_cons] at hcap
  show Calls _ _ #[.slice A (os.length + 1) cap, _] _ _
  obtain ⟨b, off, rfl, hb1, c0⟩ := hat 0 u rfl
  have hU := (Blk.new w 46 #[.int .i64 0, .int .i64 0, .int .i64 0, .int .i64 0, .string ⟨#[]⟩, .slice none 0 0])
  have HV := Lib.hid hv
  have HA := Lib.hid (And.intro hb1 (And.intro c0 (And.intro hcap hl)))
  have HU := Lib.hid hU
  have HB := Lib.hid (show Below w.heap.size w (w.alloc (.cells #[.int .i64 0, .int .i64 0, .int .i64 0, .int .i64 0, .string ⟨#[]⟩, .slice none 0 0] 46)) from (Below.refl _ _).alloc (Nat.le_refl _) _)
  have HW := Lib.hid (fun (k : Int) (W : World) => rword_any k code W)
  clear hv hat hU c0 hcap hl
  go_enter Tryd.func37, Tryd.ntmps37
  go_upto_region 1 with fail
  generalize w.alloc _ = w0 at *
  go_wp2_with fail
  go_loopw [6, 7] (fun o i wr => ∃ k : Nat, 1 ≤ k ∧ k ≤ 23 ∧ i = .int .i64 (k : Int) ∧ o = .int .i64 (bestOp code u.data.toList k) ∧ Hid (Below w0.heap.size w0 wr)) (fun _ i _ => 23 - (intOf i).toNat)
  case atStart => exact ⟨1, by omega, by omega, rfl, by cases code <;> simp [bestOp, Tx.word], Lib.hid (Below.refl _ _)⟩
  case round =>
    obtain ⟨k, hk1, hk, rfl, rfl, HR⟩ := hrel
    by_cases hlt : k < 23
    · have hki : (k : Int) ≤ 22 := by omega
      have hb0 : w0.cell? ⟨b, off + 0, none⟩ = some (.string u) := (Below.cell HB.out (p := ⟨b, off + 0, none⟩) HA.out.1).trans HA.out.2.1
      have hlt0 : b < w0.heap.size := Nat.lt_of_lt_of_le HA.out.1 HB.out.size
      have d0 : wr.drew.cell? ⟨b, off, none⟩ = some (.string u) := ((HR.out.drew).cell (p := ⟨b, off, none⟩) hlt0).trans hb0
      have HL0 := Lib.hid (And.intro hlt0 hb0)
      clear hb0 hlt0
      by_cases hm : Tx.word (k : Int) code = u.data.toList
      · have HWD := Lib.hid (rword_any (k : Int) code wr.drew)
        have e1 : (⟨(Tx.word (k : Int) code).toArray⟩ : ByteArray) = u := by rw [hm]
        rw [e1] at HWD
        by_cases hu : u.data.toList = []
        · obtain rfl : u = ⟨#[]⟩ := by rw [← Tx.mkB_list u, hu]; rfl
          have HN := Lib.hid (show bestOp code (⟨#[]⟩ : ByteArray).data.toList (k + 1) = bestOp code (⟨#[]⟩ : ByteArray).data.toList k by rw [bestOp, if_neg (fun h => h.2 rfl)])
          clear hm hu e1
          go_upto_region 5 with fail
          go_region_held3 (fun W => W.cell? ⟨b, off, none⟩ = some (.string ⟨#[]⟩)) (first | assumption | go_keep)
            (first
              | (go_at_call 31; (with_reducible refine HWD.out.mono ?_); rintro e4 w4 ⟨rfl, hb4⟩; have HB4 := Lib.hid (HR.out.drew.trans (hb4.mono HR.out.drew.size)); have g4 := (HB4.out.cell (p := ⟨b, off, none⟩) HL0.out.1).trans HL0.out.2; clear hb4))
          go_wp2_with fail
          go_roundw
          case rel => exact ⟨k + 1, by omega, by omega, by go_num, by rw [HN.out], HB4⟩
          case measure => simp [intOf] <;> omega
        · have HN := Lib.hid (show bestOp code u.data.toList (k + 1) = (k : Int) by rw [bestOp, if_pos ⟨hm, hu⟩])
          have hwe : (u.toList == []) = false := by rw [beq_eq_false_iff_ne, ByteArray.toList_eq]; exact hu
          have hwe2 : u.toList.isEmpty = false := by rw [ByteArray.toList_eq]; simpa using hu
          clear hm hu e1
          go_upto_region 5 with fail
          go_region_held3 (fun W => W.cell? ⟨b, off, none⟩ = some (.string u)) (first | assumption | go_keep)
            (first
              | (go_at_call 31; (with_reducible refine HWD.out.mono ?_); rintro e4 w4 ⟨rfl, hb4⟩; have HB4 := Lib.hid (HR.out.drew.trans (hb4.mono HR.out.drew.size)); have g4 := (HB4.out.cell (p := ⟨b, off, none⟩) HL0.out.1).trans HL0.out.2; clear hb4))
          go_wp2_with fail
          go_roundw
          case rel => exact ⟨k + 1, by omega, by omega, by go_num, by rw [HN.out], HB4⟩
          case measure => simp [intOf] <;> omega
      · have HN := Lib.hid (show bestOp code u.data.toList (k + 1) = bestOp code u.data.toList k by rw [bestOp, if_neg (fun h => hm h.1)])
        obtain ⟨wd, hwd⟩ : ∃ wd, wd = (⟨(Tx.word (k : Int) code).toArray⟩ : ByteArray) := ⟨_, rfl⟩
        have HWD := Lib.hid (rword_any (k : Int) code wr.drew)
        rw [← hwd] at HWD
        have hne : (wd.toList == u.toList) = false := by
          rw [beq_eq_false_iff_ne, ByteArray.toList_eq, ByteArray.toList_eq, hwd]
          exact hm
        clear hm hwd
        go_upto_region 5 with fail
        refine wp_region_held_drew (S := (fun W => W.cell? ⟨b, off, none⟩ = some (.string u))) (by kernel_rfl) d0 (fun hHeld => ?_)
        refine wpAnyH_take (i := 0) (v := ?v0) rfl (by kernel_rfl) (by kernel_rfl) (by kernel_rfl) (fun _ _ _ h => h) (Or.inl ⟨by rfl, ?hy0⟩) (by assumption) ?rest0
        case hy0 => (intro W hSW; (try dsimp only at hSW); go_simp; try (with_reducible rfl))
        try simp only [List.getElem_toArray, List.getElem_cons_zero, Act.put, List.setIfInBounds_toArray, List.set_cons_zero, List.set_cons_succ]
        refine wpAnyH_take (i := 1) (v := ?v1) rfl (by kernel_rfl) (by kernel_rfl) (by kernel_rfl) (fun _ _ _ h => h) (Or.inl ⟨by rfl, ?hy1⟩) (by assumption) ?rest1
        case hy1 => (intro W hSW; (try dsimp only at hSW); go_simp; try (with_reducible rfl))
        try simp only [List.getElem_toArray, List.getElem_cons_succ, List.getElem_cons_zero, Act.put, List.setIfInBounds_toArray, List.set_cons_zero, List.set_cons_succ]
        refine wpAnyH_take (i := 3) (v := ?v2) rfl (by kernel_rfl) (by kernel_rfl) (by kernel_rfl) (fun _ _ _ h => h) (Or.inl ⟨by rfl, ?hy2⟩) (by assumption) ?rest2
        case hy2 => (intro W hSW; (try dsimp only at hSW); go_simp; try (with_reducible rfl))
        try simp only [List.getElem_toArray, List.getElem_cons_succ, List.getElem_cons_zero, Act.put, List.setIfInBounds_toArray, List.set_cons_zero, List.set_cons_succ]
        refine wpAnyH_take (i := 4) (v := ?v3) rfl (by kernel_rfl) (by kernel_rfl) (by kernel_rfl) (fun _ _ _ h => h) (Or.inl ⟨by rfl, ?hy3⟩) (by assumption) ?rest3
        case hy3 => (intro W hSW; (try dsimp only at hSW); go_simp; try (with_reducible rfl))
        try simp only [List.getElem_toArray, List.getElem_cons_succ, List.getElem_cons_zero, Act.put, List.setIfInBounds_toArray, List.set_cons_zero, List.set_cons_succ]
        refine wpAnyH_take (i := 5) (v := ?v4) rfl (by kernel_rfl) (by kernel_rfl) (by kernel_rfl) (fun _ _ _ h => h) (Or.inl ⟨by rfl, ?hy4⟩) (by assumption) ?rest4
        case hy4 => (intro W hSW; (try dsimp only at hSW); go_simp; try (with_reducible rfl))
        try simp only [List.getElem_toArray, List.getElem_cons_succ, List.getElem_cons_zero, Act.put, List.setIfInBounds_toArray, List.set_cons_zero, List.set_cons_succ]
        refine wpAnyH_ready (rs := [2]) (by kernel_rfl) (by simp) ?_
        refine AllReadyH.cons rfl (fun K hK => ?_) AllReadyH.nil
        go_simp
        go_at_call 31
        refine HWD.out.mono ?_
        rintro e4 w4 ⟨rfl, hb4⟩
        have HB4 := Lib.hid (HR.out.drew.trans (hb4.mono HR.out.drew.size))
        clear hb4
        refine hK.out _ _ ((HB4.out.cell (p := ⟨b, off, none⟩) HL0.out.1).trans HL0.out.2) (fun hHeld => ?_)
        clear hK K
        try simp only [List.getElem_toArray, List.getElem_cons_succ, List.getElem_cons_zero, Act.put, List.setIfInBounds_toArray, List.set_cons_zero, List.set_cons_succ]
        refine wpAnyH_take (i := 6) (v := ?v6) rfl (by kernel_rfl) (by kernel_rfl) (by kernel_rfl) (fun _ _ _ h => h) (Or.inl ⟨by rfl, ?hy6⟩) (by assumption) ?rest6
        case hy6 => (intro W hSW; (try dsimp only at hSW); go_simp; try (with_reducible rfl))
        try simp only [List.getElem_toArray, List.getElem_cons_succ, List.getElem_cons_zero, Act.put, List.setIfInBounds_toArray, List.set_cons_zero, List.set_cons_succ]
        refine wpAnyH_take (i := 7) (v := ?v7) rfl (by kernel_rfl) (by kernel_rfl) (by kernel_rfl) (fun _ _ _ h => h) (Or.inl ⟨by rfl, ?hy7⟩) (by assumption) ?rest7
        case hy7 => (intro W hSW; (try dsimp only at hSW); go_simp; try (with_reducible rfl))
        try simp only [List.getElem_toArray, List.getElem_cons_succ, List.getElem_cons_zero, Act.put, List.setIfInBounds_toArray, List.set_cons_zero, List.set_cons_succ]
        refine wpAnyH_take (i := 8) (v := undef) rfl (by kernel_rfl) (by kernel_rfl) (by kernel_rfl) (fun _ _ _ h => h) (Or.inr ⟨by rfl, rfl⟩) (by assumption) ?_
        try simp only [List.getElem_toArray, List.getElem_cons_succ, List.getElem_cons_zero, Act.put, List.setIfInBounds_toArray, List.set_cons_zero, List.set_cons_succ]
        refine wpAnyH_take (i := 9) (v := undef) rfl (by kernel_rfl) (by kernel_rfl) (by kernel_rfl) (fun _ _ _ h => h) (Or.inr ⟨by rfl, rfl⟩) (by assumption) ?_
        try simp only [List.getElem_toArray, List.getElem_cons_succ, List.getElem_cons_zero, Act.put, List.setIfInBounds_toArray, List.set_cons_zero, List.set_cons_succ]
        refine wpAnyH_take (i := 10) (v := undef) rfl (by kernel_rfl) (by kernel_rfl) (by kernel_rfl) (fun _ _ _ h => h) (Or.inr ⟨by rfl, rfl⟩) (by assumption) ?_
        try simp only [List.getElem_toArray, List.getElem_cons_succ, List.getElem_cons_zero, Act.put, List.setIfInBounds_toArray, List.set_cons_zero, List.set_cons_succ]
        refine wpAnyH_take (i := 11) (v := undef) rfl (by kernel_rfl) (by kernel_rfl) (by kernel_rfl) (fun _ _ _ h => h) (Or.inr ⟨by rfl, rfl⟩) (by assumption) ?_
        try simp only [List.getElem_toArray, List.getElem_cons_succ, List.getElem_cons_zero, Act.put, List.setIfInBounds_toArray, List.set_cons_zero, List.set_cons_succ]
        refine wpAnyH_take (i := 12) (v := ?v12) rfl (by kernel_rfl) (by kernel_rfl) (by kernel_rfl) (fun _ _ _ h => h) (Or.inl ⟨by rfl, ?hy12⟩) (by assumption) ?rest12
        case hy12 => (intro W hSW; (try dsimp only at hSW); go_simp; try (with_reducible rfl))
        try simp only [List.getElem_toArray, List.getElem_cons_succ, List.getElem_cons_zero, Act.put, List.setIfInBounds_toArray, List.set_cons_zero, List.set_cons_succ]
        refine wpAnyH_done (by kernel_rfl) ?_ _
        go_wp2_with fail
        go_roundw
        case rel => exact ⟨k + 1, by omega, by omega, by go_num, by rw [HN.out], HB4⟩
        case measure => simp [intOf] <;> omega
    · obtain rfl : k = 23 := by omega
      rcases best_all code u.data.toList with ⟨h1, h2⟩ | ⟨op, h1, h2, h3, h4, h5⟩
      · have HN := Lib.hid (show (Tx.readI code u.data.toList (os.map fun b => b.data.toList)).1 = 80 by unfold Tx.readI; rw [h2])
        rw [h1]
        have hU := HU.out.older HR.out HU.out.lt
        have HUU := Lib.hid hU
        obtain ⟨f0, f1, f2, f3, f4, f5⟩ := frozen6 hU
        obtain ⟨d0, d1, d2, d3, d4, d5⟩ := cells6 hU
        clear hU h1 h2
        go_wp2_with fail
        refine bodyPost_ret (results_ins rfl _ _ w.heap.size _ _ _ _ _ _ rfl (HUU.out.q6 _ _ _ _ _ _)) rfl ⟨below6 (HB.out.trans (HR.out.mono HB.out.size)) (Nat.le_refl _) _ _ _ _ _ _, .inr ⟨by rw [HN.out]; decide, by rw [HN.out]; rfl⟩⟩
      · have HOP := Lib.hid (And.intro h2 (And.intro h3 (And.intro h4 h5)))
        rw [h1]
        clear h1 h2 h4 h5
        have HOPI := Lib.hid h3
        simp only [Tx.ops, List.mem_cons, List.mem_nil_iff, or_false] at h3
        rcases h3 with rfl | rfl | rfl | rfl | rfl | rfl | rfl | rfl | rfl | rfl | rfl | rfl | rfl | rfl | rfl | rfl
        · have HQ := Lib.hid (show Tx.readI code u.data.toList (os.map fun b => b.data.toList) = ((Tx.take (kAt (-1) 2) (os.map fun b => b.data.toList)).1, Tx.mk (Tx.shp 1 code) 1 (Tx.take (kAt (-1) 2) (os.map fun b => b.data.toList)).2) by unfold Tx.readI; rw [HOP.out.1]; simp only; rw [kinds_of HOP.out.2.1 HOP.out.2.2.2]; rfl)
          have hb9 := (Below.refl wr.heap.size wr).alloc (Nat.le_refl _) (.cells #[.int .i64 1, .int .i64 0, .int .i64 0, .int .i64 0, .string ⟨#[]⟩, .slice none 0 0] 46)
          have hx9 := Blk.new wr 46 #[.int .i64 1, .int .i64 0, .int .i64 0, .int .i64 0, .string ⟨#[]⟩, .slice none 0 0]
          have HX9 := Lib.hid hx9
          have HB9 := Lib.hid hb9
          have HNU := Lib.hid (show Calls Tryd.prog 32 #[.agg #[.int .i64 1, .int .i64 0, .int .i64 0, .int .i64 0, .string ⟨#[]⟩, .slice none 0 0], .bool code] (wr.alloc (.cells #[.int .i64 1, .int .i64 0, .int .i64 0, .int .i64 0, .string ⟨#[]⟩, .slice none 0 0] 46)) (fun e w' => (∃ A c, e = .returned (.slice A 2 c)) ∧ Below (wr.alloc (.cells #[.int .i64 1, .int .i64 0, .int .i64 0, .int .i64 0, .string ⟨#[]⟩, .slice none 0 0] 46)).heap.size (wr.alloc (.cells #[.int .i64 1, .int .i64 0, .int .i64 0, .int .i64 0, .string ⟨#[]⟩, .slice none 0 0] 46)) w') from rnum_len 1 code _ (by omega))
          go_upto_region 10 with fail
          generalize wr.alloc (.cells #[.int .i64 1, .int .i64 0, .int .i64 0, .int .i64 0, .string ⟨#[]⟩, .slice none 0 0] 46) = w9 at *
          obtain ⟨x0, x1, x2, x3, x4, x5⟩ := cells6 hx9
          clear hx9 hb9
          have HRD := Lib.hid (fun (W : World) (hW : Below w9.heap.size w9 W) => (show Calls Tryd.prog 36 #[.slice (some ⟨b, off, none⟩) (os.length + 1) cap, .int .i64 2, .int .i64 (-1)] W _ from rread_any _ u os 2 (-1) W (HV.out.below ((((HB.out.trans (HR.out.mono HB.out.size)).trans (HB9.out.mono (Nat.le_trans HB.out.size HR.out.size))).trans (hW.mono (Nat.le_trans (Nat.le_trans HB.out.size HR.out.size) HB9.out.size))))) (by omega) (by omega) HA.out.2.2.2))
          obtain ⟨q, hq⟩ : ∃ q, q = Tx.take (kAt (-1) 2) (os.map fun b => b.data.toList) := ⟨_, rfl⟩
          have HT := Lib.hid (fun (h : q.1 = 0) => Tx.take_ok (by rw [← hq]; exact h))
          rw [← hq] at HQ HRD HT
          have HRX := Lib.hid (show w0.heap.size ≤ wr.heap.size ∧ w.heap.size < w0.heap.size from ⟨HR.out.size, HU.out.lt⟩)
          by_cases h0 : q.1 = 0
          · obtain ⟨-, hok, his, -⟩ := HT.out h0
            obtain ⟨qe, ps⟩ := q
            simp only at h0 hok his
            subst h0
            clear hq
            obtain ⟨p0, l0, rfl, k0, j0⟩ := Tx.mapC (show ps.map Tx.Pt.isN = false :: [false] from his)
            obtain ⟨p1, rfl, k1⟩ := Tx.map1 j0
            obtain ⟨na, rfl⟩ := Tx.isN_num k0
            obtain ⟨nb, rfl⟩ := Tx.isN_num k1
            have HFIN := Lib.hid (show Tx.readI code u.data.toList (os.map fun b => b.data.toList) = (0, ⟨1, na, nb, 0, ByteArray.empty, []⟩) by rw [HQ.out]; rfl)
            have HRR := Lib.hid (show ∀ (W : World), Below w9.heap.size w9 W → Calls Tryd.prog 36 #[.slice (some ⟨b, off, none⟩) (os.length + 1) cap, .int .i64 2, .int .i64 (-1)] W (fun e w' => (∃ g c, e = .returned (.tuple #[.slice (some ⟨g, 0, none⟩) 2 c, .string ⟨#[]⟩, .int .i64 0]) ∧ 2 ≤ c ∧ W.heap.size ≤ g ∧ ∀ j n, ([na, nb] : List Int)[j]? = some n → w'.cell? ⟨g, j, none⟩ = some (.int .i64 n)) ∧ Below W.heap.size W w') from fun W hW => (HRD.out W hW).mono (by
              rintro e w2 ⟨hb2, ⟨-, v2, rfl, hr2⟩ | ⟨h2, -⟩⟩
              · obtain ⟨g, c, rfl, h3, h4, -, h5⟩ := RowI.at (l := [na, nb]) hr2 (by simp)
                exact ⟨⟨g, c, rfl, h4, h3, h5⟩, hb2⟩
              · exact absurd rfl h2))
            clear hok his HT HRD HQ k0 k1 j0
            go_upto_region 20 with first
              | (go_at_call 32; (with_reducible refine HNU.out.mono ?_); rintro e w10 ⟨⟨A10, c10, rfl⟩, hb10⟩; have HB10 := Lib.hid hb10; have HR10 := Lib.hid (HRR.out w10 hb10); clear hb10)
              | (go_at_call 36; (with_reducible refine HR10.out.mono ?_); rintro e w11 ⟨⟨g, c11, rfl, hc11, hg, hrow⟩, hb11⟩; have HB11 := Lib.hid hb11; have HRW := Lib.hid hrow; have HG := Lib.hid hg; clear hb11 hrow hg)
            have hat := (show RinAt w wr.heap.size #[.int .i64 1, .int .i64 0, .int .i64 0, .int .i64 0, .string ⟨#[]⟩, .slice none 0 0] g [na, nb] w11 from rinAt_new HU.out HB.out HR.out HX9.out HB9.out HB10.out HB11.out HRW.out HG.out)
            obtain ⟨y0, y1, y2, y3, y4, y5⟩ := cells6 hat.box
            obtain ⟨z0, z1, z2, z3, z4, z5⟩ := frozen6 hat.box
            have HAT := Lib.hid hat
            clear hat x0 x1 x2 x3 x4 x5
            go_upto_region 21 with fail
            have hat := HAT.out.put4 (.string ⟨#[]⟩)
            generalize World.setCell _ ⟨wr.heap.size, 4, none⟩ (.string ⟨#[]⟩) = wn at *
            clear HAT y0 y1 y2 y3 y4 y5 z0 z1 z2 z3 z4 z5
            obtain ⟨y0, y1, y2, y3, y4, y5⟩ := cells6 hat.box
            obtain ⟨z0, z1, z2, z3, z4, z5⟩ := frozen6 hat.box
            have r0 := hat.row 0 na rfl
            have r1 := hat.row 1 nb rfl
            have HAT := Lib.hid hat
            clear hat
            go_upto_region 23 with fail
            have hat := HAT.out.put1 (.int .i64 na)
            generalize World.setCell _ ⟨wr.heap.size, 1, none⟩ (.int .i64 na) = wn at *
            clear HAT y0 y1 y2 y3 y4 y5 z0 z1 z2 z3 z4 z5
            obtain ⟨y0, y1, y2, y3, y4, y5⟩ := cells6 hat.box
            obtain ⟨z0, z1, z2, z3, z4, z5⟩ := frozen6 hat.box
            have r0 := hat.row 0 na rfl
            have r1 := hat.row 1 nb rfl
            have HAT := Lib.hid hat
            clear hat
            go_upto_region 49 with fail
            have hat := HAT.out.put2 (.int .i64 nb)
            generalize World.setCell _ ⟨wr.heap.size, 2, none⟩ (.int .i64 nb) = wn at *
            clear HAT y0 y1 y2 y3 y4 y5 z0 z1 z2 z3 z4 z5
            obtain ⟨y0, y1, y2, y3, y4, y5⟩ := cells6 hat.box
            obtain ⟨z0, z1, z2, z3, z4, z5⟩ := frozen6 hat.box
            have r0 := hat.row 0 na rfl
            have r1 := hat.row 1 nb rfl
            have HAT := Lib.hid hat
            clear hat
            obtain ⟨f0, f1, f2, f3, f4, f5⟩ := frozen6 HAT.out.res
            obtain ⟨g0, g1, g2, g3, g4, g5⟩ := cells6 HAT.out.res
            go_wp2_with fail
            refine bodyPost_ret (results_ins rfl _ _ w.heap.size _ _ _ _ _ _ rfl (HAT.out.res.q6 _ _ _ _ _ _)) rfl (insPost_ok (sl := .slice none 0 0) HFIN.out (below6 HAT.out.below (Nat.le_refl _) _ _ _ _ _ _) (RowI.nil _ _))
          · obtain ⟨E, hE⟩ : ∃ E, E = q.1 := ⟨_, rfl⟩
            rw [← hE] at h0
            have HFIN := Lib.hid (show (Tx.readI code u.data.toList (os.map fun b => b.data.toList)).1 = E by rw [HQ.out, hE])
            have HRR := Lib.hid (show ∀ (W : World), Below w9.heap.size w9 W → Calls Tryd.prog 36 #[.slice (some ⟨b, off, none⟩) (os.length + 1) cap, .int .i64 2, .int .i64 (-1)] W (fun e w' => e = .returned (.tuple #[.slice none 0 0, .string ⟨#[]⟩, .int .i64 E]) ∧ Below W.heap.size W w') from fun W hW => (HRD.out W hW).mono (by
              rintro e w2 ⟨hb2, ⟨h2, -⟩ | ⟨-, rfl⟩⟩
              · exact absurd (hE.trans h2) h0
              · exact ⟨by rw [hE], hb2⟩))
            have hne : (E != 0) = true := by simpa using h0
            have HNZ := Lib.hid h0
            clear hE hq HT HRD HQ h0
            go_upto_region 18 with first
              | (go_at_call 32; (with_reducible refine HNU.out.mono ?_); rintro e w10 ⟨⟨A10, c10, rfl⟩, hb10⟩; have HB10 := Lib.hid hb10; have HR10 := Lib.hid (HRR.out w10 hb10); clear hb10)
              | (go_at_call 36; (with_reducible refine HR10.out.mono ?_); rintro e w11 ⟨rfl, hb11⟩; have HB11 := Lib.hid hb11; clear hb11)
            have hu := rinRes HU.out HB.out HR.out HB9.out HB10.out HB11.out
            have HUU := Lib.hid hu
            obtain ⟨f0, f1, f2, f3, f4, f5⟩ := frozen6 hu.1
            obtain ⟨g0, g1, g2, g3, g4, g5⟩ := cells6 hu.1
            clear hu
            go_wp2_with fail
            refine bodyPost_ret (results_ins rfl _ _ w.heap.size _ _ _ _ _ _ rfl (HUU.out.1.q6 _ _ _ _ _ _)) rfl (insPost_no HFIN.out HNZ.out (below6 HUU.out.2 (Nat.le_refl _) _ _ _ _ _ _))
        · have HQ := Lib.hid (show Tx.readI code u.data.toList (os.map fun b => b.data.toList) = ((Tx.take (kAt (-1) 2) (os.map fun b => b.data.toList)).1, Tx.mk (Tx.shp 2 code) 2 (Tx.take (kAt (-1) 2) (os.map fun b => b.data.toList)).2) by unfold Tx.readI; rw [HOP.out.1]; simp only; rw [kinds_of HOP.out.2.1 HOP.out.2.2.2]; rfl)
          have hb9 := (Below.refl wr.heap.size wr).alloc (Nat.le_refl _) (.cells #[.int .i64 2, .int .i64 0, .int .i64 0, .int .i64 0, .string ⟨#[]⟩, .slice none 0 0] 46)
          have hx9 := Blk.new wr 46 #[.int .i64 2, .int .i64 0, .int .i64 0, .int .i64 0, .string ⟨#[]⟩, .slice none 0 0]
          have HX9 := Lib.hid hx9
          have HB9 := Lib.hid hb9
          have HNU := Lib.hid (show Calls Tryd.prog 32 #[.agg #[.int .i64 2, .int .i64 0, .int .i64 0, .int .i64 0, .string ⟨#[]⟩, .slice none 0 0], .bool code] (wr.alloc (.cells #[.int .i64 2, .int .i64 0, .int .i64 0, .int .i64 0, .string ⟨#[]⟩, .slice none 0 0] 46)) (fun e w' => (∃ A c, e = .returned (.slice A 2 c)) ∧ Below (wr.alloc (.cells #[.int .i64 2, .int .i64 0, .int .i64 0, .int .i64 0, .string ⟨#[]⟩, .slice none 0 0] 46)).heap.size (wr.alloc (.cells #[.int .i64 2, .int .i64 0, .int .i64 0, .int .i64 0, .string ⟨#[]⟩, .slice none 0 0] 46)) w') from rnum_len 2 code _ (by omega))
          go_upto_region 10 with fail
          generalize wr.alloc (.cells #[.int .i64 2, .int .i64 0, .int .i64 0, .int .i64 0, .string ⟨#[]⟩, .slice none 0 0] 46) = w9 at *
          obtain ⟨x0, x1, x2, x3, x4, x5⟩ := cells6 hx9
          clear hx9 hb9
          have HRD := Lib.hid (fun (W : World) (hW : Below w9.heap.size w9 W) => (show Calls Tryd.prog 36 #[.slice (some ⟨b, off, none⟩) (os.length + 1) cap, .int .i64 2, .int .i64 (-1)] W _ from rread_any _ u os 2 (-1) W (HV.out.below ((((HB.out.trans (HR.out.mono HB.out.size)).trans (HB9.out.mono (Nat.le_trans HB.out.size HR.out.size))).trans (hW.mono (Nat.le_trans (Nat.le_trans HB.out.size HR.out.size) HB9.out.size))))) (by omega) (by omega) HA.out.2.2.2))
          obtain ⟨q, hq⟩ : ∃ q, q = Tx.take (kAt (-1) 2) (os.map fun b => b.data.toList) := ⟨_, rfl⟩
          have HT := Lib.hid (fun (h : q.1 = 0) => Tx.take_ok (by rw [← hq]; exact h))
          rw [← hq] at HQ HRD HT
          have HRX := Lib.hid (show w0.heap.size ≤ wr.heap.size ∧ w.heap.size < w0.heap.size from ⟨HR.out.size, HU.out.lt⟩)
          by_cases h0 : q.1 = 0
          · obtain ⟨-, hok, his, -⟩ := HT.out h0
            obtain ⟨qe, ps⟩ := q
            simp only at h0 hok his
            subst h0
            clear hq
            obtain ⟨p0, l0, rfl, k0, j0⟩ := Tx.mapC (show ps.map Tx.Pt.isN = false :: [false] from his)
            obtain ⟨p1, rfl, k1⟩ := Tx.map1 j0
            obtain ⟨na, rfl⟩ := Tx.isN_num k0
            obtain ⟨nb, rfl⟩ := Tx.isN_num k1
            have HFIN := Lib.hid (show Tx.readI code u.data.toList (os.map fun b => b.data.toList) = (0, ⟨2, na, nb, 0, ByteArray.empty, []⟩) by rw [HQ.out]; rfl)
            have HRR := Lib.hid (show ∀ (W : World), Below w9.heap.size w9 W → Calls Tryd.prog 36 #[.slice (some ⟨b, off, none⟩) (os.length + 1) cap, .int .i64 2, .int .i64 (-1)] W (fun e w' => (∃ g c, e = .returned (.tuple #[.slice (some ⟨g, 0, none⟩) 2 c, .string ⟨#[]⟩, .int .i64 0]) ∧ 2 ≤ c ∧ W.heap.size ≤ g ∧ ∀ j n, ([na, nb] : List Int)[j]? = some n → w'.cell? ⟨g, j, none⟩ = some (.int .i64 n)) ∧ Below W.heap.size W w') from fun W hW => (HRD.out W hW).mono (by
              rintro e w2 ⟨hb2, ⟨-, v2, rfl, hr2⟩ | ⟨h2, -⟩⟩
              · obtain ⟨g, c, rfl, h3, h4, -, h5⟩ := RowI.at (l := [na, nb]) hr2 (by simp)
                exact ⟨⟨g, c, rfl, h4, h3, h5⟩, hb2⟩
              · exact absurd rfl h2))
            clear hok his HT HRD HQ k0 k1 j0
            go_upto_region 20 with first
              | (go_at_call 32; (with_reducible refine HNU.out.mono ?_); rintro e w10 ⟨⟨A10, c10, rfl⟩, hb10⟩; have HB10 := Lib.hid hb10; have HR10 := Lib.hid (HRR.out w10 hb10); clear hb10)
              | (go_at_call 36; (with_reducible refine HR10.out.mono ?_); rintro e w11 ⟨⟨g, c11, rfl, hc11, hg, hrow⟩, hb11⟩; have HB11 := Lib.hid hb11; have HRW := Lib.hid hrow; have HG := Lib.hid hg; clear hb11 hrow hg)
            have hat := (show RinAt w wr.heap.size #[.int .i64 2, .int .i64 0, .int .i64 0, .int .i64 0, .string ⟨#[]⟩, .slice none 0 0] g [na, nb] w11 from rinAt_new HU.out HB.out HR.out HX9.out HB9.out HB10.out HB11.out HRW.out HG.out)
            obtain ⟨y0, y1, y2, y3, y4, y5⟩ := cells6 hat.box
            obtain ⟨z0, z1, z2, z3, z4, z5⟩ := frozen6 hat.box
            have HAT := Lib.hid hat
            clear hat x0 x1 x2 x3 x4 x5
            go_upto_region 21 with fail
            have hat := HAT.out.put4 (.string ⟨#[]⟩)
            generalize World.setCell _ ⟨wr.heap.size, 4, none⟩ (.string ⟨#[]⟩) = wn at *
            clear HAT y0 y1 y2 y3 y4 y5 z0 z1 z2 z3 z4 z5
            obtain ⟨y0, y1, y2, y3, y4, y5⟩ := cells6 hat.box
            obtain ⟨z0, z1, z2, z3, z4, z5⟩ := frozen6 hat.box
            have r0 := hat.row 0 na rfl
            have r1 := hat.row 1 nb rfl
            have HAT := Lib.hid hat
            clear hat
            go_upto_region 23 with fail
            have hat := HAT.out.put1 (.int .i64 na)
            generalize World.setCell _ ⟨wr.heap.size, 1, none⟩ (.int .i64 na) = wn at *
            clear HAT y0 y1 y2 y3 y4 y5 z0 z1 z2 z3 z4 z5
            obtain ⟨y0, y1, y2, y3, y4, y5⟩ := cells6 hat.box
            obtain ⟨z0, z1, z2, z3, z4, z5⟩ := frozen6 hat.box
            have r0 := hat.row 0 na rfl
            have r1 := hat.row 1 nb rfl
            have HAT := Lib.hid hat
            clear hat
            go_upto_region 49 with fail
            have hat := HAT.out.put2 (.int .i64 nb)
            generalize World.setCell _ ⟨wr.heap.size, 2, none⟩ (.int .i64 nb) = wn at *
            clear HAT y0 y1 y2 y3 y4 y5 z0 z1 z2 z3 z4 z5
            obtain ⟨y0, y1, y2, y3, y4, y5⟩ := cells6 hat.box
            obtain ⟨z0, z1, z2, z3, z4, z5⟩ := frozen6 hat.box
            have r0 := hat.row 0 na rfl
            have r1 := hat.row 1 nb rfl
            have HAT := Lib.hid hat
            clear hat
            obtain ⟨f0, f1, f2, f3, f4, f5⟩ := frozen6 HAT.out.res
            obtain ⟨g0, g1, g2, g3, g4, g5⟩ := cells6 HAT.out.res
            go_wp2_with fail
            refine bodyPost_ret (results_ins rfl _ _ w.heap.size _ _ _ _ _ _ rfl (HAT.out.res.q6 _ _ _ _ _ _)) rfl (insPost_ok (sl := .slice none 0 0) HFIN.out (below6 HAT.out.below (Nat.le_refl _) _ _ _ _ _ _) (RowI.nil _ _))
          · obtain ⟨E, hE⟩ : ∃ E, E = q.1 := ⟨_, rfl⟩
            rw [← hE] at h0
            have HFIN := Lib.hid (show (Tx.readI code u.data.toList (os.map fun b => b.data.toList)).1 = E by rw [HQ.out, hE])
            have HRR := Lib.hid (show ∀ (W : World), Below w9.heap.size w9 W → Calls Tryd.prog 36 #[.slice (some ⟨b, off, none⟩) (os.length + 1) cap, .int .i64 2, .int .i64 (-1)] W (fun e w' => e = .returned (.tuple #[.slice none 0 0, .string ⟨#[]⟩, .int .i64 E]) ∧ Below W.heap.size W w') from fun W hW => (HRD.out W hW).mono (by
              rintro e w2 ⟨hb2, ⟨h2, -⟩ | ⟨-, rfl⟩⟩
              · exact absurd (hE.trans h2) h0
              · exact ⟨by rw [hE], hb2⟩))
            have hne : (E != 0) = true := by simpa using h0
            have HNZ := Lib.hid h0
            clear hE hq HT HRD HQ h0
            go_upto_region 18 with first
              | (go_at_call 32; (with_reducible refine HNU.out.mono ?_); rintro e w10 ⟨⟨A10, c10, rfl⟩, hb10⟩; have HB10 := Lib.hid hb10; have HR10 := Lib.hid (HRR.out w10 hb10); clear hb10)
              | (go_at_call 36; (with_reducible refine HR10.out.mono ?_); rintro e w11 ⟨rfl, hb11⟩; have HB11 := Lib.hid hb11; clear hb11)
            have hu := rinRes HU.out HB.out HR.out HB9.out HB10.out HB11.out
            have HUU := Lib.hid hu
            obtain ⟨f0, f1, f2, f3, f4, f5⟩ := frozen6 hu.1
            obtain ⟨g0, g1, g2, g3, g4, g5⟩ := cells6 hu.1
            clear hu
            go_wp2_with fail
            refine bodyPost_ret (results_ins rfl _ _ w.heap.size _ _ _ _ _ _ rfl (HUU.out.1.q6 _ _ _ _ _ _)) rfl (insPost_no HFIN.out HNZ.out (below6 HUU.out.2 (Nat.le_refl _) _ _ _ _ _ _))
        · have HQ := Lib.hid (show Tx.readI code u.data.toList (os.map fun b => b.data.toList) = ((Tx.take (kAt (-1) 3) (os.map fun b => b.data.toList)).1, Tx.mk (Tx.shp 3 code) 3 (Tx.take (kAt (-1) 3) (os.map fun b => b.data.toList)).2) by unfold Tx.readI; rw [HOP.out.1]; simp only; rw [kinds_of HOP.out.2.1 HOP.out.2.2.2]; rfl)
          have hb9 := (Below.refl wr.heap.size wr).alloc (Nat.le_refl _) (.cells #[.int .i64 3, .int .i64 0, .int .i64 0, .int .i64 0, .string ⟨#[]⟩, .slice none 0 0] 46)
          have hx9 := Blk.new wr 46 #[.int .i64 3, .int .i64 0, .int .i64 0, .int .i64 0, .string ⟨#[]⟩, .slice none 0 0]
          have HX9 := Lib.hid hx9
          have HB9 := Lib.hid hb9
          have HNU := Lib.hid (show Calls Tryd.prog 32 #[.agg #[.int .i64 3, .int .i64 0, .int .i64 0, .int .i64 0, .string ⟨#[]⟩, .slice none 0 0], .bool code] (wr.alloc (.cells #[.int .i64 3, .int .i64 0, .int .i64 0, .int .i64 0, .string ⟨#[]⟩, .slice none 0 0] 46)) (fun e w' => (∃ A c, e = .returned (.slice A 3 c)) ∧ Below (wr.alloc (.cells #[.int .i64 3, .int .i64 0, .int .i64 0, .int .i64 0, .string ⟨#[]⟩, .slice none 0 0] 46)).heap.size (wr.alloc (.cells #[.int .i64 3, .int .i64 0, .int .i64 0, .int .i64 0, .string ⟨#[]⟩, .slice none 0 0] 46)) w') from rnum_len 3 code _ (by omega))
          go_upto_region 10 with fail
          generalize wr.alloc (.cells #[.int .i64 3, .int .i64 0, .int .i64 0, .int .i64 0, .string ⟨#[]⟩, .slice none 0 0] 46) = w9 at *
          obtain ⟨x0, x1, x2, x3, x4, x5⟩ := cells6 hx9
          clear hx9 hb9
          have HRD := Lib.hid (fun (W : World) (hW : Below w9.heap.size w9 W) => (show Calls Tryd.prog 36 #[.slice (some ⟨b, off, none⟩) (os.length + 1) cap, .int .i64 3, .int .i64 (-1)] W _ from rread_any _ u os 3 (-1) W (HV.out.below ((((HB.out.trans (HR.out.mono HB.out.size)).trans (HB9.out.mono (Nat.le_trans HB.out.size HR.out.size))).trans (hW.mono (Nat.le_trans (Nat.le_trans HB.out.size HR.out.size) HB9.out.size))))) (by omega) (by omega) HA.out.2.2.2))
          obtain ⟨q, hq⟩ : ∃ q, q = Tx.take (kAt (-1) 3) (os.map fun b => b.data.toList) := ⟨_, rfl⟩
          have HT := Lib.hid (fun (h : q.1 = 0) => Tx.take_ok (by rw [← hq]; exact h))
          rw [← hq] at HQ HRD HT
          have HRX := Lib.hid (show w0.heap.size ≤ wr.heap.size ∧ w.heap.size < w0.heap.size from ⟨HR.out.size, HU.out.lt⟩)
          by_cases h0 : q.1 = 0
          · obtain ⟨-, hok, his, -⟩ := HT.out h0
            obtain ⟨qe, ps⟩ := q
            simp only at h0 hok his
            subst h0
            clear hq
            obtain ⟨p0, l0, rfl, k0, j0⟩ := Tx.mapC (show ps.map Tx.Pt.isN = false :: [false, false] from his)
            obtain ⟨p1, l1, rfl, k1, j1⟩ := Tx.mapC j0
            obtain ⟨p2, rfl, k2⟩ := Tx.map1 j1
            obtain ⟨na, rfl⟩ := Tx.isN_num k0
            obtain ⟨nb, rfl⟩ := Tx.isN_num k1
            obtain ⟨nc, rfl⟩ := Tx.isN_num k2
            have HFIN := Lib.hid (show Tx.readI code u.data.toList (os.map fun b => b.data.toList) = (0, ⟨3, na, nb, nc, ByteArray.empty, []⟩) by rw [HQ.out]; rfl)
            have HRR := Lib.hid (show ∀ (W : World), Below w9.heap.size w9 W → Calls Tryd.prog 36 #[.slice (some ⟨b, off, none⟩) (os.length + 1) cap, .int .i64 3, .int .i64 (-1)] W (fun e w' => (∃ g c, e = .returned (.tuple #[.slice (some ⟨g, 0, none⟩) 3 c, .string ⟨#[]⟩, .int .i64 0]) ∧ 3 ≤ c ∧ W.heap.size ≤ g ∧ ∀ j n, ([na, nb, nc] : List Int)[j]? = some n → w'.cell? ⟨g, j, none⟩ = some (.int .i64 n)) ∧ Below W.heap.size W w') from fun W hW => (HRD.out W hW).mono (by
              rintro e w2 ⟨hb2, ⟨-, v2, rfl, hr2⟩ | ⟨h2, -⟩⟩
              · obtain ⟨g, c, rfl, h3, h4, -, h5⟩ := RowI.at (l := [na, nb, nc]) hr2 (by simp)
                exact ⟨⟨g, c, rfl, h4, h3, h5⟩, hb2⟩
              · exact absurd rfl h2))
            clear hok his HT HRD HQ k0 k1 k2 j0 j1
            go_upto_region 20 with first
              | (go_at_call 32; (with_reducible refine HNU.out.mono ?_); rintro e w10 ⟨⟨A10, c10, rfl⟩, hb10⟩; have HB10 := Lib.hid hb10; have HR10 := Lib.hid (HRR.out w10 hb10); clear hb10)
              | (go_at_call 36; (with_reducible refine HR10.out.mono ?_); rintro e w11 ⟨⟨g, c11, rfl, hc11, hg, hrow⟩, hb11⟩; have HB11 := Lib.hid hb11; have HRW := Lib.hid hrow; have HG := Lib.hid hg; clear hb11 hrow hg)
            have hat := (show RinAt w wr.heap.size #[.int .i64 3, .int .i64 0, .int .i64 0, .int .i64 0, .string ⟨#[]⟩, .slice none 0 0] g [na, nb, nc] w11 from rinAt_new HU.out HB.out HR.out HX9.out HB9.out HB10.out HB11.out HRW.out HG.out)
            obtain ⟨y0, y1, y2, y3, y4, y5⟩ := cells6 hat.box
            obtain ⟨z0, z1, z2, z3, z4, z5⟩ := frozen6 hat.box
            have HAT := Lib.hid hat
            clear hat x0 x1 x2 x3 x4 x5
            go_upto_region 21 with fail
            have hat := HAT.out.put4 (.string ⟨#[]⟩)
            generalize World.setCell _ ⟨wr.heap.size, 4, none⟩ (.string ⟨#[]⟩) = wn at *
            clear HAT y0 y1 y2 y3 y4 y5 z0 z1 z2 z3 z4 z5
            obtain ⟨y0, y1, y2, y3, y4, y5⟩ := cells6 hat.box
            obtain ⟨z0, z1, z2, z3, z4, z5⟩ := frozen6 hat.box
            have r0 := hat.row 0 na rfl
            have r1 := hat.row 1 nb rfl
            have r2 := hat.row 2 nc rfl
            have HAT := Lib.hid hat
            clear hat
            go_upto_region 30 with fail
            have hat := HAT.out.put1 (.int .i64 na)
            generalize World.setCell _ ⟨wr.heap.size, 1, none⟩ (.int .i64 na) = wn at *
            clear HAT y0 y1 y2 y3 y4 y5 z0 z1 z2 z3 z4 z5
            obtain ⟨y0, y1, y2, y3, y4, y5⟩ := cells6 hat.box
            obtain ⟨z0, z1, z2, z3, z4, z5⟩ := frozen6 hat.box
            have r0 := hat.row 0 na rfl
            have r1 := hat.row 1 nb rfl
            have r2 := hat.row 2 nc rfl
            have HAT := Lib.hid hat
            clear hat
            go_upto_region 31 with fail
            have hat := HAT.out.put2 (.int .i64 nb)
            generalize World.setCell _ ⟨wr.heap.size, 2, none⟩ (.int .i64 nb) = wn at *
            clear HAT y0 y1 y2 y3 y4 y5 z0 z1 z2 z3 z4 z5
            obtain ⟨y0, y1, y2, y3, y4, y5⟩ := cells6 hat.box
            obtain ⟨z0, z1, z2, z3, z4, z5⟩ := frozen6 hat.box
            have r0 := hat.row 0 na rfl
            have r1 := hat.row 1 nb rfl
            have r2 := hat.row 2 nc rfl
            have HAT := Lib.hid hat
            clear hat
            go_upto_region 49 with fail
            have hat := HAT.out.put3 (.int .i64 nc)
            generalize World.setCell _ ⟨wr.heap.size, 3, none⟩ (.int .i64 nc) = wn at *
            clear HAT y0 y1 y2 y3 y4 y5 z0 z1 z2 z3 z4 z5
            obtain ⟨y0, y1, y2, y3, y4, y5⟩ := cells6 hat.box
            obtain ⟨z0, z1, z2, z3, z4, z5⟩ := frozen6 hat.box
            have r0 := hat.row 0 na rfl
            have r1 := hat.row 1 nb rfl
            have r2 := hat.row 2 nc rfl
            have HAT := Lib.hid hat
            clear hat
            obtain ⟨f0, f1, f2, f3, f4, f5⟩ := frozen6 HAT.out.res
            obtain ⟨g0, g1, g2, g3, g4, g5⟩ := cells6 HAT.out.res
            go_wp2_with fail
            refine bodyPost_ret (results_ins rfl _ _ w.heap.size _ _ _ _ _ _ rfl (HAT.out.res.q6 _ _ _ _ _ _)) rfl (insPost_ok (sl := .slice none 0 0) HFIN.out (below6 HAT.out.below (Nat.le_refl _) _ _ _ _ _ _) (RowI.nil _ _))
          · obtain ⟨E, hE⟩ : ∃ E, E = q.1 := ⟨_, rfl⟩
            rw [← hE] at h0
            have HFIN := Lib.hid (show (Tx.readI code u.data.toList (os.map fun b => b.data.toList)).1 = E by rw [HQ.out, hE])
            have HRR := Lib.hid (show ∀ (W : World), Below w9.heap.size w9 W → Calls Tryd.prog 36 #[.slice (some ⟨b, off, none⟩) (os.length + 1) cap, .int .i64 3, .int .i64 (-1)] W (fun e w' => e = .returned (.tuple #[.slice none 0 0, .string ⟨#[]⟩, .int .i64 E]) ∧ Below W.heap.size W w') from fun W hW => (HRD.out W hW).mono (by
              rintro e w2 ⟨hb2, ⟨h2, -⟩ | ⟨-, rfl⟩⟩
              · exact absurd (hE.trans h2) h0
              · exact ⟨by rw [hE], hb2⟩))
            have hne : (E != 0) = true := by simpa using h0
            have HNZ := Lib.hid h0
            clear hE hq HT HRD HQ h0
            go_upto_region 18 with first
              | (go_at_call 32; (with_reducible refine HNU.out.mono ?_); rintro e w10 ⟨⟨A10, c10, rfl⟩, hb10⟩; have HB10 := Lib.hid hb10; have HR10 := Lib.hid (HRR.out w10 hb10); clear hb10)
              | (go_at_call 36; (with_reducible refine HR10.out.mono ?_); rintro e w11 ⟨rfl, hb11⟩; have HB11 := Lib.hid hb11; clear hb11)
            have hu := rinRes HU.out HB.out HR.out HB9.out HB10.out HB11.out
            have HUU := Lib.hid hu
            obtain ⟨f0, f1, f2, f3, f4, f5⟩ := frozen6 hu.1
            obtain ⟨g0, g1, g2, g3, g4, g5⟩ := cells6 hu.1
            clear hu
            go_wp2_with fail
            refine bodyPost_ret (results_ins rfl _ _ w.heap.size _ _ _ _ _ _ rfl (HUU.out.1.q6 _ _ _ _ _ _)) rfl (insPost_no HFIN.out HNZ.out (below6 HUU.out.2 (Nat.le_refl _) _ _ _ _ _ _))
        · have HQ := Lib.hid (show Tx.readI code u.data.toList (os.map fun b => b.data.toList) = ((Tx.take (kAt (-1) 3) (os.map fun b => b.data.toList)).1, Tx.mk (Tx.shp 4 code) 4 (Tx.take (kAt (-1) 3) (os.map fun b => b.data.toList)).2) by unfold Tx.readI; rw [HOP.out.1]; simp only; rw [kinds_of HOP.out.2.1 HOP.out.2.2.2]; rfl)
          have hb9 := (Below.refl wr.heap.size wr).alloc (Nat.le_refl _) (.cells #[.int .i64 4, .int .i64 0, .int .i64 0, .int .i64 0, .string ⟨#[]⟩, .slice none 0 0] 46)
          have hx9 := Blk.new wr 46 #[.int .i64 4, .int .i64 0, .int .i64 0, .int .i64 0, .string ⟨#[]⟩, .slice none 0 0]
          have HX9 := Lib.hid hx9
          have HB9 := Lib.hid hb9
          have HNU := Lib.hid (show Calls Tryd.prog 32 #[.agg #[.int .i64 4, .int .i64 0, .int .i64 0, .int .i64 0, .string ⟨#[]⟩, .slice none 0 0], .bool code] (wr.alloc (.cells #[.int .i64 4, .int .i64 0, .int .i64 0, .int .i64 0, .string ⟨#[]⟩, .slice none 0 0] 46)) (fun e w' => (∃ A c, e = .returned (.slice A 3 c)) ∧ Below (wr.alloc (.cells #[.int .i64 4, .int .i64 0, .int .i64 0, .int .i64 0, .string ⟨#[]⟩, .slice none 0 0] 46)).heap.size (wr.alloc (.cells #[.int .i64 4, .int .i64 0, .int .i64 0, .int .i64 0, .string ⟨#[]⟩, .slice none 0 0] 46)) w') from rnum_len 4 code _ (by omega))
          go_upto_region 10 with fail
          generalize wr.alloc (.cells #[.int .i64 4, .int .i64 0, .int .i64 0, .int .i64 0, .string ⟨#[]⟩, .slice none 0 0] 46) = w9 at *
          obtain ⟨x0, x1, x2, x3, x4, x5⟩ := cells6 hx9
          clear hx9 hb9
          have HRD := Lib.hid (fun (W : World) (hW : Below w9.heap.size w9 W) => (show Calls Tryd.prog 36 #[.slice (some ⟨b, off, none⟩) (os.length + 1) cap, .int .i64 3, .int .i64 (-1)] W _ from rread_any _ u os 3 (-1) W (HV.out.below ((((HB.out.trans (HR.out.mono HB.out.size)).trans (HB9.out.mono (Nat.le_trans HB.out.size HR.out.size))).trans (hW.mono (Nat.le_trans (Nat.le_trans HB.out.size HR.out.size) HB9.out.size))))) (by omega) (by omega) HA.out.2.2.2))
          obtain ⟨q, hq⟩ : ∃ q, q = Tx.take (kAt (-1) 3) (os.map fun b => b.data.toList) := ⟨_, rfl⟩
          have HT := Lib.hid (fun (h : q.1 = 0) => Tx.take_ok (by rw [← hq]; exact h))
          rw [← hq] at HQ HRD HT
          have HRX := Lib.hid (show w0.heap.size ≤ wr.heap.size ∧ w.heap.size < w0.heap.size from ⟨HR.out.size, HU.out.lt⟩)
          by_cases h0 : q.1 = 0
          · obtain ⟨-, hok, his, -⟩ := HT.out h0
            obtain ⟨qe, ps⟩ := q
            simp only at h0 hok his
            subst h0
            clear hq
            obtain ⟨p0, l0, rfl, k0, j0⟩ := Tx.mapC (show ps.map Tx.Pt.isN = false :: [false, false] from his)
            obtain ⟨p1, l1, rfl, k1, j1⟩ := Tx.mapC j0
            obtain ⟨p2, rfl, k2⟩ := Tx.map1 j1
            obtain ⟨na, rfl⟩ := Tx.isN_num k0
            obtain ⟨nb, rfl⟩ := Tx.isN_num k1
            obtain ⟨nc, rfl⟩ := Tx.isN_num k2
            have HFIN := Lib.hid (show Tx.readI code u.data.toList (os.map fun b => b.data.toList) = (0, ⟨4, na, nb, nc, ByteArray.empty, []⟩) by rw [HQ.out]; rfl)
            have HRR := Lib.hid (show ∀ (W : World), Below w9.heap.size w9 W → Calls Tryd.prog 36 #[.slice (some ⟨b, off, none⟩) (os.length + 1) cap, .int .i64 3, .int .i64 (-1)] W (fun e w' => (∃ g c, e = .returned (.tuple #[.slice (some ⟨g, 0, none⟩) 3 c, .string ⟨#[]⟩, .int .i64 0]) ∧ 3 ≤ c ∧ W.heap.size ≤ g ∧ ∀ j n, ([na, nb, nc] : List Int)[j]? = some n → w'.cell? ⟨g, j, none⟩ = some (.int .i64 n)) ∧ Below W.heap.size W w') from fun W hW => (HRD.out W hW).mono (by
              rintro e w2 ⟨hb2, ⟨-, v2, rfl, hr2⟩ | ⟨h2, -⟩⟩
              · obtain ⟨g, c, rfl, h3, h4, -, h5⟩ := RowI.at (l := [na, nb, nc]) hr2 (by simp)
                exact ⟨⟨g, c, rfl, h4, h3, h5⟩, hb2⟩
              · exact absurd rfl h2))
            clear hok his HT HRD HQ k0 k1 k2 j0 j1
            go_upto_region 20 with first
              | (go_at_call 32; (with_reducible refine HNU.out.mono ?_); rintro e w10 ⟨⟨A10, c10, rfl⟩, hb10⟩; have HB10 := Lib.hid hb10; have HR10 := Lib.hid (HRR.out w10 hb10); clear hb10)
              | (go_at_call 36; (with_reducible refine HR10.out.mono ?_); rintro e w11 ⟨⟨g, c11, rfl, hc11, hg, hrow⟩, hb11⟩; have HB11 := Lib.hid hb11; have HRW := Lib.hid hrow; have HG := Lib.hid hg; clear hb11 hrow hg)
            have hat := (show RinAt w wr.heap.size #[.int .i64 4, .int .i64 0, .int .i64 0, .int .i64 0, .string ⟨#[]⟩, .slice none 0 0] g [na, nb, nc] w11 from rinAt_new HU.out HB.out HR.out HX9.out HB9.out HB10.out HB11.out HRW.out HG.out)
            obtain ⟨y0, y1, y2, y3, y4, y5⟩ := cells6 hat.box
            obtain ⟨z0, z1, z2, z3, z4, z5⟩ := frozen6 hat.box
            have HAT := Lib.hid hat
            clear hat x0 x1 x2 x3 x4 x5
            go_upto_region 21 with fail
            have hat := HAT.out.put4 (.string ⟨#[]⟩)
            generalize World.setCell _ ⟨wr.heap.size, 4, none⟩ (.string ⟨#[]⟩) = wn at *
            clear HAT y0 y1 y2 y3 y4 y5 z0 z1 z2 z3 z4 z5
            obtain ⟨y0, y1, y2, y3, y4, y5⟩ := cells6 hat.box
            obtain ⟨z0, z1, z2, z3, z4, z5⟩ := frozen6 hat.box
            have r0 := hat.row 0 na rfl
            have r1 := hat.row 1 nb rfl
            have r2 := hat.row 2 nc rfl
            have HAT := Lib.hid hat
            clear hat
            go_upto_region 30 with fail
            have hat := HAT.out.put1 (.int .i64 na)
            generalize World.setCell _ ⟨wr.heap.size, 1, none⟩ (.int .i64 na) = wn at *
            clear HAT y0 y1 y2 y3 y4 y5 z0 z1 z2 z3 z4 z5
            obtain ⟨y0, y1, y2, y3, y4, y5⟩ := cells6 hat.box
            obtain ⟨z0, z1, z2, z3, z4, z5⟩ := frozen6 hat.box
            have r0 := hat.row 0 na rfl
            have r1 := hat.row 1 nb rfl
            have r2 := hat.row 2 nc rfl
            have HAT := Lib.hid hat
            clear hat
            go_upto_region 31 with fail
            have hat := HAT.out.put2 (.int .i64 nb)
            generalize World.setCell _ ⟨wr.heap.size, 2, none⟩ (.int .i64 nb) = wn at *
            clear HAT y0 y1 y2 y3 y4 y5 z0 z1 z2 z3 z4 z5
            obtain ⟨y0, y1, y2, y3, y4, y5⟩ := cells6 hat.box
            obtain ⟨z0, z1, z2, z3, z4, z5⟩ := frozen6 hat.box
            have r0 := hat.row 0 na rfl
            have r1 := hat.row 1 nb rfl
            have r2 := hat.row 2 nc rfl
            have HAT := Lib.hid hat
            clear hat
            go_upto_region 49 with fail
            have hat := HAT.out.put3 (.int .i64 nc)
            generalize World.setCell _ ⟨wr.heap.size, 3, none⟩ (.int .i64 nc) = wn at *
            clear HAT y0 y1 y2 y3 y4 y5 z0 z1 z2 z3 z4 z5
            obtain ⟨y0, y1, y2, y3, y4, y5⟩ := cells6 hat.box
            obtain ⟨z0, z1, z2, z3, z4, z5⟩ := frozen6 hat.box
            have r0 := hat.row 0 na rfl
            have r1 := hat.row 1 nb rfl
            have r2 := hat.row 2 nc rfl
            have HAT := Lib.hid hat
            clear hat
            obtain ⟨f0, f1, f2, f3, f4, f5⟩ := frozen6 HAT.out.res
            obtain ⟨g0, g1, g2, g3, g4, g5⟩ := cells6 HAT.out.res
            go_wp2_with fail
            refine bodyPost_ret (results_ins rfl _ _ w.heap.size _ _ _ _ _ _ rfl (HAT.out.res.q6 _ _ _ _ _ _)) rfl (insPost_ok (sl := .slice none 0 0) HFIN.out (below6 HAT.out.below (Nat.le_refl _) _ _ _ _ _ _) (RowI.nil _ _))
          · obtain ⟨E, hE⟩ : ∃ E, E = q.1 := ⟨_, rfl⟩
            rw [← hE] at h0
            have HFIN := Lib.hid (show (Tx.readI code u.data.toList (os.map fun b => b.data.toList)).1 = E by rw [HQ.out, hE])
            have HRR := Lib.hid (show ∀ (W : World), Below w9.heap.size w9 W → Calls Tryd.prog 36 #[.slice (some ⟨b, off, none⟩) (os.length + 1) cap, .int .i64 3, .int .i64 (-1)] W (fun e w' => e = .returned (.tuple #[.slice none 0 0, .string ⟨#[]⟩, .int .i64 E]) ∧ Below W.heap.size W w') from fun W hW => (HRD.out W hW).mono (by
              rintro e w2 ⟨hb2, ⟨h2, -⟩ | ⟨-, rfl⟩⟩
              · exact absurd (hE.trans h2) h0
              · exact ⟨by rw [hE], hb2⟩))
            have hne : (E != 0) = true := by simpa using h0
            have HNZ := Lib.hid h0
            clear hE hq HT HRD HQ h0
            go_upto_region 18 with first
              | (go_at_call 32; (with_reducible refine HNU.out.mono ?_); rintro e w10 ⟨⟨A10, c10, rfl⟩, hb10⟩; have HB10 := Lib.hid hb10; have HR10 := Lib.hid (HRR.out w10 hb10); clear hb10)
              | (go_at_call 36; (with_reducible refine HR10.out.mono ?_); rintro e w11 ⟨rfl, hb11⟩; have HB11 := Lib.hid hb11; clear hb11)
            have hu := rinRes HU.out HB.out HR.out HB9.out HB10.out HB11.out
            have HUU := Lib.hid hu
            obtain ⟨f0, f1, f2, f3, f4, f5⟩ := frozen6 hu.1
            obtain ⟨g0, g1, g2, g3, g4, g5⟩ := cells6 hu.1
            clear hu
            go_wp2_with fail
            refine bodyPost_ret (results_ins rfl _ _ w.heap.size _ _ _ _ _ _ rfl (HUU.out.1.q6 _ _ _ _ _ _)) rfl (insPost_no HFIN.out HNZ.out (below6 HUU.out.2 (Nat.le_refl _) _ _ _ _ _ _))
        · have HQ := Lib.hid (show Tx.readI code u.data.toList (os.map fun b => b.data.toList) = ((Tx.take (kAt (-1) 3) (os.map fun b => b.data.toList)).1, Tx.mk (Tx.shp 5 code) 5 (Tx.take (kAt (-1) 3) (os.map fun b => b.data.toList)).2) by unfold Tx.readI; rw [HOP.out.1]; simp only; rw [kinds_of HOP.out.2.1 HOP.out.2.2.2]; rfl)
          have hb9 := (Below.refl wr.heap.size wr).alloc (Nat.le_refl _) (.cells #[.int .i64 5, .int .i64 0, .int .i64 0, .int .i64 0, .string ⟨#[]⟩, .slice none 0 0] 46)
          have hx9 := Blk.new wr 46 #[.int .i64 5, .int .i64 0, .int .i64 0, .int .i64 0, .string ⟨#[]⟩, .slice none 0 0]
          have HX9 := Lib.hid hx9
          have HB9 := Lib.hid hb9
          have HNU := Lib.hid (show Calls Tryd.prog 32 #[.agg #[.int .i64 5, .int .i64 0, .int .i64 0, .int .i64 0, .string ⟨#[]⟩, .slice none 0 0], .bool code] (wr.alloc (.cells #[.int .i64 5, .int .i64 0, .int .i64 0, .int .i64 0, .string ⟨#[]⟩, .slice none 0 0] 46)) (fun e w' => (∃ A c, e = .returned (.slice A 3 c)) ∧ Below (wr.alloc (.cells #[.int .i64 5, .int .i64 0, .int .i64 0, .int .i64 0, .string ⟨#[]⟩, .slice none 0 0] 46)).heap.size (wr.alloc (.cells #[.int .i64 5, .int .i64 0, .int .i64 0, .int .i64 0, .string ⟨#[]⟩, .slice none 0 0] 46)) w') from rnum_len 5 code _ (by omega))
          go_upto_region 10 with fail
          generalize wr.alloc (.cells #[.int .i64 5, .int .i64 0, .int .i64 0, .int .i64 0, .string ⟨#[]⟩, .slice none 0 0] 46) = w9 at *
          obtain ⟨x0, x1, x2, x3, x4, x5⟩ := cells6 hx9
          clear hx9 hb9
          have HRD := Lib.hid (fun (W : World) (hW : Below w9.heap.size w9 W) => (show Calls Tryd.prog 36 #[.slice (some ⟨b, off, none⟩) (os.length + 1) cap, .int .i64 3, .int .i64 (-1)] W _ from rread_any _ u os 3 (-1) W (HV.out.below ((((HB.out.trans (HR.out.mono HB.out.size)).trans (HB9.out.mono (Nat.le_trans HB.out.size HR.out.size))).trans (hW.mono (Nat.le_trans (Nat.le_trans HB.out.size HR.out.size) HB9.out.size))))) (by omega) (by omega) HA.out.2.2.2))
          obtain ⟨q, hq⟩ : ∃ q, q = Tx.take (kAt (-1) 3) (os.map fun b => b.data.toList) := ⟨_, rfl⟩
          have HT := Lib.hid (fun (h : q.1 = 0) => Tx.take_ok (by rw [← hq]; exact h))
          rw [← hq] at HQ HRD HT
          have HRX := Lib.hid (show w0.heap.size ≤ wr.heap.size ∧ w.heap.size < w0.heap.size from ⟨HR.out.size, HU.out.lt⟩)
          by_cases h0 : q.1 = 0
          · obtain ⟨-, hok, his, -⟩ := HT.out h0
            obtain ⟨qe, ps⟩ := q
            simp only at h0 hok his
            subst h0
            clear hq
            obtain ⟨p0, l0, rfl, k0, j0⟩ := Tx.mapC (show ps.map Tx.Pt.isN = false :: [false, false] from his)
            obtain ⟨p1, l1, rfl, k1, j1⟩ := Tx.mapC j0
            obtain ⟨p2, rfl, k2⟩ := Tx.map1 j1
            obtain ⟨na, rfl⟩ := Tx.isN_num k0
            obtain ⟨nb, rfl⟩ := Tx.isN_num k1
            obtain ⟨nc, rfl⟩ := Tx.isN_num k2
            have HFIN := Lib.hid (show Tx.readI code u.data.toList (os.map fun b => b.data.toList) = (0, ⟨5, na, nb, nc, ByteArray.empty, []⟩) by rw [HQ.out]; rfl)
            have HRR := Lib.hid (show ∀ (W : World), Below w9.heap.size w9 W → Calls Tryd.prog 36 #[.slice (some ⟨b, off, none⟩) (os.length + 1) cap, .int .i64 3, .int .i64 (-1)] W (fun e w' => (∃ g c, e = .returned (.tuple #[.slice (some ⟨g, 0, none⟩) 3 c, .string ⟨#[]⟩, .int .i64 0]) ∧ 3 ≤ c ∧ W.heap.size ≤ g ∧ ∀ j n, ([na, nb, nc] : List Int)[j]? = some n → w'.cell? ⟨g, j, none⟩ = some (.int .i64 n)) ∧ Below W.heap.size W w') from fun W hW => (HRD.out W hW).mono (by
              rintro e w2 ⟨hb2, ⟨-, v2, rfl, hr2⟩ | ⟨h2, -⟩⟩
              · obtain ⟨g, c, rfl, h3, h4, -, h5⟩ := RowI.at (l := [na, nb, nc]) hr2 (by simp)
                exact ⟨⟨g, c, rfl, h4, h3, h5⟩, hb2⟩
              · exact absurd rfl h2))
            clear hok his HT HRD HQ k0 k1 k2 j0 j1
            go_upto_region 20 with first
              | (go_at_call 32; (with_reducible refine HNU.out.mono ?_); rintro e w10 ⟨⟨A10, c10, rfl⟩, hb10⟩; have HB10 := Lib.hid hb10; have HR10 := Lib.hid (HRR.out w10 hb10); clear hb10)
              | (go_at_call 36; (with_reducible refine HR10.out.mono ?_); rintro e w11 ⟨⟨g, c11, rfl, hc11, hg, hrow⟩, hb11⟩; have HB11 := Lib.hid hb11; have HRW := Lib.hid hrow; have HG := Lib.hid hg; clear hb11 hrow hg)
            have hat := (show RinAt w wr.heap.size #[.int .i64 5, .int .i64 0, .int .i64 0, .int .i64 0, .string ⟨#[]⟩, .slice none 0 0] g [na, nb, nc] w11 from rinAt_new HU.out HB.out HR.out HX9.out HB9.out HB10.out HB11.out HRW.out HG.out)
            obtain ⟨y0, y1, y2, y3, y4, y5⟩ := cells6 hat.box
            obtain ⟨z0, z1, z2, z3, z4, z5⟩ := frozen6 hat.box
            have HAT := Lib.hid hat
            clear hat x0 x1 x2 x3 x4 x5
            go_upto_region 21 with fail
            have hat := HAT.out.put4 (.string ⟨#[]⟩)
            generalize World.setCell _ ⟨wr.heap.size, 4, none⟩ (.string ⟨#[]⟩) = wn at *
            clear HAT y0 y1 y2 y3 y4 y5 z0 z1 z2 z3 z4 z5
            obtain ⟨y0, y1, y2, y3, y4, y5⟩ := cells6 hat.box
            obtain ⟨z0, z1, z2, z3, z4, z5⟩ := frozen6 hat.box
            have r0 := hat.row 0 na rfl
            have r1 := hat.row 1 nb rfl
            have r2 := hat.row 2 nc rfl
            have HAT := Lib.hid hat
            clear hat
            go_upto_region 30 with fail
            have hat := HAT.out.put1 (.int .i64 na)
            generalize World.setCell _ ⟨wr.heap.size, 1, none⟩ (.int .i64 na) = wn at *
            clear HAT y0 y1 y2 y3 y4 y5 z0 z1 z2 z3 z4 z5
            obtain ⟨y0, y1, y2, y3, y4, y5⟩ := cells6 hat.box
            obtain ⟨z0, z1, z2, z3, z4, z5⟩ := frozen6 hat.box
            have r0 := hat.row 0 na rfl
            have r1 := hat.row 1 nb rfl
            have r2 := hat.row 2 nc rfl
            have HAT := Lib.hid hat
            clear hat
            go_upto_region 31 with fail
            have hat := HAT.out.put2 (.int .i64 nb)
            generalize World.setCell _ ⟨wr.heap.size, 2, none⟩ (.int .i64 nb) = wn at *
            clear HAT y0 y1 y2 y3 y4 y5 z0 z1 z2 z3 z4 z5
            obtain ⟨y0, y1, y2, y3, y4, y5⟩ := cells6 hat.box
            obtain ⟨z0, z1, z2, z3, z4, z5⟩ := frozen6 hat.box
            have r0 := hat.row 0 na rfl
            have r1 := hat.row 1 nb rfl
            have r2 := hat.row 2 nc rfl
            have HAT := Lib.hid hat
            clear hat
            go_upto_region 49 with fail
            have hat := HAT.out.put3 (.int .i64 nc)
            generalize World.setCell _ ⟨wr.heap.size, 3, none⟩ (.int .i64 nc) = wn at *
            clear HAT y0 y1 y2 y3 y4 y5 z0 z1 z2 z3 z4 z5
            obtain ⟨y0, y1, y2, y3, y4, y5⟩ := cells6 hat.box
            obtain ⟨z0, z1, z2, z3, z4, z5⟩ := frozen6 hat.box
            have r0 := hat.row 0 na rfl
            have r1 := hat.row 1 nb rfl
            have r2 := hat.row 2 nc rfl
            have HAT := Lib.hid hat
            clear hat
            obtain ⟨f0, f1, f2, f3, f4, f5⟩ := frozen6 HAT.out.res
            obtain ⟨g0, g1, g2, g3, g4, g5⟩ := cells6 HAT.out.res
            go_wp2_with fail
            refine bodyPost_ret (results_ins rfl _ _ w.heap.size _ _ _ _ _ _ rfl (HAT.out.res.q6 _ _ _ _ _ _)) rfl (insPost_ok (sl := .slice none 0 0) HFIN.out (below6 HAT.out.below (Nat.le_refl _) _ _ _ _ _ _) (RowI.nil _ _))
          · obtain ⟨E, hE⟩ : ∃ E, E = q.1 := ⟨_, rfl⟩
            rw [← hE] at h0
            have HFIN := Lib.hid (show (Tx.readI code u.data.toList (os.map fun b => b.data.toList)).1 = E by rw [HQ.out, hE])
            have HRR := Lib.hid (show ∀ (W : World), Below w9.heap.size w9 W → Calls Tryd.prog 36 #[.slice (some ⟨b, off, none⟩) (os.length + 1) cap, .int .i64 3, .int .i64 (-1)] W (fun e w' => e = .returned (.tuple #[.slice none 0 0, .string ⟨#[]⟩, .int .i64 E]) ∧ Below W.heap.size W w') from fun W hW => (HRD.out W hW).mono (by
              rintro e w2 ⟨hb2, ⟨h2, -⟩ | ⟨-, rfl⟩⟩
              · exact absurd (hE.trans h2) h0
              · exact ⟨by rw [hE], hb2⟩))
            have hne : (E != 0) = true := by simpa using h0
            have HNZ := Lib.hid h0
            clear hE hq HT HRD HQ h0
            go_upto_region 18 with first
              | (go_at_call 32; (with_reducible refine HNU.out.mono ?_); rintro e w10 ⟨⟨A10, c10, rfl⟩, hb10⟩; have HB10 := Lib.hid hb10; have HR10 := Lib.hid (HRR.out w10 hb10); clear hb10)
              | (go_at_call 36; (with_reducible refine HR10.out.mono ?_); rintro e w11 ⟨rfl, hb11⟩; have HB11 := Lib.hid hb11; clear hb11)
            have hu := rinRes HU.out HB.out HR.out HB9.out HB10.out HB11.out
            have HUU := Lib.hid hu
            obtain ⟨f0, f1, f2, f3, f4, f5⟩ := frozen6 hu.1
            obtain ⟨g0, g1, g2, g3, g4, g5⟩ := cells6 hu.1
            clear hu
            go_wp2_with fail
            refine bodyPost_ret (results_ins rfl _ _ w.heap.size _ _ _ _ _ _ rfl (HUU.out.1.q6 _ _ _ _ _ _)) rfl (insPost_no HFIN.out HNZ.out (below6 HUU.out.2 (Nat.le_refl _) _ _ _ _ _ _))
        · have HQ := Lib.hid (show Tx.readI code u.data.toList (os.map fun b => b.data.toList) = ((Tx.take (kAt (-1) 3) (os.map fun b => b.data.toList)).1, Tx.mk (Tx.shp 6 code) 6 (Tx.take (kAt (-1) 3) (os.map fun b => b.data.toList)).2) by unfold Tx.readI; rw [HOP.out.1]; simp only; rw [kinds_of HOP.out.2.1 HOP.out.2.2.2]; rfl)
          have hb9 := (Below.refl wr.heap.size wr).alloc (Nat.le_refl _) (.cells #[.int .i64 6, .int .i64 0, .int .i64 0, .int .i64 0, .string ⟨#[]⟩, .slice none 0 0] 46)
          have hx9 := Blk.new wr 46 #[.int .i64 6, .int .i64 0, .int .i64 0, .int .i64 0, .string ⟨#[]⟩, .slice none 0 0]
          have HX9 := Lib.hid hx9
          have HB9 := Lib.hid hb9
          have HNU := Lib.hid (show Calls Tryd.prog 32 #[.agg #[.int .i64 6, .int .i64 0, .int .i64 0, .int .i64 0, .string ⟨#[]⟩, .slice none 0 0], .bool code] (wr.alloc (.cells #[.int .i64 6, .int .i64 0, .int .i64 0, .int .i64 0, .string ⟨#[]⟩, .slice none 0 0] 46)) (fun e w' => (∃ A c, e = .returned (.slice A 3 c)) ∧ Below (wr.alloc (.cells #[.int .i64 6, .int .i64 0, .int .i64 0, .int .i64 0, .string ⟨#[]⟩, .slice none 0 0] 46)).heap.size (wr.alloc (.cells #[.int .i64 6, .int .i64 0, .int .i64 0, .int .i64 0, .string ⟨#[]⟩, .slice none 0 0] 46)) w') from rnum_len 6 code _ (by omega))
          go_upto_region 10 with fail
          generalize wr.alloc (.cells #[.int .i64 6, .int .i64 0, .int .i64 0, .int .i64 0, .string ⟨#[]⟩, .slice none 0 0] 46) = w9 at *
          obtain ⟨x0, x1, x2, x3, x4, x5⟩ := cells6 hx9
          clear hx9 hb9
          have HRD := Lib.hid (fun (W : World) (hW : Below w9.heap.size w9 W) => (show Calls Tryd.prog 36 #[.slice (some ⟨b, off, none⟩) (os.length + 1) cap, .int .i64 3, .int .i64 (-1)] W _ from rread_any _ u os 3 (-1) W (HV.out.below ((((HB.out.trans (HR.out.mono HB.out.size)).trans (HB9.out.mono (Nat.le_trans HB.out.size HR.out.size))).trans (hW.mono (Nat.le_trans (Nat.le_trans HB.out.size HR.out.size) HB9.out.size))))) (by omega) (by omega) HA.out.2.2.2))
          obtain ⟨q, hq⟩ : ∃ q, q = Tx.take (kAt (-1) 3) (os.map fun b => b.data.toList) := ⟨_, rfl⟩
          have HT := Lib.hid (fun (h : q.1 = 0) => Tx.take_ok (by rw [← hq]; exact h))
          rw [← hq] at HQ HRD HT
          have HRX := Lib.hid (show w0.heap.size ≤ wr.heap.size ∧ w.heap.size < w0.heap.size from ⟨HR.out.size, HU.out.lt⟩)
          by_cases h0 : q.1 = 0
          · obtain ⟨-, hok, his, -⟩ := HT.out h0
            obtain ⟨qe, ps⟩ := q
            simp only at h0 hok his
            subst h0
            clear hq
            obtain ⟨p0, l0, rfl, k0, j0⟩ := Tx.mapC (show ps.map Tx.Pt.isN = false :: [false, false] from his)
            obtain ⟨p1, l1, rfl, k1, j1⟩ := Tx.mapC j0
            obtain ⟨p2, rfl, k2⟩ := Tx.map1 j1
            obtain ⟨na, rfl⟩ := Tx.isN_num k0
            obtain ⟨nb, rfl⟩ := Tx.isN_num k1
            obtain ⟨nc, rfl⟩ := Tx.isN_num k2
            have HFIN := Lib.hid (show Tx.readI code u.data.toList (os.map fun b => b.data.toList) = (0, ⟨6, na, nb, nc, ByteArray.empty, []⟩) by rw [HQ.out]; rfl)
            have HRR := Lib.hid (show ∀ (W : World), Below w9.heap.size w9 W → Calls Tryd.prog 36 #[.slice (some ⟨b, off, none⟩) (os.length + 1) cap, .int .i64 3, .int .i64 (-1)] W (fun e w' => (∃ g c, e = .returned (.tuple #[.slice (some ⟨g, 0, none⟩) 3 c, .string ⟨#[]⟩, .int .i64 0]) ∧ 3 ≤ c ∧ W.heap.size ≤ g ∧ ∀ j n, ([na, nb, nc] : List Int)[j]? = some n → w'.cell? ⟨g, j, none⟩ = some (.int .i64 n)) ∧ Below W.heap.size W w') from fun W hW => (HRD.out W hW).mono (by
              rintro e w2 ⟨hb2, ⟨-, v2, rfl, hr2⟩ | ⟨h2, -⟩⟩
              · obtain ⟨g, c, rfl, h3, h4, -, h5⟩ := RowI.at (l := [na, nb, nc]) hr2 (by simp)
                exact ⟨⟨g, c, rfl, h4, h3, h5⟩, hb2⟩
              · exact absurd rfl h2))
            clear hok his HT HRD HQ k0 k1 k2 j0 j1
            go_upto_region 20 with first
              | (go_at_call 32; (with_reducible refine HNU.out.mono ?_); rintro e w10 ⟨⟨A10, c10, rfl⟩, hb10⟩; have HB10 := Lib.hid hb10; have HR10 := Lib.hid (HRR.out w10 hb10); clear hb10)
              | (go_at_call 36; (with_reducible refine HR10.out.mono ?_); rintro e w11 ⟨⟨g, c11, rfl, hc11, hg, hrow⟩, hb11⟩; have HB11 := Lib.hid hb11; have HRW := Lib.hid hrow; have HG := Lib.hid hg; clear hb11 hrow hg)
            have hat := (show RinAt w wr.heap.size #[.int .i64 6, .int .i64 0, .int .i64 0, .int .i64 0, .string ⟨#[]⟩, .slice none 0 0] g [na, nb, nc] w11 from rinAt_new HU.out HB.out HR.out HX9.out HB9.out HB10.out HB11.out HRW.out HG.out)
            obtain ⟨y0, y1, y2, y3, y4, y5⟩ := cells6 hat.box
            obtain ⟨z0, z1, z2, z3, z4, z5⟩ := frozen6 hat.box
            have HAT := Lib.hid hat
            clear hat x0 x1 x2 x3 x4 x5
            go_upto_region 21 with fail
            have hat := HAT.out.put4 (.string ⟨#[]⟩)
            generalize World.setCell _ ⟨wr.heap.size, 4, none⟩ (.string ⟨#[]⟩) = wn at *
            clear HAT y0 y1 y2 y3 y4 y5 z0 z1 z2 z3 z4 z5
            obtain ⟨y0, y1, y2, y3, y4, y5⟩ := cells6 hat.box
            obtain ⟨z0, z1, z2, z3, z4, z5⟩ := frozen6 hat.box
            have r0 := hat.row 0 na rfl
            have r1 := hat.row 1 nb rfl
            have r2 := hat.row 2 nc rfl
            have HAT := Lib.hid hat
            clear hat
            go_upto_region 30 with fail
            have hat := HAT.out.put1 (.int .i64 na)
            generalize World.setCell _ ⟨wr.heap.size, 1, none⟩ (.int .i64 na) = wn at *
            clear HAT y0 y1 y2 y3 y4 y5 z0 z1 z2 z3 z4 z5
            obtain ⟨y0, y1, y2, y3, y4, y5⟩ := cells6 hat.box
            obtain ⟨z0, z1, z2, z3, z4, z5⟩ := frozen6 hat.box
            have r0 := hat.row 0 na rfl
            have r1 := hat.row 1 nb rfl
            have r2 := hat.row 2 nc rfl
            have HAT := Lib.hid hat
            clear hat
            go_upto_region 31 with fail
            have hat := HAT.out.put2 (.int .i64 nb)
            generalize World.setCell _ ⟨wr.heap.size, 2, none⟩ (.int .i64 nb) = wn at *
            clear HAT y0 y1 y2 y3 y4 y5 z0 z1 z2 z3 z4 z5
            obtain ⟨y0, y1, y2, y3, y4, y5⟩ := cells6 hat.box
            obtain ⟨z0, z1, z2, z3, z4, z5⟩ := frozen6 hat.box
            have r0 := hat.row 0 na rfl
            have r1 := hat.row 1 nb rfl
            have r2 := hat.row 2 nc rfl
            have HAT := Lib.hid hat
            clear hat
            go_upto_region 49 with fail
            have hat := HAT.out.put3 (.int .i64 nc)
            generalize World.setCell _ ⟨wr.heap.size, 3, none⟩ (.int .i64 nc) = wn at *
            clear HAT y0 y1 y2 y3 y4 y5 z0 z1 z2 z3 z4 z5
            obtain ⟨y0, y1, y2, y3, y4, y5⟩ := cells6 hat.box
            obtain ⟨z0, z1, z2, z3, z4, z5⟩ := frozen6 hat.box
            have r0 := hat.row 0 na rfl
            have r1 := hat.row 1 nb rfl
            have r2 := hat.row 2 nc rfl
            have HAT := Lib.hid hat
            clear hat
            obtain ⟨f0, f1, f2, f3, f4, f5⟩ := frozen6 HAT.out.res
            obtain ⟨g0, g1, g2, g3, g4, g5⟩ := cells6 HAT.out.res
            go_wp2_with fail
            refine bodyPost_ret (results_ins rfl _ _ w.heap.size _ _ _ _ _ _ rfl (HAT.out.res.q6 _ _ _ _ _ _)) rfl (insPost_ok (sl := .slice none 0 0) HFIN.out (below6 HAT.out.below (Nat.le_refl _) _ _ _ _ _ _) (RowI.nil _ _))
          · obtain ⟨E, hE⟩ : ∃ E, E = q.1 := ⟨_, rfl⟩
            rw [← hE] at h0
            have HFIN := Lib.hid (show (Tx.readI code u.data.toList (os.map fun b => b.data.toList)).1 = E by rw [HQ.out, hE])
            have HRR := Lib.hid (show ∀ (W : World), Below w9.heap.size w9 W → Calls Tryd.prog 36 #[.slice (some ⟨b, off, none⟩) (os.length + 1) cap, .int .i64 3, .int .i64 (-1)] W (fun e w' => e = .returned (.tuple #[.slice none 0 0, .string ⟨#[]⟩, .int .i64 E]) ∧ Below W.heap.size W w') from fun W hW => (HRD.out W hW).mono (by
              rintro e w2 ⟨hb2, ⟨h2, -⟩ | ⟨-, rfl⟩⟩
              · exact absurd (hE.trans h2) h0
              · exact ⟨by rw [hE], hb2⟩))
            have hne : (E != 0) = true := by simpa using h0
            have HNZ := Lib.hid h0
            clear hE hq HT HRD HQ h0
            go_upto_region 18 with first
              | (go_at_call 32; (with_reducible refine HNU.out.mono ?_); rintro e w10 ⟨⟨A10, c10, rfl⟩, hb10⟩; have HB10 := Lib.hid hb10; have HR10 := Lib.hid (HRR.out w10 hb10); clear hb10)
              | (go_at_call 36; (with_reducible refine HR10.out.mono ?_); rintro e w11 ⟨rfl, hb11⟩; have HB11 := Lib.hid hb11; clear hb11)
            have hu := rinRes HU.out HB.out HR.out HB9.out HB10.out HB11.out
            have HUU := Lib.hid hu
            obtain ⟨f0, f1, f2, f3, f4, f5⟩ := frozen6 hu.1
            obtain ⟨g0, g1, g2, g3, g4, g5⟩ := cells6 hu.1
            clear hu
            go_wp2_with fail
            refine bodyPost_ret (results_ins rfl _ _ w.heap.size _ _ _ _ _ _ rfl (HUU.out.1.q6 _ _ _ _ _ _)) rfl (insPost_no HFIN.out HNZ.out (below6 HUU.out.2 (Nat.le_refl _) _ _ _ _ _ _))
        · have HQ := Lib.hid (show Tx.readI code u.data.toList (os.map fun b => b.data.toList) = ((Tx.take (kAt (-1) 3) (os.map fun b => b.data.toList)).1, Tx.mk (Tx.shp 7 code) 7 (Tx.take (kAt (-1) 3) (os.map fun b => b.data.toList)).2) by unfold Tx.readI; rw [HOP.out.1]; simp only; rw [kinds_of HOP.out.2.1 HOP.out.2.2.2]; rfl)
          have hb9 := (Below.refl wr.heap.size wr).alloc (Nat.le_refl _) (.cells #[.int .i64 7, .int .i64 0, .int .i64 0, .int .i64 0, .string ⟨#[]⟩, .slice none 0 0] 46)
          have hx9 := Blk.new wr 46 #[.int .i64 7, .int .i64 0, .int .i64 0, .int .i64 0, .string ⟨#[]⟩, .slice none 0 0]
          have HX9 := Lib.hid hx9
          have HB9 := Lib.hid hb9
          have HNU := Lib.hid (show Calls Tryd.prog 32 #[.agg #[.int .i64 7, .int .i64 0, .int .i64 0, .int .i64 0, .string ⟨#[]⟩, .slice none 0 0], .bool code] (wr.alloc (.cells #[.int .i64 7, .int .i64 0, .int .i64 0, .int .i64 0, .string ⟨#[]⟩, .slice none 0 0] 46)) (fun e w' => (∃ A c, e = .returned (.slice A 3 c)) ∧ Below (wr.alloc (.cells #[.int .i64 7, .int .i64 0, .int .i64 0, .int .i64 0, .string ⟨#[]⟩, .slice none 0 0] 46)).heap.size (wr.alloc (.cells #[.int .i64 7, .int .i64 0, .int .i64 0, .int .i64 0, .string ⟨#[]⟩, .slice none 0 0] 46)) w') from rnum_len 7 code _ (by omega))
          go_upto_region 10 with fail
          generalize wr.alloc (.cells #[.int .i64 7, .int .i64 0, .int .i64 0, .int .i64 0, .string ⟨#[]⟩, .slice none 0 0] 46) = w9 at *
          obtain ⟨x0, x1, x2, x3, x4, x5⟩ := cells6 hx9
          clear hx9 hb9
          have HRD := Lib.hid (fun (W : World) (hW : Below w9.heap.size w9 W) => (show Calls Tryd.prog 36 #[.slice (some ⟨b, off, none⟩) (os.length + 1) cap, .int .i64 3, .int .i64 (-1)] W _ from rread_any _ u os 3 (-1) W (HV.out.below ((((HB.out.trans (HR.out.mono HB.out.size)).trans (HB9.out.mono (Nat.le_trans HB.out.size HR.out.size))).trans (hW.mono (Nat.le_trans (Nat.le_trans HB.out.size HR.out.size) HB9.out.size))))) (by omega) (by omega) HA.out.2.2.2))
          obtain ⟨q, hq⟩ : ∃ q, q = Tx.take (kAt (-1) 3) (os.map fun b => b.data.toList) := ⟨_, rfl⟩
          have HT := Lib.hid (fun (h : q.1 = 0) => Tx.take_ok (by rw [← hq]; exact h))
          rw [← hq] at HQ HRD HT
          have HRX := Lib.hid (show w0.heap.size ≤ wr.heap.size ∧ w.heap.size < w0.heap.size from ⟨HR.out.size, HU.out.lt⟩)
          by_cases h0 : q.1 = 0
          · obtain ⟨-, hok, his, -⟩ := HT.out h0
            obtain ⟨qe, ps⟩ := q
            simp only at h0 hok his
            subst h0
            clear hq
            obtain ⟨p0, l0, rfl, k0, j0⟩ := Tx.mapC (show ps.map Tx.Pt.isN = false :: [false, false] from his)
            obtain ⟨p1, l1, rfl, k1, j1⟩ := Tx.mapC j0
            obtain ⟨p2, rfl, k2⟩ := Tx.map1 j1
            obtain ⟨na, rfl⟩ := Tx.isN_num k0
            obtain ⟨nb, rfl⟩ := Tx.isN_num k1
            obtain ⟨nc, rfl⟩ := Tx.isN_num k2
            have HFIN := Lib.hid (show Tx.readI code u.data.toList (os.map fun b => b.data.toList) = (0, ⟨7, na, nb, nc, ByteArray.empty, []⟩) by rw [HQ.out]; rfl)
            have HRR := Lib.hid (show ∀ (W : World), Below w9.heap.size w9 W → Calls Tryd.prog 36 #[.slice (some ⟨b, off, none⟩) (os.length + 1) cap, .int .i64 3, .int .i64 (-1)] W (fun e w' => (∃ g c, e = .returned (.tuple #[.slice (some ⟨g, 0, none⟩) 3 c, .string ⟨#[]⟩, .int .i64 0]) ∧ 3 ≤ c ∧ W.heap.size ≤ g ∧ ∀ j n, ([na, nb, nc] : List Int)[j]? = some n → w'.cell? ⟨g, j, none⟩ = some (.int .i64 n)) ∧ Below W.heap.size W w') from fun W hW => (HRD.out W hW).mono (by
              rintro e w2 ⟨hb2, ⟨-, v2, rfl, hr2⟩ | ⟨h2, -⟩⟩
              · obtain ⟨g, c, rfl, h3, h4, -, h5⟩ := RowI.at (l := [na, nb, nc]) hr2 (by simp)
                exact ⟨⟨g, c, rfl, h4, h3, h5⟩, hb2⟩
              · exact absurd rfl h2))
            clear hok his HT HRD HQ k0 k1 k2 j0 j1
            go_upto_region 20 with first
              | (go_at_call 32; (with_reducible refine HNU.out.mono ?_); rintro e w10 ⟨⟨A10, c10, rfl⟩, hb10⟩; have HB10 := Lib.hid hb10; have HR10 := Lib.hid (HRR.out w10 hb10); clear hb10)
              | (go_at_call 36; (with_reducible refine HR10.out.mono ?_); rintro e w11 ⟨⟨g, c11, rfl, hc11, hg, hrow⟩, hb11⟩; have HB11 := Lib.hid hb11; have HRW := Lib.hid hrow; have HG := Lib.hid hg; clear hb11 hrow hg)
            have hat := (show RinAt w wr.heap.size #[.int .i64 7, .int .i64 0, .int .i64 0, .int .i64 0, .string ⟨#[]⟩, .slice none 0 0] g [na, nb, nc] w11 from rinAt_new HU.out HB.out HR.out HX9.out HB9.out HB10.out HB11.out HRW.out HG.out)
            obtain ⟨y0, y1, y2, y3, y4, y5⟩ := cells6 hat.box
            obtain ⟨z0, z1, z2, z3, z4, z5⟩ := frozen6 hat.box
            have HAT := Lib.hid hat
            clear hat x0 x1 x2 x3 x4 x5
            go_upto_region 21 with fail
            have hat := HAT.out.put4 (.string ⟨#[]⟩)
            generalize World.setCell _ ⟨wr.heap.size, 4, none⟩ (.string ⟨#[]⟩) = wn at *
            clear HAT y0 y1 y2 y3 y4 y5 z0 z1 z2 z3 z4 z5
            obtain ⟨y0, y1, y2, y3, y4, y5⟩ := cells6 hat.box
            obtain ⟨z0, z1, z2, z3, z4, z5⟩ := frozen6 hat.box
            have r0 := hat.row 0 na rfl
            have r1 := hat.row 1 nb rfl
            have r2 := hat.row 2 nc rfl
            have HAT := Lib.hid hat
            clear hat
            go_upto_region 30 with fail
            have hat := HAT.out.put1 (.int .i64 na)
            generalize World.setCell _ ⟨wr.heap.size, 1, none⟩ (.int .i64 na) = wn at *
            clear HAT y0 y1 y2 y3 y4 y5 z0 z1 z2 z3 z4 z5
            obtain ⟨y0, y1, y2, y3, y4, y5⟩ := cells6 hat.box
            obtain ⟨z0, z1, z2, z3, z4, z5⟩ := frozen6 hat.box
            have r0 := hat.row 0 na rfl
            have r1 := hat.row 1 nb rfl
            have r2 := hat.row 2 nc rfl
            have HAT := Lib.hid hat
            clear hat
            go_upto_region 31 with fail
            have hat := HAT.out.put2 (.int .i64 nb)
            generalize World.setCell _ ⟨wr.heap.size, 2, none⟩ (.int .i64 nb) = wn at *
            clear HAT y0 y1 y2 y3 y4 y5 z0 z1 z2 z3 z4 z5
            obtain ⟨y0, y1, y2, y3, y4, y5⟩ := cells6 hat.box
            obtain ⟨z0, z1, z2, z3, z4, z5⟩ := frozen6 hat.box
            have r0 := hat.row 0 na rfl
            have r1 := hat.row 1 nb rfl
            have r2 := hat.row 2 nc rfl
            have HAT := Lib.hid hat
            clear hat
            go_upto_region 49 with fail
            have hat := HAT.out.put3 (.int .i64 nc)
            generalize World.setCell _ ⟨wr.heap.size, 3, none⟩ (.int .i64 nc) = wn at *
            clear HAT y0 y1 y2 y3 y4 y5 z0 z1 z2 z3 z4 z5
            obtain ⟨y0, y1, y2, y3, y4, y5⟩ := cells6 hat.box
            obtain ⟨z0, z1, z2, z3, z4, z5⟩ := frozen6 hat.box
            have r0 := hat.row 0 na rfl
            have r1 := hat.row 1 nb rfl
            have r2 := hat.row 2 nc rfl
            have HAT := Lib.hid hat
            clear hat
            obtain ⟨f0, f1, f2, f3, f4, f5⟩ := frozen6 HAT.out.res
            obtain ⟨g0, g1, g2, g3, g4, g5⟩ := cells6 HAT.out.res
            go_wp2_with fail
            refine bodyPost_ret (results_ins rfl _ _ w.heap.size _ _ _ _ _ _ rfl (HAT.out.res.q6 _ _ _ _ _ _)) rfl (insPost_ok (sl := .slice none 0 0) HFIN.out (below6 HAT.out.below (Nat.le_refl _) _ _ _ _ _ _) (RowI.nil _ _))
          · obtain ⟨E, hE⟩ : ∃ E, E = q.1 := ⟨_, rfl⟩
            rw [← hE] at h0
            have HFIN := Lib.hid (show (Tx.readI code u.data.toList (os.map fun b => b.data.toList)).1 = E by rw [HQ.out, hE])
            have HRR := Lib.hid (show ∀ (W : World), Below w9.heap.size w9 W → Calls Tryd.prog 36 #[.slice (some ⟨b, off, none⟩) (os.length + 1) cap, .int .i64 3, .int .i64 (-1)] W (fun e w' => e = .returned (.tuple #[.slice none 0 0, .string ⟨#[]⟩, .int .i64 E]) ∧ Below W.heap.size W w') from fun W hW => (HRD.out W hW).mono (by
              rintro e w2 ⟨hb2, ⟨h2, -⟩ | ⟨-, rfl⟩⟩
              · exact absurd (hE.trans h2) h0
              · exact ⟨by rw [hE], hb2⟩))
            have hne : (E != 0) = true := by simpa using h0
            have HNZ := Lib.hid h0
            clear hE hq HT HRD HQ h0
            go_upto_region 18 with first
              | (go_at_call 32; (with_reducible refine HNU.out.mono ?_); rintro e w10 ⟨⟨A10, c10, rfl⟩, hb10⟩; have HB10 := Lib.hid hb10; have HR10 := Lib.hid (HRR.out w10 hb10); clear hb10)
              | (go_at_call 36; (with_reducible refine HR10.out.mono ?_); rintro e w11 ⟨rfl, hb11⟩; have HB11 := Lib.hid hb11; clear hb11)
            have hu := rinRes HU.out HB.out HR.out HB9.out HB10.out HB11.out
            have HUU := Lib.hid hu
            obtain ⟨f0, f1, f2, f3, f4, f5⟩ := frozen6 hu.1
            obtain ⟨g0, g1, g2, g3, g4, g5⟩ := cells6 hu.1
            clear hu
            go_wp2_with fail
            refine bodyPost_ret (results_ins rfl _ _ w.heap.size _ _ _ _ _ _ rfl (HUU.out.1.q6 _ _ _ _ _ _)) rfl (insPost_no HFIN.out HNZ.out (below6 HUU.out.2 (Nat.le_refl _) _ _ _ _ _ _))
        · have HQ := Lib.hid (show Tx.readI code u.data.toList (os.map fun b => b.data.toList) = ((Tx.take (kAt (-1) 2) (os.map fun b => b.data.toList)).1, Tx.mk (Tx.shp 8 code) 8 (Tx.take (kAt (-1) 2) (os.map fun b => b.data.toList)).2) by unfold Tx.readI; rw [HOP.out.1]; simp only; rw [kinds_of HOP.out.2.1 HOP.out.2.2.2]; rfl)
          have hb9 := (Below.refl wr.heap.size wr).alloc (Nat.le_refl _) (.cells #[.int .i64 8, .int .i64 0, .int .i64 0, .int .i64 0, .string ⟨#[]⟩, .slice none 0 0] 46)
          have hx9 := Blk.new wr 46 #[.int .i64 8, .int .i64 0, .int .i64 0, .int .i64 0, .string ⟨#[]⟩, .slice none 0 0]
          have HX9 := Lib.hid hx9
          have HB9 := Lib.hid hb9
          have HNU := Lib.hid (show Calls Tryd.prog 32 #[.agg #[.int .i64 8, .int .i64 0, .int .i64 0, .int .i64 0, .string ⟨#[]⟩, .slice none 0 0], .bool code] (wr.alloc (.cells #[.int .i64 8, .int .i64 0, .int .i64 0, .int .i64 0, .string ⟨#[]⟩, .slice none 0 0] 46)) (fun e w' => (∃ A c, e = .returned (.slice A 2 c)) ∧ Below (wr.alloc (.cells #[.int .i64 8, .int .i64 0, .int .i64 0, .int .i64 0, .string ⟨#[]⟩, .slice none 0 0] 46)).heap.size (wr.alloc (.cells #[.int .i64 8, .int .i64 0, .int .i64 0, .int .i64 0, .string ⟨#[]⟩, .slice none 0 0] 46)) w') from rnum_len 8 code _ (by omega))
          go_upto_region 10 with fail
          generalize wr.alloc (.cells #[.int .i64 8, .int .i64 0, .int .i64 0, .int .i64 0, .string ⟨#[]⟩, .slice none 0 0] 46) = w9 at *
          obtain ⟨x0, x1, x2, x3, x4, x5⟩ := cells6 hx9
          clear hx9 hb9
          have HRD := Lib.hid (fun (W : World) (hW : Below w9.heap.size w9 W) => (show Calls Tryd.prog 36 #[.slice (some ⟨b, off, none⟩) (os.length + 1) cap, .int .i64 2, .int .i64 (-1)] W _ from rread_any _ u os 2 (-1) W (HV.out.below ((((HB.out.trans (HR.out.mono HB.out.size)).trans (HB9.out.mono (Nat.le_trans HB.out.size HR.out.size))).trans (hW.mono (Nat.le_trans (Nat.le_trans HB.out.size HR.out.size) HB9.out.size))))) (by omega) (by omega) HA.out.2.2.2))
          obtain ⟨q, hq⟩ : ∃ q, q = Tx.take (kAt (-1) 2) (os.map fun b => b.data.toList) := ⟨_, rfl⟩
          have HT := Lib.hid (fun (h : q.1 = 0) => Tx.take_ok (by rw [← hq]; exact h))
          rw [← hq] at HQ HRD HT
          have HRX := Lib.hid (show w0.heap.size ≤ wr.heap.size ∧ w.heap.size < w0.heap.size from ⟨HR.out.size, HU.out.lt⟩)
          by_cases h0 : q.1 = 0
          · obtain ⟨-, hok, his, -⟩ := HT.out h0
            obtain ⟨qe, ps⟩ := q
            simp only at h0 hok his
            subst h0
            clear hq
            obtain ⟨p0, l0, rfl, k0, j0⟩ := Tx.mapC (show ps.map Tx.Pt.isN = false :: [false] from his)
            obtain ⟨p1, rfl, k1⟩ := Tx.map1 j0
            obtain ⟨na, rfl⟩ := Tx.isN_num k0
            obtain ⟨nb, rfl⟩ := Tx.isN_num k1
            have HFIN := Lib.hid (show Tx.readI code u.data.toList (os.map fun b => b.data.toList) = (0, ⟨8, na, nb, 0, ByteArray.empty, []⟩) by rw [HQ.out]; rfl)
            have HRR := Lib.hid (show ∀ (W : World), Below w9.heap.size w9 W → Calls Tryd.prog 36 #[.slice (some ⟨b, off, none⟩) (os.length + 1) cap, .int .i64 2, .int .i64 (-1)] W (fun e w' => (∃ g c, e = .returned (.tuple #[.slice (some ⟨g, 0, none⟩) 2 c, .string ⟨#[]⟩, .int .i64 0]) ∧ 2 ≤ c ∧ W.heap.size ≤ g ∧ ∀ j n, ([na, nb] : List Int)[j]? = some n → w'.cell? ⟨g, j, none⟩ = some (.int .i64 n)) ∧ Below W.heap.size W w') from fun W hW => (HRD.out W hW).mono (by
              rintro e w2 ⟨hb2, ⟨-, v2, rfl, hr2⟩ | ⟨h2, -⟩⟩
              · obtain ⟨g, c, rfl, h3, h4, -, h5⟩ := RowI.at (l := [na, nb]) hr2 (by simp)
                exact ⟨⟨g, c, rfl, h4, h3, h5⟩, hb2⟩
              · exact absurd rfl h2))
            clear hok his HT HRD HQ k0 k1 j0
            go_upto_region 20 with first
              | (go_at_call 32; (with_reducible refine HNU.out.mono ?_); rintro e w10 ⟨⟨A10, c10, rfl⟩, hb10⟩; have HB10 := Lib.hid hb10; have HR10 := Lib.hid (HRR.out w10 hb10); clear hb10)
              | (go_at_call 36; (with_reducible refine HR10.out.mono ?_); rintro e w11 ⟨⟨g, c11, rfl, hc11, hg, hrow⟩, hb11⟩; have HB11 := Lib.hid hb11; have HRW := Lib.hid hrow; have HG := Lib.hid hg; clear hb11 hrow hg)
            have hat := (show RinAt w wr.heap.size #[.int .i64 8, .int .i64 0, .int .i64 0, .int .i64 0, .string ⟨#[]⟩, .slice none 0 0] g [na, nb] w11 from rinAt_new HU.out HB.out HR.out HX9.out HB9.out HB10.out HB11.out HRW.out HG.out)
            obtain ⟨y0, y1, y2, y3, y4, y5⟩ := cells6 hat.box
            obtain ⟨z0, z1, z2, z3, z4, z5⟩ := frozen6 hat.box
            have HAT := Lib.hid hat
            clear hat x0 x1 x2 x3 x4 x5
            go_upto_region 21 with fail
            have hat := HAT.out.put4 (.string ⟨#[]⟩)
            generalize World.setCell _ ⟨wr.heap.size, 4, none⟩ (.string ⟨#[]⟩) = wn at *
            clear HAT y0 y1 y2 y3 y4 y5 z0 z1 z2 z3 z4 z5
            obtain ⟨y0, y1, y2, y3, y4, y5⟩ := cells6 hat.box
            obtain ⟨z0, z1, z2, z3, z4, z5⟩ := frozen6 hat.box
            have r0 := hat.row 0 na rfl
            have r1 := hat.row 1 nb rfl
            have HAT := Lib.hid hat
            clear hat
            go_upto_region 23 with fail
            have hat := HAT.out.put1 (.int .i64 na)
            generalize World.setCell _ ⟨wr.heap.size, 1, none⟩ (.int .i64 na) = wn at *
            clear HAT y0 y1 y2 y3 y4 y5 z0 z1 z2 z3 z4 z5
            obtain ⟨y0, y1, y2, y3, y4, y5⟩ := cells6 hat.box
            obtain ⟨z0, z1, z2, z3, z4, z5⟩ := frozen6 hat.box
            have r0 := hat.row 0 na rfl
            have r1 := hat.row 1 nb rfl
            have HAT := Lib.hid hat
            clear hat
            go_upto_region 49 with fail
            have hat := HAT.out.put2 (.int .i64 nb)
            generalize World.setCell _ ⟨wr.heap.size, 2, none⟩ (.int .i64 nb) = wn at *
            clear HAT y0 y1 y2 y3 y4 y5 z0 z1 z2 z3 z4 z5
            obtain ⟨y0, y1, y2, y3, y4, y5⟩ := cells6 hat.box
            obtain ⟨z0, z1, z2, z3, z4, z5⟩ := frozen6 hat.box
            have r0 := hat.row 0 na rfl
            have r1 := hat.row 1 nb rfl
            have HAT := Lib.hid hat
            clear hat
            obtain ⟨f0, f1, f2, f3, f4, f5⟩ := frozen6 HAT.out.res
            obtain ⟨g0, g1, g2, g3, g4, g5⟩ := cells6 HAT.out.res
            go_wp2_with fail
            refine bodyPost_ret (results_ins rfl _ _ w.heap.size _ _ _ _ _ _ rfl (HAT.out.res.q6 _ _ _ _ _ _)) rfl (insPost_ok (sl := .slice none 0 0) HFIN.out (below6 HAT.out.below (Nat.le_refl _) _ _ _ _ _ _) (RowI.nil _ _))
          · obtain ⟨E, hE⟩ : ∃ E, E = q.1 := ⟨_, rfl⟩
            rw [← hE] at h0
            have HFIN := Lib.hid (show (Tx.readI code u.data.toList (os.map fun b => b.data.toList)).1 = E by rw [HQ.out, hE])
            have HRR := Lib.hid (show ∀ (W : World), Below w9.heap.size w9 W → Calls Tryd.prog 36 #[.slice (some ⟨b, off, none⟩) (os.length + 1) cap, .int .i64 2, .int .i64 (-1)] W (fun e w' => e = .returned (.tuple #[.slice none 0 0, .string ⟨#[]⟩, .int .i64 E]) ∧ Below W.heap.size W w') from fun W hW => (HRD.out W hW).mono (by
              rintro e w2 ⟨hb2, ⟨h2, -⟩ | ⟨-, rfl⟩⟩
              · exact absurd (hE.trans h2) h0
              · exact ⟨by rw [hE], hb2⟩))
            have hne : (E != 0) = true := by simpa using h0
            have HNZ := Lib.hid h0
            clear hE hq HT HRD HQ h0
            go_upto_region 18 with first
              | (go_at_call 32; (with_reducible refine HNU.out.mono ?_); rintro e w10 ⟨⟨A10, c10, rfl⟩, hb10⟩; have HB10 := Lib.hid hb10; have HR10 := Lib.hid (HRR.out w10 hb10); clear hb10)
              | (go_at_call 36; (with_reducible refine HR10.out.mono ?_); rintro e w11 ⟨rfl, hb11⟩; have HB11 := Lib.hid hb11; clear hb11)
            have hu := rinRes HU.out HB.out HR.out HB9.out HB10.out HB11.out
            have HUU := Lib.hid hu
            obtain ⟨f0, f1, f2, f3, f4, f5⟩ := frozen6 hu.1
            obtain ⟨g0, g1, g2, g3, g4, g5⟩ := cells6 hu.1
            clear hu
            go_wp2_with fail
            refine bodyPost_ret (results_ins rfl _ _ w.heap.size _ _ _ _ _ _ rfl (HUU.out.1.q6 _ _ _ _ _ _)) rfl (insPost_no HFIN.out HNZ.out (below6 HUU.out.2 (Nat.le_refl _) _ _ _ _ _ _))
        · have HQ := Lib.hid (show Tx.readI code u.data.toList (os.map fun b => b.data.toList) = ((Tx.take (kAt (-1) 2) (os.map fun b => b.data.toList)).1, Tx.mk (Tx.shp 9 code) 9 (Tx.take (kAt (-1) 2) (os.map fun b => b.data.toList)).2) by unfold Tx.readI; rw [HOP.out.1]; simp only; rw [kinds_of HOP.out.2.1 HOP.out.2.2.2]; rfl)
          have hb9 := (Below.refl wr.heap.size wr).alloc (Nat.le_refl _) (.cells #[.int .i64 9, .int .i64 0, .int .i64 0, .int .i64 0, .string ⟨#[]⟩, .slice none 0 0] 46)
          have hx9 := Blk.new wr 46 #[.int .i64 9, .int .i64 0, .int .i64 0, .int .i64 0, .string ⟨#[]⟩, .slice none 0 0]
          have HX9 := Lib.hid hx9
          have HB9 := Lib.hid hb9
          have HNU := Lib.hid (show Calls Tryd.prog 32 #[.agg #[.int .i64 9, .int .i64 0, .int .i64 0, .int .i64 0, .string ⟨#[]⟩, .slice none 0 0], .bool code] (wr.alloc (.cells #[.int .i64 9, .int .i64 0, .int .i64 0, .int .i64 0, .string ⟨#[]⟩, .slice none 0 0] 46)) (fun e w' => (∃ A c, e = .returned (.slice A 2 c)) ∧ Below (wr.alloc (.cells #[.int .i64 9, .int .i64 0, .int .i64 0, .int .i64 0, .string ⟨#[]⟩, .slice none 0 0] 46)).heap.size (wr.alloc (.cells #[.int .i64 9, .int .i64 0, .int .i64 0, .int .i64 0, .string ⟨#[]⟩, .slice none 0 0] 46)) w') from rnum_len 9 code _ (by omega))
          go_upto_region 10 with fail
          generalize wr.alloc (.cells #[.int .i64 9, .int .i64 0, .int .i64 0, .int .i64 0, .string ⟨#[]⟩, .slice none 0 0] 46) = w9 at *
          obtain ⟨x0, x1, x2, x3, x4, x5⟩ := cells6 hx9
          clear hx9 hb9
          have HRD := Lib.hid (fun (W : World) (hW : Below w9.heap.size w9 W) => (show Calls Tryd.prog 36 #[.slice (some ⟨b, off, none⟩) (os.length + 1) cap, .int .i64 2, .int .i64 (-1)] W _ from rread_any _ u os 2 (-1) W (HV.out.below ((((HB.out.trans (HR.out.mono HB.out.size)).trans (HB9.out.mono (Nat.le_trans HB.out.size HR.out.size))).trans (hW.mono (Nat.le_trans (Nat.le_trans HB.out.size HR.out.size) HB9.out.size))))) (by omega) (by omega) HA.out.2.2.2))
          obtain ⟨q, hq⟩ : ∃ q, q = Tx.take (kAt (-1) 2) (os.map fun b => b.data.toList) := ⟨_, rfl⟩
          have HT := Lib.hid (fun (h : q.1 = 0) => Tx.take_ok (by rw [← hq]; exact h))
          rw [← hq] at HQ HRD HT
          have HRX := Lib.hid (show w0.heap.size ≤ wr.heap.size ∧ w.heap.size < w0.heap.size from ⟨HR.out.size, HU.out.lt⟩)
          by_cases h0 : q.1 = 0
          · obtain ⟨-, hok, his, -⟩ := HT.out h0
            obtain ⟨qe, ps⟩ := q
            simp only at h0 hok his
            subst h0
            clear hq
            obtain ⟨p0, l0, rfl, k0, j0⟩ := Tx.mapC (show ps.map Tx.Pt.isN = false :: [false] from his)
            obtain ⟨p1, rfl, k1⟩ := Tx.map1 j0
            obtain ⟨na, rfl⟩ := Tx.isN_num k0
            obtain ⟨nb, rfl⟩ := Tx.isN_num k1
            have HFIN := Lib.hid (show Tx.readI code u.data.toList (os.map fun b => b.data.toList) = (0, ⟨9, 0, na, nb, ByteArray.empty, []⟩) by rw [HQ.out]; rfl)
            have HRR := Lib.hid (show ∀ (W : World), Below w9.heap.size w9 W → Calls Tryd.prog 36 #[.slice (some ⟨b, off, none⟩) (os.length + 1) cap, .int .i64 2, .int .i64 (-1)] W (fun e w' => (∃ g c, e = .returned (.tuple #[.slice (some ⟨g, 0, none⟩) 2 c, .string ⟨#[]⟩, .int .i64 0]) ∧ 2 ≤ c ∧ W.heap.size ≤ g ∧ ∀ j n, ([na, nb] : List Int)[j]? = some n → w'.cell? ⟨g, j, none⟩ = some (.int .i64 n)) ∧ Below W.heap.size W w') from fun W hW => (HRD.out W hW).mono (by
              rintro e w2 ⟨hb2, ⟨-, v2, rfl, hr2⟩ | ⟨h2, -⟩⟩
              · obtain ⟨g, c, rfl, h3, h4, -, h5⟩ := RowI.at (l := [na, nb]) hr2 (by simp)
                exact ⟨⟨g, c, rfl, h4, h3, h5⟩, hb2⟩
              · exact absurd rfl h2))
            clear hok his HT HRD HQ k0 k1 j0
            go_upto_region 20 with first
              | (go_at_call 32; (with_reducible refine HNU.out.mono ?_); rintro e w10 ⟨⟨A10, c10, rfl⟩, hb10⟩; have HB10 := Lib.hid hb10; have HR10 := Lib.hid (HRR.out w10 hb10); clear hb10)
              | (go_at_call 36; (with_reducible refine HR10.out.mono ?_); rintro e w11 ⟨⟨g, c11, rfl, hc11, hg, hrow⟩, hb11⟩; have HB11 := Lib.hid hb11; have HRW := Lib.hid hrow; have HG := Lib.hid hg; clear hb11 hrow hg)
            have hat := (show RinAt w wr.heap.size #[.int .i64 9, .int .i64 0, .int .i64 0, .int .i64 0, .string ⟨#[]⟩, .slice none 0 0] g [na, nb] w11 from rinAt_new HU.out HB.out HR.out HX9.out HB9.out HB10.out HB11.out HRW.out HG.out)
            obtain ⟨y0, y1, y2, y3, y4, y5⟩ := cells6 hat.box
            obtain ⟨z0, z1, z2, z3, z4, z5⟩ := frozen6 hat.box
            have HAT := Lib.hid hat
            clear hat x0 x1 x2 x3 x4 x5
            go_upto_region 21 with fail
            have hat := HAT.out.put4 (.string ⟨#[]⟩)
            generalize World.setCell _ ⟨wr.heap.size, 4, none⟩ (.string ⟨#[]⟩) = wn at *
            clear HAT y0 y1 y2 y3 y4 y5 z0 z1 z2 z3 z4 z5
            obtain ⟨y0, y1, y2, y3, y4, y5⟩ := cells6 hat.box
            obtain ⟨z0, z1, z2, z3, z4, z5⟩ := frozen6 hat.box
            have r0 := hat.row 0 na rfl
            have r1 := hat.row 1 nb rfl
            have HAT := Lib.hid hat
            clear hat
            go_upto_region 34 with fail
            have hat := HAT.out.put2 (.int .i64 na)
            generalize World.setCell _ ⟨wr.heap.size, 2, none⟩ (.int .i64 na) = wn at *
            clear HAT y0 y1 y2 y3 y4 y5 z0 z1 z2 z3 z4 z5
            obtain ⟨y0, y1, y2, y3, y4, y5⟩ := cells6 hat.box
            obtain ⟨z0, z1, z2, z3, z4, z5⟩ := frozen6 hat.box
            have r0 := hat.row 0 na rfl
            have r1 := hat.row 1 nb rfl
            have HAT := Lib.hid hat
            clear hat
            go_upto_region 49 with fail
            have hat := HAT.out.put3 (.int .i64 nb)
            generalize World.setCell _ ⟨wr.heap.size, 3, none⟩ (.int .i64 nb) = wn at *
            clear HAT y0 y1 y2 y3 y4 y5 z0 z1 z2 z3 z4 z5
            obtain ⟨y0, y1, y2, y3, y4, y5⟩ := cells6 hat.box
            obtain ⟨z0, z1, z2, z3, z4, z5⟩ := frozen6 hat.box
            have r0 := hat.row 0 na rfl
            have r1 := hat.row 1 nb rfl
            have HAT := Lib.hid hat
            clear hat
            obtain ⟨f0, f1, f2, f3, f4, f5⟩ := frozen6 HAT.out.res
            obtain ⟨g0, g1, g2, g3, g4, g5⟩ := cells6 HAT.out.res
            go_wp2_with fail
            refine bodyPost_ret (results_ins rfl _ _ w.heap.size _ _ _ _ _ _ rfl (HAT.out.res.q6 _ _ _ _ _ _)) rfl (insPost_ok (sl := .slice none 0 0) HFIN.out (below6 HAT.out.below (Nat.le_refl _) _ _ _ _ _ _) (RowI.nil _ _))
          · obtain ⟨E, hE⟩ : ∃ E, E = q.1 := ⟨_, rfl⟩
            rw [← hE] at h0
            have HFIN := Lib.hid (show (Tx.readI code u.data.toList (os.map fun b => b.data.toList)).1 = E by rw [HQ.out, hE])
            have HRR := Lib.hid (show ∀ (W : World), Below w9.heap.size w9 W → Calls Tryd.prog 36 #[.slice (some ⟨b, off, none⟩) (os.length + 1) cap, .int .i64 2, .int .i64 (-1)] W (fun e w' => e = .returned (.tuple #[.slice none 0 0, .string ⟨#[]⟩, .int .i64 E]) ∧ Below W.heap.size W w') from fun W hW => (HRD.out W hW).mono (by
              rintro e w2 ⟨hb2, ⟨h2, -⟩ | ⟨-, rfl⟩⟩
              · exact absurd (hE.trans h2) h0
              · exact ⟨by rw [hE], hb2⟩))
            have hne : (E != 0) = true := by simpa using h0
            have HNZ := Lib.hid h0
            clear hE hq HT HRD HQ h0
            go_upto_region 18 with first
              | (go_at_call 32; (with_reducible refine HNU.out.mono ?_); rintro e w10 ⟨⟨A10, c10, rfl⟩, hb10⟩; have HB10 := Lib.hid hb10; have HR10 := Lib.hid (HRR.out w10 hb10); clear hb10)
              | (go_at_call 36; (with_reducible refine HR10.out.mono ?_); rintro e w11 ⟨rfl, hb11⟩; have HB11 := Lib.hid hb11; clear hb11)
            have hu := rinRes HU.out HB.out HR.out HB9.out HB10.out HB11.out
            have HUU := Lib.hid hu
            obtain ⟨f0, f1, f2, f3, f4, f5⟩ := frozen6 hu.1
            obtain ⟨g0, g1, g2, g3, g4, g5⟩ := cells6 hu.1
            clear hu
            go_wp2_with fail
            refine bodyPost_ret (results_ins rfl _ _ w.heap.size _ _ _ _ _ _ rfl (HUU.out.1.q6 _ _ _ _ _ _)) rfl (insPost_no HFIN.out HNZ.out (below6 HUU.out.2 (Nat.le_refl _) _ _ _ _ _ _))
        · have HQ := Lib.hid (show Tx.readI code u.data.toList (os.map fun b => b.data.toList) = ((Tx.take (kAt (-1) 1) (os.map fun b => b.data.toList)).1, Tx.mk (Tx.shp 10 code) 10 (Tx.take (kAt (-1) 1) (os.map fun b => b.data.toList)).2) by unfold Tx.readI; rw [HOP.out.1]; simp only; rw [kinds_of HOP.out.2.1 HOP.out.2.2.2]; rfl)
          have hb9 := (Below.refl wr.heap.size wr).alloc (Nat.le_refl _) (.cells #[.int .i64 10, .int .i64 0, .int .i64 0, .int .i64 0, .string ⟨#[]⟩, .slice none 0 0] 46)
          have hx9 := Blk.new wr 46 #[.int .i64 10, .int .i64 0, .int .i64 0, .int .i64 0, .string ⟨#[]⟩, .slice none 0 0]
          have HX9 := Lib.hid hx9
          have HB9 := Lib.hid hb9
          have HNU := Lib.hid (show Calls Tryd.prog 32 #[.agg #[.int .i64 10, .int .i64 0, .int .i64 0, .int .i64 0, .string ⟨#[]⟩, .slice none 0 0], .bool code] (wr.alloc (.cells #[.int .i64 10, .int .i64 0, .int .i64 0, .int .i64 0, .string ⟨#[]⟩, .slice none 0 0] 46)) (fun e w' => (∃ A c, e = .returned (.slice A 1 c)) ∧ Below (wr.alloc (.cells #[.int .i64 10, .int .i64 0, .int .i64 0, .int .i64 0, .string ⟨#[]⟩, .slice none 0 0] 46)).heap.size (wr.alloc (.cells #[.int .i64 10, .int .i64 0, .int .i64 0, .int .i64 0, .string ⟨#[]⟩, .slice none 0 0] 46)) w') from rnum_len 10 code _ (by omega))
          go_upto_region 10 with fail
          generalize wr.alloc (.cells #[.int .i64 10, .int .i64 0, .int .i64 0, .int .i64 0, .string ⟨#[]⟩, .slice none 0 0] 46) = w9 at *
          obtain ⟨x0, x1, x2, x3, x4, x5⟩ := cells6 hx9
          clear hx9 hb9
          have HRD := Lib.hid (fun (W : World) (hW : Below w9.heap.size w9 W) => (show Calls Tryd.prog 36 #[.slice (some ⟨b, off, none⟩) (os.length + 1) cap, .int .i64 1, .int .i64 (-1)] W _ from rread_any _ u os 1 (-1) W (HV.out.below ((((HB.out.trans (HR.out.mono HB.out.size)).trans (HB9.out.mono (Nat.le_trans HB.out.size HR.out.size))).trans (hW.mono (Nat.le_trans (Nat.le_trans HB.out.size HR.out.size) HB9.out.size))))) (by omega) (by omega) HA.out.2.2.2))
          obtain ⟨q, hq⟩ : ∃ q, q = Tx.take (kAt (-1) 1) (os.map fun b => b.data.toList) := ⟨_, rfl⟩
          have HT := Lib.hid (fun (h : q.1 = 0) => Tx.take_ok (by rw [← hq]; exact h))
          rw [← hq] at HQ HRD HT
          have HRX := Lib.hid (show w0.heap.size ≤ wr.heap.size ∧ w.heap.size < w0.heap.size from ⟨HR.out.size, HU.out.lt⟩)
          by_cases h0 : q.1 = 0
          · obtain ⟨-, hok, his, -⟩ := HT.out h0
            obtain ⟨qe, ps⟩ := q
            simp only at h0 hok his
            subst h0
            clear hq
            obtain ⟨p0, rfl, k0⟩ := Tx.map1 his
            obtain ⟨na, rfl⟩ := Tx.isN_num k0
            have HFIN := Lib.hid (show Tx.readI code u.data.toList (os.map fun b => b.data.toList) = (0, ⟨10, 0, na, 0, ByteArray.empty, []⟩) by rw [HQ.out]; rfl)
            have HRR := Lib.hid (show ∀ (W : World), Below w9.heap.size w9 W → Calls Tryd.prog 36 #[.slice (some ⟨b, off, none⟩) (os.length + 1) cap, .int .i64 1, .int .i64 (-1)] W (fun e w' => (∃ g c, e = .returned (.tuple #[.slice (some ⟨g, 0, none⟩) 1 c, .string ⟨#[]⟩, .int .i64 0]) ∧ 1 ≤ c ∧ W.heap.size ≤ g ∧ ∀ j n, ([na] : List Int)[j]? = some n → w'.cell? ⟨g, j, none⟩ = some (.int .i64 n)) ∧ Below W.heap.size W w') from fun W hW => (HRD.out W hW).mono (by
              rintro e w2 ⟨hb2, ⟨-, v2, rfl, hr2⟩ | ⟨h2, -⟩⟩
              · obtain ⟨g, c, rfl, h3, h4, -, h5⟩ := RowI.at (l := [na]) hr2 (by simp)
                exact ⟨⟨g, c, rfl, h4, h3, h5⟩, hb2⟩
              · exact absurd rfl h2))
            clear hok his HT HRD HQ k0 
            go_upto_region 20 with first
              | (go_at_call 32; (with_reducible refine HNU.out.mono ?_); rintro e w10 ⟨⟨A10, c10, rfl⟩, hb10⟩; have HB10 := Lib.hid hb10; have HR10 := Lib.hid (HRR.out w10 hb10); clear hb10)
              | (go_at_call 36; (with_reducible refine HR10.out.mono ?_); rintro e w11 ⟨⟨g, c11, rfl, hc11, hg, hrow⟩, hb11⟩; have HB11 := Lib.hid hb11; have HRW := Lib.hid hrow; have HG := Lib.hid hg; clear hb11 hrow hg)
            have hat := (show RinAt w wr.heap.size #[.int .i64 10, .int .i64 0, .int .i64 0, .int .i64 0, .string ⟨#[]⟩, .slice none 0 0] g [na] w11 from rinAt_new HU.out HB.out HR.out HX9.out HB9.out HB10.out HB11.out HRW.out HG.out)
            obtain ⟨y0, y1, y2, y3, y4, y5⟩ := cells6 hat.box
            obtain ⟨z0, z1, z2, z3, z4, z5⟩ := frozen6 hat.box
            have HAT := Lib.hid hat
            clear hat x0 x1 x2 x3 x4 x5
            go_upto_region 21 with fail
            have hat := HAT.out.put4 (.string ⟨#[]⟩)
            generalize World.setCell _ ⟨wr.heap.size, 4, none⟩ (.string ⟨#[]⟩) = wn at *
            clear HAT y0 y1 y2 y3 y4 y5 z0 z1 z2 z3 z4 z5
            obtain ⟨y0, y1, y2, y3, y4, y5⟩ := cells6 hat.box
            obtain ⟨z0, z1, z2, z3, z4, z5⟩ := frozen6 hat.box
            have r0 := hat.row 0 na rfl
            have HAT := Lib.hid hat
            clear hat
            go_upto_region 49 with fail
            have hat := HAT.out.put2 (.int .i64 na)
            generalize World.setCell _ ⟨wr.heap.size, 2, none⟩ (.int .i64 na) = wn at *
            clear HAT y0 y1 y2 y3 y4 y5 z0 z1 z2 z3 z4 z5
            obtain ⟨y0, y1, y2, y3, y4, y5⟩ := cells6 hat.box
            obtain ⟨z0, z1, z2, z3, z4, z5⟩ := frozen6 hat.box
            have r0 := hat.row 0 na rfl
            have HAT := Lib.hid hat
            clear hat
            obtain ⟨f0, f1, f2, f3, f4, f5⟩ := frozen6 HAT.out.res
            obtain ⟨g0, g1, g2, g3, g4, g5⟩ := cells6 HAT.out.res
            go_wp2_with fail
            refine bodyPost_ret (results_ins rfl _ _ w.heap.size _ _ _ _ _ _ rfl (HAT.out.res.q6 _ _ _ _ _ _)) rfl (insPost_ok (sl := .slice none 0 0) HFIN.out (below6 HAT.out.below (Nat.le_refl _) _ _ _ _ _ _) (RowI.nil _ _))
          · obtain ⟨E, hE⟩ : ∃ E, E = q.1 := ⟨_, rfl⟩
            rw [← hE] at h0
            have HFIN := Lib.hid (show (Tx.readI code u.data.toList (os.map fun b => b.data.toList)).1 = E by rw [HQ.out, hE])
            have HRR := Lib.hid (show ∀ (W : World), Below w9.heap.size w9 W → Calls Tryd.prog 36 #[.slice (some ⟨b, off, none⟩) (os.length + 1) cap, .int .i64 1, .int .i64 (-1)] W (fun e w' => e = .returned (.tuple #[.slice none 0 0, .string ⟨#[]⟩, .int .i64 E]) ∧ Below W.heap.size W w') from fun W hW => (HRD.out W hW).mono (by
              rintro e w2 ⟨hb2, ⟨h2, -⟩ | ⟨-, rfl⟩⟩
              · exact absurd (hE.trans h2) h0
              · exact ⟨by rw [hE], hb2⟩))
            have hne : (E != 0) = true := by simpa using h0
            have HNZ := Lib.hid h0
            clear hE hq HT HRD HQ h0
            go_upto_region 18 with first
              | (go_at_call 32; (with_reducible refine HNU.out.mono ?_); rintro e w10 ⟨⟨A10, c10, rfl⟩, hb10⟩; have HB10 := Lib.hid hb10; have HR10 := Lib.hid (HRR.out w10 hb10); clear hb10)
              | (go_at_call 36; (with_reducible refine HR10.out.mono ?_); rintro e w11 ⟨rfl, hb11⟩; have HB11 := Lib.hid hb11; clear hb11)
            have hu := rinRes HU.out HB.out HR.out HB9.out HB10.out HB11.out
            have HUU := Lib.hid hu
            obtain ⟨f0, f1, f2, f3, f4, f5⟩ := frozen6 hu.1
            obtain ⟨g0, g1, g2, g3, g4, g5⟩ := cells6 hu.1
            clear hu
            go_wp2_with fail
            refine bodyPost_ret (results_ins rfl _ _ w.heap.size _ _ _ _ _ _ rfl (HUU.out.1.q6 _ _ _ _ _ _)) rfl (insPost_no HFIN.out HNZ.out (below6 HUU.out.2 (Nat.le_refl _) _ _ _ _ _ _))
        · cases code with
          | true =>
            have HQ := Lib.hid (show Tx.readI true u.data.toList (os.map fun b => b.data.toList) = ((Tx.take (kAt (1) 3) (os.map fun b => b.data.toList)).1, Tx.mk (Tx.shp 11 true) 11 (Tx.take (kAt (1) 3) (os.map fun b => b.data.toList)).2) by unfold Tx.readI; rw [HOP.out.1]; simp only; rw [kinds_of HOP.out.2.1 HOP.out.2.2.2]; rfl)
            have hb9 := (Below.refl wr.heap.size wr).alloc (Nat.le_refl _) (.cells #[.int .i64 11, .int .i64 0, .int .i64 0, .int .i64 0, .string ⟨#[]⟩, .slice none 0 0] 46)
            have hx9 := Blk.new wr 46 #[.int .i64 11, .int .i64 0, .int .i64 0, .int .i64 0, .string ⟨#[]⟩, .slice none 0 0]
            have HX9 := Lib.hid hx9
            have HB9 := Lib.hid hb9
            have HNU := Lib.hid (show Calls Tryd.prog 32 #[.agg #[.int .i64 11, .int .i64 0, .int .i64 0, .int .i64 0, .string ⟨#[]⟩, .slice none 0 0], .bool true] (wr.alloc (.cells #[.int .i64 11, .int .i64 0, .int .i64 0, .int .i64 0, .string ⟨#[]⟩, .slice none 0 0] 46)) (fun e w' => (∃ A c, e = .returned (.slice A 2 c)) ∧ Below (wr.alloc (.cells #[.int .i64 11, .int .i64 0, .int .i64 0, .int .i64 0, .string ⟨#[]⟩, .slice none 0 0] 46)).heap.size (wr.alloc (.cells #[.int .i64 11, .int .i64 0, .int .i64 0, .int .i64 0, .string ⟨#[]⟩, .slice none 0 0] 46)) w') from rnum_len 11 true _ (by omega))
            go_upto_region 10 with fail
            generalize wr.alloc (.cells #[.int .i64 11, .int .i64 0, .int .i64 0, .int .i64 0, .string ⟨#[]⟩, .slice none 0 0] 46) = w9 at *
            obtain ⟨x0, x1, x2, x3, x4, x5⟩ := cells6 hx9
            clear hx9 hb9
            have HRD := Lib.hid (fun (W : World) (hW : Below w9.heap.size w9 W) => (show Calls Tryd.prog 36 #[.slice (some ⟨b, off, none⟩) (os.length + 1) cap, .int .i64 3, .int .i64 (1)] W _ from rread_any _ u os 3 (1) W (HV.out.below ((((HB.out.trans (HR.out.mono HB.out.size)).trans (HB9.out.mono (Nat.le_trans HB.out.size HR.out.size))).trans (hW.mono (Nat.le_trans (Nat.le_trans HB.out.size HR.out.size) HB9.out.size))))) (by omega) (by omega) HA.out.2.2.2))
            obtain ⟨q, hq⟩ : ∃ q, q = Tx.take (kAt (1) 3) (os.map fun b => b.data.toList) := ⟨_, rfl⟩
            have HT := Lib.hid (fun (h : q.1 = 0) => Tx.take_ok (by rw [← hq]; exact h))
            rw [← hq] at HQ HRD HT
            have HRX := Lib.hid (show w0.heap.size ≤ wr.heap.size ∧ w.heap.size < w0.heap.size from ⟨HR.out.size, HU.out.lt⟩)
            by_cases h0 : q.1 = 0
            · obtain ⟨-, hok, his, -⟩ := HT.out h0
              obtain ⟨qe, ps⟩ := q
              simp only at h0 hok his
              subst h0
              clear hq
              obtain ⟨p0, l0, rfl, k0, j0⟩ := Tx.mapC (show ps.map Tx.Pt.isN = false :: [true, false] from his)
              obtain ⟨p1, l1, rfl, k1, j1⟩ := Tx.mapC j0
              obtain ⟨p2, rfl, k2⟩ := Tx.map1 j1
              obtain ⟨na, rfl⟩ := Tx.isN_num k0
              obtain ⟨s, rfl⟩ := Tx.isN_nm k1
              obtain ⟨nb, rfl⟩ := Tx.isN_num k2
              have HFIN := Lib.hid (show Tx.readI true u.data.toList (os.map fun b => b.data.toList) = (0, ⟨11, na, nb, 0, s, []⟩) by rw [HQ.out]; rfl)
              have HRR := Lib.hid (show ∀ (W : World), Below w9.heap.size w9 W → Calls Tryd.prog 36 #[.slice (some ⟨b, off, none⟩) (os.length + 1) cap, .int .i64 3, .int .i64 (1)] W (fun e w' => (∃ g c, e = .returned (.tuple #[.slice (some ⟨g, 0, none⟩) 2 c, .string s, .int .i64 0]) ∧ 2 ≤ c ∧ W.heap.size ≤ g ∧ ∀ j n, ([na, nb] : List Int)[j]? = some n → w'.cell? ⟨g, j, none⟩ = some (.int .i64 n)) ∧ Below W.heap.size W w') from fun W hW => (HRD.out W hW).mono (by
                rintro e w2 ⟨hb2, ⟨-, v2, rfl, hr2⟩ | ⟨h2, -⟩⟩
                · obtain ⟨g, c, rfl, h3, h4, -, h5⟩ := RowI.at (l := [na, nb]) hr2 (by simp)
                  exact ⟨⟨g, c, rfl, h4, h3, h5⟩, hb2⟩
                · exact absurd rfl h2))
              clear hok his HT HRD HQ k0 k1 k2 j0 j1
              go_upto_region 20 with first
                | (go_at_call 32; (with_reducible refine HNU.out.mono ?_); rintro e w10 ⟨⟨A10, c10, rfl⟩, hb10⟩; have HB10 := Lib.hid hb10; have HR10 := Lib.hid (HRR.out w10 hb10); clear hb10)
                | (go_at_call 36; (with_reducible refine HR10.out.mono ?_); rintro e w11 ⟨⟨g, c11, rfl, hc11, hg, hrow⟩, hb11⟩; have HB11 := Lib.hid hb11; have HRW := Lib.hid hrow; have HG := Lib.hid hg; clear hb11 hrow hg)
              have hat := (show RinAt w wr.heap.size #[.int .i64 11, .int .i64 0, .int .i64 0, .int .i64 0, .string ⟨#[]⟩, .slice none 0 0] g [na, nb] w11 from rinAt_new HU.out HB.out HR.out HX9.out HB9.out HB10.out HB11.out HRW.out HG.out)
              obtain ⟨y0, y1, y2, y3, y4, y5⟩ := cells6 hat.box
              obtain ⟨z0, z1, z2, z3, z4, z5⟩ := frozen6 hat.box
              have HAT := Lib.hid hat
              clear hat x0 x1 x2 x3 x4 x5
              go_upto_region 21 with fail
              have hat := HAT.out.put4 (.string s)
              generalize World.setCell _ ⟨wr.heap.size, 4, none⟩ (.string s) = wn at *
              clear HAT y0 y1 y2 y3 y4 y5 z0 z1 z2 z3 z4 z5
              obtain ⟨y0, y1, y2, y3, y4, y5⟩ := cells6 hat.box
              obtain ⟨z0, z1, z2, z3, z4, z5⟩ := frozen6 hat.box
              have r0 := hat.row 0 na rfl
              have r1 := hat.row 1 nb rfl
              have HAT := Lib.hid hat
              clear hat
              go_upto_region 45 with fail
              have hat := HAT.out.put1 (.int .i64 na)
              generalize World.setCell _ ⟨wr.heap.size, 1, none⟩ (.int .i64 na) = wn at *
              clear HAT y0 y1 y2 y3 y4 y5 z0 z1 z2 z3 z4 z5
              obtain ⟨y0, y1, y2, y3, y4, y5⟩ := cells6 hat.box
              obtain ⟨z0, z1, z2, z3, z4, z5⟩ := frozen6 hat.box
              have r0 := hat.row 0 na rfl
              have r1 := hat.row 1 nb rfl
              have HAT := Lib.hid hat
              clear hat
              go_upto_region 49 with fail
              have hat := HAT.out.put2 (.int .i64 nb)
              generalize World.setCell _ ⟨wr.heap.size, 2, none⟩ (.int .i64 nb) = wn at *
              clear HAT y0 y1 y2 y3 y4 y5 z0 z1 z2 z3 z4 z5
              obtain ⟨y0, y1, y2, y3, y4, y5⟩ := cells6 hat.box
              obtain ⟨z0, z1, z2, z3, z4, z5⟩ := frozen6 hat.box
              have r0 := hat.row 0 na rfl
              have r1 := hat.row 1 nb rfl
              have HAT := Lib.hid hat
              clear hat
              obtain ⟨f0, f1, f2, f3, f4, f5⟩ := frozen6 HAT.out.res
              obtain ⟨g0, g1, g2, g3, g4, g5⟩ := cells6 HAT.out.res
              go_wp2_with fail
              refine bodyPost_ret (results_ins rfl _ _ w.heap.size _ _ _ _ _ _ rfl (HAT.out.res.q6 _ _ _ _ _ _)) rfl (insPost_ok (sl := .slice none 0 0) HFIN.out (below6 HAT.out.below (Nat.le_refl _) _ _ _ _ _ _) (RowI.nil _ _))
            · obtain ⟨E, hE⟩ : ∃ E, E = q.1 := ⟨_, rfl⟩
              rw [← hE] at h0
              have HFIN := Lib.hid (show (Tx.readI true u.data.toList (os.map fun b => b.data.toList)).1 = E by rw [HQ.out, hE])
              have HRR := Lib.hid (show ∀ (W : World), Below w9.heap.size w9 W → Calls Tryd.prog 36 #[.slice (some ⟨b, off, none⟩) (os.length + 1) cap, .int .i64 3, .int .i64 (1)] W (fun e w' => e = .returned (.tuple #[.slice none 0 0, .string ⟨#[]⟩, .int .i64 E]) ∧ Below W.heap.size W w') from fun W hW => (HRD.out W hW).mono (by
                rintro e w2 ⟨hb2, ⟨h2, -⟩ | ⟨-, rfl⟩⟩
                · exact absurd (hE.trans h2) h0
                · exact ⟨by rw [hE], hb2⟩))
              have hne : (E != 0) = true := by simpa using h0
              have HNZ := Lib.hid h0
              clear hE hq HT HRD HQ h0
              go_upto_region 18 with first
                | (go_at_call 32; (with_reducible refine HNU.out.mono ?_); rintro e w10 ⟨⟨A10, c10, rfl⟩, hb10⟩; have HB10 := Lib.hid hb10; have HR10 := Lib.hid (HRR.out w10 hb10); clear hb10)
                | (go_at_call 36; (with_reducible refine HR10.out.mono ?_); rintro e w11 ⟨rfl, hb11⟩; have HB11 := Lib.hid hb11; clear hb11)
              have hu := rinRes HU.out HB.out HR.out HB9.out HB10.out HB11.out
              have HUU := Lib.hid hu
              obtain ⟨f0, f1, f2, f3, f4, f5⟩ := frozen6 hu.1
              obtain ⟨g0, g1, g2, g3, g4, g5⟩ := cells6 hu.1
              clear hu
              go_wp2_with fail
              refine bodyPost_ret (results_ins rfl _ _ w.heap.size _ _ _ _ _ _ rfl (HUU.out.1.q6 _ _ _ _ _ _)) rfl (insPost_no HFIN.out HNZ.out (below6 HUU.out.2 (Nat.le_refl _) _ _ _ _ _ _))
          | false =>
            obtain ⟨M, hM⟩ : ∃ M, M = max 2 os.length := ⟨_, rfl⟩
            have hM2 : 2 ≤ M := by omega
            have hwr : wrap64 (os.length : Int) = (os.length : Int) := by have := HA.out.2.2.2; unfold wrap64; omega
            have hMi : max (2 : Int) (wrap64 (os.length : Int)) = (M : Int) := by rw [hwr]; omega
            clear hwr
            have hMl : M ≤ 1000000 := by have := HA.out.2.2.2; omega
            have HQ := Lib.hid (show Tx.readI false u.data.toList (os.map fun b => b.data.toList) = ((Tx.take (kAt 1 M) (os.map fun b => b.data.toList)).1, Tx.mk 5 11 (Tx.take (kAt 1 M) (os.map fun b => b.data.toList)).2) by unfold Tx.readI; rw [HOP.out.1]; simp only; rw [kinds_of HOP.out.2.1 HOP.out.2.2.2, show manyOf false 11 (os.map fun b => b.data.toList).length = M by rw [hM, List.length_map]; rfl]; rfl)
            have hb9 := (Below.refl wr.heap.size wr).alloc (Nat.le_refl _) (.cells #[.int .i64 11, .int .i64 0, .int .i64 0, .int .i64 0, .string ⟨#[]⟩, .slice none 0 0] 46)
            have hx9 := Blk.new wr 46 #[.int .i64 11, .int .i64 0, .int .i64 0, .int .i64 0, .string ⟨#[]⟩, .slice none 0 0]
            have HX9 := Lib.hid hx9
            have HB9 := Lib.hid hb9
            have HNU := Lib.hid (show Calls Tryd.prog 32 #[.agg #[.int .i64 11, .int .i64 0, .int .i64 0, .int .i64 0, .string ⟨#[]⟩, .slice none 0 0], .bool false] (wr.alloc (.cells #[.int .i64 11, .int .i64 0, .int .i64 0, .int .i64 0, .string ⟨#[]⟩, .slice none 0 0] 46)) (fun e w' => (∃ A c, e = .returned (.slice A 1 c)) ∧ Below (wr.alloc (.cells #[.int .i64 11, .int .i64 0, .int .i64 0, .int .i64 0, .string ⟨#[]⟩, .slice none 0 0] 46)).heap.size (wr.alloc (.cells #[.int .i64 11, .int .i64 0, .int .i64 0, .int .i64 0, .string ⟨#[]⟩, .slice none 0 0] 46)) w') from rnum_len 11 false _ (by omega))
            go_upto_region 10 with fail
            generalize wr.alloc (.cells #[.int .i64 11, .int .i64 0, .int .i64 0, .int .i64 0, .string ⟨#[]⟩, .slice none 0 0] 46) = w9 at *
            obtain ⟨x0, x1, x2, x3, x4, x5⟩ := cells6 hx9
            clear hx9 hb9
            have HRD := Lib.hid (fun (W : World) (hW : Below w9.heap.size w9 W) => (show Calls Tryd.prog 36 #[.slice (some ⟨b, off, none⟩) (os.length + 1) cap, .int .i64 (M : Int), .int .i64 1] W _ from rread_any _ u os M 1 W (HV.out.below ((((HB.out.trans (HR.out.mono HB.out.size)).trans (HB9.out.mono (Nat.le_trans HB.out.size HR.out.size))).trans (hW.mono (Nat.le_trans (Nat.le_trans HB.out.size HR.out.size) HB9.out.size))))) hMl (by omega) HA.out.2.2.2))
            obtain ⟨q, hq⟩ : ∃ q, q = Tx.take (kAt 1 M) (os.map fun b => b.data.toList) := ⟨_, rfl⟩
            have HT := Lib.hid (fun (h : q.1 = 0) => Tx.take_ok (by rw [← hq]; exact h))
            rw [← hq] at HQ HRD HT
            have HM := Lib.hid (And.intro hM (And.intro hM2 hMl))
            clear hM hM2 hMl
            by_cases h0 : q.1 = 0
            · obtain ⟨-, hok, his, -⟩ := HT.out h0
              obtain ⟨qe, ps⟩ := q
              simp only at h0 hok his
              subst h0
              clear hq
              obtain ⟨p0, l0, rfl, k0, j0⟩ := Tx.mapC (show ps.map Tx.Pt.isN = false :: true :: List.replicate (M - 2) false by rw [his, ← kAt_call, show 2 + (M - 2) = M by have := HM.out.2.1; omega])
              obtain ⟨p1, l1, rfl, k1, j1⟩ := Tx.mapC j0
              obtain ⟨na, rfl⟩ := Tx.isN_num k0
              obtain ⟨s, rfl⟩ := Tx.isN_nm k1
              obtain ⟨ns, hns⟩ : ∃ ns, ns = l1.map Tx.Pt.n := ⟨_, rfl⟩
              obtain rfl : ns.map Tx.Pt.num = l1 := by rw [hns]; exact Tx.nums_back j1
              have hnl : ns.length = M - 2 := by have := congrArg List.length j1; simpa using this
              have HNL := Lib.hid (show ns.length + 1 ≤ 1000001 by have := HM.out.2.2; omega)
              have HFIN := Lib.hid (show Tx.readI false u.data.toList (os.map fun b => b.data.toList) = (0, ⟨11, na, 0, 0, s, ns⟩) by rw [HQ.out]; show ((0 : Int), (⟨11, na, 0, 0, s, (ns.map Tx.Pt.num).map Tx.Pt.n⟩ : Ir.In)) = _; rw [map_nums])
              have HRR := Lib.hid (show ∀ (W : World), Below w9.heap.size w9 W → Calls Tryd.prog 36 #[.slice (some ⟨b, off, none⟩) (os.length + 1) cap, .int .i64 (M : Int), .int .i64 1] W (fun e w' => (∃ g c, e = .returned (.tuple #[.slice (some ⟨g, 0, none⟩) (ns.length + 1) c, .string s, .int .i64 0]) ∧ (ns.length + 1 ≤ c ∧ c ≤ maxLen) ∧ W.heap.size ≤ g ∧ ∀ j n, (na :: ns : List Int)[j]? = some n → w'.cell? ⟨g, j, none⟩ = some (.int .i64 n)) ∧ Below W.heap.size W w') from fun W hW => (HRD.out W hW).mono (by
                rintro e w2 ⟨hb2, ⟨-, v2, rfl, hr2⟩ | ⟨h2, -⟩⟩
                · obtain ⟨g, c, rfl, h3, h4, h6, h5⟩ := RowI.at (l := na :: ns) (by rw [← numsP_map ns]; exact hr2) (by simp)
                  refine ⟨⟨g, c, ?_, ⟨h4, h6⟩, h3, h5⟩, hb2⟩
                  show Ending.returned (Value.tuple #[_, .string (nmP s (ns.map Tx.Pt.num)), _]) = _
                  rw [nmP_map]
                  rfl
                · exact absurd rfl h2))
              clear hok his HT HRD HQ k0 k1 j0 j1 hns hnl
              go_upto_region 20 with first
                | (go_at_call 32; (with_reducible refine HNU.out.mono ?_); rintro e w10 ⟨⟨A10, c10, rfl⟩, hb10⟩; have HB10 := Lib.hid hb10; have HR10 := Lib.hid (HRR.out w10 hb10); clear hb10)
                | (go_at_call 36; (with_reducible refine HR10.out.mono ?_); rintro e w11 ⟨⟨g, c11, rfl, ⟨hc11, hm11⟩, hg, hrow⟩, hb11⟩; have HB11 := Lib.hid hb11; have HRW := Lib.hid hrow; have HG := Lib.hid hg; clear hb11 hrow hg)
              have hat := (show RinAt w wr.heap.size #[.int .i64 11, .int .i64 0, .int .i64 0, .int .i64 0, .string ⟨#[]⟩, .slice none 0 0] g (na :: ns) w11 from rinAt_new HU.out HB.out HR.out HX9.out HB9.out HB10.out HB11.out HRW.out HG.out)
              obtain ⟨y0, y1, y2, y3, y4, y5⟩ := cells6 hat.box
              obtain ⟨z0, z1, z2, z3, z4, z5⟩ := frozen6 hat.box
              have HAT := Lib.hid hat
              clear hat x0 x1 x2 x3 x4 x5
              go_upto_region 21 with fail
              have hat := HAT.out.put4 (.string s)
              generalize World.setCell _ ⟨wr.heap.size, 4, none⟩ (.string s) = wn at *
              clear HAT y0 y1 y2 y3 y4 y5 z0 z1 z2 z3 z4 z5
              obtain ⟨y0, y1, y2, y3, y4, y5⟩ := cells6 hat.box
              obtain ⟨z0, z1, z2, z3, z4, z5⟩ := frozen6 hat.box
              have r0 := hat.row 0 na rfl
              have HAT := Lib.hid hat
              clear hat
              go_upto_region 45 with fail
              have hat := HAT.out.put1 (.int .i64 na)
              generalize World.setCell _ ⟨wr.heap.size, 1, none⟩ (.int .i64 na) = wn at *
              clear HAT y0 y1 y2 y3 y4 y5 z0 z1 z2 z3 z4 z5
              obtain ⟨y0, y1, y2, y3, y4, y5⟩ := cells6 hat.box
              obtain ⟨z0, z1, z2, z3, z4, z5⟩ := frozen6 hat.box
              have r0 := hat.row 0 na rfl
              have HAT := Lib.hid hat
              clear hat
              by_cases hz : ns = []
              · subst hz
                go_upto_region 49 with fail
                obtain ⟨f0, f1, f2, f3, f4, f5⟩ := frozen6 HAT.out.res
                obtain ⟨g0, g1, g2, g3, g4, g5⟩ := cells6 HAT.out.res
                go_wp2_with fail
                refine bodyPost_ret (results_ins rfl _ _ w.heap.size _ _ _ _ _ _ rfl (HAT.out.res.q6 _ _ _ _ _ _)) rfl (insPost_ok (sl := .slice none 0 0) HFIN.out (below6 HAT.out.below (Nat.le_refl _) _ _ _ _ _ _) (RowI.nil _ _))
              · have hzl : 0 < ns.length := List.length_pos_iff.2 hz
                have hzi : (1 : Int) < (ns.length : Int) + 1 := by omega
                have hzi2 : (1 : Int) ≤ (ns.length : Int) + 1 := by omega
                have hci : (ns.length : Int) + 1 ≤ (c11 : Int) := by omega
                have hc1 : ¬ c11 = 1 := by omega
                go_upto_region 48 with fail
                have hd := HAT.out.grown (Below.refl wn.heap.size wn).drew
                obtain ⟨q0, q1, q2, q3, q4, q5⟩ := cells6 hd.box
                have HD := Lib.hid hd
                have HLO := Lib.hid (And.intro hd.box.lt hd.res.lt)
                clear hd
                go_region_law (first
                  | (refine step_append_nums (by rfl) (.tmp 139) (.tmp 141) (by rfl) (l := []) (m := ns) (base := wn.heap.size) (off := 1) (bl := g) (RowI.nil _ _) rfl (fun j u hj => by rw [Nat.add_comm]; exact HD.out.row (j + 1) u (by simpa using hj)) (by have := HNL.out; simp; omega) (Nat.le_refl _) (by rfl) (by rfl) ?_; intro v7 w7 hr7 hg7; obtain ⟨g7, c7, rfl, -⟩ := RowI.at (l := ns) hr7 hz; have HR7 := Lib.hid (show RowI w7 wn.heap.size (.slice (some ⟨g7, 0, none⟩) ns.length c7) ns from hr7); have hat7 := HD.out.grown ((Below.refl _ _).grown hg7 (Nat.le_refl _) (fun k e => by simp [Value.ownBlock] at e)); have HAT7 := Lib.hid hat7; obtain ⟨t0, t1, t2, t3, t4, t5⟩ := cells6 hat7.box; obtain ⟨e0, e1, e2, e3, e4, e5⟩ := frozen6 hat7.box; clear hat7 hr7 hg7))
                all_goals
                  have hat := HAT7.out.put5 (.slice (some ⟨g7, 0, none⟩) ns.length c7)
                  have HR8 := Lib.hid (HR7.out.cell_set HLO.out.1 5 (.slice (some ⟨g7, 0, none⟩) ns.length c7))
                  generalize World.setCell _ ⟨wr.heap.size, 5, none⟩ (.slice (some ⟨g7, 0, none⟩) ns.length c7) = wz at *
                  clear HAT y0 y1 y2 y3 y4 y5 z0 z1 z2 z3 z4 z5 t0 t1 t2 t3 t4 t5 e0 e1 e2 e3 e4 e5 q0 q1 q2 q3 q4 q5
                  obtain ⟨y0, y1, y2, y3, y4, y5⟩ := cells6 hat.box
                  obtain ⟨f0, f1, f2, f3, f4, f5⟩ := frozen6 hat.res
                  obtain ⟨g0, g1, g2, g3, g4, g5⟩ := cells6 hat.res
                  have HAT := Lib.hid hat
                  clear hat
                  go_wp2_with fail
                  refine bodyPost_ret (results_ins rfl _ _ w.heap.size _ _ _ _ _ _ rfl (HAT.out.res.q6 _ _ _ _ _ _)) rfl (insPost_ok (sl := .slice (some ⟨g7, 0, none⟩) ns.length c7) HFIN.out (below6 HAT.out.below (Nat.le_refl _) _ _ _ _ _ _) ((HR8.out.six HLO.out.2 _ _ _ _ _ _).less (Nat.le_of_lt HLO.out.2)))
            · obtain ⟨E, hE⟩ : ∃ E, E = q.1 := ⟨_, rfl⟩
              rw [← hE] at h0
              have HFIN := Lib.hid (show (Tx.readI false u.data.toList (os.map fun b => b.data.toList)).1 = E by rw [HQ.out, hE])
              have HRR := Lib.hid (show ∀ (W : World), Below w9.heap.size w9 W → Calls Tryd.prog 36 #[.slice (some ⟨b, off, none⟩) (os.length + 1) cap, .int .i64 (M : Int), .int .i64 1] W (fun e w' => e = .returned (.tuple #[.slice none 0 0, .string ⟨#[]⟩, .int .i64 E]) ∧ Below W.heap.size W w') from fun W hW => (HRD.out W hW).mono (by
                rintro e w2 ⟨hb2, ⟨h2, -⟩ | ⟨-, rfl⟩⟩
                · exact absurd (hE.trans h2) h0
                · exact ⟨by rw [hE], hb2⟩))
              have hne : (E != 0) = true := by simpa using h0
              have HNZ := Lib.hid h0
              clear hE hq HT HRD HQ h0
              go_upto_region 18 with first
                | (go_at_call 32; (with_reducible refine HNU.out.mono ?_); rintro e w10 ⟨⟨A10, c10, rfl⟩, hb10⟩; have HB10 := Lib.hid hb10; have HR10 := Lib.hid (HRR.out w10 hb10); clear hb10)
                | (go_at_call 36; (with_reducible refine HR10.out.mono ?_); rintro e w11 ⟨rfl, hb11⟩; have HB11 := Lib.hid hb11; clear hb11)
              have hu := rinRes HU.out HB.out HR.out HB9.out HB10.out HB11.out
              have HUU := Lib.hid hu
              obtain ⟨f0, f1, f2, f3, f4, f5⟩ := frozen6 hu.1
              obtain ⟨g0, g1, g2, g3, g4, g5⟩ := cells6 hu.1
              clear hu
              go_wp2_with fail
              refine bodyPost_ret (results_ins rfl _ _ w.heap.size _ _ _ _ _ _ rfl (HUU.out.1.q6 _ _ _ _ _ _)) rfl (insPost_no HFIN.out HNZ.out (below6 HUU.out.2 (Nat.le_refl _) _ _ _ _ _ _))
        · have HQ := Lib.hid (show Tx.readI code u.data.toList (os.map fun b => b.data.toList) = ((Tx.take (kAt (-1) 1) (os.map fun b => b.data.toList)).1, Tx.mk (Tx.shp 12 code) 12 (Tx.take (kAt (-1) 1) (os.map fun b => b.data.toList)).2) by unfold Tx.readI; rw [HOP.out.1]; simp only; rw [kinds_of HOP.out.2.1 HOP.out.2.2.2]; rfl)
          have hb9 := (Below.refl wr.heap.size wr).alloc (Nat.le_refl _) (.cells #[.int .i64 12, .int .i64 0, .int .i64 0, .int .i64 0, .string ⟨#[]⟩, .slice none 0 0] 46)
          have hx9 := Blk.new wr 46 #[.int .i64 12, .int .i64 0, .int .i64 0, .int .i64 0, .string ⟨#[]⟩, .slice none 0 0]
          have HX9 := Lib.hid hx9
          have HB9 := Lib.hid hb9
          have HNU := Lib.hid (show Calls Tryd.prog 32 #[.agg #[.int .i64 12, .int .i64 0, .int .i64 0, .int .i64 0, .string ⟨#[]⟩, .slice none 0 0], .bool code] (wr.alloc (.cells #[.int .i64 12, .int .i64 0, .int .i64 0, .int .i64 0, .string ⟨#[]⟩, .slice none 0 0] 46)) (fun e w' => (∃ A c, e = .returned (.slice A 1 c)) ∧ Below (wr.alloc (.cells #[.int .i64 12, .int .i64 0, .int .i64 0, .int .i64 0, .string ⟨#[]⟩, .slice none 0 0] 46)).heap.size (wr.alloc (.cells #[.int .i64 12, .int .i64 0, .int .i64 0, .int .i64 0, .string ⟨#[]⟩, .slice none 0 0] 46)) w') from rnum_len 12 code _ (by omega))
          go_upto_region 10 with fail
          generalize wr.alloc (.cells #[.int .i64 12, .int .i64 0, .int .i64 0, .int .i64 0, .string ⟨#[]⟩, .slice none 0 0] 46) = w9 at *
          obtain ⟨x0, x1, x2, x3, x4, x5⟩ := cells6 hx9
          clear hx9 hb9
          have HRD := Lib.hid (fun (W : World) (hW : Below w9.heap.size w9 W) => (show Calls Tryd.prog 36 #[.slice (some ⟨b, off, none⟩) (os.length + 1) cap, .int .i64 1, .int .i64 (-1)] W _ from rread_any _ u os 1 (-1) W (HV.out.below ((((HB.out.trans (HR.out.mono HB.out.size)).trans (HB9.out.mono (Nat.le_trans HB.out.size HR.out.size))).trans (hW.mono (Nat.le_trans (Nat.le_trans HB.out.size HR.out.size) HB9.out.size))))) (by omega) (by omega) HA.out.2.2.2))
          obtain ⟨q, hq⟩ : ∃ q, q = Tx.take (kAt (-1) 1) (os.map fun b => b.data.toList) := ⟨_, rfl⟩
          have HT := Lib.hid (fun (h : q.1 = 0) => Tx.take_ok (by rw [← hq]; exact h))
          rw [← hq] at HQ HRD HT
          have HRX := Lib.hid (show w0.heap.size ≤ wr.heap.size ∧ w.heap.size < w0.heap.size from ⟨HR.out.size, HU.out.lt⟩)
          by_cases h0 : q.1 = 0
          · obtain ⟨-, hok, his, -⟩ := HT.out h0
            obtain ⟨qe, ps⟩ := q
            simp only at h0 hok his
            subst h0
            clear hq
            obtain ⟨p0, rfl, k0⟩ := Tx.map1 his
            obtain ⟨na, rfl⟩ := Tx.isN_num k0
            have HFIN := Lib.hid (show Tx.readI code u.data.toList (os.map fun b => b.data.toList) = (0, ⟨12, 0, na, 0, ByteArray.empty, []⟩) by rw [HQ.out]; rfl)
            have HRR := Lib.hid (show ∀ (W : World), Below w9.heap.size w9 W → Calls Tryd.prog 36 #[.slice (some ⟨b, off, none⟩) (os.length + 1) cap, .int .i64 1, .int .i64 (-1)] W (fun e w' => (∃ g c, e = .returned (.tuple #[.slice (some ⟨g, 0, none⟩) 1 c, .string ⟨#[]⟩, .int .i64 0]) ∧ 1 ≤ c ∧ W.heap.size ≤ g ∧ ∀ j n, ([na] : List Int)[j]? = some n → w'.cell? ⟨g, j, none⟩ = some (.int .i64 n)) ∧ Below W.heap.size W w') from fun W hW => (HRD.out W hW).mono (by
              rintro e w2 ⟨hb2, ⟨-, v2, rfl, hr2⟩ | ⟨h2, -⟩⟩
              · obtain ⟨g, c, rfl, h3, h4, -, h5⟩ := RowI.at (l := [na]) hr2 (by simp)
                exact ⟨⟨g, c, rfl, h4, h3, h5⟩, hb2⟩
              · exact absurd rfl h2))
            clear hok his HT HRD HQ k0 
            go_upto_region 20 with first
              | (go_at_call 32; (with_reducible refine HNU.out.mono ?_); rintro e w10 ⟨⟨A10, c10, rfl⟩, hb10⟩; have HB10 := Lib.hid hb10; have HR10 := Lib.hid (HRR.out w10 hb10); clear hb10)
              | (go_at_call 36; (with_reducible refine HR10.out.mono ?_); rintro e w11 ⟨⟨g, c11, rfl, hc11, hg, hrow⟩, hb11⟩; have HB11 := Lib.hid hb11; have HRW := Lib.hid hrow; have HG := Lib.hid hg; clear hb11 hrow hg)
            have hat := (show RinAt w wr.heap.size #[.int .i64 12, .int .i64 0, .int .i64 0, .int .i64 0, .string ⟨#[]⟩, .slice none 0 0] g [na] w11 from rinAt_new HU.out HB.out HR.out HX9.out HB9.out HB10.out HB11.out HRW.out HG.out)
            obtain ⟨y0, y1, y2, y3, y4, y5⟩ := cells6 hat.box
            obtain ⟨z0, z1, z2, z3, z4, z5⟩ := frozen6 hat.box
            have HAT := Lib.hid hat
            clear hat x0 x1 x2 x3 x4 x5
            go_upto_region 21 with fail
            have hat := HAT.out.put4 (.string ⟨#[]⟩)
            generalize World.setCell _ ⟨wr.heap.size, 4, none⟩ (.string ⟨#[]⟩) = wn at *
            clear HAT y0 y1 y2 y3 y4 y5 z0 z1 z2 z3 z4 z5
            obtain ⟨y0, y1, y2, y3, y4, y5⟩ := cells6 hat.box
            obtain ⟨z0, z1, z2, z3, z4, z5⟩ := frozen6 hat.box
            have r0 := hat.row 0 na rfl
            have HAT := Lib.hid hat
            clear hat
            go_upto_region 49 with fail
            have hat := HAT.out.put2 (.int .i64 na)
            generalize World.setCell _ ⟨wr.heap.size, 2, none⟩ (.int .i64 na) = wn at *
            clear HAT y0 y1 y2 y3 y4 y5 z0 z1 z2 z3 z4 z5
            obtain ⟨y0, y1, y2, y3, y4, y5⟩ := cells6 hat.box
            obtain ⟨z0, z1, z2, z3, z4, z5⟩ := frozen6 hat.box
            have r0 := hat.row 0 na rfl
            have HAT := Lib.hid hat
            clear hat
            obtain ⟨f0, f1, f2, f3, f4, f5⟩ := frozen6 HAT.out.res
            obtain ⟨g0, g1, g2, g3, g4, g5⟩ := cells6 HAT.out.res
            go_wp2_with fail
            refine bodyPost_ret (results_ins rfl _ _ w.heap.size _ _ _ _ _ _ rfl (HAT.out.res.q6 _ _ _ _ _ _)) rfl (insPost_ok (sl := .slice none 0 0) HFIN.out (below6 HAT.out.below (Nat.le_refl _) _ _ _ _ _ _) (RowI.nil _ _))
          · obtain ⟨E, hE⟩ : ∃ E, E = q.1 := ⟨_, rfl⟩
            rw [← hE] at h0
            have HFIN := Lib.hid (show (Tx.readI code u.data.toList (os.map fun b => b.data.toList)).1 = E by rw [HQ.out, hE])
            have HRR := Lib.hid (show ∀ (W : World), Below w9.heap.size w9 W → Calls Tryd.prog 36 #[.slice (some ⟨b, off, none⟩) (os.length + 1) cap, .int .i64 1, .int .i64 (-1)] W (fun e w' => e = .returned (.tuple #[.slice none 0 0, .string ⟨#[]⟩, .int .i64 E]) ∧ Below W.heap.size W w') from fun W hW => (HRD.out W hW).mono (by
              rintro e w2 ⟨hb2, ⟨h2, -⟩ | ⟨-, rfl⟩⟩
              · exact absurd (hE.trans h2) h0
              · exact ⟨by rw [hE], hb2⟩))
            have hne : (E != 0) = true := by simpa using h0
            have HNZ := Lib.hid h0
            clear hE hq HT HRD HQ h0
            go_upto_region 18 with first
              | (go_at_call 32; (with_reducible refine HNU.out.mono ?_); rintro e w10 ⟨⟨A10, c10, rfl⟩, hb10⟩; have HB10 := Lib.hid hb10; have HR10 := Lib.hid (HRR.out w10 hb10); clear hb10)
              | (go_at_call 36; (with_reducible refine HR10.out.mono ?_); rintro e w11 ⟨rfl, hb11⟩; have HB11 := Lib.hid hb11; clear hb11)
            have hu := rinRes HU.out HB.out HR.out HB9.out HB10.out HB11.out
            have HUU := Lib.hid hu
            obtain ⟨f0, f1, f2, f3, f4, f5⟩ := frozen6 hu.1
            obtain ⟨g0, g1, g2, g3, g4, g5⟩ := cells6 hu.1
            clear hu
            go_wp2_with fail
            refine bodyPost_ret (results_ins rfl _ _ w.heap.size _ _ _ _ _ _ rfl (HUU.out.1.q6 _ _ _ _ _ _)) rfl (insPost_no HFIN.out HNZ.out (below6 HUU.out.2 (Nat.le_refl _) _ _ _ _ _ _))
        · have HQ := Lib.hid (show Tx.readI code u.data.toList (os.map fun b => b.data.toList) = ((Tx.take (kAt (-1) 3) (os.map fun b => b.data.toList)).1, Tx.mk (Tx.shp 13 code) 13 (Tx.take (kAt (-1) 3) (os.map fun b => b.data.toList)).2) by unfold Tx.readI; rw [HOP.out.1]; simp only; rw [kinds_of HOP.out.2.1 HOP.out.2.2.2]; rfl)
          have hb9 := (Below.refl wr.heap.size wr).alloc (Nat.le_refl _) (.cells #[.int .i64 13, .int .i64 0, .int .i64 0, .int .i64 0, .string ⟨#[]⟩, .slice none 0 0] 46)
          have hx9 := Blk.new wr 46 #[.int .i64 13, .int .i64 0, .int .i64 0, .int .i64 0, .string ⟨#[]⟩, .slice none 0 0]
          have HX9 := Lib.hid hx9
          have HB9 := Lib.hid hb9
          have HNU := Lib.hid (show Calls Tryd.prog 32 #[.agg #[.int .i64 13, .int .i64 0, .int .i64 0, .int .i64 0, .string ⟨#[]⟩, .slice none 0 0], .bool code] (wr.alloc (.cells #[.int .i64 13, .int .i64 0, .int .i64 0, .int .i64 0, .string ⟨#[]⟩, .slice none 0 0] 46)) (fun e w' => (∃ A c, e = .returned (.slice A 3 c)) ∧ Below (wr.alloc (.cells #[.int .i64 13, .int .i64 0, .int .i64 0, .int .i64 0, .string ⟨#[]⟩, .slice none 0 0] 46)).heap.size (wr.alloc (.cells #[.int .i64 13, .int .i64 0, .int .i64 0, .int .i64 0, .string ⟨#[]⟩, .slice none 0 0] 46)) w') from rnum_len 13 code _ (by omega))
          go_upto_region 10 with fail
          generalize wr.alloc (.cells #[.int .i64 13, .int .i64 0, .int .i64 0, .int .i64 0, .string ⟨#[]⟩, .slice none 0 0] 46) = w9 at *
          obtain ⟨x0, x1, x2, x3, x4, x5⟩ := cells6 hx9
          clear hx9 hb9
          have HRD := Lib.hid (fun (W : World) (hW : Below w9.heap.size w9 W) => (show Calls Tryd.prog 36 #[.slice (some ⟨b, off, none⟩) (os.length + 1) cap, .int .i64 3, .int .i64 (-1)] W _ from rread_any _ u os 3 (-1) W (HV.out.below ((((HB.out.trans (HR.out.mono HB.out.size)).trans (HB9.out.mono (Nat.le_trans HB.out.size HR.out.size))).trans (hW.mono (Nat.le_trans (Nat.le_trans HB.out.size HR.out.size) HB9.out.size))))) (by omega) (by omega) HA.out.2.2.2))
          obtain ⟨q, hq⟩ : ∃ q, q = Tx.take (kAt (-1) 3) (os.map fun b => b.data.toList) := ⟨_, rfl⟩
          have HT := Lib.hid (fun (h : q.1 = 0) => Tx.take_ok (by rw [← hq]; exact h))
          rw [← hq] at HQ HRD HT
          have HRX := Lib.hid (show w0.heap.size ≤ wr.heap.size ∧ w.heap.size < w0.heap.size from ⟨HR.out.size, HU.out.lt⟩)
          by_cases h0 : q.1 = 0
          · obtain ⟨-, hok, his, -⟩ := HT.out h0
            obtain ⟨qe, ps⟩ := q
            simp only at h0 hok his
            subst h0
            clear hq
            obtain ⟨p0, l0, rfl, k0, j0⟩ := Tx.mapC (show ps.map Tx.Pt.isN = false :: [false, false] from his)
            obtain ⟨p1, l1, rfl, k1, j1⟩ := Tx.mapC j0
            obtain ⟨p2, rfl, k2⟩ := Tx.map1 j1
            obtain ⟨na, rfl⟩ := Tx.isN_num k0
            obtain ⟨nb, rfl⟩ := Tx.isN_num k1
            obtain ⟨nc, rfl⟩ := Tx.isN_num k2
            have HFIN := Lib.hid (show Tx.readI code u.data.toList (os.map fun b => b.data.toList) = (0, ⟨13, nc, na, nb, ByteArray.empty, []⟩) by rw [HQ.out]; rfl)
            have HRR := Lib.hid (show ∀ (W : World), Below w9.heap.size w9 W → Calls Tryd.prog 36 #[.slice (some ⟨b, off, none⟩) (os.length + 1) cap, .int .i64 3, .int .i64 (-1)] W (fun e w' => (∃ g c, e = .returned (.tuple #[.slice (some ⟨g, 0, none⟩) 3 c, .string ⟨#[]⟩, .int .i64 0]) ∧ 3 ≤ c ∧ W.heap.size ≤ g ∧ ∀ j n, ([na, nb, nc] : List Int)[j]? = some n → w'.cell? ⟨g, j, none⟩ = some (.int .i64 n)) ∧ Below W.heap.size W w') from fun W hW => (HRD.out W hW).mono (by
              rintro e w2 ⟨hb2, ⟨-, v2, rfl, hr2⟩ | ⟨h2, -⟩⟩
              · obtain ⟨g, c, rfl, h3, h4, -, h5⟩ := RowI.at (l := [na, nb, nc]) hr2 (by simp)
                exact ⟨⟨g, c, rfl, h4, h3, h5⟩, hb2⟩
              · exact absurd rfl h2))
            clear hok his HT HRD HQ k0 k1 k2 j0 j1
            go_upto_region 20 with first
              | (go_at_call 32; (with_reducible refine HNU.out.mono ?_); rintro e w10 ⟨⟨A10, c10, rfl⟩, hb10⟩; have HB10 := Lib.hid hb10; have HR10 := Lib.hid (HRR.out w10 hb10); clear hb10)
              | (go_at_call 36; (with_reducible refine HR10.out.mono ?_); rintro e w11 ⟨⟨g, c11, rfl, hc11, hg, hrow⟩, hb11⟩; have HB11 := Lib.hid hb11; have HRW := Lib.hid hrow; have HG := Lib.hid hg; clear hb11 hrow hg)
            have hat := (show RinAt w wr.heap.size #[.int .i64 13, .int .i64 0, .int .i64 0, .int .i64 0, .string ⟨#[]⟩, .slice none 0 0] g [na, nb, nc] w11 from rinAt_new HU.out HB.out HR.out HX9.out HB9.out HB10.out HB11.out HRW.out HG.out)
            obtain ⟨y0, y1, y2, y3, y4, y5⟩ := cells6 hat.box
            obtain ⟨z0, z1, z2, z3, z4, z5⟩ := frozen6 hat.box
            have HAT := Lib.hid hat
            clear hat x0 x1 x2 x3 x4 x5
            go_upto_region 21 with fail
            have hat := HAT.out.put4 (.string ⟨#[]⟩)
            generalize World.setCell _ ⟨wr.heap.size, 4, none⟩ (.string ⟨#[]⟩) = wn at *
            clear HAT y0 y1 y2 y3 y4 y5 z0 z1 z2 z3 z4 z5
            obtain ⟨y0, y1, y2, y3, y4, y5⟩ := cells6 hat.box
            obtain ⟨z0, z1, z2, z3, z4, z5⟩ := frozen6 hat.box
            have r0 := hat.row 0 na rfl
            have r1 := hat.row 1 nb rfl
            have r2 := hat.row 2 nc rfl
            have HAT := Lib.hid hat
            clear hat
            go_upto_region 41 with fail
            have hat := HAT.out.put2 (.int .i64 na)
            generalize World.setCell _ ⟨wr.heap.size, 2, none⟩ (.int .i64 na) = wn at *
            clear HAT y0 y1 y2 y3 y4 y5 z0 z1 z2 z3 z4 z5
            obtain ⟨y0, y1, y2, y3, y4, y5⟩ := cells6 hat.box
            obtain ⟨z0, z1, z2, z3, z4, z5⟩ := frozen6 hat.box
            have r0 := hat.row 0 na rfl
            have r1 := hat.row 1 nb rfl
            have r2 := hat.row 2 nc rfl
            have HAT := Lib.hid hat
            clear hat
            go_upto_region 42 with fail
            have hat := HAT.out.put3 (.int .i64 nb)
            generalize World.setCell _ ⟨wr.heap.size, 3, none⟩ (.int .i64 nb) = wn at *
            clear HAT y0 y1 y2 y3 y4 y5 z0 z1 z2 z3 z4 z5
            obtain ⟨y0, y1, y2, y3, y4, y5⟩ := cells6 hat.box
            obtain ⟨z0, z1, z2, z3, z4, z5⟩ := frozen6 hat.box
            have r0 := hat.row 0 na rfl
            have r1 := hat.row 1 nb rfl
            have r2 := hat.row 2 nc rfl
            have HAT := Lib.hid hat
            clear hat
            go_upto_region 49 with fail
            have hat := HAT.out.put1 (.int .i64 nc)
            generalize World.setCell _ ⟨wr.heap.size, 1, none⟩ (.int .i64 nc) = wn at *
            clear HAT y0 y1 y2 y3 y4 y5 z0 z1 z2 z3 z4 z5
            obtain ⟨y0, y1, y2, y3, y4, y5⟩ := cells6 hat.box
            obtain ⟨z0, z1, z2, z3, z4, z5⟩ := frozen6 hat.box
            have r0 := hat.row 0 na rfl
            have r1 := hat.row 1 nb rfl
            have r2 := hat.row 2 nc rfl
            have HAT := Lib.hid hat
            clear hat
            obtain ⟨f0, f1, f2, f3, f4, f5⟩ := frozen6 HAT.out.res
            obtain ⟨g0, g1, g2, g3, g4, g5⟩ := cells6 HAT.out.res
            go_wp2_with fail
            refine bodyPost_ret (results_ins rfl _ _ w.heap.size _ _ _ _ _ _ rfl (HAT.out.res.q6 _ _ _ _ _ _)) rfl (insPost_ok (sl := .slice none 0 0) HFIN.out (below6 HAT.out.below (Nat.le_refl _) _ _ _ _ _ _) (RowI.nil _ _))
          · obtain ⟨E, hE⟩ : ∃ E, E = q.1 := ⟨_, rfl⟩
            rw [← hE] at h0
            have HFIN := Lib.hid (show (Tx.readI code u.data.toList (os.map fun b => b.data.toList)).1 = E by rw [HQ.out, hE])
            have HRR := Lib.hid (show ∀ (W : World), Below w9.heap.size w9 W → Calls Tryd.prog 36 #[.slice (some ⟨b, off, none⟩) (os.length + 1) cap, .int .i64 3, .int .i64 (-1)] W (fun e w' => e = .returned (.tuple #[.slice none 0 0, .string ⟨#[]⟩, .int .i64 E]) ∧ Below W.heap.size W w') from fun W hW => (HRD.out W hW).mono (by
              rintro e w2 ⟨hb2, ⟨h2, -⟩ | ⟨-, rfl⟩⟩
              · exact absurd (hE.trans h2) h0
              · exact ⟨by rw [hE], hb2⟩))
            have hne : (E != 0) = true := by simpa using h0
            have HNZ := Lib.hid h0
            clear hE hq HT HRD HQ h0
            go_upto_region 18 with first
              | (go_at_call 32; (with_reducible refine HNU.out.mono ?_); rintro e w10 ⟨⟨A10, c10, rfl⟩, hb10⟩; have HB10 := Lib.hid hb10; have HR10 := Lib.hid (HRR.out w10 hb10); clear hb10)
              | (go_at_call 36; (with_reducible refine HR10.out.mono ?_); rintro e w11 ⟨rfl, hb11⟩; have HB11 := Lib.hid hb11; clear hb11)
            have hu := rinRes HU.out HB.out HR.out HB9.out HB10.out HB11.out
            have HUU := Lib.hid hu
            obtain ⟨f0, f1, f2, f3, f4, f5⟩ := frozen6 hu.1
            obtain ⟨g0, g1, g2, g3, g4, g5⟩ := cells6 hu.1
            clear hu
            go_wp2_with fail
            refine bodyPost_ret (results_ins rfl _ _ w.heap.size _ _ _ _ _ _ rfl (HUU.out.1.q6 _ _ _ _ _ _)) rfl (insPost_no HFIN.out HNZ.out (below6 HUU.out.2 (Nat.le_refl _) _ _ _ _ _ _))
        · have HQ := Lib.hid (show Tx.readI code u.data.toList (os.map fun b => b.data.toList) = ((Tx.take (kAt (-1) 1) (os.map fun b => b.data.toList)).1, Tx.mk (Tx.shp 14 code) 14 (Tx.take (kAt (-1) 1) (os.map fun b => b.data.toList)).2) by unfold Tx.readI; rw [HOP.out.1]; simp only; rw [kinds_of HOP.out.2.1 HOP.out.2.2.2]; rfl)
          have hb9 := (Below.refl wr.heap.size wr).alloc (Nat.le_refl _) (.cells #[.int .i64 14, .int .i64 0, .int .i64 0, .int .i64 0, .string ⟨#[]⟩, .slice none 0 0] 46)
          have hx9 := Blk.new wr 46 #[.int .i64 14, .int .i64 0, .int .i64 0, .int .i64 0, .string ⟨#[]⟩, .slice none 0 0]
          have HX9 := Lib.hid hx9
          have HB9 := Lib.hid hb9
          have HNU := Lib.hid (show Calls Tryd.prog 32 #[.agg #[.int .i64 14, .int .i64 0, .int .i64 0, .int .i64 0, .string ⟨#[]⟩, .slice none 0 0], .bool code] (wr.alloc (.cells #[.int .i64 14, .int .i64 0, .int .i64 0, .int .i64 0, .string ⟨#[]⟩, .slice none 0 0] 46)) (fun e w' => (∃ A c, e = .returned (.slice A 1 c)) ∧ Below (wr.alloc (.cells #[.int .i64 14, .int .i64 0, .int .i64 0, .int .i64 0, .string ⟨#[]⟩, .slice none 0 0] 46)).heap.size (wr.alloc (.cells #[.int .i64 14, .int .i64 0, .int .i64 0, .int .i64 0, .string ⟨#[]⟩, .slice none 0 0] 46)) w') from rnum_len 14 code _ (by omega))
          go_upto_region 10 with fail
          generalize wr.alloc (.cells #[.int .i64 14, .int .i64 0, .int .i64 0, .int .i64 0, .string ⟨#[]⟩, .slice none 0 0] 46) = w9 at *
          obtain ⟨x0, x1, x2, x3, x4, x5⟩ := cells6 hx9
          clear hx9 hb9
          have HRD := Lib.hid (fun (W : World) (hW : Below w9.heap.size w9 W) => (show Calls Tryd.prog 36 #[.slice (some ⟨b, off, none⟩) (os.length + 1) cap, .int .i64 1, .int .i64 (-1)] W _ from rread_any _ u os 1 (-1) W (HV.out.below ((((HB.out.trans (HR.out.mono HB.out.size)).trans (HB9.out.mono (Nat.le_trans HB.out.size HR.out.size))).trans (hW.mono (Nat.le_trans (Nat.le_trans HB.out.size HR.out.size) HB9.out.size))))) (by omega) (by omega) HA.out.2.2.2))
          obtain ⟨q, hq⟩ : ∃ q, q = Tx.take (kAt (-1) 1) (os.map fun b => b.data.toList) := ⟨_, rfl⟩
          have HT := Lib.hid (fun (h : q.1 = 0) => Tx.take_ok (by rw [← hq]; exact h))
          rw [← hq] at HQ HRD HT
          have HRX := Lib.hid (show w0.heap.size ≤ wr.heap.size ∧ w.heap.size < w0.heap.size from ⟨HR.out.size, HU.out.lt⟩)
          by_cases h0 : q.1 = 0
          · obtain ⟨-, hok, his, -⟩ := HT.out h0
            obtain ⟨qe, ps⟩ := q
            simp only at h0 hok his
            subst h0
            clear hq
            obtain ⟨p0, rfl, k0⟩ := Tx.map1 his
            obtain ⟨na, rfl⟩ := Tx.isN_num k0
            have HFIN := Lib.hid (show Tx.readI code u.data.toList (os.map fun b => b.data.toList) = (0, ⟨14, 0, na, 0, ByteArray.empty, []⟩) by rw [HQ.out]; rfl)
            have HRR := Lib.hid (show ∀ (W : World), Below w9.heap.size w9 W → Calls Tryd.prog 36 #[.slice (some ⟨b, off, none⟩) (os.length + 1) cap, .int .i64 1, .int .i64 (-1)] W (fun e w' => (∃ g c, e = .returned (.tuple #[.slice (some ⟨g, 0, none⟩) 1 c, .string ⟨#[]⟩, .int .i64 0]) ∧ 1 ≤ c ∧ W.heap.size ≤ g ∧ ∀ j n, ([na] : List Int)[j]? = some n → w'.cell? ⟨g, j, none⟩ = some (.int .i64 n)) ∧ Below W.heap.size W w') from fun W hW => (HRD.out W hW).mono (by
              rintro e w2 ⟨hb2, ⟨-, v2, rfl, hr2⟩ | ⟨h2, -⟩⟩
              · obtain ⟨g, c, rfl, h3, h4, -, h5⟩ := RowI.at (l := [na]) hr2 (by simp)
                exact ⟨⟨g, c, rfl, h4, h3, h5⟩, hb2⟩
              · exact absurd rfl h2))
            clear hok his HT HRD HQ k0 
            go_upto_region 20 with first
              | (go_at_call 32; (with_reducible refine HNU.out.mono ?_); rintro e w10 ⟨⟨A10, c10, rfl⟩, hb10⟩; have HB10 := Lib.hid hb10; have HR10 := Lib.hid (HRR.out w10 hb10); clear hb10)
              | (go_at_call 36; (with_reducible refine HR10.out.mono ?_); rintro e w11 ⟨⟨g, c11, rfl, hc11, hg, hrow⟩, hb11⟩; have HB11 := Lib.hid hb11; have HRW := Lib.hid hrow; have HG := Lib.hid hg; clear hb11 hrow hg)
            have hat := (show RinAt w wr.heap.size #[.int .i64 14, .int .i64 0, .int .i64 0, .int .i64 0, .string ⟨#[]⟩, .slice none 0 0] g [na] w11 from rinAt_new HU.out HB.out HR.out HX9.out HB9.out HB10.out HB11.out HRW.out HG.out)
            obtain ⟨y0, y1, y2, y3, y4, y5⟩ := cells6 hat.box
            obtain ⟨z0, z1, z2, z3, z4, z5⟩ := frozen6 hat.box
            have HAT := Lib.hid hat
            clear hat x0 x1 x2 x3 x4 x5
            go_upto_region 21 with fail
            have hat := HAT.out.put4 (.string ⟨#[]⟩)
            generalize World.setCell _ ⟨wr.heap.size, 4, none⟩ (.string ⟨#[]⟩) = wn at *
            clear HAT y0 y1 y2 y3 y4 y5 z0 z1 z2 z3 z4 z5
            obtain ⟨y0, y1, y2, y3, y4, y5⟩ := cells6 hat.box
            obtain ⟨z0, z1, z2, z3, z4, z5⟩ := frozen6 hat.box
            have r0 := hat.row 0 na rfl
            have HAT := Lib.hid hat
            clear hat
            go_upto_region 49 with fail
            have hat := HAT.out.put2 (.int .i64 na)
            generalize World.setCell _ ⟨wr.heap.size, 2, none⟩ (.int .i64 na) = wn at *
            clear HAT y0 y1 y2 y3 y4 y5 z0 z1 z2 z3 z4 z5
            obtain ⟨y0, y1, y2, y3, y4, y5⟩ := cells6 hat.box
            obtain ⟨z0, z1, z2, z3, z4, z5⟩ := frozen6 hat.box
            have r0 := hat.row 0 na rfl
            have HAT := Lib.hid hat
            clear hat
            obtain ⟨f0, f1, f2, f3, f4, f5⟩ := frozen6 HAT.out.res
            obtain ⟨g0, g1, g2, g3, g4, g5⟩ := cells6 HAT.out.res
            go_wp2_with fail
            refine bodyPost_ret (results_ins rfl _ _ w.heap.size _ _ _ _ _ _ rfl (HAT.out.res.q6 _ _ _ _ _ _)) rfl (insPost_ok (sl := .slice none 0 0) HFIN.out (below6 HAT.out.below (Nat.le_refl _) _ _ _ _ _ _) (RowI.nil _ _))
          · obtain ⟨E, hE⟩ : ∃ E, E = q.1 := ⟨_, rfl⟩
            rw [← hE] at h0
            have HFIN := Lib.hid (show (Tx.readI code u.data.toList (os.map fun b => b.data.toList)).1 = E by rw [HQ.out, hE])
            have HRR := Lib.hid (show ∀ (W : World), Below w9.heap.size w9 W → Calls Tryd.prog 36 #[.slice (some ⟨b, off, none⟩) (os.length + 1) cap, .int .i64 1, .int .i64 (-1)] W (fun e w' => e = .returned (.tuple #[.slice none 0 0, .string ⟨#[]⟩, .int .i64 E]) ∧ Below W.heap.size W w') from fun W hW => (HRD.out W hW).mono (by
              rintro e w2 ⟨hb2, ⟨h2, -⟩ | ⟨-, rfl⟩⟩
              · exact absurd (hE.trans h2) h0
              · exact ⟨by rw [hE], hb2⟩))
            have hne : (E != 0) = true := by simpa using h0
            have HNZ := Lib.hid h0
            clear hE hq HT HRD HQ h0
            go_upto_region 18 with first
              | (go_at_call 32; (with_reducible refine HNU.out.mono ?_); rintro e w10 ⟨⟨A10, c10, rfl⟩, hb10⟩; have HB10 := Lib.hid hb10; have HR10 := Lib.hid (HRR.out w10 hb10); clear hb10)
              | (go_at_call 36; (with_reducible refine HR10.out.mono ?_); rintro e w11 ⟨rfl, hb11⟩; have HB11 := Lib.hid hb11; clear hb11)
            have hu := rinRes HU.out HB.out HR.out HB9.out HB10.out HB11.out
            have HUU := Lib.hid hu
            obtain ⟨f0, f1, f2, f3, f4, f5⟩ := frozen6 hu.1
            obtain ⟨g0, g1, g2, g3, g4, g5⟩ := cells6 hu.1
            clear hu
            go_wp2_with fail
            refine bodyPost_ret (results_ins rfl _ _ w.heap.size _ _ _ _ _ _ rfl (HUU.out.1.q6 _ _ _ _ _ _)) rfl (insPost_no HFIN.out HNZ.out (below6 HUU.out.2 (Nat.le_refl _) _ _ _ _ _ _))
        · cases code with
          | false => exact absurd rfl HOP.out.2.2.2
          | true =>
            have HQ := Lib.hid (show Tx.readI true u.data.toList (os.map fun b => b.data.toList) = ((Tx.take (kAt (-1) 2) (os.map fun b => b.data.toList)).1, Tx.mk (Tx.shp 21 true) 21 (Tx.take (kAt (-1) 2) (os.map fun b => b.data.toList)).2) by unfold Tx.readI; rw [HOP.out.1]; simp only; rw [kinds_of HOP.out.2.1 HOP.out.2.2.2]; rfl)
            have hb9 := (Below.refl wr.heap.size wr).alloc (Nat.le_refl _) (.cells #[.int .i64 21, .int .i64 0, .int .i64 0, .int .i64 0, .string ⟨#[]⟩, .slice none 0 0] 46)
            have hx9 := Blk.new wr 46 #[.int .i64 21, .int .i64 0, .int .i64 0, .int .i64 0, .string ⟨#[]⟩, .slice none 0 0]
            have HX9 := Lib.hid hx9
            have HB9 := Lib.hid hb9
            have HNU := Lib.hid (show Calls Tryd.prog 32 #[.agg #[.int .i64 21, .int .i64 0, .int .i64 0, .int .i64 0, .string ⟨#[]⟩, .slice none 0 0], .bool true] (wr.alloc (.cells #[.int .i64 21, .int .i64 0, .int .i64 0, .int .i64 0, .string ⟨#[]⟩, .slice none 0 0] 46)) (fun e w' => (∃ A c, e = .returned (.slice A 2 c)) ∧ Below (wr.alloc (.cells #[.int .i64 21, .int .i64 0, .int .i64 0, .int .i64 0, .string ⟨#[]⟩, .slice none 0 0] 46)).heap.size (wr.alloc (.cells #[.int .i64 21, .int .i64 0, .int .i64 0, .int .i64 0, .string ⟨#[]⟩, .slice none 0 0] 46)) w') from rnum_len 21 true _ (by omega))
            go_upto_region 10 with fail
            generalize wr.alloc (.cells #[.int .i64 21, .int .i64 0, .int .i64 0, .int .i64 0, .string ⟨#[]⟩, .slice none 0 0] 46) = w9 at *
            obtain ⟨x0, x1, x2, x3, x4, x5⟩ := cells6 hx9
            clear hx9 hb9
            have HRD := Lib.hid (fun (W : World) (hW : Below w9.heap.size w9 W) => (show Calls Tryd.prog 36 #[.slice (some ⟨b, off, none⟩) (os.length + 1) cap, .int .i64 2, .int .i64 (-1)] W _ from rread_any _ u os 2 (-1) W (HV.out.below ((((HB.out.trans (HR.out.mono HB.out.size)).trans (HB9.out.mono (Nat.le_trans HB.out.size HR.out.size))).trans (hW.mono (Nat.le_trans (Nat.le_trans HB.out.size HR.out.size) HB9.out.size))))) (by omega) (by omega) HA.out.2.2.2))
            obtain ⟨q, hq⟩ : ∃ q, q = Tx.take (kAt (-1) 2) (os.map fun b => b.data.toList) := ⟨_, rfl⟩
            have HT := Lib.hid (fun (h : q.1 = 0) => Tx.take_ok (by rw [← hq]; exact h))
            rw [← hq] at HQ HRD HT
            have HRX := Lib.hid (show w0.heap.size ≤ wr.heap.size ∧ w.heap.size < w0.heap.size from ⟨HR.out.size, HU.out.lt⟩)
            by_cases h0 : q.1 = 0
            · obtain ⟨-, hok, his, -⟩ := HT.out h0
              obtain ⟨qe, ps⟩ := q
              simp only at h0 hok his
              subst h0
              clear hq
              obtain ⟨p0, l0, rfl, k0, j0⟩ := Tx.mapC (show ps.map Tx.Pt.isN = false :: [false] from his)
              obtain ⟨p1, rfl, k1⟩ := Tx.map1 j0
              obtain ⟨na, rfl⟩ := Tx.isN_num k0
              obtain ⟨nb, rfl⟩ := Tx.isN_num k1
              have HFIN := Lib.hid (show Tx.readI true u.data.toList (os.map fun b => b.data.toList) = (0, ⟨21, na, nb, 0, ByteArray.empty, []⟩) by rw [HQ.out]; rfl)
              have HRR := Lib.hid (show ∀ (W : World), Below w9.heap.size w9 W → Calls Tryd.prog 36 #[.slice (some ⟨b, off, none⟩) (os.length + 1) cap, .int .i64 2, .int .i64 (-1)] W (fun e w' => (∃ g c, e = .returned (.tuple #[.slice (some ⟨g, 0, none⟩) 2 c, .string ⟨#[]⟩, .int .i64 0]) ∧ 2 ≤ c ∧ W.heap.size ≤ g ∧ ∀ j n, ([na, nb] : List Int)[j]? = some n → w'.cell? ⟨g, j, none⟩ = some (.int .i64 n)) ∧ Below W.heap.size W w') from fun W hW => (HRD.out W hW).mono (by
                rintro e w2 ⟨hb2, ⟨-, v2, rfl, hr2⟩ | ⟨h2, -⟩⟩
                · obtain ⟨g, c, rfl, h3, h4, -, h5⟩ := RowI.at (l := [na, nb]) hr2 (by simp)
                  exact ⟨⟨g, c, rfl, h4, h3, h5⟩, hb2⟩
                · exact absurd rfl h2))
              clear hok his HT HRD HQ k0 k1 j0
              go_upto_region 20 with first
                | (go_at_call 32; (with_reducible refine HNU.out.mono ?_); rintro e w10 ⟨⟨A10, c10, rfl⟩, hb10⟩; have HB10 := Lib.hid hb10; have HR10 := Lib.hid (HRR.out w10 hb10); clear hb10)
                | (go_at_call 36; (with_reducible refine HR10.out.mono ?_); rintro e w11 ⟨⟨g, c11, rfl, hc11, hg, hrow⟩, hb11⟩; have HB11 := Lib.hid hb11; have HRW := Lib.hid hrow; have HG := Lib.hid hg; clear hb11 hrow hg)
              have hat := (show RinAt w wr.heap.size #[.int .i64 21, .int .i64 0, .int .i64 0, .int .i64 0, .string ⟨#[]⟩, .slice none 0 0] g [na, nb] w11 from rinAt_new HU.out HB.out HR.out HX9.out HB9.out HB10.out HB11.out HRW.out HG.out)
              obtain ⟨y0, y1, y2, y3, y4, y5⟩ := cells6 hat.box
              obtain ⟨z0, z1, z2, z3, z4, z5⟩ := frozen6 hat.box
              have HAT := Lib.hid hat
              clear hat x0 x1 x2 x3 x4 x5
              go_upto_region 21 with fail
              have hat := HAT.out.put4 (.string ⟨#[]⟩)
              generalize World.setCell _ ⟨wr.heap.size, 4, none⟩ (.string ⟨#[]⟩) = wn at *
              clear HAT y0 y1 y2 y3 y4 y5 z0 z1 z2 z3 z4 z5
              obtain ⟨y0, y1, y2, y3, y4, y5⟩ := cells6 hat.box
              obtain ⟨z0, z1, z2, z3, z4, z5⟩ := frozen6 hat.box
              have r0 := hat.row 0 na rfl
              have r1 := hat.row 1 nb rfl
              have HAT := Lib.hid hat
              clear hat
              go_upto_region 23 with fail
              have hat := HAT.out.put1 (.int .i64 na)
              generalize World.setCell _ ⟨wr.heap.size, 1, none⟩ (.int .i64 na) = wn at *
              clear HAT y0 y1 y2 y3 y4 y5 z0 z1 z2 z3 z4 z5
              obtain ⟨y0, y1, y2, y3, y4, y5⟩ := cells6 hat.box
              obtain ⟨z0, z1, z2, z3, z4, z5⟩ := frozen6 hat.box
              have r0 := hat.row 0 na rfl
              have r1 := hat.row 1 nb rfl
              have HAT := Lib.hid hat
              clear hat
              go_upto_region 49 with fail
              have hat := HAT.out.put2 (.int .i64 nb)
              generalize World.setCell _ ⟨wr.heap.size, 2, none⟩ (.int .i64 nb) = wn at *
              clear HAT y0 y1 y2 y3 y4 y5 z0 z1 z2 z3 z4 z5
              obtain ⟨y0, y1, y2, y3, y4, y5⟩ := cells6 hat.box
              obtain ⟨z0, z1, z2, z3, z4, z5⟩ := frozen6 hat.box
              have r0 := hat.row 0 na rfl
              have r1 := hat.row 1 nb rfl
              have HAT := Lib.hid hat
              clear hat
              obtain ⟨f0, f1, f2, f3, f4, f5⟩ := frozen6 HAT.out.res
              obtain ⟨g0, g1, g2, g3, g4, g5⟩ := cells6 HAT.out.res
              go_wp2_with fail
              refine bodyPost_ret (results_ins rfl _ _ w.heap.size _ _ _ _ _ _ rfl (HAT.out.res.q6 _ _ _ _ _ _)) rfl (insPost_ok (sl := .slice none 0 0) HFIN.out (below6 HAT.out.below (Nat.le_refl _) _ _ _ _ _ _) (RowI.nil _ _))
            · obtain ⟨E, hE⟩ : ∃ E, E = q.1 := ⟨_, rfl⟩
              rw [← hE] at h0
              have HFIN := Lib.hid (show (Tx.readI true u.data.toList (os.map fun b => b.data.toList)).1 = E by rw [HQ.out, hE])
              have HRR := Lib.hid (show ∀ (W : World), Below w9.heap.size w9 W → Calls Tryd.prog 36 #[.slice (some ⟨b, off, none⟩) (os.length + 1) cap, .int .i64 2, .int .i64 (-1)] W (fun e w' => e = .returned (.tuple #[.slice none 0 0, .string ⟨#[]⟩, .int .i64 E]) ∧ Below W.heap.size W w') from fun W hW => (HRD.out W hW).mono (by
                rintro e w2 ⟨hb2, ⟨h2, -⟩ | ⟨-, rfl⟩⟩
                · exact absurd (hE.trans h2) h0
                · exact ⟨by rw [hE], hb2⟩))
              have hne : (E != 0) = true := by simpa using h0
              have HNZ := Lib.hid h0
              clear hE hq HT HRD HQ h0
              go_upto_region 18 with first
                | (go_at_call 32; (with_reducible refine HNU.out.mono ?_); rintro e w10 ⟨⟨A10, c10, rfl⟩, hb10⟩; have HB10 := Lib.hid hb10; have HR10 := Lib.hid (HRR.out w10 hb10); clear hb10)
                | (go_at_call 36; (with_reducible refine HR10.out.mono ?_); rintro e w11 ⟨rfl, hb11⟩; have HB11 := Lib.hid hb11; clear hb11)
              have hu := rinRes HU.out HB.out HR.out HB9.out HB10.out HB11.out
              have HUU := Lib.hid hu
              obtain ⟨f0, f1, f2, f3, f4, f5⟩ := frozen6 hu.1
              obtain ⟨g0, g1, g2, g3, g4, g5⟩ := cells6 hu.1
              clear hu
              go_wp2_with fail
              refine bodyPost_ret (results_ins rfl _ _ w.heap.size _ _ _ _ _ _ rfl (HUU.out.1.q6 _ _ _ _ _ _)) rfl (insPost_no HFIN.out HNZ.out (below6 HUU.out.2 (Nat.le_refl _) _ _ _ _ _ _))
        · cases code with
          | false => exact absurd rfl HOP.out.2.2.2
          | true =>
            have HQ := Lib.hid (show Tx.readI true u.data.toList (os.map fun b => b.data.toList) = ((Tx.take (kAt (-1) 2) (os.map fun b => b.data.toList)).1, Tx.mk (Tx.shp 22 true) 22 (Tx.take (kAt (-1) 2) (os.map fun b => b.data.toList)).2) by unfold Tx.readI; rw [HOP.out.1]; simp only; rw [kinds_of HOP.out.2.1 HOP.out.2.2.2]; rfl)
            have hb9 := (Below.refl wr.heap.size wr).alloc (Nat.le_refl _) (.cells #[.int .i64 22, .int .i64 0, .int .i64 0, .int .i64 0, .string ⟨#[]⟩, .slice none 0 0] 46)
            have hx9 := Blk.new wr 46 #[.int .i64 22, .int .i64 0, .int .i64 0, .int .i64 0, .string ⟨#[]⟩, .slice none 0 0]
            have HX9 := Lib.hid hx9
            have HB9 := Lib.hid hb9
            have HNU := Lib.hid (show Calls Tryd.prog 32 #[.agg #[.int .i64 22, .int .i64 0, .int .i64 0, .int .i64 0, .string ⟨#[]⟩, .slice none 0 0], .bool true] (wr.alloc (.cells #[.int .i64 22, .int .i64 0, .int .i64 0, .int .i64 0, .string ⟨#[]⟩, .slice none 0 0] 46)) (fun e w' => (∃ A c, e = .returned (.slice A 2 c)) ∧ Below (wr.alloc (.cells #[.int .i64 22, .int .i64 0, .int .i64 0, .int .i64 0, .string ⟨#[]⟩, .slice none 0 0] 46)).heap.size (wr.alloc (.cells #[.int .i64 22, .int .i64 0, .int .i64 0, .int .i64 0, .string ⟨#[]⟩, .slice none 0 0] 46)) w') from rnum_len 22 true _ (by omega))
            go_upto_region 10 with fail
            generalize wr.alloc (.cells #[.int .i64 22, .int .i64 0, .int .i64 0, .int .i64 0, .string ⟨#[]⟩, .slice none 0 0] 46) = w9 at *
            obtain ⟨x0, x1, x2, x3, x4, x5⟩ := cells6 hx9
            clear hx9 hb9
            have HRD := Lib.hid (fun (W : World) (hW : Below w9.heap.size w9 W) => (show Calls Tryd.prog 36 #[.slice (some ⟨b, off, none⟩) (os.length + 1) cap, .int .i64 2, .int .i64 (-1)] W _ from rread_any _ u os 2 (-1) W (HV.out.below ((((HB.out.trans (HR.out.mono HB.out.size)).trans (HB9.out.mono (Nat.le_trans HB.out.size HR.out.size))).trans (hW.mono (Nat.le_trans (Nat.le_trans HB.out.size HR.out.size) HB9.out.size))))) (by omega) (by omega) HA.out.2.2.2))
            obtain ⟨q, hq⟩ : ∃ q, q = Tx.take (kAt (-1) 2) (os.map fun b => b.data.toList) := ⟨_, rfl⟩
            have HT := Lib.hid (fun (h : q.1 = 0) => Tx.take_ok (by rw [← hq]; exact h))
            rw [← hq] at HQ HRD HT
            have HRX := Lib.hid (show w0.heap.size ≤ wr.heap.size ∧ w.heap.size < w0.heap.size from ⟨HR.out.size, HU.out.lt⟩)
            by_cases h0 : q.1 = 0
            · obtain ⟨-, hok, his, -⟩ := HT.out h0
              obtain ⟨qe, ps⟩ := q
              simp only at h0 hok his
              subst h0
              clear hq
              obtain ⟨p0, l0, rfl, k0, j0⟩ := Tx.mapC (show ps.map Tx.Pt.isN = false :: [false] from his)
              obtain ⟨p1, rfl, k1⟩ := Tx.map1 j0
              obtain ⟨na, rfl⟩ := Tx.isN_num k0
              obtain ⟨nb, rfl⟩ := Tx.isN_num k1
              have HFIN := Lib.hid (show Tx.readI true u.data.toList (os.map fun b => b.data.toList) = (0, ⟨22, na, nb, 0, ByteArray.empty, []⟩) by rw [HQ.out]; rfl)
              have HRR := Lib.hid (show ∀ (W : World), Below w9.heap.size w9 W → Calls Tryd.prog 36 #[.slice (some ⟨b, off, none⟩) (os.length + 1) cap, .int .i64 2, .int .i64 (-1)] W (fun e w' => (∃ g c, e = .returned (.tuple #[.slice (some ⟨g, 0, none⟩) 2 c, .string ⟨#[]⟩, .int .i64 0]) ∧ 2 ≤ c ∧ W.heap.size ≤ g ∧ ∀ j n, ([na, nb] : List Int)[j]? = some n → w'.cell? ⟨g, j, none⟩ = some (.int .i64 n)) ∧ Below W.heap.size W w') from fun W hW => (HRD.out W hW).mono (by
                rintro e w2 ⟨hb2, ⟨-, v2, rfl, hr2⟩ | ⟨h2, -⟩⟩
                · obtain ⟨g, c, rfl, h3, h4, -, h5⟩ := RowI.at (l := [na, nb]) hr2 (by simp)
                  exact ⟨⟨g, c, rfl, h4, h3, h5⟩, hb2⟩
                · exact absurd rfl h2))
              clear hok his HT HRD HQ k0 k1 j0
              go_upto_region 20 with first
                | (go_at_call 32; (with_reducible refine HNU.out.mono ?_); rintro e w10 ⟨⟨A10, c10, rfl⟩, hb10⟩; have HB10 := Lib.hid hb10; have HR10 := Lib.hid (HRR.out w10 hb10); clear hb10)
                | (go_at_call 36; (with_reducible refine HR10.out.mono ?_); rintro e w11 ⟨⟨g, c11, rfl, hc11, hg, hrow⟩, hb11⟩; have HB11 := Lib.hid hb11; have HRW := Lib.hid hrow; have HG := Lib.hid hg; clear hb11 hrow hg)
              have hat := (show RinAt w wr.heap.size #[.int .i64 22, .int .i64 0, .int .i64 0, .int .i64 0, .string ⟨#[]⟩, .slice none 0 0] g [na, nb] w11 from rinAt_new HU.out HB.out HR.out HX9.out HB9.out HB10.out HB11.out HRW.out HG.out)
              obtain ⟨y0, y1, y2, y3, y4, y5⟩ := cells6 hat.box
              obtain ⟨z0, z1, z2, z3, z4, z5⟩ := frozen6 hat.box
              have HAT := Lib.hid hat
              clear hat x0 x1 x2 x3 x4 x5
              go_upto_region 21 with fail
              have hat := HAT.out.put4 (.string ⟨#[]⟩)
              generalize World.setCell _ ⟨wr.heap.size, 4, none⟩ (.string ⟨#[]⟩) = wn at *
              clear HAT y0 y1 y2 y3 y4 y5 z0 z1 z2 z3 z4 z5
              obtain ⟨y0, y1, y2, y3, y4, y5⟩ := cells6 hat.box
              obtain ⟨z0, z1, z2, z3, z4, z5⟩ := frozen6 hat.box
              have r0 := hat.row 0 na rfl
              have r1 := hat.row 1 nb rfl
              have HAT := Lib.hid hat
              clear hat
              go_upto_region 23 with fail
              have hat := HAT.out.put1 (.int .i64 na)
              generalize World.setCell _ ⟨wr.heap.size, 1, none⟩ (.int .i64 na) = wn at *
              clear HAT y0 y1 y2 y3 y4 y5 z0 z1 z2 z3 z4 z5
              obtain ⟨y0, y1, y2, y3, y4, y5⟩ := cells6 hat.box
              obtain ⟨z0, z1, z2, z3, z4, z5⟩ := frozen6 hat.box
              have r0 := hat.row 0 na rfl
              have r1 := hat.row 1 nb rfl
              have HAT := Lib.hid hat
              clear hat
              go_upto_region 49 with fail
              have hat := HAT.out.put2 (.int .i64 nb)
              generalize World.setCell _ ⟨wr.heap.size, 2, none⟩ (.int .i64 nb) = wn at *
              clear HAT y0 y1 y2 y3 y4 y5 z0 z1 z2 z3 z4 z5
              obtain ⟨y0, y1, y2, y3, y4, y5⟩ := cells6 hat.box
              obtain ⟨z0, z1, z2, z3, z4, z5⟩ := frozen6 hat.box
              have r0 := hat.row 0 na rfl
              have r1 := hat.row 1 nb rfl
              have HAT := Lib.hid hat
              clear hat
              obtain ⟨f0, f1, f2, f3, f4, f5⟩ := frozen6 HAT.out.res
              obtain ⟨g0, g1, g2, g3, g4, g5⟩ := cells6 HAT.out.res
              go_wp2_with fail
              refine bodyPost_ret (results_ins rfl _ _ w.heap.size _ _ _ _ _ _ rfl (HAT.out.res.q6 _ _ _ _ _ _)) rfl (insPost_ok (sl := .slice none 0 0) HFIN.out (below6 HAT.out.below (Nat.le_refl _) _ _ _ _ _ _) (RowI.nil _ _))
            · obtain ⟨E, hE⟩ : ∃ E, E = q.1 := ⟨_, rfl⟩
              rw [← hE] at h0
              have HFIN := Lib.hid (show (Tx.readI true u.data.toList (os.map fun b => b.data.toList)).1 = E by rw [HQ.out, hE])
              have HRR := Lib.hid (show ∀ (W : World), Below w9.heap.size w9 W → Calls Tryd.prog 36 #[.slice (some ⟨b, off, none⟩) (os.length + 1) cap, .int .i64 2, .int .i64 (-1)] W (fun e w' => e = .returned (.tuple #[.slice none 0 0, .string ⟨#[]⟩, .int .i64 E]) ∧ Below W.heap.size W w') from fun W hW => (HRD.out W hW).mono (by
                rintro e w2 ⟨hb2, ⟨h2, -⟩ | ⟨-, rfl⟩⟩
                · exact absurd (hE.trans h2) h0
                · exact ⟨by rw [hE], hb2⟩))
              have hne : (E != 0) = true := by simpa using h0
              have HNZ := Lib.hid h0
              clear hE hq HT HRD HQ h0
              go_upto_region 18 with first
                | (go_at_call 32; (with_reducible refine HNU.out.mono ?_); rintro e w10 ⟨⟨A10, c10, rfl⟩, hb10⟩; have HB10 := Lib.hid hb10; have HR10 := Lib.hid (HRR.out w10 hb10); clear hb10)
                | (go_at_call 36; (with_reducible refine HR10.out.mono ?_); rintro e w11 ⟨rfl, hb11⟩; have HB11 := Lib.hid hb11; clear hb11)
              have hu := rinRes HU.out HB.out HR.out HB9.out HB10.out HB11.out
              have HUU := Lib.hid hu
              obtain ⟨f0, f1, f2, f3, f4, f5⟩ := frozen6 hu.1
              obtain ⟨g0, g1, g2, g3, g4, g5⟩ := cells6 hu.1
              clear hu
              go_wp2_with fail
              refine bodyPost_ret (results_ins rfl _ _ w.heap.size _ _ _ _ _ _ rfl (HUU.out.1.q6 _ _ _ _ _ _)) rfl (insPost_no HFIN.out HNZ.out (below6 HUU.out.2 (Nat.le_refl _) _ _ _ _ _ _))
end Go.Proofs.YtcoehmmiplffgaaDoor
