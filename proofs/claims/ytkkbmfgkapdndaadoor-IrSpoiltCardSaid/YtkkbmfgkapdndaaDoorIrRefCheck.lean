/- Check: the document's. -/
import Derived.Test.YtkkbmfgkapdndaaDoorIrRefOneW
import Derived.Test.YtkkbmfgkapdndaaDoorIrCheck
import Derived.IntWalk
namespace Go.Proofs.YtkkbmfgkapdndaaDoor
open Go.ChangeShapes Go.WideShapes Go.RowKit Go.Deep

set_option maxRecDepth 20000 in
set_option maxHeartbeats 3200000 in
theorem rcheck_any (f : Ir.Fu) (A : Option Addr) (cap : Nat) (w : World) (hv : Blks w (.slice A f.blocks.length cap) f.blocks) (hL : Light f.blocks) :
    Calls Tryd.prog 9 #[FuV f (.slice A f.blocks.length cap)] w fun e w' => e = .returned (.int .i64 (Ir.check f)) ∧ Below w.heap.size w w' := by
  have hB := BoxF.new hv
  obtain ⟨c0, c1, c2, c3⟩ := hB.cells
  have HB := Lib.hid hB
  have HL := Lib.hid hL
  have hb1 : (f.blocks.length : Int) ≤ 100 := by have := hL.blocks; omega
  clear hB hL hv
  go_enter Tryd.func9, Tryd.ntmps9
  go_upto_region 1 with fail
  generalize w.alloc (.cells #[.string f.name, .int .i64 f.params, .int .i64 f.regs, .slice A f.blocks.length cap] 24) = w1 at *
  cases hnm : Ir.nm f.name with
  | false =>
    have HE := Lib.hid (check_name hnm)
    have HM := Lib.hid hnm
    clear hnm
    go_wp2_with (go_at_call 24; (with_reducible refine (rname_any _ _).mono ?_); rintro e w' ⟨rfl, rfl⟩; rw [HM.out])
    go_ret
    exact ⟨ret_e HE.out.symm, HB.out.below⟩
  | true =>
    have HM := Lib.hid hnm
    clear hnm
    go_upto_region 3 with (go_at_call 24; (with_reducible refine (rname_any _ _).mono ?_); rintro e w' ⟨rfl, rfl⟩; rw [HM.out])
    go_wp2_with fail
    refine (rshape_any f A cap w1 HB.out.blks HL.out).mono ?_
    rintro e w2 ⟨rfl, rfl⟩
    have HB2 := Lib.hid HB.out
    cases hsh : Ir.shape f.params f.regs f.blocks with
    | false =>
      have HE := Lib.hid (check_shape HM.out hsh)
      clear hsh
      go_wp2_with fail
      go_ret
      exact ⟨ret_e HE.out.symm, HB2.out.below⟩
    | true =>
      have HE := Lib.hid (check_blocks HM.out hsh)
      clear hsh HM
      go_wp2_with fail
      go_loopw [3] (fun i wr => ∃ k : Nat, k ≤ f.blocks.length ∧ i = .int .i64 (k : Int) ∧ BoxF w w.heap.size f A cap wr ∧ Ir.check f = Ir.chkBs f.regs (f.blocks.length : Int) (f.blocks.drop k)) (fun i _ => f.blocks.length - (intOf i).toNat)
      case atStart => exact ⟨0, Nat.zero_le _, rfl, HB2.out, HE.out⟩
      case round =>
        obtain ⟨k, hk, rfl, hB, hE⟩ := hrel
        clear c0 c1 c2 c3 HB2 HE
        have HB3 := Lib.hid hB
        have HE3 := Lib.hid hE
        obtain ⟨c0, c1, c2, c3⟩ := hB.cells
        clear hB hE
        by_cases hlt : k < f.blocks.length
        · have hki : (k : Int) < (f.blocks.length : Int) := by omega
          obtain ⟨b, hb⟩ : ∃ b, f.blocks[k]? = some b := ⟨_, List.getElem?_eq_getElem hlt⟩
          obtain ⟨bl, off, B, cbp, rfl, l1, -, -⟩ := HB3.out.blks.at hb
          have HBK := Lib.hid hb
          have hbi : (b.length : Int) ≤ 500 := by have := HL.out.count; have := count_ge hb; omega
          clear hb
          go_wp2_with fail
          clear c0 c1 c2 c3
          go_loopw [4] (fun i wr => ∃ m : Nat, m ≤ b.length ∧ i = .int .i64 (m : Int) ∧ BoxF w w.heap.size f (some ⟨bl, off, none⟩) cap wr ∧ Ir.chkB f.regs (f.blocks.length : Int) b = Ir.chkB f.regs (f.blocks.length : Int) (b.drop m)) (fun i _ => b.length - (intOf i).toNat)
          case atStart => exact ⟨0, Nat.zero_le _, rfl, HB3.out, rfl⟩
          case round =>
            obtain ⟨m, hm, rfl, hB, hE⟩ := hrel
            have HB4 := Lib.hid hB
            have HE4 := Lib.hid hE
            clear hB hE HB3
            obtain ⟨bl', off', C, ccp, e1, l1', d1, hI⟩ := HB4.out.blks.at HBK.out
            obtain ⟨rfl, rfl⟩ : bl = bl' ∧ off = off' := by simpa using e1
            have HI := Lib.hid hI
            obtain ⟨c0, c1, c2, c3⟩ := HB4.out.cells
            clear e1 hI
            by_cases hlt2 : m < b.length
            · have hmi : (m : Int) < (b.length : Int) := by omega
              obtain ⟨x, hx⟩ : ∃ x, b[m]? = some x := ⟨_, List.getElem?_eq_getElem hlt2⟩
              obtain ⟨bx, ox, D, ccp2, rfl, l2, ⟨x0, x1, x2, x3, x4, x5⟩, hin⟩ := HI.out.at hx
              have HIN := Lib.hid (hin.below (Below.refl _ _).drew)
              have HBD := Lib.hid (HB4.out.to (Below.refl _ _).drew)
              have HAT := Lib.hid (Ir.chkB_at (regs := f.regs) (nb := (f.blocks.length : Int)) hx)
              have HAR := Lib.hid (light_args HL.out HBK.out hx)
              have HEN := Lib.hid (at_end hlt2)
              have HWR := Lib.hid (IntWalk.i64_in ((b.length : Int) - 1) (by omega))
              clear hin hx
              go_upto_region 11 with fail
              have HON := Lib.hid (fun (l : Bool) => rone_any x (.slice D x.args.length ccp2) f.regs (f.blocks.length : Int) l wr.drew HIN.out (by have := HAR.out; omega))
              go_region_held3 (fun W => W.cell? ⟨w.heap.size, 2, none⟩ = some (.int .i64 f.regs) ∧ W.cell? ⟨w.heap.size, 3, none⟩ = some (.slice (some ⟨bl, off, none⟩) f.blocks.length cap) ∧ W.cell? ⟨bl, off + k, none⟩ = some (.slice (some ⟨bx, ox, none⟩) b.length ccp) ∧
                  W.cell? ⟨bx, ox + m * 6, none⟩ = some (.int .i64 x.op) ∧ W.cell? ⟨bx, ox + m * 6 + 1, none⟩ = some (.int .i64 x.d) ∧ W.cell? ⟨bx, ox + m * 6 + 2, none⟩ = some (.int .i64 x.a) ∧
                  W.cell? ⟨bx, ox + m * 6 + 3, none⟩ = some (.int .i64 x.b) ∧ W.cell? ⟨bx, ox + m * 6 + 4, none⟩ = some (.string x.name) ∧ W.cell? ⟨bx, ox + m * 6 + 5, none⟩ = some (.slice D x.args.length ccp2)) (first | assumption | exact ⟨c2, c3, d1, x0, x1, x2, x3, x4, x5⟩ | go_keep)
                (first | (go_at_call 26; (with_reducible refine (HON.out _).mono ?_); rintro e w6 ⟨rfl, hb6⟩; have HB6 := Lib.hid (HBD.out.to hb6); have g6 := (show w6.cell? ⟨w.heap.size, 2, none⟩ = some (.int .i64 f.regs) ∧ w6.cell? ⟨w.heap.size, 3, none⟩ = some (.slice (some ⟨bl, off, none⟩) f.blocks.length cap) ∧ w6.cell? ⟨bl, off + k, none⟩ = some (.slice (some ⟨bx, ox, none⟩) b.length ccp) ∧ w6.cell? ⟨bx, ox + m * 6, none⟩ = some (.int .i64 x.op) ∧ w6.cell? ⟨bx, ox + m * 6 + 1, none⟩ = some (.int .i64 x.d) ∧ w6.cell? ⟨bx, ox + m * 6 + 2, none⟩ = some (.int .i64 x.a) ∧ w6.cell? ⟨bx, ox + m * 6 + 3, none⟩ = some (.int .i64 x.b) ∧ w6.cell? ⟨bx, ox + m * 6 + 4, none⟩ = some (.string x.name) ∧ w6.cell? ⟨bx, ox + m * 6 + 5, none⟩ = some (.slice D x.args.length ccp2) from ⟨HB6.out.cells.2.2.1, HB6.out.cells.2.2.2, (hb6.cell (p := ⟨bl, _, none⟩) l1').trans d1, (hb6.cell (p := ⟨bx, _, none⟩) l2).trans x0, (hb6.cell (p := ⟨bx, _, none⟩) l2).trans x1, (hb6.cell (p := ⟨bx, _, none⟩) l2).trans x2, (hb6.cell (p := ⟨bx, _, none⟩) l2).trans x3, (hb6.cell (p := ⟨bx, _, none⟩) l2).trans x4, (hb6.cell (p := ⟨bx, _, none⟩) l2).trans x5⟩); clear hb6))
              clear g6
              rw [HWR.out, HEN.out]
              by_cases h0 : Ir.one f.regs (f.blocks.length : Int) x (decide (b.length - (m + 1) = 0)) = 0
              · have HN := Lib.hid (HE4.out.trans (HAT.out.trans (if_pos h0)))
                rw [h0]
                clear h0 HAT HE4 HB4 HI
                go_wp2_with fail
                go_roundw
                case rel => exact ⟨m + 1, by omega, by go_num, HB6.out, HN.out⟩
                case measure => simp [intOf]; omega
              · have hcb := HE4.out.trans (HAT.out.trans (if_neg h0))
                have HN := Lib.hid ((HE3.out.trans ((Ir.chkBs_at HBK.out).trans (if_neg (by rw [hcb]; exact h0)))).trans hcb)
                clear hcb HAT HE4
                generalize Ir.one f.regs (f.blocks.length : Int) x (decide (b.length - (m + 1) = 0)) = e0 at *
                have h0' : (e0 != 0) = true := by simp [h0]
                clear h0
                go_wp2_with fail
                go_ret
                exact ⟨ret_e HN.out.symm, HB6.out.below⟩
            · have HN := Lib.hid (show Ir.chkB f.regs (f.blocks.length : Int) b = 0 by have := HE4.out; rwa [List.drop_of_length_le (by omega)] at this)
              have HN2 := Lib.hid (HE3.out.trans ((Ir.chkBs_at HBK.out).trans (if_pos HN.out)))
              go_wp2_with fail
              go_roundw
              case rel => exact ⟨k + 1, by omega, by go_num, HB4.out, HN2.out⟩
              case measure => simp [intOf]; omega
        · have HE9 := Lib.hid (show Ir.check f = 0 by have := HE3.out; rwa [List.drop_of_length_le (by omega)] at this)
          go_wp2_with fail
          go_ret
          exact ⟨ret_e HE9.out.symm, HB3.out.below⟩
end Go.Proofs.YtkkbmfgkapdndaaDoor
