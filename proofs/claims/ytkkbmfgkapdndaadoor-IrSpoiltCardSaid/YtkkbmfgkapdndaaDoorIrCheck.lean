/- Check: the program's. -/
import Derived.Test.YtkkbmfgkapdndaaDoorIrCheckIns
import Derived.Test.YtkkbmfgkapdndaaDoorIrShaped
namespace Go.Proofs.YtkkbmfgkapdndaaDoor
open Go.ChangeShapes Go.WideShapes Go.RowKit Go.Deep

theorem check_name {f : Ir.Fu} (h : Ir.nm f.name = false) : Ir.check f = 70 := by unfold Ir.check; rw [h]; rfl
theorem check_shape {f : Ir.Fu} (h : Ir.nm f.name = true) (h' : Ir.shape f.params f.regs f.blocks = false) : Ir.check f = 71 := by unfold Ir.check; rw [h, h']; rfl
theorem check_blocks {f : Ir.Fu} (h : Ir.nm f.name = true) (h' : Ir.shape f.params f.regs f.blocks = true) : Ir.check f = Ir.chkBs f.regs (f.blocks.length : Int) f.blocks := by unfold Ir.check; rw [h, h']; rfl

/-- An instruction is its block's last one. -/
theorem at_end {n k : Nat} (h : k < n) : ((k : Int) == (n : Int) - 1) = decide (n - (k + 1) = 0) := by
  rw [Bool.eq_iff_iff]
  simp
  omega

theorem light_args {bs : List (List Ir.In)} (hL : Light bs) {k m : Nat} {b : List Ir.In} {x : Ir.In} (hb : bs[k]? = some b) (hx : b[m]? = some x) : x.args.length ≤ 100 :=
  (hL.ins b (List.mem_of_getElem? hb) x (List.mem_of_getElem? hx)).1

set_option maxRecDepth 20000 in
set_option maxHeartbeats 3200000 in
theorem check_any (f : Ir.Fu) (A : Option Addr) (cap : Nat) (w : World) (ht : Tbl w) (hv : Blks w (.slice A f.blocks.length cap) f.blocks) (hL : Light f.blocks) :
    Calls Tryd.prog 8 #[FuV f (.slice A f.blocks.length cap)] w fun e w' => e = .returned (.int .i64 (Ir.check f)) ∧ Below w.heap.size w w' := by
  have hB := BoxF.new hv
  obtain ⟨c0, c1, c2, c3⟩ := hB.cells
  have HB := Lib.hid hB
  have HL := Lib.hid hL
  have HT := Lib.hid ht
  have hb1 : (f.blocks.length : Int) ≤ 100 := by have := hL.blocks; omega
  clear hB hL hv ht
  go_enter Tryd.func8, Tryd.ntmps8
  go_upto_region 1 with fail
  generalize w.alloc (.cells #[.string f.name, .int .i64 f.params, .int .i64 f.regs, .slice A f.blocks.length cap] 24) = w1 at *
  cases hnm : Ir.nm f.name with
  | false =>
    have HE := Lib.hid (check_name hnm)
    have HM := Lib.hid hnm
    clear hnm
    go_wp2_with (go_at_call 21; (with_reducible refine (name_any _ _).mono ?_); rintro e w' ⟨rfl, rfl⟩; rw [HM.out])
    go_ret
    exact ⟨ret_e HE.out.symm, HB.out.below⟩
  | true =>
    have HM := Lib.hid hnm
    clear hnm
    go_upto_region 3 with (go_at_call 21; (with_reducible refine (name_any _ _).mono ?_); rintro e w' ⟨rfl, rfl⟩; rw [HM.out])
    go_wp2_with fail
    refine (shaped_any f A cap w1 HB.out.blks HL.out).mono ?_
    rintro e w2 ⟨rfl, hb2⟩
    have HB2 := Lib.hid (HB.out.to hb2)
    clear c0 c1 c2 c3 hb2 HB
    obtain ⟨c0, c1, c2, c3⟩ := HB2.out.cells
    cases hsh : Ir.shape f.params f.regs f.blocks with
    | false =>
      have HE := Lib.hid (check_shape HM.out hsh)
      clear hsh
      go_wp2_with fail
      go_ret
      exact ⟨ret_e HE.out.symm, HB2.out.below⟩
    | true =>
      have HE := Lib.hid (check_blocks HM.out hsh)
      clear hsh HM
      go_wp2_with fail
      go_loopw [18] (fun i wr => ∃ k : Nat, k ≤ f.blocks.length ∧ i = .int .i64 (k : Int) ∧ BoxF w w.heap.size f A cap wr ∧ Ir.check f = Ir.chkBs f.regs (f.blocks.length : Int) (f.blocks.drop k)) (fun i _ => f.blocks.length - (intOf i).toNat)
      case atStart => exact ⟨0, Nat.zero_le _, rfl, HB2.out, HE.out⟩
      case round =>
        obtain ⟨k, hk, rfl, hB, hE⟩ := hrel
        clear c0 c1 c2 c3 HB2 HE
        have HB3 := Lib.hid hB
        have HE3 := Lib.hid hE
        obtain ⟨c0, c1, c2, c3⟩ := hB.cells
        clear hB hE
        by_cases hlt : k < f.blocks.length
        · have hki : (k : Int) < (f.blocks.length : Int) := by omega
          obtain ⟨b, hb⟩ : ∃ b, f.blocks[k]? = some b := ⟨_, List.getElem?_eq_getElem hlt⟩
          obtain ⟨bl, off, B, cbp, rfl, l1, d1, hI⟩ := HB3.out.blks.at hb
          have HBK := Lib.hid hb
          have HI := Lib.hid hI
          have hbi : (b.length : Int) ≤ 500 := by have := HL.out.count; have := count_ge hb; omega
          clear hb hI
          go_wp2_with fail
          clear c0 c1 c2 c3 d1
          go_loopw [24] (fun i wr => ∃ m : Nat, m ≤ b.length ∧ i = .int .i64 (m : Int) ∧ BoxF w w.heap.size f (some ⟨bl, off, none⟩) cap wr ∧ Insl wr (.slice B b.length cbp) b ∧ Ir.chkB f.regs (f.blocks.length : Int) b = Ir.chkB f.regs (f.blocks.length : Int) (b.drop m)) (fun i _ => b.length - (intOf i).toNat)
          case atStart => exact ⟨0, Nat.zero_le _, rfl, HB3.out, HI.out, rfl⟩
          case round =>
            obtain ⟨m, hm, rfl, hB, hI, hE⟩ := hrel
            have HB4 := Lib.hid hB
            have HI4 := Lib.hid hI
            have HE4 := Lib.hid hE
            clear hB hE hI HB3 HI
            by_cases hlt2 : m < b.length
            · have hmi : (m : Int) < (b.length : Int) := by omega
              obtain ⟨x, hx⟩ : ∃ x, b[m]? = some x := ⟨_, List.getElem?_eq_getElem hlt2⟩
              obtain ⟨bx, ox, C, ccp, rfl, l2, ⟨x0, x1, x2, x3, x4, x5⟩, hin⟩ := HI4.out.at hx
              have hb5 : Below wr.heap.size wr (wr.alloc (.cells (InsC x (.slice C x.args.length ccp)) 32)) := (Below.refl _ _).alloc (Nat.le_refl _) _
              have HB5 := Lib.hid (HB4.out.to hb5)
              have HI5 := Lib.hid (HI4.out.below hb5)
              have HIN := Lib.hid (hin.below hb5)
              have HBI := Lib.hid (Blk.new wr 32 (InsC x (.slice C x.args.length ccp)))
              have HAT := Lib.hid (Ir.chkB_at (regs := f.regs) (nb := (f.blocks.length : Int)) hx)
              have HAR := Lib.hid (light_args HL.out HBK.out hx)
              have HEN := Lib.hid (at_end hlt2)
              clear hb5 hin hx
              go_upto_region 11 with fail
              generalize wr.alloc (.cells (InsC x (.slice C x.args.length ccp)) 32) = w5 at *
              generalize wr.heap.size = bi at *
              clear x0 x1 x2 x3 x4 x5 HB4 HI4
              obtain ⟨c0, c1, c2, c3⟩ := HB5.out.cells
              obtain ⟨i0, i1, i2, i3, i4, i5⟩ := six_cells HBI.out
              go_wp2_with fail
              refine (checkIns_any f _ f.blocks.length cap x _ _ w5 (HT.out.below HB5.out.below) HIN.out (by have := HAR.out; omega) (by have := HL.out.blocks; omega)).mono ?_
              rintro e w6 ⟨rfl, hb6⟩
              rw [HEN.out]
              have HB6 := Lib.hid (HB5.out.to hb6)
              have HI6 := Lib.hid (HI5.out.below hb6)
              clear hb6 c0 c1 c2 c3 i0 i1 i2 i3 i4 i5 HB5 HI5 HBI HIN
              by_cases h0 : Ir.one f.regs (f.blocks.length : Int) x (decide (b.length - (m + 1) = 0)) = 0
              · have HN := Lib.hid (HE4.out.trans (HAT.out.trans (if_pos h0)))
                rw [h0]
                clear h0 HAT HE4
                go_wp2_with fail
                go_roundw
                case rel => exact ⟨m + 1, by omega, by go_num, HB6.out, HI6.out, HN.out⟩
                case measure => simp [intOf]; omega
              · have hcb := HE4.out.trans (HAT.out.trans (if_neg h0))
                have HN := Lib.hid ((HE3.out.trans ((Ir.chkBs_at HBK.out).trans (if_neg (by rw [hcb]; exact h0)))).trans hcb)
                clear hcb HAT HE4
                generalize Ir.one f.regs (f.blocks.length : Int) x (decide (b.length - (m + 1) = 0)) = e0 at *
                have h0' : (e0 != 0) = true := by simp [h0]
                clear h0
                go_wp2_with fail
                go_ret
                exact ⟨ret_e HN.out.symm, HB6.out.below⟩
            · have HN := Lib.hid (show Ir.chkB f.regs (f.blocks.length : Int) b = 0 by have := HE4.out; rwa [List.drop_of_length_le (by omega)] at this)
              have HN2 := Lib.hid (HE3.out.trans ((Ir.chkBs_at HBK.out).trans (if_pos HN.out)))
              go_wp2_with fail
              go_roundw
              case rel => exact ⟨k + 1, by omega, by go_num, HB4.out, HN2.out⟩
              case measure => simp [intOf]; omega
        · have HE9 := Lib.hid (show Ir.check f = 0 by have := HE3.out; rwa [List.drop_of_length_le (by omega)] at this)
          go_wp2_with fail
          go_ret
          exact ⟨ret_e HE9.out.symm, HB3.out.below⟩
end Go.Proofs.YtkkbmfgkapdndaaDoor
