/- The walk of DiskLasts: true of any steps. -/
import Derived.Test.YtfflopmbbmpeoaaDiskBools
import Derived.Deep.RegionHeld3
import Derived.BigQuiet
import Derived.Deep.QuietTactic
namespace Go.Proofs.Ytfflopmbbmpeoaa
open Go.RowKit

/-- The four cells of a step. -/
def StepAt (b off : Nat) (x : Sp) (W : World) : Prop :=
  W.cell? ⟨b, off, none⟩ = some (.int .i64 x.k) ∧ W.cell? ⟨b, off + 1, none⟩ = some (.int .i64 x.n) ∧ W.cell? ⟨b, off + 2, none⟩ = some (.string x.s)

theorem Steps.at {w0 : World} {l : List Sp} {bl off k : Nat} {x : Sp} (h : Steps w0 w0.heap.size (some ⟨bl, off, none⟩) l) (hit : l[k]? = some x) (W : World) (hb : Below w0.heap.size w0 W) :
    StepAt bl (off + k * 4) x W := by
  obtain ⟨_, b', off', e, hlt, c0, c1, c2, c3⟩ := (h.below hb) k x hit
  injection e with e
  injection e with e1 e2
  subst e1 e2
  exact ⟨c0, c1, c2⟩

theorem drewN_below (w : World) (n : Nat) : Below w.heap.size w (w.drewN n) := ⟨rfl, rfl, rfl, Nat.le_refl _, fun _ _ => rfl⟩

/-- What the first loop knows. -/
def AheadLoop (w0 : World) (gd gr : Nat) (l : List Sp) (v : Value) (wr : World) : Prop :=
  ∃ k : Nat, k ≤ l.length ∧ v = .int .i64 (k : Int) ∧ Two w0 gd gr (Dk.St.new.puts (l.take k)) (Dk.St.new.puts (l.take k)) wr

/-- The four cells of a step, all of them. -/
theorem Steps.at4 {w0 : World} {l : List Sp} {bl off k : Nat} {x : Sp} (h : Steps w0 w0.heap.size (some ⟨bl, off, none⟩) l) (hit : l[k]? = some x) (W : World) (hb : Below w0.heap.size w0 W) :
    W.cell? ⟨bl, off + k * 4, none⟩ = some (.int .i64 x.k) ∧ W.cell? ⟨bl, off + k * 4 + 1, none⟩ = some (.int .i64 x.n) ∧ W.cell? ⟨bl, off + k * 4 + 2, none⟩ = some (.string x.s) ∧ W.cell? ⟨bl, off + k * 4 + 3, none⟩ = some (.int .u64 (x.keep : Int)) := by
  obtain ⟨_, b', off', e, hlt, c⟩ := (h.below hb) k x hit
  injection e with e
  injection e with e1 e2
  subst e1 e2
  exact c

/-- What the second loop knows. -/
def BehindLoop (w0 : World) (gd gr bc : Nat) (sr : Dk.St) (l : List Sp) (v : Value) (wr : World) : Prop :=
  ∃ (k : Nat) (st : Dk.St) (ch : Nat → Bool), k ≤ l.length ∧ v = .int .i64 (k : Int) ∧ Two w0 gd gr st sr wr ∧ Dk.Held sr.is ch st ∧ Blk wr bc 4 (bools ch).toArray ∧ st.many ≤ 3000 + k

set_option maxRecDepth 100000 in
set_option maxHeartbeats 1600000 in
theorem lasts_walk (A : Option Addr) (cap : Nat) (l : List Sp) (A2 : Option Addr) (cap2 : Nat) (l2 : List Sp) (keep : Nat) (w : World) (h : Steps w w.heap.size A l) (h2 : Steps w w.heap.size A2 l2) (hk : keep < 18446744073709551616) :
    Calls Try.prog 6 #[.slice A l.length cap, .slice A2 l2.length cap2, .int .u64 (keep : Int)] w fun e w' => e = .returned (.bool true) ∧ Below w.heap.size w w' := by
  have HH := Lib.hid (heavy_any A cap w.heap.size l w h)
  have HH2 := Lib.hid (heavy_any A2 cap2 w.heap.size l2 w h2)
  have HI := Lib.hid h; have HI2 := Lib.hid h2; clear h h2
  cases hv : heavyB l with
  | true =>
    have HV := Lib.hid hv; clear hv
    go_enter Try.func6, Try.ntmps6
    go_wp2_with fail
    refine HH.out.mono ?_
    rintro e w1 ⟨rfl, rfl⟩
    rw [HV.out]
    go_wp2_with fail
    go_ret
    exact ⟨rfl, Below.refl _ _⟩
  | false =>
    have HV := Lib.hid hv
    have hl := light_small hv
    clear hv
    cases hv2 : heavyB l2 with
    | true =>
      have HV2 := Lib.hid hv2; clear hv2
      go_enter Try.func6, Try.ntmps6
      go_wp2_with fail
      refine HH.out.mono ?_
      rintro e w1 ⟨rfl, rfl⟩
      rw [HV.out]
      go_wp2_with fail
      refine HH2.out.mono ?_
      rintro e w1 ⟨rfl, rfl⟩
      rw [HV2.out]
      go_wp2_with fail
      go_ret
      exact ⟨rfl, Below.refl _ _⟩
    | false =>
      have HV2 := Lib.hid hv2
      have hl2 := light_small hv2
      clear hv2
      have HN := Lib.hid (one_new w)
      go_enter Try.func6, Try.ntmps6
      go_wp2_with fail
      refine HH.out.mono ?_
      rintro e w1 ⟨rfl, rfl⟩
      rw [HV.out]
      clear HH
      go_wp2_with fail
      refine HH2.out.mono ?_
      rintro e w1 ⟨rfl, rfl⟩
      rw [HV2.out]
      clear HH2
      go_wp2_with fail
      refine HN.out.mono ?_
      rintro e w1 ⟨rfl, h1⟩
      go_wp2_with fail
      refine (two_new h1).mono ?_
      rintro e w2 ⟨rfl, h2⟩
      generalize w.heap.size + 1 = gd at *
      generalize w1.heap.size + 1 = gr at *
      clear h1 HN
      go_wp2_with fail
      go_loopw [9] (AheadLoop w gd gr l) (fun v _ => l.length - (intOf v).toNat)
      case atStart => exact ⟨0, Nat.zero_le _, rfl, h2⟩
      case round =>
        obtain ⟨k, hk1, rfl, hT⟩ := hrel
        clear h2
        obtain ⟨hm1, hm2⟩ := Dk.puts_few Dk.St.new hl (by decide) k
        by_cases hlt : k < l.length
        · obtain ⟨x, hit⟩ : ∃ x, l[k]? = some x := ⟨_, List.getElem?_eq_getElem hlt⟩
          obtain ⟨hwf, bl, off, rfl, hb, -⟩ := HI.out k x hit
          have SC := Lib.hid (HI.out.at hit)
          have hup := Lib.hid (Dk.puts_up Dk.St.new hit)
          clear hit
          have s0 := SC.out wr hT.below
          unfold StepAt at s0
          obtain ⟨c0, c1, c2⟩ := s0
          have hmm : (Dk.St.new.puts (l.take k)).many ≤ 1073741824 := by omega
          clear hm1 hm2
          by_cases hx : x.k = 0
          · have hb0 : (x.k == 0) = true := by simp [hx]
            have HX := Lib.hid hx; clear hx
            have HS := Lib.hid (Dk.putStep_zero (st := Dk.St.new.puts (l.take k)) HX.out)
            go_wp2_with fail
            go_region_held3 (fun W => W.cell? ⟨bl, off + k * 4, none⟩ = some (.int .i64 x.k) ∧ W.cell? ⟨bl, off + k * 4 + 1, none⟩ = some (.int .i64 x.n) ∧ W.cell? ⟨bl, off + k * 4 + 2, none⟩ = some (.string x.s)) (first | assumption | exact ⟨c0, c1, c2⟩ | go_keep)
              (first
                | (go_at_call 13; (with_reducible refine (two_write hT.drew x.n x.s hmm).mono ?_); rintro e w2 ⟨rfl, h2⟩; have s2 := SC.out w2 h2.below; unfold StepAt at s2)
                | (go_at_call 14; (with_reducible refine (two_rwrite h2 x.n x.s hmm).mono ?_); rintro e w3 ⟨rfl, h3⟩; have s3 := SC.out w3 h3.below; unfold StepAt at s3))
            rw [← HS.out, ← hup.out] at h3
            clear hT h2 s2 s3 c0 c1 c2
            go_wp2_with fail
            go_roundw
            case rel => exact ⟨k + 1, by omega, by go_num, h3⟩
            case measure => simp [intOf]; omega
          · have hb0 : (x.k == 0) = false := by simpa using hx
            have HX := Lib.hid hx; clear hx
            go_wp2_with fail
            go_quiet (fail)
            have HS := Lib.hid (Dk.putStep_else (st := Dk.St.new.puts (l.take k)) HX.out)
            go_wp2_with fail
            go_roundw
            case rel => exact ⟨k + 1, by omega, by go_num, by rw [hup.out, HS.out]; exact hT.below_up (drewN_below _ _)⟩
            case measure => simp [intOf]; omega
        · obtain rfl : k = l.length := by omega
          rw [List.take_length] at hT hm2
          have hcalm := Dk.Calm.new.puts l
          have hE := Lib.hid hcalm.barrier.1
          have hHeld := Lib.hid (Dk.Held.start hcalm)
          have hmb := Dk.many_barrier (Dk.St.new.puts l)
          generalize Dk.St.new.puts l = sr at *
          clear hm1 hcalm
          have hmm : sr.many ≤ 1073741824 := by omega
          go_wp2_with fail
          refine (two_barrier hT hmm).mono ?_
          rintro e w3 ⟨rfl, h3⟩
          rw [hE.out]
          clear hT hE
          have h4 : Two w gd gr sr.barrier sr (w3.alloc (.cells (bools fun _ => false).toArray 4)) := h3.below_up ((Below.refl _ _).alloc (Nat.le_refl _) _)
          have hbc := Blk.new w3 4 (bools fun _ => false).toArray
          have hBc : w.heap.size ≤ w3.heap.size := h3.below.size
          go_wp2_with (refine wpList_make_bools _ rfl _ _ rfl rfl rfl ?_)
          generalize w3.alloc (.cells (bools fun _ => false).toArray 4) = w4 at *
          generalize w3.heap.size = bc at *
          clear h3
          go_loopw [11] (BehindLoop w gd gr bc sr l2) (fun v _ => l2.length - (intOf v).toNat)
          case atStart => exact ⟨0, _, _, Nat.zero_le _, rfl, h4, hHeld.out, hbc, by omega⟩
          case round =>
            obtain ⟨k, st, ch, hk1, rfl, hT, hH, hbk, hmk⟩ := hrel
            clear h4 hbc hmb
            by_cases hlt : k < l2.length
            · obtain ⟨x, hit⟩ : ∃ x, l2[k]? = some x := ⟨_, List.getElem?_eq_getElem hlt⟩
              obtain ⟨-, bl, off, rfl, hb, -⟩ := HI2.out k x hit
              obtain ⟨kx, n, s, kp⟩ := x
              obtain ⟨c0, c1, c2, c3⟩ := HI2.out.at4 hit wr hT.below
              simp only at c0 c1 c2 c3
              clear hit
              have hTb : Two w gd gr st sr (wr.alloc (.cells #[.int .i64 kx, .int .i64 n, .string s, .int .u64 (kp : Int)] 37)) := hT.below_up ((Below.refl _ _).alloc (Nat.le_refl _) _)
              have hob := Blk.new wr 37 #[.int .i64 kx, .int .i64 n, .string s, .int .u64 (kp : Int)]
              have hbk2 := hbk.alloc (.cells #[.int .i64 kx, .int .i64 n, .string s, .int .u64 (kp : Int)] 37)
              have hsm : st.many ≤ 1073741824 := by omega
              clear hT hbk
              by_cases hx : kx = 0
              · subst hx
                have hmw := Dk.many_write st n s
                by_cases hbars : st.bars n s = 0
                · obtain ⟨-, hn0, hn1, -⟩ := Dk.bars_ok hbars
                  obtain ⟨i, rfl⟩ : ∃ i : Nat, n = (i : Int) := ⟨n.toNat, by omega⟩
                  have hi : i < 256 := by omega
                  have HE := Lib.hid (hH.calm.writes hbars).1
                  have HW := Lib.hid (hH.write hbars)
                  clear hbars hH
                  go_wp2_with fail
                  refine (two_write_ch hTb (i : Int) s hsm).mono ?_
                  rintro e w5 ⟨rfl, h5, hc5⟩
                  rw [HE.out]
                  have hob5 := hc5.blk hob rfl
                  have hb5 := hc5.blk hbk2 rfl
                  have d1 : w5.cell? ⟨wr.heap.size, 1, none⟩ = some (.int .i64 (i : Int)) := hob5.cell 1
                  have g1 := hb5.frozen i
                  have g2 : w5.cell? ⟨bc, i, none⟩ = some (.bool (ch i)) := by rw [hb5.cell i, List.getElem?_toArray, bools_get _ hi]
                  have HM := Lib.hid (h5.mark hb5 hBc hi)
                  clear hTb hob hbk2 c0 c1 c2 c3 h5 hc5 hob5 hb5
                  go_wp2_with fail
                  go_roundw
                  case rel => exact ⟨k + 1, _, _, by omega, by go_num, HM.out.1, HW.out, HM.out.2, by omega⟩
                  case measure => simp [intOf]; omega
                · have hE := (write_bars hbars).1
                  have HS := Lib.hid (write_bars hbars).2
                  obtain ⟨y, hy⟩ : ∃ y, y = st.bars n s := ⟨_, rfl⟩
                  rw [← hy] at hE hbars
                  have hy0 : (y == 0) = false := by simpa using hbars
                  have HE := Lib.hid hE
                  clear hE hy hbars
                  go_wp2_with fail
                  refine (two_write_ch hTb n s hsm).mono ?_
                  rintro e w5 ⟨rfl, h5, hc5⟩
                  rw [HE.out]
                  rw [HS.out] at h5
                  have hb5 := hc5.blk hbk2 rfl
                  clear hTb hob hbk2 c0 c1 c2 c3 hc5
                  go_wp2_with fail
                  go_roundw
                  case rel => exact ⟨k + 1, st, ch, by omega, by go_num, h5, hH, hb5, by omega⟩
                  case measure => simp [intOf]; omega
              · have hb0 : (kx == 0) = false := by simpa using hx
                go_wp2_with fail
                go_roundw
                case rel => exact ⟨k + 1, st, ch, by omega, by go_num, hTb, hH, hbk2, by omega⟩
                case measure => simp [intOf]; omega
            · have hsm : (st.cut 1 keep).many ≤ 1073741824 := by show st.many ≤ _; omega
              have hE := Lib.hid (Dk.cut_barrier hH.calm keep).1
              have hoff : (st.cut 1 keep).barrier.off = true := by rw [(Dk.cut_barrier hH.calm keep).2]; rfl
              have HO := Lib.hid hoff; clear hoff
              go_wp2_with fail
              refine (cut_any _ _ _ 1 keep _ hT.d (by decide) hk).mono ?_
              rintro e w5 ⟨rfl, h5, hc5⟩
              have hT5 := hT.god h5 hc5
              have hb5 := hc5.blk hbk rfl
              clear hT hbk h5 hc5
              go_wp2_with fail
              refine (barrier_any _ _ _ _ hT5.d hsm).mono ?_
              rintro e w6 ⟨rfl, h6, hc6⟩
              rw [hE.out]
              have hT6 := hT5.god h6 hc6
              have hb6 := hc6.blk hb5 rfl
              clear hT5 hb5 h6 hc6
              go_wp2_with fail
              refine (one_dead hT6.one).mono ?_
              rintro e w7 ⟨rfl, rfl⟩
              rw [HO.out]
              go_wp2_with fail
              refine (power_any _ _ _ _ hT6.d).mono ?_
              rintro e w7 ⟨rfl, h7, hc7⟩
              have hT7 := hT6.god h7 hc7
              have hb7 := hc7.blk hb6 rfl
              have HEnd := Lib.hid (fun (j : Nat) (hj : ch j = false) (h256 : j < 256) => hH.ends keep hj h256)
              obtain ⟨b, lv, hr⟩ := hT7.r
              obtain ⟨q0, -⟩ := hr.cells
              have HR := Lib.hid hr
              clear hT6 hb6 h7 hc7 hH hr
              go_wp2_with fail
              go_loop [13] (fun v => ∃ j : Nat, j ≤ 256 ∧ v = .int .i64 (j : Int)) (fun v => 256 - (intOf v).toNat)
              case atStart => exact ⟨0, by omega, rfl⟩
              case round =>
                obtain ⟨j, hj, rfl⟩ := hrel
                by_cases hjl : j < 256
                · have q1 := HR.out.sector hjl
                  have q2 : w7.cell? ⟨bc, j, none⟩ = some (.bool (ch j)) := by rw [hb7.cell j, List.getElem?_toArray, bools_get _ hjl]
                  cases hcj : ch j with
                  | true =>
                    rw [hcj] at q2
                    clear hcj
                    go_wp2_with fail
                    refine (one_read hT7.one (j : Int)).mono ?_
                    rintro e w8 ⟨rfl, rfl⟩
                    go_wp2_with fail
                    go_round
                    case rel => exact ⟨j + 1, by omega, by go_num⟩
                    case measure => simp [intOf]; omega
                  | false =>
                    rw [hcj] at q2
                    have HF := Lib.hid (HEnd.out j hcj hjl)
                    clear hcj
                    go_wp2_with fail
                    refine (one_read hT7.one (j : Int)).mono ?_
                    rintro e w8 ⟨rfl, rfl⟩
                    rw [HF.out]
                    go_wp2_with fail
                    go_round
                    case rel => exact ⟨j + 1, by omega, by go_num⟩
                    case measure => simp [intOf]; omega
                · go_wp2_with fail
                  go_ret
                  exact ⟨rfl, hT7.below⟩

end Go.Proofs.Ytfflopmbbmpeoaa
