/- The walk of DiskAgain: true of any steps. -/
import Derived.Test.YtfflopmbbmpeoaaDiskAgainPlain
import Derived.Test.YtfflopmbbmpeoaaDiskLastsWalk
namespace Go.Proofs.Ytfflopmbbmpeoaa
open Go.RowKit

/-- What the first loop knows. -/
def OneLoop (w0 : World) (gd : Nat) (l : List Sp) (v : Value) (wr : World) : Prop :=
  ∃ k : Nat, k ≤ l.length ∧ v = .int .i64 (k : Int) ∧ One w0 gd (Dk.St.new.puts (l.take k)) wr
/-- What the second loop knows. -/
def CopyLoop (w0 : World) (gd gr : Nat) (sd : Dk.St) (v : Value) (wr : World) : Prop :=
  ∃ i : Nat, i ≤ 256 ∧ v = .int .i64 (i : Int) ∧ Two w0 gd gr sd (Dk.again sd.is i) wr

/-- The document's disk is told how many calls there were. -/
theorem Two.count {w0 w : World} {gd gr b : Nat} {sd sr : Dk.St} {lv : Value} (h : Two w0 gd gr sd sr w) (hr : RefAt w w0.heap.size gr sr b lv) (m : Nat) (hl : sr.loose = []) :
    Two w0 gd gr sd (sr.counted m) (w.setCell ⟨gr, 6, none⟩ (.int .i64 (m : Int))) := by
  have hf : RefAt (w.setCell ⟨gr, 6, none⟩ (.int .i64 (m : Int))) w0.heap.size gr (sr.counted m) b lv :=
    hr.field rfl rfl rfl hr.cuts hr.fails hr.keep ⟨hr.inv.nodup, hr.inv.keys, hr.inv.texts, by show sr.loose.length ≤ m; rw [hl]; exact Nat.zero_le _⟩
  exact h.gor ⟨b, lv, hf⟩ (hr.ch 6 _)

set_option maxRecDepth 100000 in
set_option maxHeartbeats 1600000 in
theorem again_walk (A : Option Addr) (cap : Nat) (l : List Sp) (A2 : Option Addr) (cap2 : Nat) (l2 : List Sp) (keep : Nat) (w : World) (h : Steps w w.heap.size A l) (h2 : Steps w w.heap.size A2 l2) (hk : keep < 18446744073709551616) :
    Calls Try.prog 4 #[.slice A l.length cap, .slice A2 l2.length cap2, .int .u64 (keep : Int)] w fun e w' => e = .returned (.bool true) ∧ Below w.heap.size w w' := by
  have HH := Lib.hid (heavy_any A cap w.heap.size l w h)
  have HH2 := Lib.hid (heavy_any A2 cap2 w.heap.size l2 w h2)
  have HI := Lib.hid h; have HI2 := Lib.hid h2; clear h h2
  cases hv : heavyB l with
  | true =>
    have HV := Lib.hid hv; clear hv
    go_enter Try.func4, Try.ntmps4
    go_wp2_with fail
    refine HH.out.mono ?_
    rintro e w1 ⟨rfl, rfl⟩
    rw [HV.out]
    go_wp2_with fail
    go_ret
    exact ⟨rfl, Below.refl _ _⟩
  | false =>
    have HV := Lib.hid hv
    have hl := light_small hv
    clear hv
    cases hv2 : heavyB l2 with
    | true =>
      have HV2 := Lib.hid hv2; clear hv2
      go_enter Try.func4, Try.ntmps4
      go_wp2_with fail
      refine HH.out.mono ?_
      rintro e w1 ⟨rfl, rfl⟩
      rw [HV.out]
      go_wp2_with fail
      refine HH2.out.mono ?_
      rintro e w1 ⟨rfl, rfl⟩
      rw [HV2.out]
      go_wp2_with fail
      go_ret
      exact ⟨rfl, Below.refl _ _⟩
    | false =>
      have HV2 := Lib.hid hv2
      have hl2 := light_small hv2
      clear hv2
      have HN := Lib.hid (one_new w)
      go_enter Try.func4, Try.ntmps4
      go_wp2_with fail
      refine HH.out.mono ?_
      rintro e w1 ⟨rfl, rfl⟩
      rw [HV.out]
      clear HH
      go_wp2_with fail
      refine HH2.out.mono ?_
      rintro e w1 ⟨rfl, rfl⟩
      rw [HV2.out]
      clear HH2
      go_wp2_with fail
      refine HN.out.mono ?_
      rintro e w1 ⟨rfl, h1⟩
      generalize w.heap.size + 1 = gd at *
      clear HN
      go_wp2_with fail
      go_loopw [8] (OneLoop w gd l) (fun v _ => l.length - (intOf v).toNat)
      case atStart => exact ⟨0, Nat.zero_le _, rfl, h1⟩
      case round =>
        obtain ⟨k, hk1, rfl, hT⟩ := hrel
        clear h1
        obtain ⟨hm1, hm2⟩ := Dk.puts_few Dk.St.new hl (by decide) k
        by_cases hlt : k < l.length
        · obtain ⟨x, hit⟩ : ∃ x, l[k]? = some x := ⟨_, List.getElem?_eq_getElem hlt⟩
          obtain ⟨hwf, bl, off, rfl, hb, -⟩ := HI.out k x hit
          have SC := Lib.hid (HI.out.at hit)
          have hup := Lib.hid (Dk.puts_up Dk.St.new hit)
          clear hit
          have s0 := SC.out wr hT.below
          unfold StepAt at s0
          obtain ⟨c0, c1, c2⟩ := s0
          have hmm : (Dk.St.new.puts (l.take k)).many ≤ 1073741824 := by omega
          clear hm1 hm2
          by_cases hx : x.k = 0
          · have hb0 : (x.k == 0) = true := by simp [hx]
            have HX := Lib.hid hx; clear hx
            have HS := Lib.hid (Dk.putStep_zero (st := Dk.St.new.puts (l.take k)) HX.out)
            go_wp2_with fail
            go_region_held3 (fun W => W.cell? ⟨bl, off + k * 4, none⟩ = some (.int .i64 x.k) ∧ W.cell? ⟨bl, off + k * 4 + 1, none⟩ = some (.int .i64 x.n) ∧ W.cell? ⟨bl, off + k * 4 + 2, none⟩ = some (.string x.s)) (first | assumption | exact ⟨c0, c1, c2⟩ | go_keep)
              (first
                | (go_at_call 13; (with_reducible refine (one_write hT.drew x.n x.s hmm).mono ?_); rintro e w2 ⟨rfl, h2⟩; have s2 := SC.out w2 h2.below; unfold StepAt at s2))
            rw [← HS.out, ← hup.out] at h2
            clear hT s2 c0 c1 c2
            go_wp2_with fail
            go_roundw
            case rel => exact ⟨k + 1, by omega, by go_num, h2⟩
            case measure => simp [intOf]; omega
          · have hb0 : (x.k == 0) = false := by simpa using hx
            have HX := Lib.hid hx; clear hx
            have HS := Lib.hid (Dk.putStep_else (st := Dk.St.new.puts (l.take k)) HX.out)
            go_wp2_with fail
            go_roundw
            case rel => exact ⟨k + 1, by omega, by go_num, by rw [hup.out, HS.out]; exact hT⟩
            case measure => simp [intOf]; omega
        · obtain rfl : k = l.length := by omega
          rw [List.take_length] at hT hm2
          have hcalm := Dk.Calm.new.puts l
          have hal := Lib.hid (Dk.alike_again hcalm hT.d.inv (Dk.Far.new.puts Dk.Calm.new l) keep)
          have hinv := Dk.back_inv hT.d.inv keep
          have hbm := Dk.back_many hcalm keep
          have hbc := Dk.back_calm hcalm keep
          have hE := Lib.hid (Dk.cut_barrier hcalm keep).1
          generalize Dk.St.new.puts l = s0 at *
          clear hm1 hcalm
          have hmm : (s0.cut 1 keep).many ≤ 1073741824 := by show s0.many ≤ _; omega
          go_wp2_with fail
          refine (one_cut hT 1 keep (by decide) hk).mono ?_
          rintro e w2 ⟨rfl, h2⟩
          clear hT
          go_wp2_with fail
          refine (one_barrier h2 hmm).mono ?_
          rintro e w3 ⟨rfl, h3⟩
          rw [hE.out]
          clear h2 hmm
          go_wp2_with fail
          refine (one_power h3).mono ?_
          rintro e w4 ⟨rfl, h4⟩
          rw [show (s0.cut 1 keep).barrier.power = s0.back keep from rfl] at h4
          generalize s0.back keep = sd at *
          clear h3
          go_wp2_with fail
          refine (two_new h4).mono ?_
          rintro e w5 ⟨rfl, h5⟩
          generalize w4.heap.size + 1 = gr at *
          clear h4
          have hsz := hinv.texts
          have HSAY := Lib.hid (fun i (hi : i < 256) => Dk.again_says (f := sd.is) hsz hi)
          have HAT := Lib.hid (fun i (hi : i ≤ 256) => Dk.again_at (f := sd.is) hsz i hi)
          have HREAD := Lib.hid (fun i (hi : i < 256) => show sd.reach ((i : Nat) : Int) = 0 ∧ sd.read ((i : Nat) : Int) = sd.is i from ⟨Dk.reach_mk hbc.on (by omega) (by omega), by unfold Dk.St.read; rw [Dk.reach_mk hbc.on (by omega) (by omega), if_pos rfl, Int.toNat_natCast]⟩)
          clear hsz
          go_wp2_with fail
          go_loopw [10] (CopyLoop w gd gr sd) (fun v _ => 256 - (intOf v).toNat)
          case atStart => exact ⟨0, Nat.zero_le _, rfl, h5⟩
          case round =>
            obtain ⟨i, hi, rfl, hT⟩ := hrel
            clear h5
            by_cases hlt2 : i < 256
            · have HS := Lib.hid (HSAY.out i hlt2)
              have HR := Lib.hid (HREAD.out i hlt2)
              have hmany : (Dk.again sd.is i).many ≤ 1073741824 := by rw [(HAT.out i hi).2.2]; omega
              go_wp2_with fail
              refine (one_read hT.one (i : Int)).mono ?_
              rintro e w6 ⟨rfl, rfl⟩
              rw [HR.out.1, HR.out.2]
              go_wp2_with fail
              refine (two_rwrite hT (i : Int) (sd.is i) hmany).mono ?_
              rintro e w6 ⟨rfl, h6⟩
              rw [HS.out]
              clear hT
              go_wp2_with fail
              go_roundw
              case rel => exact ⟨i + 1, by omega, by go_num, h6⟩
              case measure => simp [intOf]; omega
            · obtain rfl : i = 256 := by omega
              have hat := HAT.out 256 (Nat.le_refl _)
              have hmany : (Dk.again sd.is 256).many ≤ 1073741824 := by rw [hat.2.2]; omega
              have hB := Lib.hid hat.1.barrier
              clear hat HSAY HAT HREAD
              generalize Dk.again sd.is 256 = sa at *
              go_wp2_with fail
              refine (two_rbarrier hT hmany).mono ?_
              rintro e w6 ⟨rfl, h6⟩
              rw [hB.out.1]
              clear hT
              go_wp2_with fail
              refine (one_calls h6.one).mono ?_
              rintro e w7 ⟨rfl, rfl⟩
              obtain ⟨b, lv, hr⟩ := h6.r
              obtain ⟨-, -, -, -, -, -, q6⟩ := hr.cells
              have f6 := hr.blk.frozen 6
              have HC := Lib.hid (h6.count hr sd.many (by rw [hB.out.2]; rfl))
              generalize hsr : sa.barrier.counted sd.many = sr at *
              have hsm : sd.many ≤ 1000000 ∧ sd.many ≤ 3000 := by omega
              have hal2 := hal
              clear hr h6 hsr hbm hal hB hE
              go_wp2_with fail
              go_loopw [13] (ScriptLoop w gd gr sd sr l2) (fun v _ => l2.length - (intOf v).toNat)
              case atStart => exact ⟨0, Nat.zero_le _, rfl, HC.out⟩
              case round =>
                obtain ⟨k, hk2, rfl, hT⟩ := hrel
                clear f6 q6
                by_cases hlt : k < l2.length
                · obtain ⟨x, hit⟩ : ∃ x, l2[k]? = some x := ⟨_, List.getElem?_eq_getElem hlt⟩
                  obtain ⟨hwf, bl, off, rfl, hb, -⟩ := HI2.out k x hit
                  obtain ⟨c0, c1, c2, c3⟩ := HI2.out.at4 hit wr hT.below
                  have hup := Lib.hid (Dk.runs_up sd hit)
                  have hup2 := Lib.hid (Dk.runs_up sr hit)
                  have hmany : (sd.runs (l2.take k)).many ≤ 1000000 := by
                    have h1 := Dk.runs_many sd (l2.take k)
                    have h2 : (l2.take k).length ≤ l2.length := by rw [List.length_take]; omega
                    omega
                  clear hit
                  go_wp2_with fail
                  refine (step_any _ _ _ _ _ _ x hT (hal2.out.runs _) hwf hmany).mono ?_
                  rintro e w8 ⟨rfl, h8⟩
                  rw [← hup.out, ← hup2.out] at h8
                  clear c0 c1 c2 c3 hT hmany
                  go_wp2_with fail
                  go_roundw
                  case rel => exact ⟨k + 1, by omega, by go_num, h8⟩
                  case measure => simp [intOf]; omega
                · go_wp2_with fail
                  refine (two_power hT).mono ?_
                  rintro e w8 ⟨rfl, h8⟩
                  clear hT
                  go_wp2_with fail
                  refine (two_rpower h8).mono ?_
                  rintro e w9 ⟨rfl, h9⟩
                  clear h8
                  go_wp2_with fail
                  refine (alike_any _ _ _ _ _ _ h9 (hal2.out.runs _).power).mono ?_
                  rintro e w10 ⟨rfl, rfl⟩
                  go_wp2_with fail
                  go_ret
                  exact ⟨rfl, h9.below⟩

end Go.Proofs.Ytfflopmbbmpeoaa
