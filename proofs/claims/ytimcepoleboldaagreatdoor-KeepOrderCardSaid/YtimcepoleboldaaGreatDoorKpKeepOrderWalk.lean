/- The walk of KeepOrder: true of any values, whichever is put first. -/
import Derived.Test.YtimcepoleboldaaGreatDoorKpKeepOrdSt
import Derived.StillTailTactics
import Derived.Deep.RegionHeldLaw
import Derived.LoopTactic
import Derived.BigQuiet
import Derived.OwnWalk
import Derived.IntWalk
namespace Go.Proofs.YtimcepoleboldaaGreatDoor
open Go.RowKit Go.Deep

def vsum : List ByteArray → Nat
  | [] => 0
  | v :: l => min v.size 1048576 + vsum l
theorem vsum_append : ∀ a b : List ByteArray, vsum (a ++ b) = vsum a + vsum b
  | [], b => by simp [vsum]
  | v :: a, b => by
    show min v.size 1048576 + vsum (a ++ b) = min v.size 1048576 + vsum a + vsum b
    rw [vsum_append a b]
    omega
theorem vsum_up {l : List ByteArray} {k : Nat} {v : ByteArray} (h : l[k]? = some v) : vsum (l.take (k + 1)) = vsum (l.take k) + min v.size 1048576 := by
  obtain ⟨h1, rfl⟩ := List.getElem?_eq_some_iff.1 h
  rw [List.take_succ_eq_append_getElem h1, vsum_append]
  show _ + (_ + 0) = _
  omega
theorem vsum_part (l : List ByteArray) (k : Nat) : vsum (l.take k) ≤ vsum l := by
  conv => rhs; rw [← List.take_append_drop k l, vsum_append]
  omega
theorem vsum_small : ∀ l : List ByteArray, vsum l ≤ 4096 → (l.map ByteArray.size).sum = vsum l
  | [], _ => rfl
  | v :: l, h => by
    have h' : min v.size 1048576 + vsum l ≤ 4096 := h
    have := vsum_small l (by omega)
    show v.size + (l.map ByteArray.size).sum = min v.size 1048576 + vsum l
    rw [this]
    omega

set_option maxRecDepth 20000 in
set_option maxHeartbeats 8000000 in
theorem order_walk (v : Value) (l : List ByteArray) (a1 : Int) (w : World) (hl : Strs w v l) (ha : 0 ≤ a1 ∧ a1 ≤ 255) :
    Calls Tryz.prog 3 #[v, .int .u8 a1] w fun x w' => x = .returned (.bool true) ∧ Below w.heap.size w w' := by
  obtain ⟨A, cap, rfl, -, hA⟩ := id hl
  have HL := Lib.hid hl
  have HA := Lib.hid hA
  have HAR := Lib.hid ha
  clear hl hA ha
  by_cases hbig : 1048576 < l.length
  · have hb1 : 1048576 < (l.length : Int) := by omega
    go_enter Tryz.func3, Tryz.ntmps3
    go_wp2_with fail
    refine wp_loop_rounds 1 ?_
    rw [rounds_succ]
    go_wp2_with fail
    go_ret
    exact ⟨rfl, Below.refl _ _⟩
  have hb1 : (l.length : Int) ≤ 1048576 := by omega
  go_enter Tryz.func3, Tryz.ntmps3
  go_wp2_with fail
  go_loop [5, 6] (fun n i => ∃ k : Nat, k ≤ l.length ∧ l.length + vsum (l.take k) ≤ 4000000 ∧ i = .int .i64 (k : Int) ∧ n = .int .i64 ((l.length + vsum (l.take k) : Nat) : Int)) (fun _ i => l.length - (intOf i).toNat)
  case atStart => exact ⟨0, Nat.zero_le _, by simp [vsum]; omega, rfl, by first | (simp [vsum]; done) | (simp [vsum]; omega)⟩
  case round =>
    obtain ⟨k, hk, hsz, rfl, rfl⟩ := hrel
    by_cases hlt : k < l.length ∧ l.length + vsum (l.take k) ≤ 2048
    · obtain ⟨hlt1, hlt2⟩ := hlt
      obtain ⟨x, hx⟩ : ∃ x, l[k]? = some x := ⟨_, List.getElem?_eq_getElem hlt1⟩
      obtain ⟨b1, o1, rfl, l1, d1⟩ := HA.out k x hx
      have hup := Lib.hid (vsum_up hx)
      have hki : (k : Int) < (l.length : Int) := by omega
      have hn2 : ((l.length + vsum (l.take k) : Nat) : Int) ≤ 2048 := by omega
      clear hx
      obtain ⟨n, hn⟩ : ∃ n, l.length + vsum (l.take k) = n := ⟨_, rfl⟩
      rw [hn] at hlt2 hsz hn2
      have HN := Lib.hid hn
      rw [hn]
      clear hn
      go_wp2_with fail
      go_round
      case rel => exact ⟨k + 1, by omega, by rw [hup.out]; have := HN.out; omega, by go_num, congrArg (Value.int .i64) (by rw [hup.out]; have := HN.out; omega)⟩
      case measure => simp [intOf]; omega
    · by_cases hn : 2048 < l.length + vsum (l.take k)
      · have hn2 : (2048 : Int) < ((l.length + vsum (l.take k) : Nat) : Int) := by omega
        generalize l.length + vsum (l.take k) = n at *
        clear hlt
        by_cases hk2 : k < l.length
        · have hki : (k : Int) < (l.length : Int) := by omega
          go_wp2_with fail
          go_ret
          exact ⟨rfl, Below.refl _ _⟩
        · have hki : ¬ (k : Int) < (l.length : Int) := by omega
          go_wp2_with fail
          go_ret
          exact ⟨rfl, Below.refl _ _⟩
      · have hkl : k = l.length := by omega
        subst hkl
        have HV := Lib.hid (show l.length + vsum l ≤ 2048 by rw [List.take_of_length_le (Nat.le_refl _)] at hn; omega)
        have hn2 : ((l.length + vsum (l.take l.length) : Nat) : Int) ≤ 2048 := by omega
        generalize l.length + vsum (l.take l.length) = n at *
        clear hlt hn
        by_cases h12 : 12 < l.length
        · have h12' : (12 : Int) < (l.length : Int) := by omega
          go_wp2_with fail
          go_ret
          exact ⟨rfl, Below.refl _ _⟩
        · have h12' : (l.length : Int) ≤ 12 := by omega
          have H12 := Lib.hid (show l.length ≤ 12 by omega)
          clear h12
          go_upto_region 9 with fail
          clear hn2 hk hsz
          have HK0 := Lib.hid (show KeysAt (w.alloc (.cells #[.string ⟨#[97]⟩, .string ⟨#[98]⟩, .string ⟨#[99]⟩, .string ⟨#[100]⟩, .string ⟨#[101]⟩, .string ⟨#[102]⟩, .string ⟨#[103]⟩, .string ⟨#[104]⟩, .string ⟨#[105]⟩, .string ⟨#[106]⟩, .string ⟨#[107]⟩, .string ⟨#[108]⟩] 9)) w.heap.size from Blk.new _ _ _)
          have HBK := Lib.hid (show Below w.heap.size w (w.alloc (.cells #[.string ⟨#[97]⟩, .string ⟨#[98]⟩, .string ⟨#[99]⟩, .string ⟨#[100]⟩, .string ⟨#[101]⟩, .string ⟨#[102]⟩, .string ⟨#[103]⟩, .string ⟨#[104]⟩, .string ⟨#[105]⟩, .string ⟨#[106]⟩, .string ⟨#[107]⟩, .string ⟨#[108]⟩] 9)) from (Below.refl _ _).alloc (Nat.le_refl _) _)
          generalize w.alloc (.cells #[.string ⟨#[97]⟩, .string ⟨#[98]⟩, .string ⟨#[99]⟩, .string ⟨#[100]⟩, .string ⟨#[101]⟩, .string ⟨#[102]⟩, .string ⟨#[103]⟩, .string ⟨#[104]⟩, .string ⟨#[105]⟩, .string ⟨#[106]⟩, .string ⟨#[107]⟩, .string ⟨#[108]⟩] 9) = w0 at *
          obtain ⟨kb, hkb⟩ : ∃ kb, kb = w.heap.size := ⟨_, rfl⟩
          rw [← hkb] at HK0
          rw [← hkb]
          clear hkb
          go_wp2_with fail
          refine (disk_new w0).mono ?_
          rintro e wa ⟨rfl, hda, hba⟩
          obtain ⟨gs, hgs⟩ : ∃ g, g = w0.heap.size + 1 := ⟨_, rfl⟩
          rw [← hgs] at hda ⊢
          have HBA := Lib.hid hba
          have HDA := Lib.hid hda
          clear hgs hba hda
          go_wp2_with fail
          refine (shop_new HDA.out (by decide) (by decide)).mono ?_
          rintro e w1 ⟨K1, s, mb, ns, st1, rfl, -, hS, hn1, hc1, hm1⟩
          have HS1 := Lib.hid hS
          have HB1 := Lib.hid (HBA.out.trans (hc1.to_below HBA.out.size))
          have HM1 := Lib.hid (show ns ≤ 12192 ∧ st1.many ≤ 2 from ⟨hn1, hm1⟩)
          clear hS hc1 hn1 hm1 HDA HBA
          go_wp2_with fail
          refine (disk_new w1).mono ?_
          rintro e wb ⟨rfl, hda, hba⟩
          obtain ⟨gt, hgt⟩ : ∃ g, g = w1.heap.size + 1 := ⟨_, rfl⟩
          rw [← hgt] at hda ⊢
          have HBA := Lib.hid hba
          have HDA := Lib.hid hda
          clear hgt hba hda
          go_wp2_with fail
          refine (shop_new_at HDA.out (by decide) (by decide)).mono ?_
          rintro e w2 ⟨K2, t, mbt, nt, st2, rfl, -, hS, hn1, hc1, hm1, hmb1⟩
          have HS2 := Lib.hid hS
          have HB2 := Lib.hid (HBA.out.trans (hc1.to_below HBA.out.size))
          have HM2 := Lib.hid (show (nt ≤ 12192 ∧ st2.many ≤ 2) ∧ w1.heap.size ≤ mbt from ⟨⟨hn1, hm1⟩, Nat.le_trans HBA.out.size hmb1⟩)
          clear hS hc1 hn1 hm1 HDA HBA hmb1
          go_upto_region 15 with fail
          obtain ⟨bn, hbn⟩ := Int.eq_ofNat_of_zero_le HAR.out.1
          subst hbn
          have hbn2 : bn ≤ 255 := by have := HAR.out.2; omega
          obtain ⟨r, hr⟩ : ∃ r, r = Kp.orec 0 l := ⟨_, rfl⟩
          have HR := Lib.hid hr
          have hrl : r.length = l.length := by rw [hr, Kp.orec_length]
          have HRL := Lib.hid hrl
          have HRH := Lib.hid (show Kp.heavy r ≤ 4096 ∧ r.length ≤ 12 by
            rw [hr, Kp.orec_heavy, vsum_small l (by have := HV.out; omega), Kp.orec_length]
            have := HV.out
            have := H12.out
            omega)
          have HK2 := Lib.hid ((HK0.out.older HB1.out).older HB2.out)
          have HKL := Lib.hid (show kb < w0.heap.size ∧ w0.heap.size ≤ w1.heap.size ∧ w1.heap.size ≤ w2.heap.size from ⟨HK0.out.lt, HB1.out.size, HB2.out.size⟩)
          have HO0 := Lib.hid (OrdAt.zero (r := r) (b := bn % l.length) HS1.out HM1.out HB2.out HK2.out)
          have HBW := Lib.hid (show Below w.heap.size w w2 from HBK.out.trans ((HB1.out.trans (HB2.out.mono HB1.out.size)).mono HBK.out.size))
          have HAA := Lib.hid HA.out
          clear hr hrl HS1 HM1 HK0 HK2 hb1 hbig
          generalize (w2.alloc (.cells #[] 32)).alloc (.cells #[] 65) = w3 at *
          go_wp2_with fail
          go_loopw [12, 13, 14] (fun lv mv iv wr => ∃ i : Nat, i ≤ l.length ∧ iv = .int .i64 (i : Int) ∧ OrdAt w0 w1 w2 gs s kb r (bn % l.length) i i i lv mv wr) (fun _ _ iv _ => l.length - (intOf iv).toNat)
          case atStart => exact ⟨0, Nat.zero_le _, rfl, HO0.out⟩
          case round =>
            obtain ⟨i, hi, rfl, hord⟩ := hrel
            have HO := Lib.hid hord
            have HBR := Lib.hid (show Below w.heap.size w wr from HBW.out.trans ((hord.ch.to_below (Nat.le_trans HKL.out.2.1 HKL.out.2.2)).mono HBK.out.size))
            clear hord HO0
            obtain ⟨-, lb, cl, -, -, -, -, rfl, -⟩ := HO.out.shop
            by_cases hlt : i < l.length
            · have hii : (i : Int) < (l.length : Int) := by omega
              have hkk : (i + bn) % l.length < l.length := Nat.mod_lt _ (by omega)
              obtain ⟨x, hx⟩ : ∃ x, l[(i + bn) % l.length]? = some x := ⟨_, List.getElem?_eq_getElem hkk⟩
              obtain ⟨b1, o1, rfl, l1, c1⟩ := HAA.out _ x hx
              have HZ := Lib.hid (ord_turned HR.out hlt hx)
              have hmod := rest_nat i bn l.length
              have d0 := HO.out.keys.at (j := (i + bn) % l.length) (by have := H12.out; omega)
              have d1 := (HBR.out.cell (p := ⟨b1, o1 + (i + bn) % l.length, none⟩) l1).trans c1
              have hlz : ¬ (l.length : Int) = 0 := by omega
              have hcv : IntKind.i64.wrap (bn : Int) = (bn : Int) := IntWalk.i64_in _ (by omega)
              generalize (i + bn) % l.length = kk at *
              have hki : (kk : Int) < (l.length : Int) := by omega
              have hk12 : (kk : Int) < 12 := by omega
              have HLB := Lib.hid l1
              clear hx c1 hkk l1
              go_upto_region 19 with fail
              go_still_tail 8, (by kernel_rfl)
              go_wp2_with fail
              have hb4 : Below wr.heap.size wr ((wr.alloc (.cells #[.int .i64 1, .string (Kp.okey kk), .string x] 32)).drew) := ((Below.refl _ _).alloc (Nat.le_refl _) _).drew
              refine ((HO.out.to hb4).put HRH.out ((recs_one wr (Kp.okey kk) x).below (Below.refl _ _).drew) HZ.out rfl).mono ?_
              rintro e w5 ⟨rfl, hord5⟩
              have HO5 := Lib.hid hord5
              have HBR5 := Lib.hid (show Below w.heap.size w w5 from HBW.out.trans ((hord5.ch.to_below (Nat.le_trans HKL.out.2.1 HKL.out.2.2)).mono HBK.out.size))
              clear hb4 hord5 d0 d1 hmod hlz hcv hki hk12 HO HBR HZ
              obtain ⟨y, hy⟩ : ∃ y, l[i]? = some y := ⟨_, List.getElem?_eq_getElem hlt⟩
              have hv := HAA.out _ y hy
              obtain ⟨b2, o2, hbo, l2, c2⟩ := hv
              injection hbo with hbo
              injection hbo with e1 e2
              subst e1 e2
              have HZ := Lib.hid (ord_at HR.out hy)
              have d0 := HO5.out.keys.at (j := i) (by have := H12.out; omega)
              have d1 := (HBR5.out.cell (p := ⟨b1, o1 + i, none⟩) l2).trans c2
              have hi12 : (i : Int) < 12 := by omega
              have hba : Below w5.heap.size w5 (w5.alloc (.cells #[.int .i64 1, .string (Kp.okey i), .string y] 32)) := (Below.refl _ _).alloc (Nat.le_refl _) _
              have HOA := Lib.hid (HO5.out.to hba)
              obtain ⟨-, lb2, cl2, -, -, -, -, q1, q2, -⟩ := HOA.out.shop
              injection q1 with q1 _ q3
              injection q1 with q1
              injection q1 with q1 _ _
              subst q1 q3
              have HRA := Lib.hid q2
              have HLN := Lib.hid (show (r.take i).length = i by rw [List.length_take, HRL.out]; omega)
              obtain ⟨y0, y1, y2⟩ := cells_three (Blk.new w5 32 #[.int .i64 1, .string (Kp.okey i), .string y])
              have HY := Lib.hid (And.intro y0 (And.intro y1 y2))
              have HLW := Lib.hid (q2.lt (g := lb) rfl)
              have HSZ5 := Lib.hid (show w2.heap.size ≤ w5.heap.size from HO5.out.ch.size)
              have HDD := Lib.hid (And.intro ((hba.cell (p := ⟨kb, i, none⟩) HO5.out.keys.lt).trans d0) ((hba.cell (p := ⟨b1, o1 + i, none⟩) (Nat.lt_of_lt_of_le l2 HBR5.out.size)).trans d1))
              have HNE := Lib.hid (show kb ≠ lb ∧ b1 ≠ lb ∧ kb < (w5.alloc (.cells #[.int .i64 1, .string (Kp.okey i), .string y] 32)).heap.size ∧ b1 < (w5.alloc (.cells #[.int .i64 1, .string (Kp.okey i), .string y] 32)).heap.size by
                have h1 := (q2.lt (g := lb) rfl).1
                have h2 := HKL.out
                have h3 := HBW.out.size
                have h4 := HBK.out.size
                have h5 := hba.size
                have h6 := HSZ5.out
                refine ⟨by omega, by omega, by omega, by omega⟩)
              clear q2 y0 y1 y2 hy c2 l2 hba HO5
              go_upto_region 22 with fail
              go_region_held_law (fun W => W.cell? ⟨kb, i, none⟩ = some (.string (Kp.okey i)) ∧ W.cell? ⟨b1, o1 + i, none⟩ = some (.string y)) (first | go_keep | exact ⟨d0, d1⟩ | exact ⟨(hgrow7.cell_far ⟨kb, i, none⟩ HNE.out.2.2.1 (fun e => by injection e with e; exact HNE.out.1 e)).trans HDD.out.1, (hgrow7.cell_far ⟨b1, o1 + i, none⟩ HNE.out.2.2.2 (fun e => by injection e with e; exact HNE.out.2.1 e)).trans HDD.out.2⟩) ((refine step_append_ord (by rfl) (.tmp 99) (.tmp 109) (by rfl) (z := ⟨1, Kp.okey i, y⟩) HLN.out HRA.out HY.out.1 HY.out.2.1 HY.out.2.2 (by have := H12.out; omega) (Nat.le_trans HSZ5.out (by simp)) (by rfl) (by rfl) ?_; intro lb7 cap7 w7 hrow7 hgrow7 hn7))
              have HG7 := Lib.hid ((HOA.out.to (Below.refl _ _).drew).grow HZ.out hrow7 hgrow7 (hn7.imp id (fun h => Nat.le_of_eq h.symm)) (Nat.lt_of_lt_of_le HKL.out.1 (Nat.le_trans HKL.out.2.1 HKL.out.2.2)))
              obtain ⟨x0, x1, x2⟩ := row_last HLN.out hrow7
              clear hrow7 hgrow7 hn7 d0 d1 HOA HRA HY HLW HDD HNE HSZ5
              go_wp2_with fail
              refine (etaken_any u13 (Kp.all [] (r.take i)) ⟨1, Kp.okey i, y⟩ w7 HG7.out.ents.1 (by have := Kp.length_all_le (r.take i) []; rw [HLN.out] at this; have := H12.out; have h0 : ([] : Kp.Mp).length = 0 := rfl; omega)).mono ?_
              rintro e w8 ⟨v8, rfl, hr8, hb8⟩
              rw [Kp.goTaken_is (Kp.up_all _ (m := []) trivial), ← all_up HZ.out] at hr8
              have HG8 := Lib.hid (HG7.out.took hb8 (Solid.lower ⟨hr8.ents, .inr hr8⟩ HG7.out.ch.size))
              clear hr8 hb8 x0 x1 x2 HG7
              go_wp2_with fail
              go_roundw
              case rel => exact ⟨i + 1, by omega, by go_num, HG8.out⟩
              case measure => simp [intOf]; omega
            · have hil : i = l.length := by omega
              subst hil
              have HP := Lib.hid (HO.out.last (by rw [HRL.out]) HRH.out (by rw [HR.out]; exact Kp.orec_apart 0 l (by have := H12.out; omega)) (fun x hx => by
                rw [HR.out] at hx
                have := (Kp.orec_key 0 l x hx).1
                unfold Kp.Rc.wf
                omega) HS2.out HM2.out.1 HM2.out.2 HKL.out.2.1)
              clear HO
              go_wp2_with fail
              refine HP.out.mono ?_
              rintro e w5 ⟨rfl, hbw, hps, hpt⟩
              have HPS := Lib.hid hps
              have HPT := Lib.hid hpt
              have HBF := Lib.hid (show Below w.heap.size w w5 from HBR.out.trans (hbw.mono HBK.out.size))
              clear hbw hps hpt HP
              go_wp2_with fail
              refine (HPS.out w5 (Below.refl _ _)).mono ?_
              rintro e w6 ⟨rfl, hb6⟩
              have HB6 := Lib.hid hb6
              clear hb6
              go_wp2_with fail
              refine (HPT.out w6 HB6.out).mono ?_
              rintro e w7 ⟨rfl, hb7⟩
              have HB7 := Lib.hid hb7
              clear hb7
              go_wp2_with fail
              go_ret
              exact ⟨rfl, (HBF.out.trans (HB6.out.mono HBF.out.size)).trans (HB7.out.mono (Nat.le_trans HBF.out.size HB6.out.size))⟩
end Go.Proofs.YtimcepoleboldaaGreatDoor
