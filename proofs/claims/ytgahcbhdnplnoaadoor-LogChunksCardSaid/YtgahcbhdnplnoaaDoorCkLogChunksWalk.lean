/- The walk of LogChunks: true of any chunks, at whatever places. -/
import Derived.Test.YtgahcbhdnplnoaaDoorCkLogChunksParts
import Derived.Test.YtgahcbhdnplnoaaDoorCkLogCalls
import Derived.Test.YtgahcbhdnplnoaaDoorCkLogRefOpen
import Derived.IntWalk
namespace Go.Proofs.YtgahcbhdnplnoaaDoor
open Go.RowKit

/-- Both disks, alike, newer than w0; b: the document's sectors. -/
structure Pair (w0 : World) (gd gr b B2 : Nat) (st : Dk.St) (w : World) : Prop where
  d : Dsk w w0.heap.size gd st
  r : ∃ lv, RefAt w B2 gr st b lv
  below : Below w0.heap.size w0 w
  base : w0.heap.size ≤ B2

section
variable {w0 w w1 : World} {gd gr b B2 : Nat} {st st' : Dk.St}
theorem Pair.up (h : Pair w0 gd gr b B2 st w) (hb : Below w.heap.size w w1) : Pair w0 gd gr b B2 st w1 :=
  ⟨h.d.below hb, by obtain ⟨lv, hr⟩ := h.r; exact ⟨lv, hr.up hb⟩, h.below.trans (hb.mono h.below.size), h.base⟩
theorem Pair.rkept (h : Pair w0 gd gr b B2 st w) (hc : Ch Td w0.heap.size w w1) : (∃ lv, RefAt w1 B2 gr st b lv) ∧ Below w0.heap.size w0 w1 := by
  obtain ⟨lv, hr⟩ := h.r
  exact ⟨⟨lv, hr.kept hc (fun _ => rfl) (fun _ => rfl) (fun _ => rfl)⟩, h.below.trans (hc.to_below h.below.size)⟩
theorem Rch.below (h : Rch B2 b w w1) (hb : w0.heap.size ≤ w.heap.size) (hB : w0.heap.size ≤ B2) : Below w0.heap.size w w1 := (h.ch.lower hB).to_below hb
end

theorem scanGo_len (g : Nat → Option Cn.Chu) (E : Int) : ∀ (n p : Nat) (ep : Int) (op : Option (List UInt8)) (nx : Nat), (Lg.scanGo g E n p ep op nx).1.length ≤ n := by
  intro n
  induction n with
  | zero => intro p ep op nx; exact Nat.le_refl _
  | succ n ih =>
    intro p ep op nx
    cases hg : g p with
    | none => rw [Lg.scan_none hg]; exact Nat.zero_le _
    | some c =>
      by_cases hb : c.q = (p : Int) ∧ ep ≤ c.e ∧ c.e ≤ E ∧ c.f = op.isNone ∧ (op.isSome = true → c.e = ep)
      · cases hl : c.l with
        | true => rw [Lg.scan_last hg hb hl]; exact Nat.succ_le_succ (ih _ _ _ _)
        | false => rw [Lg.scan_more hg hb hl]; exact Nat.le_succ_of_le (ih _ _ _ _)
      · rw [Lg.scan_bad hg hb]; exact Nat.zero_le _
theorem recs_len (st : Dk.St) : (mks (Lg.openRecs st)).length ≤ 1099511627776 := by
  unfold mks
  rw [List.length_map]
  unfold Lg.openRecs Lg.scan
  have := scanGo_len (Lg.half st.is (Lg.top st.is).h) (Lg.top st.is).e 127 0 (Lg.top st.is).b none 0
  omega

/-- What the loop that makes the sectors knows. -/
def ChunksLoop (w0 : World) (gd gr b B2 n : Nat) (vi : Value) (wr : World) : Prop :=
  ∃ (k : Nat) (st : Dk.St), vi = .int .i64 (k : Int) ∧ k ≤ n ∧ Pair w0 gd gr b B2 st wr ∧ st.many ≤ k

set_option maxRecDepth 20000 in
set_option maxHeartbeats 8000000 in
theorem chunks_walk (v : Value) (l : List Ck) (va : Value) (at_ : List Int) (w : World) (hl : Cks w v l) (ha : Ints .u8 w va at_) :
    Calls Tryd.prog 6 #[v, va] w fun x w' => x = .returned (.bool true) ∧ Below w.heap.size w w' := by
  obtain ⟨A, cap, rfl, hat⟩ := hl
  obtain ⟨A2, cap2, rfl, hat2⟩ := ha
  have HA := Lib.hid hat
  have HA2 := Lib.hid hat2
  clear hat hat2
  by_cases hbig : 1048576 < l.length
  · have hb1 : 1048576 < (l.length : Int) := by omega
    go_enter Tryd.func6, Tryd.ntmps6
    go_wp2_with fail
    refine wp_loop_rounds 1 ?_
    rw [rounds_succ]
    go_wp2_with fail
    go_ret
    exact ⟨rfl, Below.refl _ _⟩
  · have hb1 : (l.length : Int) ≤ 1048576 := by omega
    go_enter Tryd.func6, Tryd.ntmps6
    go_wp2_with fail
    go_loop [5, 6] (fun vn vi => ∃ k n : Nat, k ≤ l.length ∧ n ≤ 3000000 ∧ vi = .int .i64 (k : Int) ∧ vn = .int .i64 (n : Int)) (fun _ vi => l.length - (intOf vi).toNat)
    case atStart => exact ⟨0, l.length, Nat.zero_le _, by omega, rfl, by first | rfl | exact congrArg (Value.int .i64) (Int.min_eq_left hb1)⟩
    case round =>
      obtain ⟨k, n, hk, hn, rfl, rfl⟩ := hrel
      by_cases hlt : k < l.length ∧ n ≤ 8192
      · obtain ⟨hlt, hn4⟩ := hlt
        obtain ⟨x, hx⟩ : ∃ x, l[k]? = some x := ⟨_, List.getElem?_eq_getElem hlt⟩
        obtain ⟨b1, o1, rfl, l1, -, -, -, -, c4⟩ := HA.out k x hx
        clear hx
        go_wp2_with fail
        all_goals
          go_round
          case rel => exact ⟨k + 1, n + min x.s.size 1048576, by omega, by omega, by go_num, congrArg (Value.int .i64) (by omega)⟩
          case measure => simp [intOf]; omega
      · by_cases hn4 : n ≤ 8192
        · obtain rfl : k = l.length := by omega
          by_cases h100 : l.length ≤ 100
          · by_cases h200 : at_.length ≤ 200
            · clear hlt
              go_wp2_with fail
              refine (new_any w).mono ?_
              rintro x w1 ⟨rfl, hd1, hc1⟩
              have hb1 := hc1.to_below (Nat.le_refl _)
              have HN1 := Lib.hid (And.intro hd1 hb1)
              clear hd1 hc1 hb1
              go_wp2_with fail
              refine (rnew_at w1).mono ?_
              rintro x w2 ⟨rfl, ⟨lv, hr2⟩, hc2⟩
              have HP0 := Lib.hid (show Pair w (w.heap.size + 1) (w1.heap.size + 1) w1.heap.size w1.heap.size Dk.St.new w2 from
                ⟨HN1.out.1.kept hc2 (fun _ => rfl) (fun _ _ => rfl) (fun _ => rfl), ⟨lv, hr2⟩, HN1.out.2.trans ((hc2.to_below (Nat.le_refl _)).mono HN1.out.2.size), HN1.out.2.size⟩)
              clear hr2 hc2 HN1 lv
              obtain ⟨gd, hgd⟩ : ∃ gd, gd = w.heap.size + 1 := ⟨_, rfl⟩
              obtain ⟨gr, hgr⟩ : ∃ gr, gr = w1.heap.size + 1 := ⟨_, rfl⟩
              obtain ⟨b, hb⟩ : ∃ b, b = w1.heap.size := ⟨_, rfl⟩
              rw [← hgd, ← hgr, ← hb] at HP0
              rw [← hgd, ← hgr]
              clear hgd hgr hb w1
              go_wp2_with fail
              go_loopw [9] (fun vi wr => ChunksLoop w gd gr b b l.length vi wr) (fun vi _ => l.length - (intOf vi).toNat)
              case atStart => exact ⟨0, Dk.St.new, rfl, Nat.zero_le _, HP0.out, Nat.le_refl _⟩
              case round =>
                obtain ⟨k, st, rfl, hk, hP, hm⟩ := hrel
                have HP := Lib.hid hP
                have HM := Lib.hid hm
                clear HP0 hP hm
                by_cases hlt : k < l.length ∧ k < at_.length
                · obtain ⟨hlt, hlt2⟩ := hlt
                  obtain ⟨x, hx⟩ : ∃ x, l[k]? = some x := ⟨_, List.getElem?_eq_getElem hlt⟩
                  obtain ⟨b1, o1, rfl, l1, c0, c1, c2, c3, c4⟩ := HA.out k x hx
                  obtain ⟨y, hy⟩ : ∃ y, at_[k]? = some y := ⟨_, List.getElem?_eq_getElem hlt2⟩
                  obtain ⟨hwf, b2, o2, rfl, l2, e0⟩ := HA2.out k y hy
                  have hy8 : 0 ≤ y ∧ y ≤ 255 := by simpa [Lit.wf, IntKind.min, IntKind.max, IntKind.bits, IntKind.signed] using hwf
                  have d0 := (HP.out.below.cell (p := ⟨b1, _, none⟩) l1).trans c0
                  have d1 := (HP.out.below.cell (p := ⟨b1, _, none⟩) l1).trans c1
                  have d2 := (HP.out.below.cell (p := ⟨b1, _, none⟩) l1).trans c2
                  have d3 := (HP.out.below.cell (p := ⟨b1, _, none⟩) l1).trans c3
                  have d4 := (HP.out.below.cell (p := ⟨b1, _, none⟩) l1).trans c4
                  clear c0 c1 c2 c3 c4 hx hy hwf
                  go_wp2_with fail
                  refine (enc_any x wr).mono ?_
                  rintro z w3 ⟨rfl, hb3⟩
                  have hP3 := HP.out.up hb3
                  have e3 : w3.cell? ⟨b2, o2 + k, none⟩ = some (.int .u8 y) := (hP3.below.cell (p := ⟨b2, _, none⟩) l2).trans e0
                  have HP3 := Lib.hid hP3
                  clear hb3 hP3 HP d0 d1 d2 d3 d4
                  cases hok : x.ok with
                  | false =>
                    go_wp2_with fail
                    go_quiet (fail)
                    go_wp2_with fail
                    go_roundw
                    case rel => exact ⟨k + 1, st, by go_num, by omega, HP3.out.up (Quiet.drewN _ _).below, Nat.le_succ_of_le HM.out⟩
                    case measure => simp [intOf]; omega
                  | true =>
                    have HWR := Lib.hid (show IntKind.i64.wrap y = y by rw [IntKind.wrap_i64]; omega)
                    have hsz3 : w.heap.size ≤ w3.heap.size := HP3.out.below.size
                    have hmm := HM.out
                    obtain ⟨S, hS⟩ : ∃ S, S = x.b := ⟨_, rfl⟩
                    rw [← hS]
                    have HDR := Lib.hid (HP3.out.up (Below.refl w3.heap.size w3).drew)
                    clear hS
                    go_wp2_with fail
                    go_region_held3 (fun W => W.cell? ⟨b2, o2 + k, none⟩ = some (.int .u8 y)) (first | assumption | exact e3 | go_keep)
                      (first
                        | (go_at_call 23; (try rw [HWR.out]); (with_reducible refine (write_any w.heap.size gd st y S _ HDR.out.d (by omega)).mono ?_); rintro z w4 ⟨rfl, hd4, hc4⟩; obtain ⟨⟨lv4, hr4⟩, hbel4⟩ := HDR.out.rkept hc4; have e4 := (hbel4.cell (p := ⟨b2, _, none⟩) l2).trans e0)
                        | (go_at_call 24; (try rw [HWR.out]); (with_reducible refine (rwrite_at b gr st b lv4 y S w4 hr4 (by omega)).mono ?_); rintro z w5 ⟨rfl, hr5, hc5⟩; have hd5 := hd4.kept hc5.ch (fun _ => rfl) (fun _ _ => rfl) (fun _ => rfl); have hbel5 := hbel4.trans (hc5.below hbel4.size HP3.out.base); have e5 := (hbel5.cell (p := ⟨b2, _, none⟩) l2).trans e0))
                    all_goals
                      have HP5 := Lib.hid (show Pair w gd gr b b (st.write y S) w5 from ⟨hd5, hr5, hbel5, HP3.out.base⟩)
                      have HM5 := Lib.hid (show (st.write y S).many ≤ k + 1 by have := Dk.many_write st y S; omega)
                      clear hd5 hr5 hbel5 e5 hd4 hr4 hc4 hc5 hbel4 e4
                      go_wp2_with fail
                      go_roundw
                      case rel => exact ⟨k + 1, st.write y S, by go_num, by omega, HP5.out, HM5.out⟩
                      case measure => simp [intOf]; omega
                · have hm2 : st.many ≤ 1000000 := by have := HM.out; omega
                  obtain ⟨lv, hrr⟩ := HP.out.r
                  have hbsz := hrr.sec.lt
                  clear hrr lv
                  have HMM := Lib.hid hm2
                  have HBS := Lib.hid hbsz
                  clear hm2 hbsz HM
                  have hout : ¬ k < l.length ∨ (k < l.length ∧ ¬ k < at_.length) := by
                    by_cases h : k < l.length
                    · exact .inr ⟨h, fun h2 => hlt ⟨h, h2⟩⟩
                    · exact .inl h
                  clear hlt
                  rcases hout with h1 | ⟨h1, h2⟩
                  all_goals
                    go_wp2_with fail
                    refine (open_any w.heap.size gd st wr HP.out.d HMM.out).mono ?_
                    rintro e w3 ⟨hd3, hc3, hcase⟩
                    obtain ⟨⟨lv3, hr3⟩, hbel3⟩ := HP.out.rkept hc3
                    have HF3 := Lib.hid (And.intro hd3 (And.intro hr3 hbel3))
                    clear hd3 hc3 hr3 hbel3
                    have HLEN := Lib.hid (recs_len st)
                    rcases hcase with ⟨h0, q, v, rfl, -, hrow3⟩ | ⟨h0, v, rfl, hrow3⟩
                    · have HR3 := Lib.hid hrow3
                      have HE := Lib.hid h0
                      clear hrow3 h0
                      go_wp2_with fail
                      refine (ropen_any b gr b st lv3 w3 HF3.out.2.1 HMM.out).mono ?_
                      rintro e w4 ⟨⟨lv4, hr4⟩, hc4, hcase⟩
                      rcases hcase with ⟨-, q', v', rfl, hs4⟩ | ⟨h0', -⟩
                      · have hd4 := HF3.out.1.kept hc4.ch (fun _ => rfl) (fun _ _ => rfl) (fun _ => rfl)
                        have hbel4 := HF3.out.2.2.trans (hc4.below HF3.out.2.2.size HP.out.base)
                        have hst4 : Strs w4 v (mks (Lg.openRecs st)) := Strs.of_row (owns_only HR3.out hc4.only HBS.out)
                        have HF4 := Lib.hid (And.intro hd4 (And.intro hr4 hbel4))
                        have HSA := Lib.hid (same_any v v' _ _ w4 hst4 hs4 HLEN.out)
                        clear hd4 hbel4 hst4 hc4 hr4 hs4
                        go_wp2_with fail
                        refine HSA.out.mono ?_
                        rintro e w5 ⟨rfl, hq5⟩
                        simp only [decide_true]
                        have hd5 := HF4.out.1.below hq5.below
                        have hr5 : Ref w5 b gr (Lg.openR st).2 := ⟨b, lv4, HF4.out.2.1.up hq5.below⟩
                        have HB5 := Lib.hid (HF4.out.2.2.trans (hq5.below.mono HF4.out.2.2.size))
                        have HDS := Lib.hid (disks_any w.heap.size b gd gr (Lg.openR st).2 w5 hd5 hr5)
                        clear hd5 hr5 hq5
                        go_wp2_with fail
                        refine HDS.out.mono ?_
                        rintro e w6 ⟨rfl, rfl⟩
                        go_wp2_with fail
                        go_ret
                        exact ⟨rfl, HB5.out⟩
                      · exact absurd HE.out h0'
                    · have HR3 := Lib.hid hrow3
                      have HE := Lib.hid h0
                      clear hrow3 h0
                      obtain ⟨r, hr⟩ : ∃ r, r = Lg.openR st := ⟨_, rfl⟩
                      have HROP := Lib.hid (ropen_any b gr b st lv3 w3 HF3.out.2.1 HMM.out)
                      go_wp2_with fail
                      refine HROP.out.mono ?_
                      rintro e w4 ⟨⟨lv4, hr4⟩, hc4, hcase⟩
                      rcases hcase with ⟨h0', -⟩ | ⟨-, v', rfl, hs4⟩
                      · exact absurd h0' HE.out
                      · have hd4 := HF3.out.1.kept hc4.ch (fun _ => rfl) (fun _ _ => rfl) (fun _ => rfl)
                        have hbel4 := HF3.out.2.2.trans (hc4.below HF3.out.2.2.size HP.out.base)
                        have hst4 : Strs w4 v [] := Strs.of_row (l := []) (owns_only HR3.out hc4.only HBS.out)
                        have HF4 := Lib.hid (And.intro hd4 (And.intro hr4 hbel4))
                        have HSA := Lib.hid (same_any v v' [] [] w4 hst4 hs4 (by simp))
                        rw [← hr] at HF4 HE ⊢
                        clear hd4 hbel4 hst4 hc4 hr4 hs4 hr HROP HF3
                        obtain ⟨E, st2⟩ := r
                        go_wp2_with fail
                        refine HSA.out.mono ?_
                        rintro e w5 ⟨rfl, hq5⟩
                        simp only [decide_true]
                        have hd5 := HF4.out.1.below hq5.below
                        have hr5 : Ref w5 b gr st2 := ⟨b, lv4, HF4.out.2.1.up hq5.below⟩
                        have HB5 := Lib.hid (HF4.out.2.2.trans (hq5.below.mono HF4.out.2.2.size))
                        have HDS := Lib.hid (disks_any w.heap.size b gd gr st2 w5 hd5 hr5)
                        clear hd5 hr5 hq5
                        go_wp2_with fail
                        refine HDS.out.mono ?_
                        rintro e w6 ⟨rfl, rfl⟩
                        go_wp2_with fail
                        go_ret
                        exact ⟨rfl, HB5.out⟩
            · clear hlt
              go_wp2_with fail
              go_ret
              exact ⟨rfl, Below.refl _ _⟩
          · clear hlt
            go_wp2_with fail
            go_ret
            exact ⟨rfl, Below.refl _ _⟩
        · by_cases hlt2 : k < l.length
          · clear hlt
            go_wp2_with fail
            go_ret
            exact ⟨rfl, Below.refl _ _⟩
          · clear hlt
            go_wp2_with fail
            go_ret
            exact ⟨rfl, Below.refl _ _⟩

end Go.Proofs.YtgahcbhdnplnoaaDoor
