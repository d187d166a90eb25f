/- A line is written: (*page).line. -/
import Derived.Test.YtcoehmmiplffgaaDoorTextParts
import Derived.Test.YtcoehmmiplffgaaDoorTextItoa
import Derived.Deep.RegionHeld3
import Derived.StillTailTactics
namespace Go.Proofs.YtcoehmmiplffgaaDoor
open Go.ChangeShapes Go.WideShapes Go.RowKit Go.Deep

def lnE (e : Int) (xs : List Tx.Pt) : Int := if e = 0 then Tx.check xs else e
def lnW (e : Int) (l wd : List UInt8) (xs : List Tx.Pt) : List UInt8 := if e = 0 ∧ Tx.check xs = 0 then l ++ Tx.lineW wd xs else l

/-- What is written of a line's parts. -/
def pw (xs : List Tx.Pt) : List UInt8 := xs.flatMap fun x => 32 :: x.w
theorem pw_up {xs : List Tx.Pt} {k : Nat} {x : Tx.Pt} (h : xs[k]? = some x) : pw (xs.take (k + 1)) = pw (xs.take k) ++ [32] ++ x.w := by
  obtain ⟨h1, rfl⟩ := List.getElem?_eq_some_iff.1 h
  unfold pw
  rw [List.take_succ_eq_append_getElem h1, List.flatMap_append]
  simp
theorem lineW_is (wd : List UInt8) (xs : List Tx.Pt) : Tx.lineW wd xs = wd ++ pw xs ++ [10] := by
  unfold Tx.lineW Tx.join pw
  rw [List.flatMap_map]

theorem check_ok {xs : List Tx.Pt} (h : Tx.check xs = 0) {x : Tx.Pt} (hx : x ∈ xs) : x.ok = true := by
  rw [check_is] at h
  by_cases h1 : xs.any badN = true
  · rw [if_pos h1] at h; exact absurd h (by decide)
  · by_cases h2 : xs.any badM = true
    · rw [if_neg h1, if_pos h2] at h; exact absurd h (by decide)
    · cases x with
      | nm s =>
        cases h3 : Tx.Pt.ok (.nm s) with
        | true => rfl
        | false => exact absurd (List.any_eq_true.2 ⟨_, hx, by unfold badN; rw [h3]; rfl⟩) h1
      | num n =>
        cases h3 : Tx.Pt.ok (.num n) with
        | true => rfl
        | false => exact absurd (List.any_eq_true.2 ⟨_, hx, by unfold badM; rw [h3]; rfl⟩) h2
theorem nm_len {s : ByteArray} (h : Ir.nm s = true) : s.size ≤ 12 := by
  rcases Nat.lt_or_ge 12 s.size with h1 | h1
  · rw [nm_long h1] at h; cases h
  · exact h1
end Go.Proofs.YtcoehmmiplffgaaDoor
namespace Go.Proofs.YtcoehmmiplffgaaDoor.Tx
theorem dec_len' : ∀ (k u : Nat), 1 ≤ k → u < 10 ^ k → (Lib.decDigits u).length ≤ k
  | 0, _, h, _ => by omega
  | k + 1, u, _, h => by
    by_cases hu : u < 10
    · rw [Lib.decDigits, dif_pos hu]; simp
    · rw [Lib.decDigits, dif_neg hu, List.length_append]
      cases k with
      | zero => simp at h; omega
      | succ k =>
        have := dec_len' (k + 1) (u / 10) (by omega) (by rw [Nat.pow_succ] at h; omega)
        simp only [List.length_cons, List.length_nil]
        omega
end Go.Proofs.YtcoehmmiplffgaaDoor.Tx
namespace Go.Proofs.YtcoehmmiplffgaaDoor
open Go.ChangeShapes Go.WideShapes Go.RowKit Go.Deep
theorem w_len {x : Tx.Pt} (h : x.ok = true) : x.w.length ≤ 12 := by
  cases x with
  | nm s =>
    have := nm_len h
    show s.data.toList.length ≤ 12
    simpa using this
  | num n =>
    have h1 : 0 ≤ n ∧ n ≤ 2147483647 := of_decide_eq_true h
    have := Tx.dec_len' 10 n.toNat (by omega) (by omega)
    show (Lib.decDigits n.toNat).length ≤ 12
    omega
theorem pw_len : ∀ {xs : List Tx.Pt}, (∀ x ∈ xs, x.ok = true) → (pw xs).length ≤ 13 * xs.length
  | [], _ => by simp [pw]
  | x :: xs, h => by
    have h1 := w_len (h x (List.mem_cons_self ..))
    have h2 := pw_len (xs := xs) (fun y hy => h y (List.mem_cons_of_mem _ hy))
    unfold pw at h2 ⊢
    rw [List.flatMap_cons, List.length_append]
    simp only [List.length_cons]
    omega
theorem pw_take_len {xs : List Tx.Pt} (h : ∀ x ∈ xs, x.ok = true) (k : Nat) : (pw (xs.take k)).length ≤ 13 * xs.length := by
  have h1 := pw_len (xs := xs.take k) (fun x hx => h x (List.mem_of_mem_take hx))
  have h2 : (xs.take k).length ≤ xs.length := by rw [List.length_take]; omega
  omega

/-- The page's error turned. -/
theorem Pg.err {w : World} {B b : Nat} {e : Int} {l : List UInt8} (h : Pg w B b e l) (e' : Int) : Pg (w.setCell ⟨b, 2, none⟩ (.int .i64 e')) B b e' l ∧ Ch Tp B w (w.setCell ⟨b, 2, none⟩ (.int .i64 e')) := by
  obtain ⟨hB, p, v, hb, hp, hown⟩ := h
  exact ⟨⟨hB, p, v, by simpa using hb.set 2 (.int .i64 e'), hp, World.ownsRow.kept (row := some b) hown (Lib.grownBy_setCell w b 2 _) (Or.inr (own_page_ne hown hb))⟩, Ch.set hb hB rfl _ _⟩
theorem Pg.cells {w : World} {B b : Nat} {e : Int} {l : List UInt8} (h : Pg w B b e l) : w.cell? ⟨b, 2, none⟩ = some (.int .i64 e) ∧ w.frozen? ⟨b, 2, none⟩ = false := by
  obtain ⟨hB, p, v, hb, hp, hown⟩ := h
  exact ⟨hb.cell 2, hb.frozen 2⟩

/-- What a line's loop knows. -/
structure LnAt (B b : Nat) (l wd : List UInt8) (v : Value) (xs : List Tx.Pt) (w : World) (k : Nat) (wr : World) : Prop where
  pg : Pg wr B b 0 (l ++ wd ++ pw (xs.take k))
  pts : Pts B wr v xs
  ch : Ch Tp B w wr
  pow : Pow wr
theorem LnAt.below {B b : Nat} {l wd : List UInt8} {v : Value} {xs : List Tx.Pt} {w : World} {k : Nat} {wr wr' : World} (h : LnAt B b l wd v xs w k wr) (hb : Below wr.heap.size wr wr') (hB : 2 < B) (hBw : B ≤ w.heap.size) : LnAt B b l wd v xs w k wr' :=
  ⟨h.pg.below hb, h.pts.below hb, h.ch.trans (Ch.of_below hb), h.pow.below hb (Nat.lt_of_lt_of_le hB (Nat.le_trans hBw h.ch.size))⟩

set_option maxRecDepth 100000 in
set_option maxHeartbeats 4000000 in
theorem line_any (B b : Nat) (e : Int) (l : List UInt8) (wd : ByteArray) (v : Value) (xs : List Tx.Pt) (w : World) (hp : Pg w B b e l) (hv : Pts B w v xs) (hpow : Pow w) (hB : 2 < B) (hBw : B ≤ w.heap.size)
    (hl : l.length ≤ 1000000000) (hwd : wd.size ≤ 1000) (hx : xs.length ≤ 1000000) :
    Calls Tryd.prog 39 #[.pointer (some ⟨b, 0, none⟩), .string wd, v] w fun en w' => en = .returned (.tuple #[]) ∧ Pg w' B b (lnE e xs) (lnW e l wd.data.toList xs) ∧ Ch Tp B w w' := by
  obtain ⟨c2, f2⟩ := hp.cells
  by_cases he : e = 0
  · subst he
    have HC := Lib.hid (check_any B v xs w hv (by omega))
    have HP := Lib.hid (And.intro hp (And.intro hv hpow))
    have HB := Lib.hid (And.intro hB hBw)
    have HL := Lib.hid (And.intro hl (And.intro hwd hx))
    have hx2 : (xs.length : Int) ≤ 1000000 := by omega
    obtain ⟨A, cap, hvA, _⟩ := hv.form
    clear hp hv hpow hB hBw hl hwd hx
    subst hvA
    obtain ⟨c, hc⟩ : ∃ c, c = Tx.check xs := ⟨_, rfl⟩
    rw [← hc] at HC
    have HCC := Lib.hid hc
    clear hc
    go_enter Tryd.func39, Tryd.ntmps39
    go_wp2_with fail
    refine HC.out.mono ?_
    rintro en w1 ⟨rfl, hb1⟩
    have hp1 := HP.out.1.below hb1
    obtain ⟨d2, g2⟩ := hp1.cells
    obtain ⟨hp2, hc2⟩ := hp1.err c
    obtain ⟨e2, h2⟩ := hp2.cells
    have HP2 := Lib.hid (And.intro hp2 (And.intro ((HP.out.2.1.below hb1).ch hc2) (And.intro ((Ch.of_below hb1).trans hc2) ((HP.out.2.2.below hb1 (Nat.lt_of_lt_of_le HB.out.1 HB.out.2)).below (hc2.to_below (Nat.le_trans HB.out.2 hb1.size)) HB.out.1))))
    clear hp1 hp2 hc2 hb1 c2 f2
    by_cases hc0 : c = 0
    · subst hc0
      have hz : ((0 : Int) != 0) = false := by decide
      go_upto_region 3 with fail
      generalize w1.setCell ⟨b, 2, none⟩ (.int .i64 0) = w2 at *
      have HW := Lib.hid (writestring_any B b 0 l wd w2 HP2.out.1 (by have := HL.out.1; omega) (by have := HL.out.2.1; omega) (Nat.le_trans HB.out.2 HP2.out.2.2.1.size))
      clear d2 g2 e2 h2 hz
      go_wp2_with fail
      refine HW.out.mono ?_
      rintro en w3 ⟨rfl, hp3, hc3⟩
      have HA := Lib.hid (show LnAt B b l wd.data.toList (.slice A xs.length cap) xs w 0 w3 from ⟨by simpa [pw] using hp3, HP2.out.2.1.ch hc3, HP2.out.2.2.1.trans hc3, HP2.out.2.2.2.below (hc3.to_below (Nat.le_trans HB.out.2 HP2.out.2.2.1.size)) HB.out.1⟩)
      clear hp3 hc3
      have HT := Lib.hid hx2
      go_wp2_with fail
      go_loopw [30] (fun v wr => ∃ k : Nat, k ≤ xs.length ∧ v = .int .i64 (k : Int) ∧ LnAt B b l wd.data.toList (.slice A xs.length cap) xs w k wr) (fun v _ => xs.length - (intOf v).toNat)
      case atStart => exact ⟨0, Nat.zero_le _, rfl, HA.out⟩
      case round =>
        clear HA HW
        obtain ⟨k, hk, rfl, hA⟩ := hrel
        have hbl : B ≤ wr.heap.size := Nat.le_trans HB.out.2 hA.ch.size
        have HBL := Lib.hid hbl
        by_cases hlt : k < xs.length
        · have hlt' : (k : Int) < (xs.length : Int) := by omega
          have hxk : xs[k]? = some xs[k] := List.getElem?_eq_getElem hlt
          obtain ⟨p, bb, off, rfl, c0, c1, hv, hf⟩ := hA.pts.at_ hxk
          obtain ⟨x, hxx⟩ : ∃ x, xs[k] = x := ⟨_, rfl⟩
          rw [hxx] at hv hxk
          clear hxx
          have HXK := Lib.hid hxk
          have hok := check_ok HCC.out.symm (List.mem_of_getElem? hxk)
          have HOK := Lib.hid hok
          -- the world in which the part lies boxed
          have hbx := Blk.new wr 105 #[.pointer p.p0, .pointer p.p1]
          have hA1 := hA.below (wr' := wr.alloc (.cells #[.pointer p.p0, .pointer p.p1] 105)) ((Below.refl _ _).alloc (Nat.le_refl _) _) HB.out.1 HB.out.2
          have hv1 := hv.of_cell (w' := wr.alloc (.cells #[.pointer p.p0, .pointer p.p1] 105)) (((Below.refl _ _).alloc (Nat.le_refl _) _).cell (p := ⟨p.b, p.o, none⟩) hf.1)
          have hf1 := hf.below (w' := wr.alloc (.cells #[.pointer p.p0, .pointer p.p1] 105)) ((Below.refl _ _).alloc (Nat.le_refl _) _)
          have hsz1 : wr.heap.size < (wr.alloc (.cells #[.pointer p.p0, .pointer p.p1] 105)).heap.size := by simp
          have hplen : (pw (xs.take k)).length ≤ 13 * xs.length := pw_take_len (fun y hy => check_ok HCC.out.symm hy) k
          have hlen : (l ++ wd.data.toList ++ pw (xs.take k)).length ≤ 1099511627776 := by
            have := HL.out
            simp only [List.length_append, Array.length_toList]
            have e : wd.data.size = wd.size := rfl
            omega
          have HWB := Lib.hid (writebyte_any B b 0 _ 32 _ hA1.pg hlen (Nat.le_trans HBL.out (Nat.le_of_lt hsz1)))
          have HX := Lib.hid (And.intro hbx (And.intro hA1 (And.intro hv1 (And.intro hf1 hlen))))
          have HS1 := Lib.hid hsz1
          clear hbx hA1 hv1 hf1 hsz1 hplen hlen hA hv hf hok hxk hbl
          go_upto_region 7 with fail
          generalize wr.alloc (.cells #[.pointer p.p0, .pointer p.p1] 105) = wb at *
          go_wp2_with fail
          refine HWB.out.mono ?_
          rintro en w3 ⟨rfl, hp3, hc3⟩
          obtain ⟨hbx, hA1, hv1, hf1, hlen⟩ := HX.out
          have hbx3 := hc3.blk hbx rfl
          have k0 := hbx3.cell 0
          have k1 := hbx3.cell 1
          have hv3 := hv1.of_cell (hf1.cell hc3 _)
          have hf3 := hf1.ch hc3
          have hpl : B ≤ w3.heap.size := Nat.le_trans HBL.out (Nat.le_trans (Nat.le_of_lt HS1.out) hc3.size)
          have hpow3 : Pow w3 := hA1.pow.below (hc3.to_below (Nat.le_trans HBL.out (Nat.le_of_lt HS1.out))) HB.out.1
          have hlen3 : (l ++ wd.data.toList ++ pw (xs.take k) ++ [32]).length ≤ 1099511627776 := by
            have := HL.out
            have hplen : (pw (xs.take k)).length ≤ 13 * xs.length := pw_take_len (fun y hy => check_ok HCC.out.symm hy) k
            simp only [List.length_append, Array.length_toList, List.length_cons, List.length_nil]
            have e : wd.data.size = wd.size := rfl
            omega
          have HN := Lib.hid (show ∀ (w4 w5 : World), Below w3.heap.size w3 w4 → Ch Tp B w4 w5 → Pg w5 B b 0 (l ++ wd.data.toList ++ pw (xs.take k) ++ [32] ++ x.w) → LnAt B b l wd.data.toList (.slice (some ⟨bb, off, none⟩) xs.length cap) xs w (k + 1) w5 from fun w4 w5 h4 h5 h6 => by
            have hc5 : Ch Tp B wb w5 := (hc3.trans (Ch.of_below h4)).trans h5
            refine ⟨?_, hA1.pts.ch hc5, hA1.ch.trans hc5, hA1.pow.below (hc5.to_below (Nat.le_trans HBL.out (Nat.le_of_lt HS1.out))) HB.out.1⟩
            rw [pw_up HXK.out, ← List.append_assoc, ← List.append_assoc]
            exact h6)
          have HP3 := Lib.hid (And.intro hp3 (And.intro hpl (And.intro hpow3 hlen3)))
          have HBX := Lib.hid (And.intro hbx3 hf3)
          clear hbx hA1 hv1 hf1 hlen hbx3 hf3 hc3 hp3 hpl hpow3 hlen3 HX HWB
          cases x with
          | nm s =>
            obtain ⟨h1, h2, h3⟩ := hv3
            have e0 : p.p0 = some ⟨p.b, p.o, none⟩ := by unfold Pa.p0; rw [h1]; rfl
            rw [e0] at k0
            clear e0 h1
            have HWS := Lib.hid (writestring_any B b 0 _ s w3.drew (HP3.out.1.below (Below.refl _ _).drew) HP3.out.2.2.2 (by omega) HP3.out.2.1)
            clear h3
            go_wp2_with fail
            go_still_tail 7, (by kernel_rfl)
            go_wp2_with fail
            refine HWS.out.mono ?_
            rintro en w5 ⟨rfl, hp5, hc5⟩
            have HE := Lib.hid (HN.out w3.drew w5 (Below.refl _ _).drew hc5 hp5)
            clear hp5 hc5
            go_wp2_with fail
            go_roundw
            case rel => exact ⟨k + 1, by omega, by go_num, HE.out⟩
            case measure => simp [intOf]; omega
          | num n =>
            obtain ⟨h1, h2, h3, h4⟩ := hv3
            have e0 : p.p1 = some ⟨p.b, p.o, none⟩ := by unfold Pa.p1; rw [h1]; rfl
            have e1 : p.p0 = none := by unfold Pa.p0; rw [h1]; rfl
            rw [e0] at k1
            rw [e1] at k0
            have hn : 0 ≤ n ∧ n ≤ 2147483647 := of_decide_eq_true HOK.out
            have HIT := Lib.hid (itoa_any n w3.drew hn.1 (by omega) HP3.out.2.2.1)
            have hsz : (Tx.mkB (Lib.decDigits n.toNat)).size ≤ 1099511627776 := by
              have h := Tx.dec_len' 10 n.toNat (by omega) (by omega)
              have e : (Tx.mkB (Lib.decDigits n.toNat)).size = (Lib.decDigits n.toNat).length := by simp [Tx.mkB, ByteArray.size]
              omega
            have HWS := Lib.hid (fun w4 (h : Below w3.heap.size w3.drew w4) => writestring_any B b 0 _ (Tx.mkB (Lib.decDigits n.toNat)) w4 ((HP3.out.1.below (Below.refl _ _).drew).below h) HP3.out.2.2.2 hsz (Nat.le_trans HP3.out.2.1 h.size))
            clear e0 e1 h1 hn hsz h3 h4
            go_wp2_with fail
            go_region_held3 (fun W => W.cell? ⟨wr.heap.size, 1, none⟩ = some (.pointer (some ⟨p.b, p.o, none⟩)) ∧ W.cell? ⟨p.b, p.o, none⟩ = some (.int .i64 n)) (first | assumption | exact ⟨k1, h2⟩ | go_keep)
              (first
                | (go_at_call 59; (with_reducible refine HIT.out.mono ?_); rintro en4 w4 ⟨rfl, hb4⟩; have HW4 := Lib.hid (HWS.out w4 hb4); have HB4 := Lib.hid hb4; have g4 : w4.cell? ⟨wr.heap.size, 1, none⟩ = some (.pointer (some ⟨p.b, p.o, none⟩)) ∧ w4.cell? ⟨p.b, p.o, none⟩ = some (.int .i64 n) := ⟨(HB4.out.cell (p := ⟨wr.heap.size, 1, none⟩) (World.block_lt_of_cell? w3 _ k1)).trans k1, (HB4.out.cell (p := ⟨p.b, p.o, none⟩) (World.block_lt_of_cell? w3 _ h2)).trans h2⟩; clear hb4)
                | (go_at_call 57; (with_reducible refine HW4.out.mono ?_); rintro en5 w5 ⟨rfl, hp5, hc5⟩; have HP5 := Lib.hid (And.intro hp5 hc5); have g5 : w5.cell? ⟨wr.heap.size, 1, none⟩ = some (.pointer (some ⟨p.b, p.o, none⟩)) ∧ w5.cell? ⟨p.b, p.o, none⟩ = some (.int .i64 n) := ⟨((hc5.blk (HBX.out.1.older ((Below.refl _ _).drew.trans HB4.out) HBX.out.1.lt) rfl).cell 1).trans ((HBX.out.1.cell 1).symm.trans k1), ((HBX.out.2.below ((Below.refl _ _).drew.trans HB4.out)).cell hc5 _).trans g4.2⟩; clear hp5 hc5))
            have HE := Lib.hid (HN.out w4 w5 ((Below.refl _ _).drew.trans HB4.out) HP5.out.2 (by have := HP5.out.1; rwa [Tx.list_mkB] at this))
            go_wp2_with fail
            go_roundw
            case rel => exact ⟨k + 1, by omega, by go_num, HE.out⟩
            case measure => simp [intOf]; omega
        · obtain rfl : k = xs.length := by omega
          have hlen : (l ++ wd.data.toList ++ pw (xs.take xs.length)).length ≤ 1099511627776 := by
            have := HL.out
            have hplen : (pw (xs.take xs.length)).length ≤ 13 * xs.length := pw_take_len (fun y hy => check_ok HCC.out.symm hy) xs.length
            simp only [List.length_append, Array.length_toList]
            have e : wd.data.size = wd.size := rfl
            omega
          have HWB := Lib.hid (writebyte_any B b 0 _ 10 wr hA.pg hlen HBL.out)
          have HC2 := Lib.hid hA.ch
          clear hA hlen
          go_wp2_with fail
          refine HWB.out.mono ?_
          rintro en w3 ⟨rfl, hp3, hc3⟩
          have HE := Lib.hid (show Pg w3 B b (lnE 0 xs) (lnW 0 l wd.data.toList xs) ∧ Ch Tp B w w3 from by
            unfold lnE lnW
            rw [if_pos rfl, if_pos ⟨rfl, HCC.out.symm⟩, ← HCC.out, lineW_is]
            rw [all_take] at hp3
            exact ⟨by simpa using hp3, HC2.out.trans hc3⟩)
          go_wp2_with fail
          go_end0
          exact ⟨rfl, HE.out⟩
    · have hz : ((c : Int) != 0) = true := by simpa using hc0
      have HE := Lib.hid (show Pg (w1.setCell ⟨b, 2, none⟩ (.int .i64 c)) B b (lnE 0 xs) (lnW 0 l wd.data.toList xs) ∧ Ch Tp B w (w1.setCell ⟨b, 2, none⟩ (.int .i64 c)) from by
        unfold lnE lnW
        rw [if_pos rfl, if_neg (fun h => hc0 (HCC.out.trans h.2)), ← HCC.out]
        exact ⟨HP2.out.1, HP2.out.2.2.1⟩)
      clear hc0
      go_wp2_with fail
      refine bodyPost_ret (results_none rfl _ _ _) rfl ?_
      exact ⟨rfl, HE.out⟩
  · have h1 : (e == 0) = false := by simpa using he
    have h2 : (e != 0) = true := by simpa using he
    have HE := Lib.hid (show Pg w B b (lnE e xs) (lnW e l wd.data.toList xs) ∧ Ch Tp B w w from by
      unfold lnE lnW
      rw [if_neg he, if_neg (fun h => he h.1)]
      exact ⟨hp, Ch.refl _ _ _⟩)
    clear hp hv hpow he hB hBw hl hwd hx
    go_enter Tryd.func39, Tryd.ntmps39
    go_wp2_with fail

    refine bodyPost_ret (results_none rfl _ _ _) rfl ?_
    exact ⟨rfl, HE.out⟩
end Go.Proofs.YtcoehmmiplffgaaDoor
