/- What the document's first and scan come to: the records of the half that counts. -/
import Derived.Test.YtgahcbhdnplnoaaDoorCkLogLook
import Derived.Test.YtgahcbhdnplnoaaDoorCkDiskRef
import Derived.Test.YtgahcbhdnplnoaaDoorCkChunkRefDecode
import Derived.Deep.RegionHeld3
import Derived.BigQuiet
namespace Go.Proofs.YtgahcbhdnplnoaaDoor
open Go.RowKit

/-- Block q is a log of the document's on the disk at block g. -/
abbrev LgC (g : Nat) (t : Lg.Top) (nx : Nat) : Array Value := #[.pointer (some ⟨g, 0, none⟩), .int .i64 t.e, .int .i64 t.b, .int .i64 (t.h : Int), .int .i64 (nx : Int), .int .i64 0]

theorem rfirst_any (h : Nat) (w : World) (hh : h ≤ 1) : Calls Tryd.prog 62 #[.int .i64 (h : Int)] w fun x w' => x = .returned (.int .i64 (2 + 127 * (h : Int))) ∧ w = w' := by
  go_enter Tryd.func62, Tryd.ntmps62
  go_wp2_with fail
  go_ret
  exact ⟨rfl, rfl⟩

/-- Blocks of the document's logs. -/
def Tq : Obj → Bool
  | .cells _ t _ => t == 84
  | _ => false

/-- What the document's scan knows behind k places. -/
structure RLook (f : Nat → ByteArray) (t : Lg.Top) (w : World) (q g : Nat) (v : Value) (k nx : Nat) (ep : Int) (op : Option (List UInt8)) (L : List ByteArray) (wr : World) : Prop where
  row : RowS wr w.heap.size v L
  lg : Blk wr q 84 (LgC g t nx)
  ch : Ch Tq q w wr
  run : Lg.scan f t = (bls L ++ (Lg.scanGo (Lg.half f t.h) t.e (127 - k) k ep op nx).1, (Lg.scanGo (Lg.half f t.h) t.e (127 - k) k ep op nx).2)
  short : (op.getD []).length ≤ 96 * k
  few : L.length ≤ k
  nxle : nx ≤ k

section
variable {f : Nat → ByteArray} {t : Lg.Top} {w wr w1 : World} {q g : Nat} {v : Value} {k nx : Nat} {ep : Int} {op : Option (List UInt8)} {L : List ByteArray} {c : Cn.Chu}
theorem RLook.up (h : RLook f t w q g v k nx ep op L wr) (hb : Below wr.heap.size wr w1) : RLook f t w q g v k nx ep op L w1 :=
  { row := owns_ch (T := fun _ => false) (B := 0) h.row (Ch.of_below hb) (fun _ => rfl)
    lg := h.lg.older hb h.lg.lt
    ch := h.ch.trans (Ch.of_below hb)
    run := h.run, short := h.short, few := h.few, nxle := h.nxle }
theorem RLook.stop (h : RLook f t w q g v k nx ep op L wr) (hk : k < 127) (hg : Lg.half f t.h k = none ∨ ∃ c, Lg.half f t.h k = some c ∧ ¬ Fits t.e k ep op c) : Lg.scan f t = (bls L, nx) := by
  have e : 127 - k = (126 - k) + 1 := by omega
  rw [h.run, e]
  rcases hg with hg | ⟨c, hg, hb⟩
  · rw [Lg.scan_none hg, List.append_nil]
  · rw [Lg.scan_bad hg hb, List.append_nil]
theorem RLook.over (h : RLook f t w q g v 127 nx ep op L wr) : Lg.scan f t = (bls L, nx) := by
  rw [h.run]
  show (bls L ++ [], nx) = _
  rw [List.append_nil]
theorem RLook.more (h : RLook f t w q g v k nx ep op L wr) (hk : k < 127) (hg : Lg.half f t.h k = some c) (hf : Fits t.e k ep op c) (hl : c.l = false) :
    Lg.scan f t = (bls L ++ (Lg.scanGo (Lg.half f t.h) t.e (127 - (k + 1)) (k + 1) c.e (some (op.getD [] ++ c.d)) nx).1, (Lg.scanGo (Lg.half f t.h) t.e (127 - (k + 1)) (k + 1) c.e (some (op.getD [] ++ c.d)) nx).2) := by
  have e : 127 - k = (127 - (k + 1)) + 1 := by omega
  rw [h.run, e, Lg.scan_more hg hf hl]
theorem RLook.whole (h : RLook f t w q g v k nx ep op L wr) (hk : k < 127) (hg : Lg.half f t.h k = some c) (hf : Fits t.e k ep op c) (hl : c.l = true) (s : ByteArray) (hs : s.data.toList = op.getD [] ++ c.d) :
    Lg.scan f t = (bls (L ++ [s]) ++ (Lg.scanGo (Lg.half f t.h) t.e (127 - (k + 1)) (k + 1) c.e none (k + 1)).1, (Lg.scanGo (Lg.half f t.h) t.e (127 - (k + 1)) (k + 1) c.e none (k + 1)).2) := by
  have e : 127 - k = (127 - (k + 1)) + 1 := by omega
  rw [h.run, e, Lg.scan_last hg hf hl, bls_append, List.append_assoc]
  show _ = (bls L ++ (s.data.toList :: (Lg.scanGo (Lg.half f t.h) t.e (127 - (k + 1)) (k + 1) c.e none (k + 1)).1), _)
  rw [hs]
end

def RlookPost (f : Nat → ByteArray) (t : Lg.Top) (q g : Nat) (w : World) (x : Ending) (w' : World) : Prop :=
  ∃ v, x = .returned (.tuple #[v, .int .i64 0]) ∧ RowS w' w.heap.size v (mks (Lg.scan f t).1) ∧ Blk w' q 84 (LgC g t (Lg.scan f t).2) ∧ Ch Tq q w w'

theorem rlook_end {f : Nat → ByteArray} {t : Lg.Top} {w wr : World} {q g : Nat} {v : Value} {k nx : Nat} {ep : Int} {op : Option (List UInt8)} {L : List ByteArray} (hs : Lg.scan f t = (bls L, nx)) (h : RLook f t w q g v k nx ep op L wr) :
    RlookPost f t q g w (.returned (.tuple #[v, .int .i64 0])) wr := by
  refine ⟨v, rfl, ?_, ?_, h.ch⟩
  · rw [hs]
    show RowS wr w.heap.size v (mks (bls L))
    rw [mks_bls]
    exact h.row
  · rw [hs]
    exact h.lg

theorem no_texts (w : World) : RowS (w.alloc (.cells #[] 9)) w.heap.size (.slice (some ⟨w.heap.size, 0, none⟩) 0 0) [] :=
  ⟨rfl, .inr ⟨w.heap.size, 0, #[], rfl, Nat.le_refl _, Blk.new w _ _, Nat.le_refl _, by decide, rfl, rfl⟩⟩

theorem ref_up {w w1 : World} {B g q : Nat} {st : Dk.St} (h : Ref w B g st) (hc : Ch Tq q w w1) : Ref w1 B g st := h.kept hc (fun _ => rfl) (fun _ => rfl) (fun _ => rfl)

theorem Ch.then_new {T T' : Obj → Bool} {B : Nat} {a b c : World} (h : Ch T B a b) (k : Ch T' a.heap.size b c) : Ch T B a c where
  os := k.os.trans h.os
  tape := k.tape.trans h.tape
  output := k.output.trans h.output
  size := Nat.le_trans h.size k.size
  block i hi hT := (k.block i (Nat.lt_of_lt_of_le hi h.size) (fun hB => absurd hi (by omega))).trans (h.block i hi hT)
theorem base_drewN {b : Nat} {w : World} (h : b ≤ w.heap.size) (n : Nat) (o : Obj) : b ≤ ((w.drewN n).alloc o).heap.size := by
  show b ≤ (w.heap.push o).size
  rw [Array.size_push]; omega
theorem below_drewN (w : World) (n : Nat) : Below w.heap.size w (w.drewN n) := (Quiet.drewN w n).below

theorem rlook_store {f : Nat → ByteArray} {t : Lg.Top} {w w6 w7 : World} {q g : Nat} {v v7 : Value} {k nx : Nat} {ep : Int} {op : Option (List UInt8)} {L : List ByteArray} {S : ByteArray} {e : Int} (h : RLook f t w q g v k nx ep op L w6)
    (hown : w7.ownsRow w.heap.size 9 1 v7 (L ++ [S]).length ((L ++ [S]).map Value.string)) (hc : Ch Ts w.heap.size (w6.alloc (.cells #[.string S] 9)) w7)
    (hrun : Lg.scan f t = (bls (L ++ [S]) ++ (Lg.scanGo (Lg.half f t.h) t.e (127 - (k + 1)) (k + 1) e none (k + 1)).1, (Lg.scanGo (Lg.half f t.h) t.e (127 - (k + 1)) (k + 1) e none (k + 1)).2)) :
    RLook f t w q g v7 (k + 1) (k + 1) e none (L ++ [S]) (w7.setCell ⟨q, 4, none⟩ (.int .i64 ((k : Int) + 1))) := by
  have hl7 : Blk w7 q 84 (LgC g t nx) := hc.blk (h.lg.alloc _) rfl
  have hl8 := hl7.l4 (.int .i64 ((k : Int) + 1))
  have hcq : Ch Tq q w7 (w7.setCell ⟨q, 4, none⟩ (.int .i64 ((k : Int) + 1))) := Ch.set hl7 (Nat.le_refl _) rfl 4 _
  have e1 : (k : Int) + 1 = ((k + 1 : Nat) : Int) := by omega
  exact { row := owns_ch hown hcq (fun _ => rfl), lg := by rw [e1] at hl8 ⊢; exact hl8, ch := ((h.ch.alloc _).then_new hc).trans hcq, run := hrun, short := Nat.zero_le _, few := by rw [List.length_append]; exact Nat.succ_le_succ h.few, nxle := Nat.le_refl _ }

set_option maxRecDepth 20000 in
set_option maxHeartbeats 4000000 in
theorem rlook_any (B g q : Nat) (st : Dk.St) (t : Lg.Top) (w : World) (h : Ref w B g st) (hl : Blk w q 84 (LgC g t 0)) (ho : st.off = false) (hh : t.h ≤ 1) :
    Calls Tryd.prog 46 #[.pointer (some ⟨q, 0, none⟩)] w (RlookPost st.is t q g w) := by
  have hin := Lib.hid h.inv.texts
  have HR := Lib.hid (fun (i : Int) (W : World) (hb : Ch Tq q w W) => rread_any B g st i W (ref_up h hb))
  have h0 : RLook st.is t w q g (.slice (some ⟨w.heap.size, 0, none⟩) 0 0) 0 0 t.b none [] (w.alloc (.cells #[] 9)) :=
    { row := no_texts w, lg := hl.alloc _, ch := (Ch.refl _ _ _).alloc _, run := rfl, short := Nat.le_refl _, few := Nat.le_refl _, nxle := Nat.le_refl _ }
  have HO := Lib.hid ho
  have HH := Lib.hid hh
  obtain ⟨⟨-, -, c2, -⟩, -⟩ := six (hl.alloc (.cells #[] 9))
  clear h ho hl
  go_enter Tryd.func46, Tryd.ntmps46
  go_wp2_with fail
  clear c2
  go_loopw [4, 5, 6, 7, 8] (fun v4 v5 v6 v7 v8 wr => ∃ (k nx : Nat) (ep : Int) (op : Option (List UInt8)) (L : List ByteArray), k ≤ 127 ∧ v5 = .string (opB op) ∧ v6 = .bool op.isSome ∧ v7 = .int .i64 ep ∧ v8 = .int .i64 (k : Int) ∧ RLook st.is t w q g v4 k nx ep op L wr) (fun _ _ _ _ v _ => 127 - (intOf v).toNat)
  case atStart => exact ⟨0, 0, t.b, none, [], by omega, rfl, rfl, rfl, rfl, h0⟩
  case round =>
    obtain ⟨k, nx, ep, op, L, hk, rfl, rfl, rfl, rfl, hL⟩ := hrel
    clear h0
    have HL := Lib.hid hL
    by_cases hlt : k < 127
    · obtain ⟨⟨a0, a1, -, a3, -, -⟩, -⟩ := six hL.lg
      clear hL
      have hs := Lg.sec_lt HH.out hlt
      obtain ⟨r1, r2⟩ := read_on HO.out hs
      obtain ⟨s, hs2⟩ : ∃ s, st.is (Lg.sec t.h k) = s := ⟨_, rfl⟩
      have hsz : s.size ≤ 1048576 := by rw [← hs2]; exact Nat.le_trans (hin.out _) (by decide)
      rw [hs2] at r1
      have hsec : IntKind.i64.wrap ((2 : Int) + 127 * (t.h : Int) + (k : Int)) = ((Lg.sec t.h k : Nat) : Int) := by
        have hh1 := HH.out
        rw [IntKind.wrap_i64]
        unfold Lg.sec
        omega
      have HR12 := Lib.hid (And.intro r1 (And.intro r2 hsec))
      have HHF := Lib.hid (fun (c : Cn.Chu) (h1 : Cn.isC s.data.toList) (h2 : c = Cn.decC s.data.toList) => half_at st.is t.h k s hs2 h1 h2)
      have HHN := Lib.hid (half_no st.is t.h k s hs2)
      clear r1 r2 hs2 hs hsec
      go_wp2_with fail
      go_region_held3 (fun W => W.cell? ⟨q, 0, none⟩ = some (.pointer (some ⟨g, 0, none⟩)) ∧ W.cell? ⟨q, 3, none⟩ = some (.int .i64 (t.h : Int))) (first | assumption | exact ⟨a0, a3⟩ | go_keep)
        (first
          | (go_at_call 62; refine (rfirst_any t.h _ HH.out).mono ?_; rintro e w2 ⟨rfl, rfl⟩)
          | (go_at_call 44; rw [HR12.out.2.2]; refine (HR.out _ _ (HL.out.ch.drew)).mono ?_; rintro e w3 ⟨rfl, rfl⟩; rw [HR12.out.1, HR12.out.2.1]))
      clear a0 a1 a3 HR12 HR
      go_wp2_with fail
      refine (decode_ref s _ hsz).mono ?_
      rintro x w4 ⟨e, cq, f, l, d, rfl, his, hb4⟩
      have his' : (⟨e, cq, f, l, d.data.toList⟩ : Cn.Chu) = Cn.decC s.data.toList := his
      have hL4 := (HL.out.up (Below.refl _ _).drew).up hb4
      have hap : q ≠ w4.heap.size := fun e => by have := hL4.lg.lt; omega
      have hL5 := hL4.up ((Below.refl _ _).alloc (Nat.le_refl _) (.cells (ChC e cq f l d) 45))
      have n5 := Blk.new w4 45 (ChC e cq f l d)
      obtain ⟨d0, d1, d2, d3, d4⟩ := five n5
      obtain ⟨⟨a0, a1, a2, a3, a4, a5⟩, y0, y1, y2, y3, y4, y5⟩ := six hL5.lg
      have HL5 := Lib.hid hL5
      have HN5 := Lib.hid n5
      have HHIS := Lib.hid his'
      clear hL4 hL5 n5 his his' hb4 HL
      by_cases hC : Cn.isC s.data.toList
      · have hE : Cn.decE s.data.toList = 0 := by unfold Cn.decE; rw [if_pos hC]
        have hg := HHF.out _ hC HHIS.out
        have hok := (Cn.enc_dec _ hE).1
        rw [← HHIS.out] at hok
        have hd96 : d.data.toList.length ≤ 96 := hok.2.2.2.2
        have HD96 := Lib.hid hd96
        rw [hE]
        clear hE hok HHF HHN hd96
        by_cases hq : cq = (k : Int)
        · subst hq
          have hqn : ((k : Int) != (k : Int)) = false := by simp
          by_cases h1 : ep ≤ e
          · have hb1 : decide (e < ep) = false := decide_eq_false (by omega)
            by_cases h2 : e ≤ t.e
            · have hb2 : decide (t.e < e) = false := decide_eq_false (by omega)
              by_cases h3 : f = op.isNone
              · by_cases h4 : op.isSome = true → e = ep
                · have HF := Lib.hid (show Fits t.e k ep op ⟨e, (k : Int), f, l, d.data.toList⟩ from ⟨rfl, h1, h2, h3, h4⟩)
                  have HG := Lib.hid hg
                  have hRs : (opB op).size ≤ 96 * 127 := by
                    have h1 := HL5.out.short
                    show (opB op).data.size ≤ _
                    rw [← Array.length_toList]
                    show (op.getD []).length ≤ _
                    omega
                  have hds : d.size ≤ 96 := by
                    show d.data.size ≤ _
                    rw [← Array.length_toList]
                    exact HD96.out
                  have hno : ¬ 9223372036854775807 < (opB op).size + d.size := by omega
                  obtain ⟨S, hS⟩ : ∃ S, opB op ++ d = S := ⟨_, rfl⟩
                  have HSl := Lib.hid (show S.data.toList = op.getD [] ++ d.data.toList by rw [← hS, opB_add])
                  have HSO := Lib.hid (show S = opB (some (op.getD [] ++ d.data.toList)) by rw [← hS, opB_add]; rfl)
                  have hopen : (op.isSome = false ∧ f = true) ∨ (op.isSome = true ∧ f = false ∧ (e != ep) = false) := by
                    cases op with
                    | none => exact .inl ⟨rfl, h3⟩
                    | some x => exact .inr ⟨rfl, h3, by rw [bne_eq_false_iff_eq]; exact h4 rfl⟩
                  have HRUNm := Lib.hid (fun hl : l = false => HL5.out.more hlt HG.out HF.out hl)
                  have HRUNw := Lib.hid (fun hl : l = true => HL5.out.whole hlt HG.out HF.out hl S HSl.out)
                  have HU := Lib.hid (fun n => HL5.out.up (below_drewN _ n))
                  have hfew := HL5.out.few
                  have HS2 := Lib.hid (show (op.getD [] ++ d.data.toList).length ≤ 96 * (k + 1) by
                    have h1 := HL5.out.short
                    have h2 := HD96.out
                    rw [List.length_append]
                    omega)
                  have hbs : w.heap.size ≤ (w4.alloc (.cells (ChC e (k : Int) f l d) 45)).heap.size := HL5.out.ch.size
                  clear hg hRs hds h3 h4 HL5
                  cases l with
                  | false =>
                    rcases hopen with ⟨ho2, rfl⟩ | ⟨ho2, rfl, hne⟩
                    all_goals
                      go_wp2_with fail
                      go_quiet (fail)
                      go_wp2_with fail
                      go_roundw
                      case rel => exact ⟨k + 1, nx, e, some (op.getD [] ++ d.data.toList), L, by omega, by rw [HSO.out], rfl, rfl, by go_num, { row := (HU.out _).row, lg := (HU.out _).lg, ch := (HU.out _).ch, run := HRUNm.out (by first | rfl | trivial), short := HS2.out, few := Nat.le_succ_of_le hfew, nxle := Nat.le_succ_of_le (HU.out 0).nxle }⟩
                      case measure => simp [intOf]; omega
                  | true =>
                    rcases hopen with ⟨ho2, rfl⟩ | ⟨ho2, rfl, hne⟩
                    · go_wp2_with fail
                      generalize w4.alloc (.cells (ChC e (k : Int) true true d) 45) = w5 at *
                      go_quiet (fail)
                      go_wp2_with (at_builtin; refine wpList_append_texts rfl (.tmp 95) (.tmp 97) rfl ((HU.out _).row.alloc (.cells #[.string S] 9)) (text_one _ S) (by simp; omega) (base_drewN hbs _ _) rfl rfl ?_; intro v7 w7 hown7 hgrow7; have hc7 := ch_of_append (T := Ts) ((HU.out _).row.alloc (.cells #[.string S] 9)) hgrow7 (fun _ => rfl); obtain ⟨⟨m0, m1, m2, m3, m4, m5⟩, n0, n1, n2, n3, n4, n5⟩ := six (hc7.blk ((HU.out _).lg.alloc _) rfl); have HN := Lib.hid (rlook_store (HU.out _) hown7 hc7 (HRUNw.out (by first | rfl | trivial))); clear hown7 hgrow7 hc7)
                      go_roundw
                      case rel => exact ⟨k + 1, k + 1, e, none, L ++ [S], by omega, rfl, rfl, rfl, by go_num, HN.out⟩
                      case measure => simp [intOf]; omega
                    · go_wp2_with fail
                      generalize w4.alloc (.cells (ChC e (k : Int) false true d) 45) = w5 at *
                      go_quiet (fail)
                      go_wp2_with (at_builtin; refine wpList_append_texts rfl (.tmp 95) (.tmp 97) rfl ((HU.out _).row.alloc (.cells #[.string S] 9)) (text_one _ S) (by simp; omega) (base_drewN hbs _ _) rfl rfl ?_; intro v7 w7 hown7 hgrow7; have hc7 := ch_of_append (T := Ts) ((HU.out _).row.alloc (.cells #[.string S] 9)) hgrow7 (fun _ => rfl); obtain ⟨⟨m0, m1, m2, m3, m4, m5⟩, n0, n1, n2, n3, n4, n5⟩ := six (hc7.blk ((HU.out _).lg.alloc _) rfl); have HN := Lib.hid (rlook_store (HU.out _) hown7 hc7 (HRUNw.out (by first | rfl | trivial))); clear hown7 hgrow7 hc7)
                      go_roundw
                      case rel => exact ⟨k + 1, k + 1, e, none, L ++ [S], by omega, rfl, rfl, rfl, by go_num, HN.out⟩
                      case measure => simp [intOf]; omega
                · obtain ⟨hso, hne0⟩ : op.isSome = true ∧ e ≠ ep := by
                    by_cases ho2 : op.isSome = true
                    · exact ⟨ho2, fun he => h4 (fun _ => he)⟩
                    · exact absurd (fun h => absurd h ho2) h4
                  have hne : (e != ep) = true := by rw [bne_iff_ne]; exact hne0
                  have hf : f = false := by
                    rw [h3]
                    cases op with
                    | none => cases hso
                    | some x => rfl
                  have HS := Lib.hid (HL5.out.stop hlt (.inr ⟨_, hg, fun h => h4 h.2.2.2.2⟩))
                  clear hg h3 h4
                  subst hf
                  go_wp2_with fail
                  go_quiet (fail)
                  go_wp2_with fail
                  go_ret2
                  exact rlook_end HS.out (HL5.out.up (below_drewN _ _))
              · have hfb : (f == op.isSome) = true := by
                  rw [beq_iff_eq]
                  cases op <;> cases f <;> simp_all
                have HS := Lib.hid (HL5.out.stop hlt (.inr ⟨_, hg, fun h => h3 h.2.2.2.1⟩))
                clear hg
                go_wp2_with fail
                go_quiet (fail)
                go_wp2_with fail
                go_ret2
                exact rlook_end HS.out (HL5.out.up (below_drewN _ _))
            · have hb2 : decide (t.e < e) = true := decide_eq_true (by omega)
              have HS := Lib.hid (HL5.out.stop hlt (.inr ⟨_, hg, fun h => h2 h.2.2.1⟩))
              clear hg
              go_wp2_with fail
              go_quiet (fail)
              go_wp2_with fail
              go_ret2
              exact rlook_end HS.out (HL5.out.up (below_drewN _ _))
          · have hb1 : decide (e < ep) = true := decide_eq_true (by omega)
            have HS := Lib.hid (HL5.out.stop hlt (.inr ⟨_, hg, fun h => h1 h.2.1⟩))
            clear hg
            go_wp2_with fail
            go_quiet (fail)
            go_wp2_with fail
            go_ret2
            exact rlook_end HS.out (HL5.out.up (below_drewN _ _))
        · have hqn : (cq != (k : Int)) = true := by rw [bne_iff_ne]; exact hq
          have HS := Lib.hid (HL5.out.stop hlt (.inr ⟨_, hg, fun h => hq h.1⟩))
          clear hg
          go_wp2_with fail
          go_quiet (fail)
          go_wp2_with fail
          go_ret2
          exact rlook_end HS.out (HL5.out.up (below_drewN _ _))
      · have hE : Cn.decE s.data.toList = 21 := by unfold Cn.decE; rw [if_neg hC]
        have HS := Lib.hid (HL5.out.stop hlt (.inl (HHN.out hC)))
        rw [hE]
        clear hE HHF HHN
        go_wp2_with fail
        go_quiet (fail)
        go_wp2_with fail
        go_ret2
        exact rlook_end HS.out (HL5.out.up (below_drewN _ _))
    · obtain rfl : k = 127 := by omega
      clear hL
      go_wp2_with fail
      go_ret2
      exact rlook_end HL.out.over HL.out

end Go.Proofs.YtgahcbhdnplnoaaDoor
