/- What scan comes to, the program's: the records of the half that counts. -/
import Derived.Test.YtgahcbhdnplnoaaDoorCkLogNewest
import Derived.Test.YtgahcbhdnplnoaaDoorCkLogMany
import Derived.OwnWalk
namespace Go.Proofs.YtgahcbhdnplnoaaDoor
open Go.RowKit

/-- A row of texts that a call has made. -/
def RowS (w : World) (base : Nat) (v : Value) (l : List ByteArray) : Prop := w.ownsRow base 9 1 v l.length (l.map Value.string)

/-- The scan's own test of a chunk. -/
def Fits (E : Int) (k : Nat) (ep : Int) (op : Option (List UInt8)) (c : Cn.Chu) : Prop := c.q = (k : Int) ∧ ep ≤ c.e ∧ c.e ≤ E ∧ c.f = op.isNone ∧ (op.isSome = true → c.e = ep)

theorem folw_fits {E : Int} {k : Nat} {ep : Int} {op : Option (List UInt8)} {c : Cn.Chu} (hq : c.q = (k : Int)) (he : c.e ≤ E) : Folw c.e c.f ep op.isNone ↔ Fits E k ep op c := by
  unfold Folw Fits
  cases op with
  | none =>
    simp only [Option.isNone_none, Option.isSome_none]
    constructor
    · rintro ⟨h1, h2⟩
      exact ⟨hq, by rcases h2 with h2 | h2 <;> omega, he, h1, fun h => by cases h⟩
    · rintro ⟨-, h2, -, h4, -⟩
      refine ⟨h4, ?_⟩
      by_cases h : c.e = ep
      · exact .inl h
      · exact .inr ⟨h4, by omega⟩
  | some x =>
    simp only [Option.isNone_some, Option.isSome_some]
    constructor
    · rintro ⟨h1, h2⟩
      have h3 : c.e = ep := h2.resolve_right (fun h => by rw [h1] at h; cases h.1)
      exact ⟨hq, by omega, he, h1, fun _ => h3⟩
    · rintro ⟨-, -, -, h4, h5⟩
      exact ⟨h4, .inl (h5 trivial)⟩

/-- A text that is open, as bytes. -/
def opB (op : Option (List UInt8)) : ByteArray := ⟨(op.getD []).toArray⟩
theorem opB_add (op : Option (List UInt8)) (d : ByteArray) : opB op ++ d = ⟨(op.getD [] ++ d.data.toList).toArray⟩ := by
  unfold opB
  apply ByteArray.ext
  simp

/-- What scan's loop knows behind k places. -/
structure LookAt (f : Nat → ByteArray) (t : Lg.Top) (w : World) (v : Value) (k nx : Nat) (ep : Int) (op : Option (List UInt8)) (L : List ByteArray) (wr : World) : Prop where
  row : RowS wr w.heap.size v L
  hd : Blk wr w.heap.size 63 (HdC t)
  ahead : ∃ q f d, Blk wr (w.heap.size + 1) 45 #[.int .i64 ep, .int .i64 q, .bool f, .bool op.isNone, .string d]
  below : Below w.heap.size w wr
  run : Lg.scan f t = (bls L ++ (Lg.scanGo (Lg.half f t.h) t.e (127 - k) k ep op nx).1, (Lg.scanGo (Lg.half f t.h) t.e (127 - k) k ep op nx).2)
  short : (op.getD []).length ≤ 96 * k
  few : L.length ≤ k
  nxle : nx ≤ k

section
variable {f : Nat → ByteArray} {t : Lg.Top} {w wr w1 : World} {v : Value} {k nx : Nat} {ep : Int} {op : Option (List UInt8)} {L : List ByteArray} {c : Cn.Chu}
theorem LookAt.up (h : LookAt f t w v k nx ep op L wr) (hb : Below wr.heap.size wr w1) : LookAt f t w v k nx ep op L w1 :=
  { row := owns_ch (T := fun _ => false) (B := 0) h.row (Ch.of_below hb) (fun _ => rfl)
    hd := h.hd.older hb h.hd.lt
    ahead := by obtain ⟨q, f, d, hb'⟩ := h.ahead; exact ⟨q, f, d, hb'.older hb hb'.lt⟩
    below := h.below.trans (hb.mono h.below.size)
    run := h.run, short := h.short, few := h.few, nxle := h.nxle }

theorem half_at (f : Nat → ByteArray) (h k : Nat) (s : ByteArray) (hs : f (Lg.sec h k) = s) (hC : Cn.isC s.data.toList) (hc : c = Cn.decC s.data.toList) : Lg.half f h k = some c := by
  unfold Lg.half Lg.chk
  rw [hs, if_pos hC, hc]
  unfold Cn.decC
  rw [if_pos hC]
theorem half_no (f : Nat → ByteArray) (h k : Nat) (s : ByteArray) (hs : f (Lg.sec h k) = s) (hC : ¬ Cn.isC s.data.toList) : Lg.half f h k = none := by
  unfold Lg.half Lg.chk
  rw [hs, if_neg hC]

theorem LookAt.stop (h : LookAt f t w v k nx ep op L wr) (hk : k < 127) (hg : Lg.half f t.h k = none ∨ ∃ c, Lg.half f t.h k = some c ∧ ¬ Fits t.e k ep op c) : Lg.scan f t = (bls L, nx) := by
  have e : 127 - k = (126 - k) + 1 := by omega
  rw [h.run, e]
  rcases hg with hg | ⟨c, hg, hb⟩
  · rw [Lg.scan_none hg, List.append_nil]
  · rw [Lg.scan_bad hg hb, List.append_nil]
theorem LookAt.over (h : LookAt f t w v 127 nx ep op L wr) : Lg.scan f t = (bls L, nx) := by
  rw [h.run]
  show (bls L ++ [], nx) = _
  rw [List.append_nil]

/-- Storing a chunk where the one ahead lies. -/
theorem five_set {g : Nat} {T : TypeId} {a b c d e : Value} (h : Blk w g T #[a, b, c, d, e]) (x0 x1 x2 x3 x4 : Value) :
    Blk (((((w.setCell ⟨g, 0, none⟩ x0).setCell ⟨g, 1, none⟩ x1).setCell ⟨g, 2, none⟩ x2).setCell ⟨g, 3, none⟩ x3).setCell ⟨g, 4, none⟩ x4) g T #[x0, x1, x2, x3, x4] := h.t5 _ _ _ _ _

theorem LookAt.store (hrow : RowS wr w.heap.size v L) (hhd : Blk wr w.heap.size 63 (HdC t)) {a0 a1 a2 a3 a4 : Value} (hah : Blk wr (w.heap.size + 1) 45 #[a0, a1, a2, a3, a4]) (hb : Below w.heap.size w wr) (e q : Int) (f' l : Bool) (d : ByteArray) (hl : l = op.isNone)
    (hrun : Lg.scan f t = (bls L ++ (Lg.scanGo (Lg.half f t.h) t.e (127 - k) k e op nx).1, (Lg.scanGo (Lg.half f t.h) t.e (127 - k) k e op nx).2)) (hsh : (op.getD []).length ≤ 96 * k) (hfew : L.length ≤ k) (hnx : nx ≤ k) :
    LookAt f t w v k nx e op L (((((wr.setCell ⟨w.heap.size + 1, 0, none⟩ (.int .i64 e)).setCell ⟨w.heap.size + 1, 1, none⟩ (.int .i64 q)).setCell ⟨w.heap.size + 1, 2, none⟩ (.bool f')).setCell ⟨w.heap.size + 1, 3, none⟩ (.bool l)).setCell ⟨w.heap.size + 1, 4, none⟩ (.string d)) := by
  have g1 := hah.t0 (.int .i64 e)
  have g2 := g1.t1 (.int .i64 q)
  have g3 := g2.t2 (.bool f')
  have g4 := g3.t3 (.bool l)
  have T1 : ∀ (W : World) (i : Nat) (u : Value) (cs : Array Value), Blk W (w.heap.size + 1) 45 cs → Ch (fun o => match o with | .cells _ t _ => t == 45 | _ => false) 0 W (W.setCell ⟨w.heap.size + 1, i, none⟩ u) :=
    fun W i u cs hW => Ch.set hW (Nat.zero_le _) rfl i u
  have hc := ((((T1 wr 0 (.int .i64 e) _ hah).trans (T1 _ 1 (.int .i64 q) _ g1)).trans (T1 _ 2 (.bool f') _ g2)).trans (T1 _ 3 (.bool l) _ g3)).trans (T1 _ 4 (.string d) _ g4)
  exact { row := owns_ch hrow hc (fun _ => rfl), hd := hc.blk hhd rfl, ahead := ⟨q, f', d, by rw [← hl]; exact g4.t4 _⟩, below := gr_to_below (gr_t5 (gr_of_below hb none) (Nat.le_succ _) _ _ _ _ _), run := hrun, short := hsh, few := hfew, nxle := hnx }

theorem LookAt.more (h : LookAt f t w v k nx ep op L wr) (hk : k < 127) (hg : Lg.half f t.h k = some c) (hf : Fits t.e k ep op c) (hl : c.l = false) :
    Lg.scan f t = (bls L ++ (Lg.scanGo (Lg.half f t.h) t.e (127 - (k + 1)) (k + 1) c.e (some (op.getD [] ++ c.d)) nx).1, (Lg.scanGo (Lg.half f t.h) t.e (127 - (k + 1)) (k + 1) c.e (some (op.getD [] ++ c.d)) nx).2) := by
  have e : 127 - k = (127 - (k + 1)) + 1 := by omega
  rw [h.run, e, Lg.scan_more hg hf hl]
theorem LookAt.whole (h : LookAt f t w v k nx ep op L wr) (hk : k < 127) (hg : Lg.half f t.h k = some c) (hf : Fits t.e k ep op c) (hl : c.l = true) (s : ByteArray) (hs : s.data.toList = op.getD [] ++ c.d) :
    Lg.scan f t = (bls (L ++ [s]) ++ (Lg.scanGo (Lg.half f t.h) t.e (127 - (k + 1)) (k + 1) c.e none (k + 1)).1, (Lg.scanGo (Lg.half f t.h) t.e (127 - (k + 1)) (k + 1) c.e none (k + 1)).2) := by
  have e : 127 - k = (127 - (k + 1)) + 1 := by omega
  rw [h.run, e, Lg.scan_last hg hf hl, bls_append, List.append_assoc]
  show _ = (bls L ++ (s.data.toList :: (Lg.scanGo (Lg.half f t.h) t.e (127 - (k + 1)) (k + 1) c.e none (k + 1)).1), _)
  rw [hs]
end

theorem text_one (w : World) (S : ByteArray) : Strs (w.alloc (.cells #[.string S] 9)) (.slice (some ⟨w.heap.size, 0, none⟩) 1 1) [S] := by
  refine ⟨some ⟨w.heap.size, 0, none⟩, 1, rfl, ⟨Nat.le_refl _, fun h => by cases h⟩, fun j s hj => ⟨w.heap.size, 0, rfl, by simp, ?_⟩⟩
  have h1 := (List.getElem?_eq_some_iff.1 hj).1
  simp only [List.length_cons, List.length_nil] at h1
  have h0 : j = 0 := by omega
  subst h0
  simp only [List.getElem?_cons_zero, Option.some.injEq] at hj
  subst hj
  exact (Blk.new w 9 #[.string S]).cell 0

/-- Blocks of strings. -/
def Ts : Obj → Bool
  | .cells _ t _ => t == 9
  | _ => false

def LookPost (f : Nat → ByteArray) (t : Lg.Top) (w : World) (x : Ending) (w' : World) : Prop :=
  ∃ v, x = .returned (.tuple #[v, .int .i64 (((Lg.scan f t).2 : Nat) : Int), .int .i64 0]) ∧ RowS w' w.heap.size v (mks (Lg.scan f t).1) ∧ Below w.heap.size w w' ∧ (Lg.scan f t).2 ≤ 127

theorem look_end {f : Nat → ByteArray} {t : Lg.Top} {w wr : World} {v : Value} {k nx : Nat} {ep : Int} {op : Option (List UInt8)} {L : List ByteArray} (hs : Lg.scan f t = (bls L, nx)) (h : LookAt f t w v k nx ep op L wr) (hk : k ≤ 127) :
    LookPost f t w (.returned (.tuple #[v, .int .i64 (nx : Int), .int .i64 0])) wr := by
  refine ⟨v, by rw [hs], ?_, h.below, ?_⟩
  · rw [hs]
    show RowS wr w.heap.size v (mks (bls L))
    rw [mks_bls]
    exact h.row
  · rw [hs]
    exact Nat.le_trans h.nxle hk

theorem look_start (f : Nat → ByteArray) (t : Lg.Top) (w : World) :
    LookAt f t w (.slice none 0 0) 0 0 t.b none [] ((w.alloc (.cells (HdC t) 63)).alloc (.cells #[.int .i64 t.b, .int .i64 0, .bool false, .bool true, .string ⟨#[]⟩] 45)) := by
  have n1 := Blk.new w 63 (HdC t)
  have n2 := Blk.new (w.alloc (.cells (HdC t) 63)) 45 #[.int .i64 t.b, .int .i64 0, .bool false, .bool true, .string ⟨#[]⟩]
  have e1 : (w.alloc (.cells (HdC t) 63)).heap.size = w.heap.size + 1 := by simp
  rw [e1] at n2
  exact { row := World.ownsRow_nil _ _ _ _, hd := n1.alloc _, ahead := ⟨0, false, ⟨#[]⟩, n2⟩, below := ((Below.refl _ _).alloc (Nat.le_refl _) _).alloc (by rw [e1]; omega) _, run := rfl, short := Nat.le_refl _, few := Nat.le_refl _, nxle := Nat.le_refl _ }

set_option maxRecDepth 20000 in
set_option maxHeartbeats 2000000 in
theorem look_any (B g : Nat) (st : Dk.St) (t : Lg.Top) (w : World) (h : Dsk w B g st) (ho : st.off = false) (hh : t.h ≤ 1) :
    Calls Tryd.prog 30 #[.pointer (some ⟨g, 0, none⟩), HdV t] w (LookPost st.is t w) := by
  have hin := Lib.hid h.inv.texts
  have HR := Lib.hid (fun (i : Int) (W : World) (hb : Below w.heap.size w W) => dread_any B g st i W (h.kept (T := fun _ => false) (B' := 0) (Ch.of_below hb) (fun _ => rfl) (fun _ _ => rfl) (fun _ => rfl)))
  have h0 := look_start st.is t w
  have HO := Lib.hid ho
  have HH := Lib.hid hh
  have hsz0 : (w.alloc (.cells (HdC t) 63)).heap.size = w.heap.size + 1 := by simp
  clear h ho
  obtain ⟨⟨-, c1, -⟩, -⟩ := three (Blk.new w 63 (HdC t))
  go_enter Tryd.func30, Tryd.ntmps30
  go_wp2_with fail
  clear c1 hsz0
  go_loopw [4, 5, 8, 16] (fun v4 v5 v8 v16 wr => ∃ (k nx : Nat) (ep : Int) (op : Option (List UInt8)) (L : List ByteArray), k ≤ 127 ∧ v5 = .int .i64 (nx : Int) ∧ v8 = .string (opB op) ∧ v16 = .int .i64 (k : Int) ∧ LookAt st.is t w v4 k nx ep op L wr) (fun _ _ _ v _ => 127 - (intOf v).toNat)
  case atStart => exact ⟨0, 0, t.b, none, [], by omega, rfl, rfl, rfl, h0⟩
  case round =>
    obtain ⟨k, nx, ep, op, L, hk, rfl, rfl, rfl, hL⟩ := hrel
    clear h0
    have HL := Lib.hid hL
    by_cases hlt : k < 127
    · obtain ⟨⟨a0, a1, a2⟩, -⟩ := three hL.hd
      clear hL
      have hs := Lg.sec_lt HH.out hlt
      obtain ⟨r1, r2⟩ := read_on HO.out hs
      obtain ⟨s, hs2⟩ : ∃ s, st.is (Lg.sec t.h k) = s := ⟨_, rfl⟩
      have hsz : s.size ≤ 1048576 := by rw [← hs2]; exact Nat.le_trans (hin.out _) (by decide)
      rw [hs2] at r1
      have HR12 := Lib.hid (And.intro r1 r2)
      have HHF := Lib.hid (fun (c : Cn.Chu) (h1 : Cn.isC s.data.toList) (h2 : c = Cn.decC s.data.toList) => half_at st.is t.h k s hs2 h1 h2)
      have HHN := Lib.hid (half_no st.is t.h k s hs2)
      clear r1 r2 hs2 hs
      go_wp2_with fail
      refine (hsector_any t k wr HH.out (by omega)).mono ?_
      rintro e w2 ⟨rfl, hb2⟩
      have HL2 := Lib.hid (HL.out.up hb2)
      clear hb2 HL
      go_wp2_with fail
      refine (HR.out _ w2 HL2.out.below).mono ?_
      rintro e w3 ⟨rfl, rfl⟩
      rw [HR12.out.1, HR12.out.2]
      clear HR12
      go_wp2_with fail
      refine (decode_any s w2 hsz).mono ?_
      rintro x w4 ⟨e, q, f, l, d, rfl, his, hb4⟩
      have his' : (⟨e, q, f, l, d.data.toList⟩ : Cn.Chu) = Cn.decC s.data.toList := his
      have hap0 : w.heap.size ≠ w4.heap.size := fun e => by have := (HL2.out.up hb4).hd.lt; omega
      have hap1 : w.heap.size + 1 ≠ w4.heap.size := fun e => by obtain ⟨_, _, _, h⟩ := (HL2.out.up hb4).ahead; have := h.lt; omega
      have hL5 := (HL2.out.up hb4).up ((Below.refl _ _).alloc (Nat.le_refl _) (.cells (ChC e q f l d) 45))
      have n5 := Blk.new w4 45 (ChC e q f l d)
      obtain ⟨d0, d1, d2, d3, d4⟩ := five n5
      obtain ⟨⟨a0, a1, a2⟩, -⟩ := three hL5.hd
      obtain ⟨q', f', d', hah⟩ := hL5.ahead
      obtain ⟨⟨b0, b1, b2, b3, b4⟩, z0, z1, z2, z3, z4⟩ := five_cells hah
      have HL5 := Lib.hid hL5
      have HN5 := Lib.hid n5
      have HHIS := Lib.hid his'
      clear hL5 n5 hah his his' hb4 HL2
      by_cases hC : Cn.isC s.data.toList
      · have hE : Cn.decE s.data.toList = 0 := by unfold Cn.decE; rw [if_pos hC]
        have hg := HHF.out _ hC HHIS.out
        have hok := (Cn.enc_dec _ hE).1
        rw [← HHIS.out] at hok
        have hd96 : d.data.toList.length ≤ 96 := hok.2.2.2.2
        have hpos : 0 ≤ e ∧ e ≤ 1099511627776 := ⟨hok.1, hok.2.1⟩
        have HD96 := Lib.hid hd96
        have HPOS := Lib.hid hpos
        rw [hE]
        clear hE hok HHF HHN hd96
        by_cases hq : q = (k : Int)
        · subst hq
          have hqb : ((k : Int) == (k : Int)) = true := by simp
          have hqn : ((k : Int) != (k : Int)) = false := by simp
          have hq : (k : Int) = (k : Int) := rfl
          by_cases hle : e ≤ t.e
          · by_cases hF : Folw e f ep op.isNone
            · have HF := Lib.hid ((folw_fits (c := ⟨e, (k : Int), f, l, d.data.toList⟩) hq hle).1 hF)
              have HFd := Lib.hid hF
              have HG := Lib.hid hg
              have hRs : (opB op).size ≤ 96 * 127 := by
                have h1 := HL5.out.short
                show (opB op).data.size ≤ _
                rw [← Array.length_toList]
                show (op.getD []).length ≤ _
                omega
              have hds : d.size ≤ 96 := by
                show d.data.size ≤ _
                rw [← Array.length_toList]
                exact HD96.out
              have hno : ¬ 9223372036854775807 < (opB op).size + d.size := by omega
              obtain ⟨S, hS⟩ : ∃ S, opB op ++ d = S := ⟨_, rfl⟩
              have hSl : S.data.toList = op.getD [] ++ d.data.toList := by rw [← hS, opB_add]
              have HSl := Lib.hid hSl
              clear hF hg hRs hds hSl
              cases l with
              | false =>
                have HRUN := Lib.hid (HL5.out.more hlt HG.out HF.out rfl)
                have HSO := Lib.hid (show S = opB (some (op.getD [] ++ d.data.toList)) by rw [← hS, opB_add]; rfl)
                go_wp2_with fail
                refine (follows_any e (k : Int) f false d ep q' f' op.isNone d' _).mono ?_
                rintro x w6 ⟨rfl, hb6⟩
                rw [decide_eq_true HFd.out]
                have hL6 := HL5.out.up hb6
                have n6 := HN5.out.older hb6 HN5.out.lt
                obtain ⟨d0, d1, d2, d3, d4⟩ := five n6
                obtain ⟨q6, f6, g6, hah⟩ := hL6.ahead
                obtain ⟨⟨b0, b1, b2, b3, b4⟩, z0, z1, z2, z3, z4⟩ := five_cells hah
                have HN := Lib.hid (LookAt.store (op := some (op.getD [] ++ d.data.toList)) (nx := nx) (k := k + 1) hL6.row hL6.hd hah hL6.below e (k : Int) f false d rfl HRUN.out (by
                  show (op.getD [] ++ d.data.toList).length ≤ 96 * (k + 1)
                  have h1 := hL6.short
                  have h2 := HD96.out
                  rw [List.length_append]
                  omega) (Nat.le_succ_of_le hL6.few) (Nat.le_succ_of_le hL6.nxle))
                clear hb6 hL6 n6 hah HL5 HN5 HRUN HFd
                go_wp2_with fail
                go_roundw
                case rel => exact ⟨k + 1, nx, e, some (op.getD [] ++ d.data.toList), L, by omega, rfl, by rw [HSO.out], by go_num, HN.out⟩
                case measure => simp [intOf]; omega
              | true =>
                have HRUN := Lib.hid (HL5.out.whole hlt HG.out HF.out rfl S HSl.out)
                go_wp2_with fail
                refine (follows_any e (k : Int) f true d ep q' f' op.isNone d' _).mono ?_
                rintro x w6 ⟨rfl, hb6⟩
                rw [decide_eq_true HFd.out]
                have hL6 := HL5.out.up hb6
                have n6 := HN5.out.older hb6 HN5.out.lt
                obtain ⟨d0, d1, d2, d3, d4⟩ := five n6
                have hbs := hL6.below.size
                have hrow := hL6.row.alloc (.cells #[.string S] 9)
                have hfew := hL6.few
                have HL6 := Lib.hid hL6
                have HN6 := Lib.hid n6
                clear hb6 hL6 n6 HL5 HN5 HFd
                go_wp2_with (at_builtin; refine wpList_append_texts rfl (.tmp 62) (.tmp 64) rfl hrow (text_one w6 S) (by simp; omega) (by simp; omega) rfl rfl ?_; intro v7 w7 hown7 hgrow7; have hc7 := ch_of_append (T := Ts) hrow hgrow7 (fun _ => rfl); obtain ⟨q6, f6, g6, hah0⟩ := HL6.out.ahead; have hah := hc7.blk (hah0.alloc _) rfl; have n7 := hc7.blk (HN6.out.alloc _) rfl; obtain ⟨d0, d1, d2, d3, d4⟩ := five n7; obtain ⟨⟨b0, b1, b2, b3, b4⟩, z0, z1, z2, z3, z4⟩ := five_cells hah; have hbel := (HL6.out.below.alloc hbs (.cells #[.string S] 9)).trans (hc7.to_below (by simp; omega)); have HN := Lib.hid (LookAt.store (op := none) (nx := k + 1) (k := k + 1) hown7 (hc7.blk (HL6.out.hd.alloc _) rfl) hah hbel e (k : Int) f true d rfl HRUN.out (Nat.zero_le _) (by rw [List.length_append]; exact Nat.succ_le_succ hfew) (Nat.le_refl _)); clear hown7 hgrow7 hc7 hah0 hah n7 hbel hrow)
                go_roundw
                case rel => exact ⟨k + 1, k + 1, e, none, L ++ [S], by omega, by go_num, rfl, by go_num, HN.out⟩
                case measure => simp [intOf]; omega
            · have HS := Lib.hid (HL5.out.stop hlt (.inr ⟨_, hg, fun h => hF ((folw_fits (c := ⟨e, (k : Int), f, l, d.data.toList⟩) hq hle).2 h)⟩))
              have HFd := Lib.hid hF
              clear hF hg
              go_wp2_with fail
              refine (follows_any e (k : Int) f l d ep q' f' op.isNone d' _).mono ?_
              rintro x w6 ⟨rfl, hb6⟩
              rw [decide_eq_false HFd.out]
              have HL6 := Lib.hid (HL5.out.up hb6)
              clear hb6 HFd HL5
              go_wp2_with fail
              go_ret3
              exact look_end HS.out HL6.out hk
          · have HS := Lib.hid (HL5.out.stop hlt (.inr ⟨_, hg, fun h => hle h.2.2.1⟩))
            clear hg
            go_wp2_with fail
            go_ret3
            exact look_end HS.out HL5.out hk
        · have hqb : (q == (k : Int)) = false := by rw [beq_eq_false_iff_ne]; exact hq
          have hqn : (q != (k : Int)) = true := by rw [bne_iff_ne]; exact hq
          have HS := Lib.hid (HL5.out.stop hlt (.inr ⟨_, hg, fun h => hq h.1⟩))
          clear hg
          go_wp2_with fail
          go_ret3
          exact look_end HS.out HL5.out hk
      · have hE : Cn.decE s.data.toList = 21 := by unfold Cn.decE; rw [if_neg hC]
        have HS := Lib.hid (HL5.out.stop hlt (.inl (HHN.out hC)))
        rw [hE]
        clear hE HHF HHN
        go_wp2_with fail
        go_ret3
        exact look_end HS.out HL5.out hk
    · obtain rfl : k = 127 := by omega
      go_wp2_with fail
      go_ret3
      exact look_end HL.out.over HL.out hk

end Go.Proofs.YtgahcbhdnplnoaaDoor
