/- Several texts in one: LogLook, LogOpenC, DiskNew, LogCalls, KeepStore, PackRecord, KeepBatch, KeepWrite, KeepSame, KeepPut, PackEnd, PackUnrecord, PackUnrec, KeepUnb. -/
import Derived.Test.YtimcepoleboldaaGreatDoorKpB
import Derived.OwnWalk
import Derived.Test.YtimcepoleboldaaGreatDoorKpA
import Derived.Test.YtimcepoleboldaaGreatDoorKeepPuts
import Derived.Test.YtimcepoleboldaaGreatDoorKeepDisk
import Derived.Test.YtimcepoleboldaaGreatDoorPackText
import Derived.Deep.RegionWith
import Derived.Deep.RegionHeld3
import Derived.Test.YtimcepoleboldaaGreatDoorKeepTakes
import Derived.Test.YtimcepoleboldaaGreatDoorPackAll
import Derived.Test.YtimcepoleboldaaGreatDoorPackReadText
import Derived.Test.YtimcepoleboldaaGreatDoorPackBytes
/- What scan comes to, the program's: the records of the half that counts. -/
namespace Go.Proofs.YtimcepoleboldaaGreatDoor
open Go.RowKit

/-- A row of texts that a call has made. -/
def RowS (w : World) (base : Nat) (v : Value) (l : List ByteArray) : Prop := w.ownsRow base 9 1 v l.length (l.map Value.string)

/-- The scan's own test of a chunk. -/
def Fits (E : Int) (k : Nat) (ep : Int) (op : Option (List UInt8)) (c : Cn.Chu) : Prop := c.q = (k : Int) ∧ ep ≤ c.e ∧ c.e ≤ E ∧ c.f = op.isNone ∧ (op.isSome = true → c.e = ep)

theorem folw_fits {E : Int} {k : Nat} {ep : Int} {op : Option (List UInt8)} {c : Cn.Chu} (hq : c.q = (k : Int)) (he : c.e ≤ E) : Folw c.e c.f ep op.isNone ↔ Fits E k ep op c := by
  unfold Folw Fits
  cases op with
  | none =>
    simp only [Option.isNone_none, Option.isSome_none]
    constructor
    · rintro ⟨h1, h2⟩
      exact ⟨hq, by rcases h2 with h2 | h2 <;> omega, he, h1, fun h => by cases h⟩
    · rintro ⟨-, h2, -, h4, -⟩
      refine ⟨h4, ?_⟩
      by_cases h : c.e = ep
      · exact .inl h
      · exact .inr ⟨h4, by omega⟩
  | some x =>
    simp only [Option.isNone_some, Option.isSome_some]
    constructor
    · rintro ⟨h1, h2⟩
      have h3 : c.e = ep := h2.resolve_right (fun h => by rw [h1] at h; cases h.1)
      exact ⟨hq, by omega, he, h1, fun _ => h3⟩
    · rintro ⟨-, -, -, h4, h5⟩
      exact ⟨h4, .inl (h5 trivial)⟩

/-- A text that is open, as bytes. -/
def opB (op : Option (List UInt8)) : ByteArray := ⟨(op.getD []).toArray⟩
theorem opB_add (op : Option (List UInt8)) (d : ByteArray) : opB op ++ d = ⟨(op.getD [] ++ d.data.toList).toArray⟩ := by
  unfold opB
  apply ByteArray.ext
  simp

/-- What scan's loop knows behind k places. -/
structure LookAt (f : Nat → ByteArray) (t : Lg.Top) (w : World) (v : Value) (k nx : Nat) (ep : Int) (op : Option (List UInt8)) (L : List ByteArray) (wr : World) : Prop where
  row : RowS wr w.heap.size v L
  hd : Blk wr w.heap.size 108 (HdC t)
  ahead : ∃ q f d, Blk wr (w.heap.size + 1) 95 #[.int .i64 ep, .int .i64 q, .bool f, .bool op.isNone, .string d]
  below : Below w.heap.size w wr
  run : Lg.scan f t = (bls L ++ (Lg.scanGo (Lg.half f t.h) t.e (127 - k) k ep op nx).1, (Lg.scanGo (Lg.half f t.h) t.e (127 - k) k ep op nx).2)
  short : (op.getD []).length ≤ 96 * k
  few : L.length ≤ k
  nxle : nx ≤ k

section
variable {f : Nat → ByteArray} {t : Lg.Top} {w wr w1 : World} {v : Value} {k nx : Nat} {ep : Int} {op : Option (List UInt8)} {L : List ByteArray} {c : Cn.Chu}
theorem LookAt.up (h : LookAt f t w v k nx ep op L wr) (hb : Below wr.heap.size wr w1) : LookAt f t w v k nx ep op L w1 :=
  { row := owns_ch (T := fun _ => false) (B := 0) h.row (Ch.of_below hb) (fun _ => rfl)
    hd := h.hd.older hb h.hd.lt
    ahead := by obtain ⟨q, f, d, hb'⟩ := h.ahead; exact ⟨q, f, d, hb'.older hb hb'.lt⟩
    below := h.below.trans (hb.mono h.below.size)
    run := h.run, short := h.short, few := h.few, nxle := h.nxle }

theorem half_at (f : Nat → ByteArray) (h k : Nat) (s : ByteArray) (hs : f (Lg.sec h k) = s) (hC : Cn.isC s.data.toList) (hc : c = Cn.decC s.data.toList) : Lg.half f h k = some c := by
  unfold Lg.half Lg.chk
  rw [hs, if_pos hC, hc]
  unfold Cn.decC
  rw [if_pos hC]
theorem half_no (f : Nat → ByteArray) (h k : Nat) (s : ByteArray) (hs : f (Lg.sec h k) = s) (hC : ¬ Cn.isC s.data.toList) : Lg.half f h k = none := by
  unfold Lg.half Lg.chk
  rw [hs, if_neg hC]

theorem LookAt.stop (h : LookAt f t w v k nx ep op L wr) (hk : k < 127) (hg : Lg.half f t.h k = none ∨ ∃ c, Lg.half f t.h k = some c ∧ ¬ Fits t.e k ep op c) : Lg.scan f t = (bls L, nx) := by
  have e : 127 - k = (126 - k) + 1 := by omega
  rw [h.run, e]
  rcases hg with hg | ⟨c, hg, hb⟩
  · rw [Lg.scan_none hg, List.append_nil]
  · rw [Lg.scan_bad hg hb, List.append_nil]
theorem LookAt.over (h : LookAt f t w v 127 nx ep op L wr) : Lg.scan f t = (bls L, nx) := by
  rw [h.run]
  show (bls L ++ [], nx) = _
  rw [List.append_nil]

/-- Storing a chunk where the one ahead lies. -/
theorem five_set {g : Nat} {T : TypeId} {a b c d e : Value} (h : Blk w g T #[a, b, c, d, e]) (x0 x1 x2 x3 x4 : Value) :
    Blk (((((w.setCell ⟨g, 0, none⟩ x0).setCell ⟨g, 1, none⟩ x1).setCell ⟨g, 2, none⟩ x2).setCell ⟨g, 3, none⟩ x3).setCell ⟨g, 4, none⟩ x4) g T #[x0, x1, x2, x3, x4] := h.t5 _ _ _ _ _

theorem LookAt.store (hrow : RowS wr w.heap.size v L) (hhd : Blk wr w.heap.size 108 (HdC t)) {a0 a1 a2 a3 a4 : Value} (hah : Blk wr (w.heap.size + 1) 95 #[a0, a1, a2, a3, a4]) (hb : Below w.heap.size w wr) (e q : Int) (f' l : Bool) (d : ByteArray) (hl : l = op.isNone)
    (hrun : Lg.scan f t = (bls L ++ (Lg.scanGo (Lg.half f t.h) t.e (127 - k) k e op nx).1, (Lg.scanGo (Lg.half f t.h) t.e (127 - k) k e op nx).2)) (hsh : (op.getD []).length ≤ 96 * k) (hfew : L.length ≤ k) (hnx : nx ≤ k) :
    LookAt f t w v k nx e op L (((((wr.setCell ⟨w.heap.size + 1, 0, none⟩ (.int .i64 e)).setCell ⟨w.heap.size + 1, 1, none⟩ (.int .i64 q)).setCell ⟨w.heap.size + 1, 2, none⟩ (.bool f')).setCell ⟨w.heap.size + 1, 3, none⟩ (.bool l)).setCell ⟨w.heap.size + 1, 4, none⟩ (.string d)) := by
  have g1 := hah.t0 (.int .i64 e)
  have g2 := g1.t1 (.int .i64 q)
  have g3 := g2.t2 (.bool f')
  have g4 := g3.t3 (.bool l)
  have T1 : ∀ (W : World) (i : Nat) (u : Value) (cs : Array Value), Blk W (w.heap.size + 1) 95 cs → Ch (fun o => match o with | .cells _ t _ => t == 95 | _ => false) 0 W (W.setCell ⟨w.heap.size + 1, i, none⟩ u) :=
    fun W i u cs hW => Ch.set hW (Nat.zero_le _) rfl i u
  have hc := ((((T1 wr 0 (.int .i64 e) _ hah).trans (T1 _ 1 (.int .i64 q) _ g1)).trans (T1 _ 2 (.bool f') _ g2)).trans (T1 _ 3 (.bool l) _ g3)).trans (T1 _ 4 (.string d) _ g4)
  exact { row := owns_ch hrow hc (fun _ => rfl), hd := hc.blk hhd rfl, ahead := ⟨q, f', d, by rw [← hl]; exact g4.t4 _⟩, below := gr_to_below (gr_t5 (gr_of_below hb none) (Nat.le_succ _) _ _ _ _ _), run := hrun, short := hsh, few := hfew, nxle := hnx }

theorem LookAt.more (h : LookAt f t w v k nx ep op L wr) (hk : k < 127) (hg : Lg.half f t.h k = some c) (hf : Fits t.e k ep op c) (hl : c.l = false) :
    Lg.scan f t = (bls L ++ (Lg.scanGo (Lg.half f t.h) t.e (127 - (k + 1)) (k + 1) c.e (some (op.getD [] ++ c.d)) nx).1, (Lg.scanGo (Lg.half f t.h) t.e (127 - (k + 1)) (k + 1) c.e (some (op.getD [] ++ c.d)) nx).2) := by
  have e : 127 - k = (127 - (k + 1)) + 1 := by omega
  rw [h.run, e, Lg.scan_more hg hf hl]
theorem LookAt.whole (h : LookAt f t w v k nx ep op L wr) (hk : k < 127) (hg : Lg.half f t.h k = some c) (hf : Fits t.e k ep op c) (hl : c.l = true) (s : ByteArray) (hs : s.data.toList = op.getD [] ++ c.d) :
    Lg.scan f t = (bls (L ++ [s]) ++ (Lg.scanGo (Lg.half f t.h) t.e (127 - (k + 1)) (k + 1) c.e none (k + 1)).1, (Lg.scanGo (Lg.half f t.h) t.e (127 - (k + 1)) (k + 1) c.e none (k + 1)).2) := by
  have e : 127 - k = (127 - (k + 1)) + 1 := by omega
  rw [h.run, e, Lg.scan_last hg hf hl, bls_append, List.append_assoc]
  show _ = (bls L ++ (s.data.toList :: (Lg.scanGo (Lg.half f t.h) t.e (127 - (k + 1)) (k + 1) c.e none (k + 1)).1), _)
  rw [hs]
end

theorem text_one (w : World) (S : ByteArray) : Strs (w.alloc (.cells #[.string S] 9)) (.slice (some ⟨w.heap.size, 0, none⟩) 1 1) [S] := by
  refine ⟨some ⟨w.heap.size, 0, none⟩, 1, rfl, ⟨Nat.le_refl _, fun h => by cases h⟩, fun j s hj => ⟨w.heap.size, 0, rfl, by simp, ?_⟩⟩
  have h1 := (List.getElem?_eq_some_iff.1 hj).1
  simp only [List.length_cons, List.length_nil] at h1
  have h0 : j = 0 := by omega
  subst h0
  simp only [List.getElem?_cons_zero, Option.some.injEq] at hj
  subst hj
  exact (Blk.new w 9 #[.string S]).cell 0

/-- Blocks of strings. -/
def Ts : Obj → Bool
  | .cells _ t _ => t == 9
  | _ => false

def LookPost (f : Nat → ByteArray) (t : Lg.Top) (w : World) (x : Ending) (w' : World) : Prop :=
  ∃ v, x = .returned (.tuple #[v, .int .i64 (((Lg.scan f t).2 : Nat) : Int), .int .i64 0]) ∧ RowS w' w.heap.size v (mks (Lg.scan f t).1) ∧ Below w.heap.size w w' ∧ (Lg.scan f t).2 ≤ 127

theorem look_end {f : Nat → ByteArray} {t : Lg.Top} {w wr : World} {v : Value} {k nx : Nat} {ep : Int} {op : Option (List UInt8)} {L : List ByteArray} (hs : Lg.scan f t = (bls L, nx)) (h : LookAt f t w v k nx ep op L wr) (hk : k ≤ 127) :
    LookPost f t w (.returned (.tuple #[v, .int .i64 (nx : Int), .int .i64 0])) wr := by
  refine ⟨v, by rw [hs], ?_, h.below, ?_⟩
  · rw [hs]
    show RowS wr w.heap.size v (mks (bls L))
    rw [mks_bls]
    exact h.row
  · rw [hs]
    exact Nat.le_trans h.nxle hk

theorem look_start (f : Nat → ByteArray) (t : Lg.Top) (w : World) :
    LookAt f t w (.slice none 0 0) 0 0 t.b none [] ((w.alloc (.cells (HdC t) 108)).alloc (.cells #[.int .i64 t.b, .int .i64 0, .bool false, .bool true, .string ⟨#[]⟩] 95)) := by
  have n1 := Blk.new w 108 (HdC t)
  have n2 := Blk.new (w.alloc (.cells (HdC t) 108)) 95 #[.int .i64 t.b, .int .i64 0, .bool false, .bool true, .string ⟨#[]⟩]
  have e1 : (w.alloc (.cells (HdC t) 108)).heap.size = w.heap.size + 1 := by simp
  rw [e1] at n2
  exact { row := World.ownsRow_nil _ _ _ _, hd := n1.alloc _, ahead := ⟨0, false, ⟨#[]⟩, n2⟩, below := ((Below.refl _ _).alloc (Nat.le_refl _) _).alloc (by rw [e1]; omega) _, run := rfl, short := Nat.le_refl _, few := Nat.le_refl _, nxle := Nat.le_refl _ }

set_option maxRecDepth 20000 in
set_option maxHeartbeats 2000000 in
theorem look_any [Keep] (B g : Nat) (st : Dk.St) (t : Lg.Top) (w : World) (h : Dsk w B g st) (ho : st.off = false) (hh : t.h ≤ 1) :
    Calls Tryz.prog 59 #[.pointer (some ⟨g, 0, none⟩), HdV t] w (LookPost st.is t w) := by
  have hin := Lib.hid h.inv.texts
  have HR := Lib.hid (fun (i : Int) (W : World) (hb : Below w.heap.size w W) => dread_any B g st i W (h.kept (T := fun _ => false) (B' := 0) (Ch.of_below hb) (fun _ => rfl) (fun _ _ => rfl) (fun _ => rfl)))
  have h0 := look_start st.is t w
  have HO := Lib.hid ho
  have HH := Lib.hid hh
  have hsz0 : (w.alloc (.cells (HdC t) 108)).heap.size = w.heap.size + 1 := by simp
  clear h ho
  obtain ⟨⟨-, c1, -⟩, -⟩ := three (Blk.new w 108 (HdC t))
  go_enter Tryz.func59, Tryz.ntmps59
  go_wp2_with fail
  clear c1 hsz0
  go_loopw [4, 5, 8, 16] (fun v4 v5 v8 v16 wr => ∃ (k nx : Nat) (ep : Int) (op : Option (List UInt8)) (L : List ByteArray), k ≤ 127 ∧ v5 = .int .i64 (nx : Int) ∧ v8 = .string (opB op) ∧ v16 = .int .i64 (k : Int) ∧ LookAt st.is t w v4 k nx ep op L wr) (fun _ _ _ v _ => 127 - (intOf v).toNat)
  case atStart => exact ⟨0, 0, t.b, none, [], by omega, rfl, rfl, rfl, h0⟩
  case round =>
    obtain ⟨k, nx, ep, op, L, hk, rfl, rfl, rfl, hL⟩ := hrel
    clear h0
    have HL := Lib.hid hL
    by_cases hlt : k < 127
    · obtain ⟨⟨a0, a1, a2⟩, -⟩ := three hL.hd
      clear hL
      have hs := Lg.sec_lt HH.out hlt
      obtain ⟨r1, r2⟩ := read_on HO.out hs
      obtain ⟨s, hs2⟩ : ∃ s, st.is (Lg.sec t.h k) = s := ⟨_, rfl⟩
      have hsz : s.size ≤ 1048576 := by rw [← hs2]; exact Nat.le_trans (hin.out _) (by decide)
      rw [hs2] at r1
      have HR12 := Lib.hid (And.intro r1 r2)
      have HHF := Lib.hid (fun (c : Cn.Chu) (h1 : Cn.isC s.data.toList) (h2 : c = Cn.decC s.data.toList) => half_at st.is t.h k s hs2 h1 h2)
      have HHN := Lib.hid (half_no st.is t.h k s hs2)
      clear r1 r2 hs2 hs
      go_wp2_with fail
      refine (hsector_any t k wr HH.out (by omega)).mono ?_
      rintro e w2 ⟨rfl, hb2⟩
      have HL2 := Lib.hid (HL.out.up hb2)
      clear hb2 HL
      go_wp2_with fail
      refine (HR.out _ w2 HL2.out.below).mono ?_
      rintro e w3 ⟨rfl, rfl⟩
      rw [HR12.out.1, HR12.out.2]
      clear HR12
      go_wp2_with fail
      refine (decode_any s w2 hsz).mono ?_
      rintro x w4 ⟨e, q, f, l, d, rfl, his, hb4⟩
      have his' : (⟨e, q, f, l, d.data.toList⟩ : Cn.Chu) = Cn.decC s.data.toList := his
      have hap0 : w.heap.size ≠ w4.heap.size := fun e => by have := (HL2.out.up hb4).hd.lt; omega
      have hap1 : w.heap.size + 1 ≠ w4.heap.size := fun e => by obtain ⟨_, _, _, h⟩ := (HL2.out.up hb4).ahead; have := h.lt; omega
      have hL5 := (HL2.out.up hb4).up ((Below.refl _ _).alloc (Nat.le_refl _) (.cells (ChC e q f l d) 95))
      have n5 := Blk.new w4 95 (ChC e q f l d)
      obtain ⟨d0, d1, d2, d3, d4⟩ := five n5
      obtain ⟨⟨a0, a1, a2⟩, -⟩ := three hL5.hd
      obtain ⟨q', f', d', hah⟩ := hL5.ahead
      obtain ⟨⟨b0, b1, b2, b3, b4⟩, z0, z1, z2, z3, z4⟩ := five_cells hah
      have HL5 := Lib.hid hL5
      have HN5 := Lib.hid n5
      have HHIS := Lib.hid his'
      clear hL5 n5 hah his his' hb4 HL2
      by_cases hC : Cn.isC s.data.toList
      · have hE : Cn.decE s.data.toList = 0 := by unfold Cn.decE; rw [if_pos hC]
        have hg := HHF.out _ hC HHIS.out
        have hok := (Cn.enc_dec _ hE).1
        rw [← HHIS.out] at hok
        have hd96 : d.data.toList.length ≤ 96 := hok.2.2.2.2
        have hpos : 0 ≤ e ∧ e ≤ 1099511627776 := ⟨hok.1, hok.2.1⟩
        have HD96 := Lib.hid hd96
        have HPOS := Lib.hid hpos
        rw [hE]
        clear hE hok HHF HHN hd96
        by_cases hq : q = (k : Int)
        · subst hq
          have hqb : ((k : Int) == (k : Int)) = true := by simp
          have hqn : ((k : Int) != (k : Int)) = false := by simp
          have hq : (k : Int) = (k : Int) := rfl
          by_cases hle : e ≤ t.e
          · by_cases hF : Folw e f ep op.isNone
            · have HF := Lib.hid ((folw_fits (c := ⟨e, (k : Int), f, l, d.data.toList⟩) hq hle).1 hF)
              have HFd := Lib.hid hF
              have HG := Lib.hid hg
              have hRs : (opB op).size ≤ 96 * 127 := by
                have h1 := HL5.out.short
                show (opB op).data.size ≤ _
                rw [← Array.length_toList]
                show (op.getD []).length ≤ _
                omega
              have hds : d.size ≤ 96 := by
                show d.data.size ≤ _
                rw [← Array.length_toList]
                exact HD96.out
              have hno : ¬ 9223372036854775807 < (opB op).size + d.size := by omega
              obtain ⟨S, hS⟩ : ∃ S, opB op ++ d = S := ⟨_, rfl⟩
              have hSl : S.data.toList = op.getD [] ++ d.data.toList := by rw [← hS, opB_add]
              have HSl := Lib.hid hSl
              clear hF hg hRs hds hSl
              cases l with
              | false =>
                have HRUN := Lib.hid (HL5.out.more hlt HG.out HF.out rfl)
                have HSO := Lib.hid (show S = opB (some (op.getD [] ++ d.data.toList)) by rw [← hS, opB_add]; rfl)
                go_wp2_with fail
                refine (follows_any e (k : Int) f false d ep q' f' op.isNone d' _).mono ?_
                rintro x w6 ⟨rfl, hb6⟩
                rw [decide_eq_true HFd.out]
                have hL6 := HL5.out.up hb6
                have n6 := HN5.out.older hb6 HN5.out.lt
                obtain ⟨d0, d1, d2, d3, d4⟩ := five n6
                obtain ⟨q6, f6, g6, hah⟩ := hL6.ahead
                obtain ⟨⟨b0, b1, b2, b3, b4⟩, z0, z1, z2, z3, z4⟩ := five_cells hah
                have HN := Lib.hid (LookAt.store (op := some (op.getD [] ++ d.data.toList)) (nx := nx) (k := k + 1) hL6.row hL6.hd hah hL6.below e (k : Int) f false d rfl HRUN.out (by
                  show (op.getD [] ++ d.data.toList).length ≤ 96 * (k + 1)
                  have h1 := hL6.short
                  have h2 := HD96.out
                  rw [List.length_append]
                  omega) (Nat.le_succ_of_le hL6.few) (Nat.le_succ_of_le hL6.nxle))
                clear hb6 hL6 n6 hah HL5 HN5 HRUN HFd
                go_wp2_with fail
                go_roundw
                case rel => exact ⟨k + 1, nx, e, some (op.getD [] ++ d.data.toList), L, by omega, rfl, by rw [HSO.out], by go_num, HN.out⟩
                case measure => simp [intOf]; omega
              | true =>
                have HRUN := Lib.hid (HL5.out.whole hlt HG.out HF.out rfl S HSl.out)
                go_wp2_with fail
                refine (follows_any e (k : Int) f true d ep q' f' op.isNone d' _).mono ?_
                rintro x w6 ⟨rfl, hb6⟩
                rw [decide_eq_true HFd.out]
                have hL6 := HL5.out.up hb6
                have n6 := HN5.out.older hb6 HN5.out.lt
                obtain ⟨d0, d1, d2, d3, d4⟩ := five n6
                have hbs := hL6.below.size
                have hrow := hL6.row.alloc (.cells #[.string S] 9)
                have hfew := hL6.few
                have HL6 := Lib.hid hL6
                have HN6 := Lib.hid n6
                clear hb6 hL6 n6 HL5 HN5 HFd
                go_wp2_with (at_builtin; refine wpList_append_texts rfl (.tmp 62) (.tmp 64) rfl hrow (text_one w6 S) (by simp; omega) (by simp; omega) rfl rfl ?_; intro v7 w7 hown7 hgrow7; have hc7 := ch_of_append (T := Ts) hrow hgrow7 (fun _ => rfl); obtain ⟨q6, f6, g6, hah0⟩ := HL6.out.ahead; have hah := hc7.blk (hah0.alloc _) rfl; have n7 := hc7.blk (HN6.out.alloc _) rfl; obtain ⟨d0, d1, d2, d3, d4⟩ := five n7; obtain ⟨⟨b0, b1, b2, b3, b4⟩, z0, z1, z2, z3, z4⟩ := five_cells hah; have hbel := (HL6.out.below.alloc hbs (.cells #[.string S] 9)).trans (hc7.to_below (by simp; omega)); have HN := Lib.hid (LookAt.store (op := none) (nx := k + 1) (k := k + 1) hown7 (hc7.blk (HL6.out.hd.alloc _) rfl) hah hbel e (k : Int) f true d rfl HRUN.out (Nat.zero_le _) (by rw [List.length_append]; exact Nat.succ_le_succ hfew) (Nat.le_refl _)); clear hown7 hgrow7 hc7 hah0 hah n7 hbel hrow)
                go_roundw
                case rel => exact ⟨k + 1, k + 1, e, none, L ++ [S], by omega, by go_num, rfl, by go_num, HN.out⟩
                case measure => simp [intOf]; omega
            · have HS := Lib.hid (HL5.out.stop hlt (.inr ⟨_, hg, fun h => hF ((folw_fits (c := ⟨e, (k : Int), f, l, d.data.toList⟩) hq hle).2 h)⟩))
              have HFd := Lib.hid hF
              clear hF hg
              go_wp2_with fail
              refine (follows_any e (k : Int) f l d ep q' f' op.isNone d' _).mono ?_
              rintro x w6 ⟨rfl, hb6⟩
              rw [decide_eq_false HFd.out]
              have HL6 := Lib.hid (HL5.out.up hb6)
              clear hb6 HFd HL5
              go_wp2_with fail
              go_ret3
              exact look_end HS.out HL6.out hk
          · have HS := Lib.hid (HL5.out.stop hlt (.inr ⟨_, hg, fun h => hle h.2.2.1⟩))
            clear hg
            go_wp2_with fail
            go_ret3
            exact look_end HS.out HL5.out hk
        · have hqb : (q == (k : Int)) = false := by rw [beq_eq_false_iff_ne]; exact hq
          have hqn : (q != (k : Int)) = true := by rw [bne_iff_ne]; exact hq
          have HS := Lib.hid (HL5.out.stop hlt (.inr ⟨_, hg, fun h => hq h.1⟩))
          clear hg
          go_wp2_with fail
          go_ret3
          exact look_end HS.out HL5.out hk
      · have hE : Cn.decE s.data.toList = 21 := by unfold Cn.decE; rw [if_neg hC]
        have HS := Lib.hid (HL5.out.stop hlt (.inl (HHN.out hC)))
        rw [hE]
        clear hE HHF HHN
        go_wp2_with fail
        go_ret3
        exact look_end HS.out HL5.out hk
    · obtain rfl : k = 127 := by omega
      go_wp2_with fail
      go_ret3
      exact look_end HL.out.over HL.out hk

end Go.Proofs.YtimcepoleboldaaGreatDoor

/- What Open comes to, the program's. -/
namespace Go.Proofs.YtimcepoleboldaaGreatDoor
open Go.RowKit

def OpenPost [Keep] (B g : Nat) (st : Dk.St) (w : World) (e : Ending) (w' : World) : Prop :=
  Dsk w' B g (Lg.openR st).2 ∧ Ch Td B w w' ∧
  (((Lg.openR st).1 = 0 ∧ ∃ q v, e = .returned (.tuple #[.pointer (some ⟨q, 0, none⟩), v, .int .i64 0]) ∧ Lgw w' B q g (Lg.openLog st) ∧ RowS w' w.heap.size v (mks (Lg.openRecs st))) ∨
   ((Lg.openR st).1 ≠ 0 ∧ ∃ v, e = .returned (.tuple #[.pointer none, v, .int .i64 (Lg.openR st).1]) ∧ RowS w' w.heap.size v []))

theorem none_row (w : World) (base : Nat) : RowS w base (.slice none 0 0) [] := World.ownsRow_nil _ _ _ _

theorem open_bad [Keep] {B g : Nat} {st : Dk.St} {w w' : World} {E : Int} (h : Dsk w B g st) (hb : Below w.heap.size w w') (hr : Lg.openR st = (E, st)) (hE : E ≠ 0) :
    OpenPost B g st w (.returned (.tuple #[.pointer none, .slice none 0 0, .int .i64 E])) w' := by
  unfold OpenPost
  rw [hr]
  exact ⟨h.below hb, Ch.of_below hb, .inr ⟨hE, _, rfl, none_row _ _⟩⟩

theorem RowS.lower {w : World} {b b' : Nat} {v : Value} {l : List ByteArray} (h : RowS w b v l) (hb : b' ≤ b) : RowS w b' v l :=
  ⟨h.1, h.2.imp id fun ⟨g, cap, cur, e, h1, rest⟩ => ⟨g, cap, cur, e, Nat.le_trans hb h1, rest⟩⟩

/-- The world in which the log has been made. -/
theorem open_made {w w3 : World} {k g nx : Nat} {t : Lg.Top} (hH : Blk w3 k 108 (HdC t)) (hb : Below w.heap.size w w3) (hk : w.heap.size ≤ k) :
    let W := (w3.setCell ⟨k, 0, none⟩ (.int .i64 (t.e + 1))).alloc (.cells #[.pointer (some ⟨g, 0, none⟩), .int .i64 (t.e + 1), .int .i64 t.b, .int .i64 (t.h : Int), .int .i64 (nx : Int), .int .i64 0] 114)
    Blk W k 108 (HdC ⟨t.e + 1, t.b, t.h⟩) ∧ Blk W w3.heap.size 114 #[.pointer (some ⟨g, 0, none⟩), .int .i64 (t.e + 1), .int .i64 t.b, .int .i64 (t.h : Int), .int .i64 (nx : Int), .int .i64 0] ∧ Below w.heap.size w W ∧
      (∀ b v l, RowS w3 b v l → RowS W b v l) := by
  have hs : (w3.setCell ⟨k, 0, none⟩ (.int .i64 (t.e + 1))).heap.size = w3.heap.size := by simp [World.setCell]
  have h1 := hH.h0 (.int .i64 (t.e + 1))
  have n := Blk.new (w3.setCell ⟨k, 0, none⟩ (.int .i64 (t.e + 1))) 114 #[.pointer (some ⟨g, 0, none⟩), .int .i64 (t.e + 1), .int .i64 t.b, .int .i64 (t.h : Int), .int .i64 (nx : Int), .int .i64 0]
  rw [hs] at n
  have hb2 := gr_to_below (gr_set_new (gr_of_below hb none) hk 0 (.int .i64 (t.e + 1)))
  refine ⟨h1.alloc _, n, hb2.alloc hb2.size _, fun b v l hr => ?_⟩
  have hc : Ch (fun o => match o with | .cells _ t _ => t == 108 | _ => false) 0 w3 (w3.setCell ⟨k, 0, none⟩ (.int .i64 (t.e + 1))) := Ch.set hH (Nat.zero_le _) rfl 0 _
  exact World.ownsRow.alloc (owns_ch hr hc (fun _ => rfl)) _

set_option maxRecDepth 20000 in
set_option maxHeartbeats 2000000 in
theorem open_any [Keep] (B g : Nat) (st : Dk.St) (w : World) (h : Dsk w B g st) (hm : st.many ≤ 1000000) : Calls Tryz.prog 29 #[.pointer (some ⟨g, 0, none⟩)] w (OpenPost B g st w) := by
  have hmf : ∀ (fn : Fn) (first cap : Array Value) (w : World), (Instr.makeFunc fn first cap).run Tryz.prog w = .ok (.func fn first cap) w := fun _ _ _ _ => rfl
  have HN := Lib.hid (newest_any B g st w h)
  have HD := Lib.hid h
  have HM := Lib.hid hm
  clear h hm
  cases ho : st.off with
  | true =>
    have HR := Lib.hid (show Lg.openR st = (33, st) by unfold Lg.openR; rw [if_pos ho])
    have HO := Lib.hid ho
    clear ho
    go_enter Tryz.func29, Tryz.ntmps29
    go_wp2_with fail
    refine HN.out.mono ?_
    rintro e w1 ⟨rfl, hb1⟩
    rw [HO.out]
    simp only [if_true]
    have HB := Lib.hid ((hb1.alloc hb1.size (.cells #[.int .i64 0, .int .i64 0, .int .i64 0] 108)))
    clear hb1
    go_wp2_with fail
    go_ret3
    exact open_bad HD.out HB.out HR.out (by decide)
  | false =>
    have HO := Lib.hid ho
    have ht := top_good st.is
    obtain ⟨t, htt⟩ : ∃ t, t = Lg.top st.is := ⟨_, rfl⟩
    rw [← htt] at ht
    have HT := Lib.hid htt
    have HG := Lib.hid ht
    have hte := ht.2.2.1
    have ht0 : 0 ≤ t.e := by omega
    clear ho ht htt
    go_enter Tryz.func29, Tryz.ntmps29
    go_wp2_with fail
    refine HN.out.mono ?_
    rintro e w1 ⟨rfl, hb1⟩
    rw [HO.out, ← HT.out]
    simp only [Bool.false_eq_true, if_false]
    have HW1 := Lib.hid hb1.size
    have hb2 := hb1.alloc hb1.size (.cells (HdC t) 108)
    have hH := Blk.new w1 108 (HdC t)
    obtain ⟨⟨c0, c1, c2⟩, -⟩ := three hH
    have HB2 := Lib.hid hb2
    have HH := Lib.hid hH
    clear hb1 hb2 hH HN
    go_wp2_with fail
    generalize w1.alloc (.cells (HdC t) 108) = w2 at *
    refine (look_any B g st t w2 (HD.out.below HB2.out) HO.out HG.out.2.2.2).mono ?_
    rintro e w3 ⟨v, rfl, hrow, hb3, hn127⟩
    have hH3 := HH.out.older hb3 HH.out.lt
    have hw3 := HB2.out.trans (hb3.mono HB2.out.size)
    obtain ⟨⟨d0, d1, d2⟩, z0, z1, z2⟩ := three hH3
    obtain ⟨nx, hnx⟩ : ∃ nx, nx = (Lg.scan st.is t).2 := ⟨_, rfl⟩
    rw [← hnx] at hn127 ⊢
    have HNX := Lib.hid hnx
    have HH3 := Lib.hid hH3
    have HW3 := Lib.hid hw3
    have HROW := Lib.hid hrow
    clear c0 c1 c2 hrow hb3 hH3 hw3 hnx
    by_cases hfull : t.e = 1099511627776
    · have HR := Lib.hid (show Lg.openR st = (50, st) by unfold Lg.openR; rw [if_neg (by rw [HO.out]; decide), ← HT.out, if_pos hfull])
      go_wp2_with fail
      go_ret3
      exact open_bad HD.out HW3.out HR.out (by decide)
    · have hfb : (t.e == 1099511627776) = false := by rw [beq_eq_false_iff_ne]; exact hfull
      have hap : w1.heap.size ≠ w3.heap.size := fun e => by have := HH3.out.lt; omega
      have HK := Lib.hid (show w.heap.size ≤ w1.heap.size from HW1.out)
      obtain ⟨m1, m2, m3, m4⟩ := open_made (g := g) (nx := nx) HH3.out HW3.out HK.out
      have HT1 := Lib.hid (show Lg.openTop st = ⟨t.e + 1, t.b, t.h⟩ by unfold Lg.openTop; rw [← HT.out])
      have te1 : t.e + 1 ≤ 1099511627776 := by omega
      have HR := Lib.hid (show Lg.openR st = clR st (headCl ⟨t.e + 1, t.b, t.h⟩) by
        unfold Lg.openR headCl
        rw [if_neg (by rw [HO.out]; decide), ← HT.out, if_neg hfull, clR_head, HT1.out])
      have HM4 := Lib.hid m4
      obtain ⟨⟨k0, k1, k2⟩, -⟩ := three m1
      simp only at k0 k1 k2
      go_wp2_with fail
      generalize hw4 : (w3.setCell ⟨w1.heap.size, 0, none⟩ (.int .i64 (t.e + 1))).alloc (.cells #[.pointer (some ⟨g, 0, none⟩), .int .i64 (t.e + 1), .int .i64 t.b, .int .i64 (t.h : Int), .int .i64 (nx : Int), .int .i64 0] 114) = w4 at *
      have HMM := Lib.hid (And.intro m2 m3)
      have HM4' := Lib.hid (show RowS w4 w2.heap.size v (mks (Lg.scan st.is t).1) from HM4.out _ _ _ HROW.out)
      clear m1 m2 m3 m4 HM4 hw4 hap d0 d1 d2 z0 z1 z2 k0 k1 k2
      refine (puthead_any (fun _ => False) w3.heap.size g ⟨t.e + 1, t.b, t.h⟩ w4 (by show (0 : Int) ≤ t.e + 1; omega) HG.out.2.2.2).mono ?_
      rintro x w5 ⟨u, rfl, hu, hb5⟩
      have hu2 := hu
      obtain ⟨ca, cb, cn, cs5, rfl, -⟩ := hu2
      have HU := Lib.hid hu
      have HB5 := Lib.hid hb5
      clear hu hb5
      go_wp2_with fail
      have hrow6 := head_row (g := g) HU.out
      have hb6 := HB5.out.alloc HB5.out.size (.cells #[.func (.func 118) #[] #[.pointer (some ⟨ca, 0, none⟩), .pointer (some ⟨cb, 0, none⟩), .pointer (some ⟨cn, 0, none⟩)], .func (.func 21) #[.pointer (some ⟨g, 0, none⟩)] #[]] 54)
      have hb56 := (Below.refl w5.heap.size w5).alloc (Nat.le_refl _) (.cells #[.func (.func 118) #[] #[.pointer (some ⟨ca, 0, none⟩), .pointer (some ⟨cb, 0, none⟩), .pointer (some ⟨cn, 0, none⟩)], .func (.func 21) #[.pointer (some ⟨g, 0, none⟩)] #[]] 54)
      have hd4 : Dsk w4 B g st := HD.out.below HMM.out.2
      have hd6 := (hd4.free.with_new HB5.out).kept (T := fun _ => false) (B' := 0) (Ch.of_below hb56) (fun _ => rfl) (fun _ _ => rfl) (fun _ => rfl)
      have hB : B ≤ w3.heap.size ∧ ¬ Keep.p w3.heap.size := by
        obtain ⟨m, lv, tc, tf, n, hat, _⟩ := HD.out
        have h1 := hat.atg
        have h2 := hat.blk.lt
        have h3 := HW3.out.size
        exact ⟨by omega, fun hk => by have := (hat.free _ hk).1; omega⟩
      have hq6 := HMM.out.1.older hb6 HMM.out.1.lt
      refine (do_any _ B w5.heap.size w3.heap.size g st (headCl ⟨t.e + 1, t.b, t.h⟩) _ _ _ _ _ _ _ hd6 (by have := HM.out; show st.many + 2 ≤ 1073741824; omega) hq6 hB hrow6 (headCl_fit HG.out.1 (by show t.b ≤ t.e + 1; have := HG.out.2.1; omega) te1)).mono ?_
      rintro e w7 hpost
      have he := hpost.ret
      subst he
      obtain ⟨W, hcW, hW⟩ := hpost.last
      have hb46 : Below w.heap.size w _ := HMM.out.2.trans (hb6.mono HMM.out.2.size)
      have hctd : Ch Td B w w7 := by
        rw [hW]
        exact ((Ch.of_below hb46).trans hcW).set_new HW3.out.size _ _
      have hrow7 : RowS w7 w.heap.size v (mks (Lg.scan st.is t).1) := RowS.lower (owns_ch (owns_below HM4'.out hb6) hpost.ch (fun _ => rfl)) HB2.out.size
      obtain ⟨r, hr⟩ : ∃ r, r = clR st (headCl ⟨t.e + 1, t.b, t.h⟩) := ⟨_, rfl⟩
      have HRR := Lib.hid (HR.out.trans hr.symm)
      rw [← hr] at hpost ⊢
      have HF := Lib.hid (And.intro hpost.disk.dsk (And.intro hctd (And.intro hrow7 (And.intro hpost.log hB))))
      clear hpost hctd hrow7 hW hcW hb46 hq6 hd6 hd4 hb56 hb6 hrow6 hr HR hB W
      by_cases hE : r.1 = 0
      · have HE := Lib.hid hE
        rw [hE]
        clear hE
        go_wp2_with fail
        go_ret3
        unfold OpenPost
        rw [HRR.out]
        refine ⟨HF.out.1, HF.out.2.1, .inl ⟨HE.out, _, _, rfl, ⟨?_, HF.out.2.2.2.2, ?_⟩, ?_⟩⟩
        · have := HF.out.2.2.2.1
          unfold Lg.openLog
          rw [HT1.out, ← HT.out, ← HNX.out]
          rw [HE.out] at this
          exact this
        · unfold Lg.openLog
          rw [HT1.out, ← HT.out, ← HNX.out]
          exact ⟨HG.out.1, by show t.b ≤ t.e + 1; have := HG.out.2.1; omega, te1, HG.out.2.2.2, hn127⟩
        · unfold Lg.openRecs
          rw [← HT.out]
          exact HF.out.2.2.1
      · have hEb : (r.1 != 0) = true := by rw [bne_iff_ne]; exact hE
        have HE := Lib.hid hE
        go_wp2_with fail
        go_ret3
        unfold OpenPost
        rw [HRR.out]
        exact ⟨HF.out.1, HF.out.2.1, .inr ⟨HE.out, _, rfl, none_row _ _⟩⟩

end Go.Proofs.YtimcepoleboldaaGreatDoor

/- What New comes to: a disk of empty sectors. -/
namespace Go.Proofs.YtimcepoleboldaaGreatDoor
open Go.RowKit

theorem build_disk (w : World) (m : Nat) : (Instr.build 81 #[(1, .map (some m))]).run Tryz.prog w = .ok (.agg (rawOf Dk.St.new m (.slice none 0 0) 0 0).cells) w := by kernel_rfl

theorem wpList_build_disk (w : World) {ops : Array Oper} {rest : List Oper} {o : Oper} {a : Act} {Q : Exit → Act → World → Prop}
    (hg : o.guard = none) (x : Operand) (hop : o.op = Op.build 81 #[(1, x)]) (m : Nat) (hx : a.eval x = .map (some m))
    (hK : wpList Tryz.prog ops Q rest (a.put o.dst (.agg (rawOf Dk.St.new m (.slice none 0 0) 0 0).cells)) w) :
    wpList Tryz.prog ops Q (o :: rest) a w := by
  refine wpList_plain hg fun K' hK' => ?_
  have hrun := build_disk w m
  unfold Oper.wp
  simp [execOp, hop, hx, hrun, Result.andThen]
  exact hK' _ _ hK

theorem new_end (w : World) : Dsk ((w.alloc (.map #[] 0)).alloc (.cells (rawOf Dk.St.new w.heap.size (.slice none 0 0) 0 0).cells 81)) w.heap.size (w.heap.size + 1) Dk.St.new ∧
    Ch Td w.heap.size w ((w.alloc (.map #[] 0)).alloc (.cells (rawOf Dk.St.new w.heap.size (.slice none 0 0) 0 0).cells 81)) := by
  have hz : (w.alloc (.map #[] 0)).heap.size = w.heap.size + 1 := by simp
  have hb := Blk.new (w.alloc (.map #[] 0)) 81 (rawOf Dk.St.new w.heap.size (.slice none 0 0) 0 0).cells
  rw [hz] at hb
  refine ⟨⟨w.heap.size, .slice none 0 0, 0, 0, 0, { blk := hb, map := (MapIs.new w).grown (World.grownBy_alloc _ _ none) (by simp), row := World.ownsRow_nil _ _ _ _, atg := Nat.le_succ _, atm := Nat.le_refl _, cuts := rfl, tcle := by decide, fails := rfl, tfle := by decide, keep := by decide, inv := Dk.Inv.new, free := fun _ h => h.elim }, Nat.zero_le _⟩, ((Ch.refl _ _ _).alloc _).alloc _⟩

set_option maxRecDepth 20000 in
set_option maxHeartbeats 400000 in
theorem new_any (w : World) :
    Calls Tryz.prog 10 #[] w fun e w' => e = .returned (.pointer (some ⟨w.heap.size + 1, 0, none⟩)) ∧ Dsk w' w.heap.size (w.heap.size + 1) Dk.St.new ∧ Ch Td w.heap.size w w' := by
  have hmm := @run_makeMap Tryz.prog
  have HE := Lib.hid (new_end w)
  go_enter Tryz.func10, Tryz.ntmps10
  go_wp2_with (refine wpList_build_disk _ rfl _ rfl _ rfl ?_)
  go_ret
  exact ⟨rfl, HE.out.1, HE.out.2⟩

end Go.Proofs.YtimcepoleboldaaGreatDoor

/- The program's log: what its calls come to, all of it. -/

/- The program's store in memory: what keeps of it; Err, Bytes, Get, Keys. -/
namespace Go.Proofs.YtimcepoleboldaaGreatDoor
open Go.RowKit Go.Deep

/-! ### What may not change, as memory grows -/
abbrev more (K : Keep) (a b : Nat) : Keep := ⟨fun i => K.p i ∨ (a ≤ i ∧ i < b)⟩

section
variable {K : Keep} {w w' : World} {B g q : Nat} {st : Dk.St} {lo : Lg.Lo}
/-- What is new is none of a disk's blocks. -/
theorem dsk_more (h : @Dsk K w B g st) (hs : w.heap.size ≤ w'.heap.size) (hb : ∀ i, B ≤ i → i < w.heap.size → w'.heap[i]? = w.heap[i]?) : @Dsk (more K w.heap.size w'.heap.size) w' B g st := by
  obtain ⟨m, lv, tc, tf, n, h, hn⟩ := h
  have hblk := h.blk
  have hrow : w'.ownsRow B 3 1 lv st.loose.length (ints st.loose) ∧ ∀ k, lv.ownBlock = some k → k < w.heap.size := by
    refine ⟨⟨h.row.1, ?_⟩, fun k hk => ?_⟩
    · rcases h.row.2 with hn | ⟨b, cap, cur, rfl, h1, h2, rest⟩
      · exact .inl hn
      · exact .inr ⟨b, cap, cur, rfl, h1, (hb b h1 (lt_of_at h2)).trans h2, rest⟩
    · rcases h.row.2 with ⟨rfl, _⟩ | ⟨b, cap, cur, rfl, h1, h2, rest⟩
      · cases hk
      · simp [Value.ownBlock] at hk
        subst hk
        exact lt_of_at h2
  refine ⟨m, lv, tc, tf, n, { blk := hblk.move (hb g h.atg hblk.lt), map := h.map.move (hb m h.atm h.map.lt), row := hrow.1, atg := h.atg, atm := h.atm, cuts := h.cuts, tcle := h.tcle, fails := h.fails, tfle := h.tfle, keep := h.keep, inv := h.inv, free := ?_ }, hn⟩
  rintro k (hk | ⟨h1, h2⟩)
  · exact ⟨Nat.lt_of_lt_of_le (h.free k hk).1 hs, (h.free k hk).2⟩
  · exact ⟨h2, fun e => by have := hblk.lt; omega, fun e => by have := h.map.lt; omega, fun e => by have := hrow.2 k e; omega⟩
theorem lgw_more (h : @Lgw K w B q g lo) (hb : ∀ i, B ≤ i → i < w.heap.size → w'.heap[i]? = w.heap[i]?) : @Lgw (more K w.heap.size w'.heap.size) w' B q g lo := by
  refine ⟨h.1.move (hb q h.2.1.1 h.1.lt), ⟨h.2.1.1, ?_⟩, h.2.2⟩
  rintro (hk | ⟨h1, h2⟩)
  · exact h.2.1.2 hk
  · have := h.1.lt
    omega
end

/-- Block s is the program's store on the disk at block g, as ks says; its log is at block q, its table at tb, in the map at mb. -/
structure Kpwg [R : Rows] (K : Keep) (w : World) (B s q g tb mb n : Nat) (ks : Kp.Ks) : Prop where
  blk : Blk w s 76 #[.pointer (some ⟨q, 0, none⟩), .pointer (some ⟨tb, 0, none⟩), .int .i64 ks.room]
  ats : B ≤ s
  free : ¬ K.p s
  log : @Lgw K w B q g ks.lo
  tab : Tab w tb mb n ks.m
  kept : K.p mb
abbrev Kpw [K : Keep] [R : Rows] (w : World) (B s q g tb mb n : Nat) (ks : Kp.Ks) : Prop := Kpwg K w B s q g tb mb n ks

section
variable [R : Rows] {K : Keep} {w w' : World} {B s q g tb mb n : Nat} {ks : Kp.Ks}
theorem Kpwg.below (h : Kpwg K w B s q g tb mb n ks) (hb : Below w.heap.size w w') : Kpwg K w' B s q g tb mb n ks :=
  ⟨h.blk.older hb h.blk.lt, h.ats, h.free, h.log.below hb, h.tab.below hb, h.kept⟩
/-- A store that lies in what may not change. -/
theorem Kpwg.more_at {K' : Keep} {T : Obj → Bool} {B' : Nat} (h : Kpwg K w B s q g tb mb n ks) (hc : @Ch K' T B' w w') (hk : ∀ i, B ≤ i → i < w.heap.size → K'.p i) (hm : K'.p mb) (h1 : ∀ cs, T (.cells cs 86 (0, 0)) = false) (h2 : ∀ cs, T (.cells cs 32 (0, 0)) = false) :
    Kpwg (more K w.heap.size w'.heap.size) w' B s q g tb mb n ks := by
  have hsame : ∀ i, B ≤ i → i < w.heap.size → w'.heap[i]? = w.heap[i]? := fun i hi hl => hc.keep hl (hk i hi hl)
  refine ⟨h.blk.move (hsame s h.ats h.blk.lt), h.ats, ?_, lgw_more h.log hsame, h.tab.kept hc hm h1 h2, .inl h.kept⟩
  rintro (hk | ⟨h3, h4⟩)
  · exact h.free hk
  · have := h.blk.lt
    omega
end

theorem serr_any [Keep] [Rows] (B s q g tb mb n : Nat) (ks : Kp.Ks) (w : World) (h : Kpw w B s q g tb mb n ks) : Calls Tryz.prog 33 #[.pointer (some ⟨s, 0, none⟩)] w fun e w' => e = .returned (.int .i64 ks.lo.wrong) ∧ w = w' := by
  obtain ⟨c0, -, -⟩ := cells_three h.blk
  have HE := Lib.hid (err_any B q g ks.lo w h.log)
  clear h
  go_enter Tryz.func33, Tryz.ntmps33
  go_wp2_with fail
  refine HE.out.mono ?_
  rintro e w2 ⟨rfl, rfl⟩
  go_wp2_with fail
  go_ret
  exact ⟨rfl, rfl⟩
theorem sbytes_any [Keep] [Rows] (B s q g tb mb n : Nat) (ks : Kp.Ks) (w : World) (h : Kpw w B s q g tb mb n ks) : Calls Tryz.prog 15 #[.pointer (some ⟨s, 0, none⟩)] w fun e w' => e = .returned (.int .i64 ((Kp.size ks.m : Nat) : Int)) ∧ w = w' := by
  obtain ⟨-, c1, -⟩ := cells_three h.blk
  obtain ⟨G, D, ht⟩ := h.tab
  obtain ⟨-, t1, -⟩ := cells_two ht.blk
  clear h ht
  go_enter Tryz.func15, Tryz.ntmps15
  go_wp2_with fail
  go_ret
  exact ⟨rfl, rfl⟩
theorem sget_any [Keep] [Rows] (B s q g tb mb n : Nat) (ks : Kp.Ks) (key : ByteArray) (w : World) (h : Kpw w B s q g tb mb n ks) (hk : key.size ≤ maxLen) (hm : ks.m.length ≤ 1000000) :
    Calls Tryz.prog 16 #[.pointer (some ⟨s, 0, none⟩), .string key] w (GetPost (Kp.look ks.m key) w) := by
  obtain ⟨-, c1, -⟩ := cells_three h.blk
  have HG := Lib.hid (get_any tb mb n ks.m key w h.tab hk hm)
  clear h
  go_enter Tryz.func16, Tryz.ntmps16
  go_wp2_with fail
  refine HG.out.mono ?_
  rintro e w2 ⟨rfl, hb⟩
  have HB := Lib.hid hb
  clear hb
  go_wp2_with fail
  go_ret2
  exact ⟨rfl, HB.out⟩

def KeysPost (m : Kp.Mp) (w : World) (e : Ending) (w' : World) : Prop := ∃ v, e = .returned v ∧ RowS w' w.heap.size v (m.map (·.1)) ∧ Below w.heap.size w w'
theorem key_one (w : World) (s : ByteArray) : Strs (w.alloc (.cells #[.string s] 9)) (.slice (some ⟨w.heap.size, 0, none⟩) 1 1) [s] :=
  ⟨some ⟨w.heap.size, 0, none⟩, 1, rfl, ⟨Nat.le_refl _, fun h => nomatch h⟩, fun j x hj => by
    match j, hj with
    | 0, hj =>
      simp at hj
      subst hj
      refine ⟨w.heap.size, 0, rfl, by simp, ?_⟩
      simp
    | j + 1, hj => simp at hj⟩
theorem rows_lt {w : World} {base : Nat} {v : Value} {l : List ByteArray} (h : RowS w base v l) {g : Nat} (hv : v.ownBlock = some g) : base ≤ g := by
  rcases h.2 with ⟨rfl, _⟩ | ⟨g', cap, cur, rfl, hb, hg, _⟩
  · cases hv
  · simp [Value.ownBlock] at hv
    subst hv
    exact hb
theorem keys_up {m : Kp.Mp} {k : Nat} {x : ByteArray × ByteArray} (h : m[k]? = some x) : (m.take (k + 1)).map (·.1) = (m.take k).map (·.1) ++ [x.1] := by
  obtain ⟨h1, rfl⟩ := List.getElem?_eq_some_iff.1 h
  rw [List.take_succ_eq_append_getElem h1, List.map_append]
  rfl
theorem key_two (w : World) (o : Obj) (s : ByteArray) : Strs ((w.alloc o).alloc (.cells #[.string s] 9)) (.slice (some ⟨w.heap.size + 1, 0, none⟩) 1 1) [s] := by
  have := key_one (w.alloc o) s
  rw [show (w.alloc o).heap.size = w.heap.size + 1 by simp] at this
  exact this

set_option maxRecDepth 20000 in
set_option maxHeartbeats 800000 in
theorem skeys_any [Keep] [Rows] (B s q g tb mb n : Nat) (ks : Kp.Ks) (w : World) (h : Kpw w B s q g tb mb n ks) (hm : ks.m.length ≤ 1000000) :
    Calls Tryz.prog 14 #[.pointer (some ⟨s, 0, none⟩)] w (KeysPost ks.m w) := by
  obtain ⟨-, c1, -⟩ := cells_three h.blk
  have HP := Lib.hid (puts_any tb mb n ks.m w h.tab hm)
  obtain ⟨m, hmm⟩ : ∃ m, m = ks.m := ⟨_, rfl⟩
  rw [← hmm] at HP hm ⊢
  have hmi : (m.length : Int) ≤ 1000000 := by omega
  clear h hmm
  go_enter Tryz.func14, Tryz.ntmps14
  go_wp2_with fail
  refine HP.out.mono ?_
  rintro e w2 ⟨v, rfl, hrow, hb⟩
  obtain ⟨A, cap, hv, hat⟩ := hrow.recs
  rw [puts_length] at hv
  subst hv
  have HA := Lib.hid hat
  have HB := Lib.hid hb
  clear hrow hat hb c1
  go_wp2_with fail
  go_loopw [3, 12] (fun v i wr => ∃ j : Nat, j ≤ m.length ∧ i = .int .i64 (j : Int) ∧ RowS wr w2.heap.size v ((m.take j).map (·.1)) ∧ Below w2.heap.size w2 wr) (fun _ i _ => m.length - (intOf i).toNat)
  case atStart => exact ⟨0, Nat.zero_le _, rfl, World.ownsRow_nil _ _ _ _, Below.refl _ _⟩
  case round =>
    obtain ⟨j, hj, rfl, hR, hb2⟩ := hrel
    have HR := Lib.hid hR
    have HB2 := Lib.hid hb2
    by_cases hlt : j < m.length
    · obtain ⟨x, hx⟩ : ∃ x, m[j]? = some x := ⟨_, List.getElem?_eq_getElem hlt⟩
      obtain ⟨-, b1, o1, rfl, l1, e0, e1, e2⟩ := HA.out j _ (puts_at hx)
      have d0 := (hb2.cell (p := ⟨b1, o1 + j * 3, none⟩) l1).trans e0
      have d1 := (hb2.cell (p := ⟨b1, o1 + j * 3 + 1, none⟩) l1).trans e1
      have d2 := (hb2.cell (p := ⟨b1, o1 + j * 3 + 2, none⟩) l1).trans e2
      simp only at d0 d1 d2
      have hji : (j : Int) < (m.length : Int) := by omega
      have HX := Lib.hid hx
      have HLT := Lib.hid (show ((m.take j).map (·.1)).length + 1 ≤ 1048576 ∧ w2.heap.size ≤ wr.heap.size from ⟨by simp; omega, hb2.size⟩)
      clear e0 e1 e2 hR hb2 hx
      go_wp2_with (at_builtin; refine wpList_append_texts rfl (.tmp 16) (.tmp 19) rfl (World.ownsRow.alloc (World.ownsRow.alloc HR.out _) _) (key_two wr _ x.1) HLT.out.1 (by have := HLT.out.2; simp; omega) rfl rfl ?_; intro v7 w7 hrow7 hgrow7; have HN := Lib.hid (show RowS w7 w2.heap.size v7 ((m.take (j + 1)).map (·.1)) by rw [keys_up HX.out]; exact hrow7); have HC := Lib.hid (gr_to_below (gr_row (gr_trans (gr_of_below HB2.out none) (gr_of_below (((Below.refl wr.heap.size wr).alloc (Nat.le_refl _) (.cells #[.int .i64 1, .string x.1, .string x.2] 32)).alloc (by simp) (.cells #[.string x.1] 9)) none)) hgrow7 (fun g hg' => rows_lt HR.out hg'))); clear hrow7 hgrow7)
      go_roundw
      case rel => exact ⟨j + 1, by omega, by go_num, HN.out, HC.out⟩
      case measure => simp [intOf]; omega
    · have he : m.take j = m := List.take_of_length_le (by omega)
      rw [he] at HR
      clear hR hb2 he
      go_wp2_with fail
      go_ret
      exact ⟨_, rfl, RowS.lower HR.out HB.out.size, HB.out.trans (HB2.out.mono HB.out.size)⟩
end Go.Proofs.YtimcepoleboldaaGreatDoor

/- What Record comes to, the program's. -/
namespace Go.Proofs.YtimcepoleboldaaGreatDoor
open Go.RowKit

theorem recd_add (k : Int) (key val : List UInt8) : Pk.recd k key val = (Pk.code (Pk.cl k) ++ Pk.texted key) ++ (if k = 1 then Pk.texted val else []) := rfl

theorem rec_three {w : World} {g : Nat} {t : TypeId} {x y z : Value} (h : Blk w g t #[x, y, z]) : w.cell? ⟨g, 0, none⟩ = some x ∧ w.cell? ⟨g, 1, none⟩ = some y ∧ w.cell? ⟨g, 2, none⟩ = some z := by
  have c0 := h.cell 0
  have c1 := h.cell 1
  have c2 := h.cell 2
  simp at c0 c1 c2
  exact ⟨c0, c1, c2⟩

theorem recd_one (key val : List UInt8) : (([] ++ Pk.code (Pk.cl 1)) ++ Pk.texted key) ++ Pk.texted val = Pk.recd 1 key val := by
  rw [recd_add, if_pos rfl, List.nil_append]
theorem recd_other (k : Int) (hk : ¬ k = 1) (key val : List UInt8) : ([] ++ Pk.code (Pk.cl k)) ++ Pk.texted key = Pk.recd k key val := by
  rw [recd_add, if_neg hk, List.nil_append, List.append_nil]

theorem texted_len (s : ByteArray) (h : s.size ≤ 1048576) : (Pk.texted s.data.toList).length ≤ 2097152 := by
  have := Pk.code_len8 s.data.toList.length (by simp; omega)
  simp only [Pk.texted, List.length_append, toList_len] at this ⊢
  omega

set_option maxRecDepth 20000 in
set_option maxHeartbeats 400000 in
theorem record_any (k : Int) (key val : ByteArray) (w : World) (hk : key.size ≤ 1048576) (hv : val.size ≤ 1048576) :
    Calls Tryz.prog 104 #[.agg #[.int .i64 k, .string key, .string val]] w fun e w' => e = .returned (.string ⟨(Pk.recd k key.data.toList val.data.toList).toArray⟩) ∧ Below w.heap.size w w' := by
  have hnew := Wr.new (w.alloc (.cells #[.int .i64 k, .string key, .string val] 32))
  have hsz : (w.alloc (.cells #[.int .i64 k, .string key, .string val] 32)).heap.size = w.heap.size + 1 := by simp
  rw [hsz] at hnew
  have hb := (Blk.new w 32 #[.int .i64 k, .string key, .string val]).alloc (.cells #[.pointer none, .int .i64 0] 155)
  have hg : w.grownBy ((w.alloc (.cells #[.int .i64 k, .string key, .string val] 32)).alloc (.cells #[.pointer none, .int .i64 0] 155)) none := gr_alloc (gr_alloc (gr_refl w _) _) _
  have hl1 := Pk.code_len8 _ (Pk.cl_le k)
  have hl2 := texted_len key hk
  have hl3 := texted_len val hv
  have hB : w.heap.size ≤ w.heap.size + 1 := by omega
  have ho := recd_one key.data.toList val.data.toList
  have hoth := fun hk1 => recd_other k hk1 key.data.toList val.data.toList
  have HO := Lib.hid ho; have HOT := Lib.hid hoth
  clear ho hoth
  go_enter Tryz.func104, Tryz.ntmps104
  go_wp2_with fail
  generalize (w.alloc (.cells #[.int .i64 k, .string key, .string val] 32)).alloc (.cells #[.pointer none, .int .i64 0] 155) = w1 at *
  refine (number_any (w.heap.size + 1) k [] w1 hnew (by simp)).mono ?_
  rintro e w2 ⟨rfl, hW2, hg2⟩
  have hb2 := hb.grown hg2 (by intro e; injection e; omega)
  have hgg2 := gr_new hg hg2 hB
  obtain ⟨c0, c1, c2⟩ := rec_three hb2
  clear hnew hg hg2 hb hsz
  go_wp2_with fail
  refine (text_any (w.heap.size + 1) key _ w2 hW2 (by simp; omega) (by omega)).mono ?_
  rintro e w3 ⟨rfl, hW3, hg3⟩
  have hb3 := hb2.grown hg3 (by intro e; injection e; omega)
  have hgg3 := gr_new hgg2 hg3 hB
  clear c0 c1 c2
  obtain ⟨c0, c1, c2⟩ := rec_three hb3
  clear hW2 hg3 hb2 hgg2
  by_cases h1 : k = 1
  · subst h1
    go_wp2_with fail
    refine (text_any (w.heap.size + 1) val _ w3 hW3 (by simp; omega) (by omega)).mono ?_
    rintro e w4 ⟨rfl, hW4, hg4⟩
    have hgg4 := gr_new hgg3 hg4 hB
    rw [HO.out] at hW4
    have hlen : (Pk.recd 1 key.data.toList val.data.toList).length ≤ 1099511627776 := by
      rw [← HO.out]; simp only [List.length_append, List.length_nil]; omega
    clear hW3 hg4 hgg3 hb3 c0 c1 c2
    go_wp2_with (go_at_call 105; refine (bytes_any (w.heap.size + 1) _ _ hW4 hlen).mono ?_; rintro e w5 ⟨rfl, hb5⟩)
    go_ret
    exact ⟨rfl, (gr_to_below hgg4).trans (hb5.mono hgg4.size)⟩
  · rw [HOT.out h1] at hW3
    have hlen : (Pk.recd k key.data.toList val.data.toList).length ≤ 1099511627776 := by
      rw [← HOT.out h1]; simp only [List.length_append, List.length_nil]; omega
    go_wp2_with (go_at_call 105; refine (bytes_any (w.heap.size + 1) _ _ hW3 hlen).mono ?_; rintro e w5 ⟨rfl, hb5⟩)
    go_ret
    exact ⟨rfl, (gr_to_below hgg3).trans (hb5.mono hgg3.size)⟩

end Go.Proofs.YtimcepoleboldaaGreatDoor

/- What batch comes to: records as bytes. -/
namespace Go.Proofs.YtimcepoleboldaaGreatDoor
open Go.RowKit Go.Deep

theorem encs_up {l : List Kp.Rc} {k : Nat} {x : Kp.Rc} (h : l[k]? = some x) : ((l.take (k + 1)).map Kp.enc1).flatten = ((l.take k).map Kp.enc1).flatten ++ Kp.enc1 x := by
  obtain ⟨h1, rfl⟩ := List.getElem?_eq_some_iff.1 h
  rw [List.take_succ_eq_append_getElem h1, List.map_append, List.flatten_append]
  simp
theorem heavy_take_le (l : List Kp.Rc) (j : Nat) : Kp.heavy (l.take j) ≤ Kp.heavy l := by
  induction l generalizing j with
  | nil => simp
  | cons y l ih =>
    match j with
    | 0 => exact Nat.zero_le _
    | j + 1 =>
      show y.key.size + y.val.size + Kp.heavy (l.take j) ≤ y.key.size + y.val.size + Kp.heavy l
      have := ih j
      omega

set_option maxRecDepth 20000 in
set_option maxHeartbeats 800000 in
theorem batch_any (l : List Kp.Rc) (vl : Value) (w : World) (hl : Recs w vl l) (hs : Kp.heavy l ≤ 1000000) (hm : l.length ≤ 1000000) :
    Calls Tryz.prog 70 #[vl] w fun e w' => e = .returned (.string ⟨(Kp.batch l).toArray⟩) ∧ Below w.heap.size w w' := by
  obtain ⟨A, cap, hv⟩ : ∃ A cap, vl = .slice A l.length cap := by obtain ⟨A, cap, e, _⟩ := hl; exact ⟨A, cap, e⟩
  subst hv
  have hleni : (l.length : Int) ≤ 1000000 := by omega
  have HL := Lib.hid hl
  have HS := Lib.hid hs
  have HM := Lib.hid hm
  have hnew := Wr.new w
  have hb1 : Below w.heap.size w (w.alloc (.cells #[.pointer none, .int .i64 0] 155)) := (Below.refl _ _).alloc (Nat.le_refl _) _
  have HB1 := Lib.hid hb1
  have HN := Lib.hid ((number_any w.heap.size (l.length : Int) [] _ hnew (Nat.zero_le _)))
  clear hl hs hm hnew hb1
  go_enter Tryz.func70, Tryz.ntmps70
  go_wp2_with fail
  refine HN.out.mono ?_
  rintro e w2 ⟨rfl, hw2, hg2⟩
  rw [List.nil_append, Pk.cl_nat _ (by omega)] at hw2
  have HW2 := Lib.hid hw2
  have HB2 := Lib.hid (gr_to_below (gr_new (gr_of_below HB1.out none) hg2 (Nat.le_refl _)))
  clear hw2 hg2 HN
  go_wp2_with fail
  go_loopw [11] (fun i wr => ∃ j : Nat, j ≤ l.length ∧ i = .int .i64 (j : Int) ∧ Wr wr w.heap.size (Pk.code l.length ++ ((l.take j).map Kp.enc1).flatten) ∧ Below w.heap.size w wr) (fun i _ => l.length - (intOf i).toNat)
  case atStart => exact ⟨0, Nat.zero_le _, rfl, by simpa using HW2.out, HB2.out⟩
  case round =>
    obtain ⟨j, hj, rfl, hW, hb⟩ := hrel
    have HW := Lib.hid hW
    have HB := Lib.hid hb
    have hbound : (Pk.code l.length ++ ((l.take j).map Kp.enc1).flatten).length ≤ 549755813888 := by
      have h1 := Kp.encs_le (l.take j) (by have := heavy_take_le l j; have := HS.out; omega)
      have h2 := Kp.code_le l.length (by have := HM.out; omega)
      have h3 := heavy_take_le l j
      have h4 : (l.take j).length ≤ l.length := by rw [List.length_take]; omega
      have := HS.out
      have := HM.out
      rw [List.length_append]
      omega
    have HBD := Lib.hid hbound
    clear hbound
    by_cases hlt : j < l.length
    · obtain ⟨x, hx⟩ : ∃ x, l[j]? = some x := ⟨_, List.getElem?_eq_getElem hlt⟩
      obtain ⟨A', cap', hv, hat⟩ := HL.out.below hb
      injection hv with hv1 hv2 hv3
      subst hv1 hv3
      obtain ⟨-, b1, o1, rfl, l1, d0, d1, d2⟩ := hat j x hx
      have hji : (j : Int) < (l.length : Int) := by omega
      have HX := Lib.hid hx
      have HSZ := Lib.hid (show x.key.size ≤ 1048576 ∧ x.val.size ≤ 1048576 from by have := heavy_take l j hx; have := HS.out; omega)
      have hb0 : Below wr.heap.size wr (wr.alloc (.cells #[.int .i64 x.k, .string x.key, .string x.val] 32)) := (Below.refl _ _).alloc (Nat.le_refl _) _
      have HB0 := Lib.hid hb0
      clear hx hat hv2 hW hb hb0
      go_wp2_with fail
      refine (record_any x.k x.key x.val _ HSZ.out.1 HSZ.out.2).mono ?_
      rintro e w3 ⟨rfl, hb3⟩
      have hW3 := (HW.out.quiet (gr_of_below HB0.out none)).quiet (gr_of_below hb3 none)
      have HB3 := Lib.hid ((HB.out.trans (HB0.out.mono HB.out.size)).trans (hb3.mono (HB.out.trans (HB0.out.mono HB.out.size)).size))
      have HT := Lib.hid (text_any w.heap.size ⟨(Pk.recd x.k x.key.data.toList x.val.data.toList).toArray⟩ _ w3 hW3 HBD.out (by have := Kp.recd_le x.k x.key.data.toList x.val.data.toList (by rw [Kp.data_len]; exact HSZ.out.1) (by rw [Kp.data_len]; exact HSZ.out.2); have h1 := HSZ.out; rw [Kp.data_len, Kp.data_len] at this; simp [ByteArray.size]; omega))
      clear hb3 hW3 d0 d1 d2
      go_wp2_with fail
      refine HT.out.mono ?_
      rintro e w4 ⟨rfl, hw4, hg4⟩
      have e4 : (Pk.code l.length ++ ((l.take j).map Kp.enc1).flatten) ++ Pk.texted (⟨(Pk.recd x.k x.key.data.toList x.val.data.toList).toArray⟩ : ByteArray).data.toList = Pk.code l.length ++ ((l.take (j + 1)).map Kp.enc1).flatten := by
        rw [encs_up HX.out, List.append_assoc]
        rfl
      rw [e4] at hw4
      have HW4 := Lib.hid hw4
      have HB4 := Lib.hid (gr_to_below (gr_new (gr_of_below HB3.out none) hg4 (Nat.le_refl _)))
      clear hw4 hg4 e4 HT
      go_wp2_with fail
      go_roundw
      case rel => exact ⟨j + 1, by omega, by go_num, HW4.out, HB4.out⟩
      case measure => simp [intOf]; omega
    · have he : l.take j = l := List.take_of_length_le (by omega)
      rw [he] at HW HBD
      have HF := Lib.hid (bytes_any w.heap.size _ wr HW.out (by have := HBD.out; omega))
      clear hW hb he
      go_wp2_with fail
      refine HF.out.mono ?_
      rintro e w5 ⟨rfl, hb5⟩
      have HB5 := Lib.hid (HB.out.trans (hb5.mono HB.out.size))
      clear hb5
      go_wp2_with fail
      go_ret
      exact ⟨rfl, HB5.out⟩
end Go.Proofs.YtimcepoleboldaaGreatDoor

/- What write of the program's store comes to. -/
namespace Go.Proofs.YtimcepoleboldaaGreatDoor
open Go.RowKit Go.Deep

def mkB (l : List Kp.Rc) : ByteArray := ⟨(Kp.batch l).toArray⟩
theorem bls_mkB (l : List Kp.Rc) : bls [mkB l] = [Kp.batch l] := rfl
theorem mkB_size (l : List Kp.Rc) : (mkB l).size = (Kp.batch l).length := by simp [mkB, ByteArray.size]

def WritesPost [Keep] (B q g : Nat) (ks : Kp.Ks) (st : Dk.St) (l : List Kp.Rc) (w : World) (e : Ending) (w' : World) : Prop :=
  e = .returned (.int .i64 (Kp.writeK ks st l).1) ∧ Dsk w' B g (Kp.writeK ks st l).2.1 ∧ Lgw w' B q g (Kp.writeK ks st l).2.2.lo ∧ Ch Tl B w w'

theorem writeK_no {ks : Kp.Ks} {st : Dk.St} {l : List Kp.Rc} (h : (Lg.appendR ks.lo st [Kp.batch l]).1 ≠ 50) :
    (Kp.writeK ks st l).1 = (Lg.appendR ks.lo st [Kp.batch l]).1 ∧ (Kp.writeK ks st l).2.1 = (Lg.appendR ks.lo st [Kp.batch l]).2.1 ∧ (Kp.writeK ks st l).2.2.lo = (Lg.appendR ks.lo st [Kp.batch l]).2.2 := by
  unfold Kp.writeK
  simp only [h, if_false]
  exact ⟨trivial, trivial, trivial⟩
theorem writeK_yes {ks : Kp.Ks} {st : Dk.St} {l : List Kp.Rc} (h : (Lg.appendR ks.lo st [Kp.batch l]).1 = 50) :
    let a := Lg.appendR ks.lo st [Kp.batch l]
    let r := Lg.renewR a.2.2 a.2.1 [Kp.batch (Kp.puts (Kp.all ks.m l))]
    (Kp.writeK ks st l).1 = r.1 ∧ (Kp.writeK ks st l).2.1 = r.2.1 ∧ (Kp.writeK ks st l).2.2.lo = r.2.2 := by
  unfold Kp.writeK
  simp only [h, if_true]
  exact ⟨trivial, trivial, trivial⟩

theorem heavy_puts : ∀ m : Kp.Mp, Kp.heavy (Kp.puts m) = Kp.size m
  | [] => rfl
  | e :: m => by
    show e.1.size + e.2.size + Kp.heavy (Kp.puts m) = e.1.size + e.2.size + Kp.size m
    rw [heavy_puts m]

set_option maxRecDepth 20000 in
set_option maxHeartbeats 2000000 in
theorem write_store [K : Keep] [R : Rows] (B s q g tb mb n : Nat) (v1 v2 : Value) (ks : Kp.Ks) (st : Dk.St) (l : List Kp.Rc) (vl : Value) (w : World) (hd : Dsk w B g st) (hb : Blk w s 76 #[.pointer (some ⟨q, 0, none⟩), v1, v2]) (hlg : Lgw w B q g ks.lo)
    (ht : Tab w tb mb n (Kp.all ks.m l)) (hl : Recs w vl l) (hs : Kp.size ks.m + Kp.heavy l ≤ 200000) (hm : ks.m.length + l.length ≤ 20000) (hn : st.many ≤ 900000) (hmb : K.p mb) :
    Calls Tryz.prog 37 #[.pointer (some ⟨s, 0, none⟩), vl, .pointer (some ⟨tb, 0, none⟩)] w (WritesPost B q g ks st l w) := by
  have h1 := Kp.size_all_le l ks.m
  have h2 := Kp.length_all_le l ks.m
  have hp1 := heavy_puts (Kp.all ks.m l)
  have hp2 := puts_length (Kp.all ks.m l)
  have hz1 := Kp.batch_le (l := l) (by omega) (by omega)
  have hz2 := Kp.batch_le (l := Kp.puts (Kp.all ks.m l)) (by omega) (by omega)
  have HZ := Lib.hid (show (mkB l).size ≤ 900000 ∧ (mkB (Kp.puts (Kp.all ks.m l))).size ≤ 900000 ∧ Kp.heavy (Kp.puts (Kp.all ks.m l)) ≤ 1000000 ∧ (Kp.puts (Kp.all ks.m l)).length ≤ 1000000 ∧ (Kp.all ks.m l).length ≤ 1000000 by rw [mkB_size, mkB_size]; omega)
  have HS := Lib.hid (show Kp.heavy l ≤ 1000000 ∧ l.length ≤ 1000000 by omega)
  have HD := Lib.hid hd
  have HB := Lib.hid hb
  have HG := Lib.hid hlg
  have HT := Lib.hid ht
  have HL := Lib.hid hl
  have HN := Lib.hid hn
  obtain ⟨c0, -, -⟩ := cells_three hb
  have hslt := hb.lt
  clear hd hb hlg ht hl hs hm hn h1 h2 hp1 hp2 hz1 hz2
  go_enter Tryz.func37, Tryz.ntmps37
  go_wp2_with fail
  go_region_held3 (fun W => W.cell? ⟨s, 0, none⟩ = some (.pointer (some ⟨q, 0, none⟩))) (first | assumption | exact c0 | exact (cells_three (B2.alloc _)).1 | go_keep)
    (first
    | (go_at_call 70; refine (batch_any l vl w.drew (HL.out.below (Below.refl _ _).drew) HS.out.1 HS.out.2).mono ?_; rintro x w2 ⟨rfl, hb2⟩; have B2 := HB.out.drew.older hb2 HB.out.drew.lt; have s2 := (cells_three B2).1; have HB2 := Lib.hid (show Below w.heap.size w w2 from ((Below.refl w.heap.size w).drew).trans (hb2.mono (Nat.le_refl _))))
    | (go_at_call 69; have hbw := HB2.out.alloc HB2.out.size (.cells #[.string (mkB l)] 9); refine (append_any B q g ks.lo st _ [mkB l] (w2.alloc (.cells #[.string (mkB l)] 9)) (HD.out.below hbw) (HG.out.below hbw) (key_one w2 (mkB l)) (by have := HZ.out.1; simp [size]; omega) (by have := HN.out; omega)).mono ?_; rintro x w4 ⟨rfl, hd4, hl4, hc4⟩; have s4 := (cells_three (hc4.blk (B2.alloc _) rfl)).1))
  all_goals
    have hbw := HB2.out.alloc HB2.out.size (.cells #[.string (mkB l)] 9)
    have B4 := hc4.blk (B2.alloc (.cells #[.string (mkB l)] 9)) rfl
    have HT4 := Lib.hid ((HT.out.below hbw).kept hc4 hmb (fun _ => rfl) (fun _ => rfl))
    have HC4 := Lib.hid ((Ch.of_below (T := Tl) (B := B) hbw).trans hc4)
    have HM4 := Lib.hid (show (Lg.appendR ks.lo st (bls [mkB l])).2.1.many ≤ 1000000 by have := Lg.many_appendR ks.lo st (bls [mkB l]); have := HN.out; omega)
    have HD4 := Lib.hid hd4
    have HL4 := Lib.hid hl4
    have HB4 := Lib.hid B4
    clear hbw hd4 hl4 hc4 s2 c0 hslt hmb
    obtain ⟨c4, -, -⟩ := cells_three B4
    have hs4 := B4.lt
    clear B4 B2 s4
    by_cases hE : (Lg.appendR ks.lo st [Kp.batch l]).1 = 50
    · have HW := Lib.hid (writeK_yes hE)
      have hE' : (Lg.appendR ks.lo st (bls [mkB l])).1 = 50 := hE
      rw [hE']
      clear hE hE'
      go_wp2_with fail
      go_region_held3 (fun W => W.cell? ⟨s, 0, none⟩ = some (.pointer (some ⟨q, 0, none⟩))) (first | assumption | exact c4 | exact (cells_three (B6.alloc _)).1 | go_keep)
        (first
        | (go_at_call 39; refine (puts_any tb mb n _ w4.drew (HT4.out.below (Below.refl _ _).drew) HZ.out.2.2.2.2).mono ?_; rintro x w5 ⟨vp, rfl, hrow5, hb5⟩; have B5 := HB4.out.drew.older hb5 HB4.out.drew.lt; have s5 := (cells_three B5).1; have HB5 := Lib.hid (show Below w4.heap.size w4 w5 from ((Below.refl w4.heap.size w4).drew).trans (hb5.mono (Nat.le_refl _))))
        | (go_at_call 70; refine (batch_any (Kp.puts (Kp.all ks.m l)) vp w5 hrow5.recs HZ.out.2.2.1 HZ.out.2.2.2.1).mono ?_; rintro x w6 ⟨rfl, hb6⟩; have B6 := B5.older hb6 B5.lt; have s6 := (cells_three B6).1; have HB6 := Lib.hid (HB5.out.trans (hb6.mono HB5.out.size)))
        | (go_at_call 71; have hbx := HB6.out.alloc HB6.out.size (.cells #[.string (mkB (Kp.puts (Kp.all ks.m l)))] 9); refine (renew_any B q g _ _ _ [mkB (Kp.puts (Kp.all ks.m l))] (w6.alloc (.cells #[.string (mkB (Kp.puts (Kp.all ks.m l)))] 9)) (HD4.out.below hbx) (HL4.out.below hbx) (key_one w6 (mkB (Kp.puts (Kp.all ks.m l)))) (by have := HZ.out.2.1; simp [size]; omega) HM4.out).mono ?_; rintro x w8 ⟨rfl, hd8, hl8, hc8⟩; have s8 := (cells_three (hc8.blk (B6.alloc _) rfl)).1))
      all_goals
        have hbx := HB6.out.alloc HB6.out.size (.cells #[.string (mkB (Kp.puts (Kp.all ks.m l)))] 9)
        have HC8 := Lib.hid ((HC4.out.trans (Ch.of_below hbx)).trans hc8)
        have HD8 := Lib.hid hd8
        have HL8 := Lib.hid hl8
        clear hbx hd8 hl8 hc8
        go_wp2_with fail
        go_ret
        obtain ⟨w1, w2, w3⟩ := HW.out
        exact ⟨by rw [w1]; rfl, by rw [w2]; exact HD8.out, by rw [w3]; exact HL8.out, HC8.out⟩
    · have hE' : ((Lg.appendR ks.lo st (bls [mkB l])).1 == 50) = false := by rw [beq_eq_false_iff_ne]; exact hE
      have HW := Lib.hid (writeK_no hE)
      clear hE
      generalize hEE : (Lg.appendR ks.lo st (bls [mkB l])).1 = E at *
      have HEE := Lib.hid hEE
      clear hEE
      go_wp2_with fail
      go_ret
      obtain ⟨w1, w2, w3⟩ := HW.out
      exact ⟨by rw [w1, ← HEE.out]; rfl, by rw [w2]; exact HD4.out, by rw [w3]; exact HL4.out, HC4.out⟩
end Go.Proofs.YtimcepoleboldaaGreatDoor

/- What same of tables comes to. -/
namespace Go.Proofs.YtimcepoleboldaaGreatDoor
open Go.RowKit Go.Deep

def Alike (a b : Kp.Mp) (l : List Kp.Rc) : Prop := ∀ x ∈ l, Kp.look a x.key = Kp.look b x.key
instance (a b : Kp.Mp) (l : List Kp.Rc) : Decidable (Alike a b l) := by unfold Alike; infer_instance
theorem alike_up {a b : Kp.Mp} {l : List Kp.Rc} {j : Nat} {x : Kp.Rc} (h : Alike a b (l.take j)) (hx : l[j]? = some x) (he : Kp.look a x.key = Kp.look b x.key) : Alike a b (l.take (j + 1)) := by
  obtain ⟨h1, rfl⟩ := List.getElem?_eq_some_iff.1 hx
  intro y hy
  rw [List.take_succ_eq_append_getElem h1, List.mem_append] at hy
  rcases hy with hy | hy
  · exact h y hy
  · have : y = l[j] := by simpa using hy
    rw [this]; exact he
theorem getD_ne {o p : Option ByteArray} (h : o ≠ p) (hs : o.isSome = p.isSome) : o.getD ByteArray.empty ≠ p.getD ByteArray.empty := by
  intro e
  cases o <;> cases p <;> simp_all

set_option maxRecDepth 20000 in
set_option maxHeartbeats 1600000 in
theorem same_any [R : Rows] (ta ma na tb mb nb : Nat) (a b : Kp.Mp) (l : List Kp.Rc) (vl : Value) (w : World) (hA : Tab w ta ma na a) (hB : Tab w tb mb nb b) (hl : Recs w vl l) (hm : l.length ≤ 1000000) (ha : a.length ≤ 1000000) (hb : b.length ≤ 1000000) (hs : Kp.heavy l ≤ 1000000) :
    Calls Tryz.prog 36 #[.pointer (some ⟨ta, 0, none⟩), .pointer (some ⟨tb, 0, none⟩), vl] w fun e w' => e = .returned (.bool (decide (Alike a b l))) ∧ Below w.heap.size w w' := by
  obtain ⟨A, cap, rfl, hat⟩ := hl
  have HAT := Lib.hid hat
  have HA := Lib.hid hA
  have HB := Lib.hid hB
  have HS := Lib.hid hs
  have HLA := Lib.hid ha
  have HLB := Lib.hid hb
  have hleni : (l.length : Int) ≤ 1000000 := by omega
  clear hat hA hB hs ha hb
  go_enter Tryz.func36, Tryz.ntmps36
  go_wp2_with fail
  go_loopw [15] (fun i wr => ∃ j : Nat, j ≤ l.length ∧ i = .int .i64 (j : Int) ∧ Alike a b (l.take j) ∧ Below w.heap.size w wr) (fun i _ => l.length - (intOf i).toNat)
  case atStart => exact ⟨0, Nat.zero_le _, rfl, fun x hx => by simp at hx, Below.refl _ _⟩
  case round =>
    obtain ⟨j, hj, rfl, hO, hb⟩ := hrel
    have HO := Lib.hid hO
    by_cases hlt : j < l.length
    · obtain ⟨x, hx⟩ : ∃ x, l[j]? = some x := ⟨_, List.getElem?_eq_getElem hlt⟩
      obtain ⟨-, b1, o1, rfl, l1, e0, e1, e2⟩ := HAT.out j x hx
      have d0 := (hb.cell (p := ⟨b1, o1 + j * 3, none⟩) l1).trans e0
      have d1 := (hb.cell (p := ⟨b1, o1 + j * 3 + 1, none⟩) l1).trans e1
      have d2 := (hb.cell (p := ⟨b1, o1 + j * 3 + 2, none⟩) l1).trans e2
      have hji : (j : Int) < (l.length : Int) := by omega
      have HX := Lib.hid hx
      have HK := Lib.hid (show x.key.size ≤ maxLen from by have := heavy_take l j hx; have := HS.out; unfold maxLen; omega)
      have hb2 : Below w.heap.size w (wr.alloc (.cells #[.int .i64 x.k, .string x.key, .string x.val] 32)) := hb.alloc hb.size _
      have hbx := Blk.new wr 32 #[.int .i64 x.k, .string x.key, .string x.val]
      have HB2 := Lib.hid hb2
      have HBX := Lib.hid hbx
      obtain ⟨y0, y1, y2⟩ := cells_three hbx
      clear e0 e1 e2 hO hb hx hb2 hbx
      go_wp2_with fail
      generalize wr.alloc (.cells #[.int .i64 x.k, .string x.key, .string x.val] 32) = w2 at *
      clear d0 d1 d2 l1
      refine (get_any ta ma na a x.key w2 (HA.out.below HB2.out) HK.out HLA.out).mono ?_
      rintro e w3 ⟨rfl, hb3⟩
      obtain ⟨z0, z1, z2⟩ := cells_three (HBX.out.older hb3 HBX.out.lt)
      have HB3 := Lib.hid (HB2.out.trans (hb3.mono HB2.out.size))
      clear hb3 y0 y1 y2
      go_wp2_with fail
      refine (get_any tb mb nb b x.key w3 (HB.out.below HB3.out) HK.out HLB.out).mono ?_
      rintro e w4 ⟨rfl, hb4⟩
      have HB4 := Lib.hid (HB3.out.trans (hb4.mono HB3.out.size))
      clear hb4 z0 z1 z2
      obtain ⟨p, hp⟩ : ∃ p, p = Kp.look a x.key := ⟨_, rfl⟩
      obtain ⟨q, hq⟩ : ∃ q, q = Kp.look b x.key := ⟨_, rfl⟩
      rw [← hp, ← hq]
      have HPQ := Lib.hid (And.intro hp hq)
      clear hp hq
      by_cases he : p = q
      · subst he
        have f1 : ((p.getD ByteArray.empty).toList == (p.getD ByteArray.empty).toList) = true := by simp
        have f2 : (p.isSome != p.isSome) = false := by simp
        generalize p.getD ByteArray.empty = s at *
        generalize p.isSome = t at *
        go_wp2_with fail
        go_roundw
        case rel => exact ⟨j + 1, by omega, by go_num, alike_up HO.out HX.out (HPQ.out.1.symm.trans HPQ.out.2), HB4.out⟩
        case measure => simp [intOf]; omega
      · have HN := Lib.hid (show ¬ Alike a b l from fun h => he (HPQ.out.1.trans ((h x (List.mem_of_getElem? HX.out)).trans HPQ.out.2.symm)))
        by_cases hs1 : p.isSome = q.isSome
        · have hne := getD_ne he hs1
          have f1 : ((p.getD ByteArray.empty).toList == (q.getD ByteArray.empty).toList) = false := by
            rw [beq_eq_false_iff_ne]
            intro e'
            rw [Lib.toList_data, Lib.toList_data] at e'
            exact hne (Kp.data_inj e')
          clear he hs1 hne
          generalize p.getD ByteArray.empty = s at *
          generalize q.getD ByteArray.empty = s2 at *
          generalize p.isSome = t at *
          generalize q.isSome = t2 at *
          go_wp2_with fail
          go_ret
          exact ⟨by rw [decide_eq_false HN.out]; rfl, HB4.out⟩
        · have f2 : (p.isSome == q.isSome) = false := by rw [beq_eq_false_iff_ne]; exact hs1
          obtain ⟨c, hc⟩ : ∃ c, c = ((p.getD ByteArray.empty).toList == (q.getD ByteArray.empty).toList) := ⟨_, rfl⟩
          have hc' := hc.symm
          clear hc he hs1
          generalize p.getD ByteArray.empty = s at *
          generalize q.getD ByteArray.empty = s2 at *
          generalize p.isSome = t at *
          generalize q.isSome = t2 at *
          cases c
          · go_wp2_with fail
            go_ret
            exact ⟨by rw [decide_eq_false HN.out]; rfl, HB4.out⟩
          · go_wp2_with fail
            go_ret
            exact ⟨by rw [decide_eq_false HN.out]; rfl, HB4.out⟩
    · have he : l.take j = l := List.take_of_length_le (by omega)
      rw [he] at HO
      have HB := Lib.hid hb
      clear hO hb he
      go_wp2_with fail
      go_ret
      exact ⟨by rw [decide_eq_true HO.out]; rfl, HB.out⟩
end Go.Proofs.YtimcepoleboldaaGreatDoor

/- What Put of the program's store comes to. -/
namespace Go.Proofs.YtimcepoleboldaaGreatDoor
open Go.RowKit Go.Deep

/-- The kinds of blocks that a store's calls change. -/
def Tk : Obj → Bool
  | .cells cs t z => Tl (.cells cs t z) || t == 76
  | o => Tl o
theorem Chg.k {K : Keep} {B : Nat} {w w' : World} (h : @Ch K Tl B w w') : @Ch K Tk B w w' where
  os := h.os
  tape := h.tape
  output := h.output
  size := h.size
  all i hi hT := h.all i hi (fun hB hK o ho => by
    have h1 := hT hB hK o ho
    cases o with
    | cells cs t z => simp [Tk] at h1; exact h1.1
    | _ => exact h1)

/-- What Put leaves. -/
def PutPostg [R : Rows] (K : Keep) (B s q g mb0 n : Nat) (ks : Kp.Ks) (st : Dk.St) (l : List Kp.Rc) (w : World) (e : Ending) (w' : World) : Prop :=
  e = .returned (.int .i64 (Kp.putK ks st l).1) ∧ ∃ (K' : Keep) (tb mb n' : Nat), (∀ i, K.p i → K'.p i) ∧ @Dsk K' w' B g (Kp.putK ks st l).2.1 ∧ Kpwg K' w' B s q g tb mb n' (Kp.putK ks st l).2.2 ∧ n' ≤ n + l.length ∧ @Ch K Tk B w w' ∧ (mb = mb0 ∨ w.heap.size ≤ mb)

theorem put_quiet [R : Rows] {K : Keep} {B s q g tb mb n : Nat} {ks : Kp.Ks} {st : Dk.St} {l : List Kp.Rc} {w w' : World} {E : Int} (hd : @Dsk K w B g st) (hk : Kpwg K w B s q g tb mb n ks) (hb : Below w.heap.size w w') (hp : Kp.putK ks st l = (E, st, ks)) :
    PutPostg K B s q g mb n ks st l w (.returned (.int .i64 E)) w' := by
  unfold PutPostg
  rw [hp]
  exact ⟨rfl, K, tb, mb, n, fun _ h => h, hd.below hb, hk.below hb, by omega, Ch.of_below hb, .inl rfl⟩

theorem putK_wrong {s : Kp.Ks} {st : Dk.St} {l : List Kp.Rc} (h : s.lo.wrong ≠ 0) : Kp.putK s st l = (s.lo.wrong, st, s) := by unfold Kp.putK; rw [if_pos h]
theorem putK_odd {s : Kp.Ks} {st : Dk.St} {l : List Kp.Rc} (h : s.lo.wrong = 0) (ho : Kp.odd l) : Kp.putK s st l = (1, st, s) := by unfold Kp.putK; rw [if_neg (by simp [h]), if_pos ho]
theorem putK_same {s : Kp.Ks} {st : Dk.St} {l : List Kp.Rc} (h : s.lo.wrong = 0) (ho : ¬ Kp.odd l) (he : Kp.all s.m l = s.m) : Kp.putK s st l = (0, st, s) := by unfold Kp.putK; rw [if_neg (by simp [h]), if_neg ho, if_pos he]
theorem putK_full {s : Kp.Ks} {st : Dk.St} {l : List Kp.Rc} (h : s.lo.wrong = 0) (ho : ¬ Kp.odd l) (he : Kp.all s.m l ≠ s.m) (hf : s.room < (Kp.size (Kp.all s.m l) : Int) ∧ Kp.size s.m < Kp.size (Kp.all s.m l)) : Kp.putK s st l = (50, st, s) := by
  unfold Kp.putK; rw [if_neg (by simp [h]), if_neg ho, if_neg he, if_pos hf]
theorem putK_write {s : Kp.Ks} {st : Dk.St} {l : List Kp.Rc} (h : s.lo.wrong = 0) (ho : ¬ Kp.odd l) (he : Kp.all s.m l ≠ s.m) (hf : ¬ (s.room < (Kp.size (Kp.all s.m l) : Int) ∧ Kp.size s.m < Kp.size (Kp.all s.m l))) : Kp.putK s st l = Kp.writeK s st l := by
  unfold Kp.putK; rw [if_neg (by simp [h]), if_neg ho, if_neg he, if_neg hf]
theorem writeK_rest (s : Kp.Ks) (st : Dk.St) (l : List Kp.Rc) : (Kp.writeK s st l).2.2.room = s.room ∧ (Kp.writeK s st l).2.2.m = if (Kp.writeK s st l).1 = 0 then Kp.all s.m l else s.m := by
  unfold Kp.writeK
  by_cases h : (Lg.appendR s.lo st [Kp.batch l]).1 = 50
  · simp only [h, if_true]
    exact ⟨trivial, trivial⟩
  · simp only [h, if_false]
    exact ⟨trivial, trivial⟩
theorem kinds_of {l : List Kp.Rc} (h : ¬ Kp.odd l) : ∀ x ∈ l, x.k = 1 ∨ x.k = 2 := by
  intro x hx
  by_cases h1 : x.k = 1
  · exact .inl h1
  · by_cases h2 : x.k = 2
    · exact .inr h2
    · exact absurd ⟨x, hx, h1, h2⟩ h

theorem dsk_below {K : Keep} {w w' : World} {B g : Nat} {st : Dk.St} (h : @Dsk K w B g st) (hb : Below w.heap.size w w') : @Dsk K w' B g st := h.below hb
theorem lgw_below {K : Keep} {w w' : World} {B q g : Nat} {lo : Lg.Lo} (h : @Lgw K w B q g lo) (hb : Below w.heap.size w w') : @Lgw K w' B q g lo := h.below hb

/-- What write leaves, and what of it Put makes. -/
theorem put_end [R : Rows] {K : Keep} {B s q g tb mb tn mn n n' : Nat} {ks : Kp.Ks} {st : Dk.St} {l : List Kp.Rc} {w W w5 : World} (hk : Kpwg K w B s q g tb mb n ks) (hb : Below w.heap.size w W) (ht : Tab W tn mn n' (Kp.all ks.m l)) (hm : w.heap.size ≤ mn) (hn : n' ≤ n + l.length)
    (hp : Kp.putK ks st l = Kp.writeK ks st l) (hd5 : @Dsk (more K w.heap.size W.heap.size) w5 B g (Kp.writeK ks st l).2.1) (hl5 : @Lgw (more K w.heap.size W.heap.size) w5 B q g (Kp.writeK ks st l).2.2.lo) (hc5 : @Ch (more K w.heap.size W.heap.size) Tl B W w5) :
    ((Kp.writeK ks st l).1 ≠ 0 → PutPostg K B s q g mb n ks st l w (.returned (.int .i64 (Kp.writeK ks st l).1)) w5) ∧
    ((Kp.writeK ks st l).1 = 0 → Blk w5 s 76 #[.pointer (some ⟨q, 0, none⟩), .pointer (some ⟨tb, 0, none⟩), .int .i64 ks.room] ∧ PutPostg K B s q g mb n ks st l w (.returned (.int .i64 0)) (w5.setCell ⟨s, 1, none⟩ (.pointer (some ⟨tn, 0, none⟩)))) := by
  obtain ⟨r1, r2⟩ := writeK_rest ks st l
  have hB : B ≤ w.heap.size := Nat.le_trans hk.ats (Nat.le_of_lt hk.blk.lt)
  have hfree : ¬ (more K w.heap.size W.heap.size).p s := by
    rintro (h | ⟨h, _⟩)
    · exact hk.free h
    · have := hk.blk.lt
      omega
  have hblk5 := hc5.blk (hk.blk.older hb hk.blk.lt) rfl
  have htn := ht.kept hc5 (.inr ⟨hm, ht.lt.2⟩) (fun _ => rfl) (fun _ => rfl)
  have hto := (hk.tab.below hb).kept hc5 (.inl hk.kept) (fun _ => rfl) (fun _ => rfl)
  have hch : @Ch K Tk B w w5 := (Chg.trans (Ch.of_below hb) (hc5.less (fun i h => (Or.inl h : K.p i ∨ (w.heap.size ≤ i ∧ i < W.heap.size))))).k
  refine ⟨fun he => ?_, fun he => ⟨hblk5, ?_⟩⟩
  · unfold PutPostg
    rw [hp]
    refine ⟨rfl, more K w.heap.size W.heap.size, tb, mb, n, fun i h => (Or.inl h : K.p i ∨ (w.heap.size ≤ i ∧ i < W.heap.size)), hd5, ⟨by rw [r1]; exact hblk5, hk.ats, hfree, hl5, ?_, .inl hk.kept⟩, by omega, hch, .inl rfl⟩
    rw [r2, if_neg he]
    exact hto
  · unfold PutPostg
    rw [hp, he]
    have hset : @Ch noKeep (fun o => match o with | .cells _ t _ => t == 76 | _ => false) 0 w5 (w5.setCell ⟨s, 1, none⟩ (.pointer (some ⟨tn, 0, none⟩))) := Ch.set hblk5 (Nat.zero_le _) rfl 1 _
    have hsetK : @Ch (more K w.heap.size W.heap.size) (fun o => match o with | .cells _ t _ => t == 76 | _ => false) 0 w5 (w5.setCell ⟨s, 1, none⟩ (.pointer (some ⟨tn, 0, none⟩))) := Ch.setK hblk5 (Nat.zero_le _) hfree rfl 1 _
    have hb2 : Blk (w5.setCell ⟨s, 1, none⟩ (.pointer (some ⟨tn, 0, none⟩))) s 76 #[.pointer (some ⟨q, 0, none⟩), .pointer (some ⟨tn, 0, none⟩), .int .i64 ks.room] := by
      have := hblk5.set 1 (.pointer (some ⟨tn, 0, none⟩))
      simpa [Blk] using this
    refine ⟨rfl, more K w.heap.size W.heap.size, tn, mn, n', fun i h => (Or.inl h : K.p i ∨ (w.heap.size ≤ i ∧ i < W.heap.size)), hd5.kept hset (fun _ => rfl) (fun _ _ => rfl) (fun _ => rfl), ⟨by rw [r1]; exact hb2, hk.ats, hfree, hl5.kept hset (fun _ => rfl), ?_, .inr ⟨hm, ht.lt.2⟩⟩, hn, ?_, .inr hm⟩
    · rw [r2, if_pos he]
      exact htn.kept hsetK (.inr ⟨hm, ht.lt.2⟩) (fun _ => rfl) (fun _ => rfl)
    · exact hch.trans (Ch.setK hblk5 hk.ats hk.free rfl 1 _)

set_option maxRecDepth 20000 in
set_option maxHeartbeats 2000000 in
theorem put_store [R : Rows] (K : Keep) (B s q g tb mb n : Nat) (ks : Kp.Ks) (st : Dk.St) (l : List Kp.Rc) (vl : Value) (w : World) (hd : @Dsk K w B g st) (hk : Kpwg K w B s q g tb mb n ks) (hl : Recs w vl l) (hs : Kp.size ks.m + Kp.heavy l ≤ 200000) (hm : ks.m.length + l.length ≤ 20000) (hn : st.many ≤ 900000)
    (hnn : n + l.length ≤ 1000000000) (hR : ∀ g, w.heap.size ≤ g → R.p g := by exact fun _ _ => trivial) :
    Calls Tryz.prog 11 #[.pointer (some ⟨s, 0, none⟩), vl] w (PutPostg K B s q g mb n ks st l w) := by
  have HRR := Lib.hid hR
  clear hR
  have HD := Lib.hid hd
  have HK := Lib.hid hk
  have HL := Lib.hid hl
  have HS := Lib.hid (show Kp.size ks.m + Kp.heavy l ≤ 200000 ∧ ks.m.length + l.length ≤ 20000 ∧ st.many ≤ 900000 ∧ n + l.length ≤ 1000000000 from ⟨hs, hm, hn, hnn⟩)
  have HE := Lib.hid (serr_any B s q g tb mb n ks w hk)
  have hB : B ≤ w.heap.size := Nat.le_trans hk.ats (Nat.le_of_lt hk.blk.lt)
  have HBW := Lib.hid hB
  by_cases hw : ks.lo.wrong = 0
  · have HW := Lib.hid hw
    have HKN := Lib.hid (known_any l vl w hl (by omega))
    clear hd hk hl hs hm hn hnn hw hB
    go_enter Tryz.func11, Tryz.ntmps11
    go_wp2_with fail
    refine HE.out.mono ?_
    rintro e w1 ⟨rfl, rfl⟩
    rw [HW.out]
    go_wp2_with fail
    refine HKN.out.mono ?_
    rintro e w1 ⟨rfl, hb1⟩
    have HB1 := Lib.hid hb1
    clear hb1 HE HKN
    by_cases ho : Kp.odd l
    · rw [decide_eq_false (fun h => h ho)]
      have HO := Lib.hid ho
      clear ho
      go_wp2_with fail
      go_ret
      exact put_quiet HD.out HK.out HB1.out (putK_odd HW.out HO.out)
    · rw [decide_eq_true ho]
      have HO := Lib.hid ho
      clear ho
      obtain ⟨-, c1, c2⟩ := cells_three (HK.out.blk.older HB1.out HK.out.blk.lt)
      go_wp2_with fail
      refine (clone_any tb mb n ks.m w1 (HK.out.tab.below HB1.out) (by have := HS.out; omega)).mono ?_
      rintro e w2 ⟨rfl, ht2, hb2⟩
      have HT2 := Lib.hid ht2
      have HB2 := Lib.hid (HB1.out.trans (hb2.mono HB1.out.size))
      have HZ1 := Lib.hid (show w.heap.size ≤ w1.heap.size from HB1.out.size)
      clear ht2 hb2 c1 c2
      obtain ⟨tn, htn⟩ : ∃ tn, tn = w1.heap.size + 1 := ⟨_, rfl⟩
      obtain ⟨mn, hmn⟩ : ∃ mn, mn = w1.heap.size := ⟨_, rfl⟩
      rw [← htn, ← hmn] at HT2
      rw [← htn]
      have HNW := Lib.hid (show w.heap.size ≤ tn ∧ w.heap.size ≤ mn from by have := HZ1.out; omega)
      clear htn hmn
      go_wp2_with fail
      refine (take_any tn mn n ks.m l vl w2 HT2.out (HL.out.below HB2.out) (kinds_of HO.out) (by have := HS.out; omega) (by have := HS.out; omega) (by have := HS.out; omega) (fun g hg => HRR.out g (Nat.le_trans HB2.out.size hg))).mono ?_
      rintro e w3 ⟨rfl, ht3, hc3⟩
      have HT3 := Lib.hid ht3
      have HB3 := Lib.hid (HB2.out.trans (hc3.below HB2.out.size HNW.out.1 HNW.out.2))
      clear ht3 hc3 HT2
      obtain ⟨-, c1, c2⟩ := cells_three (HK.out.blk.older HB3.out HK.out.blk.lt)
      have h1 := Kp.size_all_le l ks.m
      have h2 := Kp.length_all_le l ks.m
      have HA := Lib.hid (show Kp.size (Kp.all ks.m l) ≤ 1000000 ∧ (Kp.all ks.m l).length ≤ 1000000 from by have := HS.out; omega)
      clear h1 h2
      go_wp2_with fail
      refine (same_any tn mn (n + l.length) tb mb n (Kp.all ks.m l) ks.m l vl w3 HT3.out (HK.out.tab.below HB3.out) (HL.out.below HB3.out) (by have := HS.out; omega) HA.out.2 (by have := HS.out; omega) (by have := HS.out; omega)).mono ?_
      rintro e w4 ⟨rfl, hb4⟩
      have HB4 := Lib.hid (HB3.out.trans (hb4.mono HB3.out.size))
      have HT4 := Lib.hid (HT3.out.below hb4)
      clear hb4 HT3 c1 c2
      have hiff := Kp.all_eq_iff HK.out.tab.up l
      by_cases he : Kp.all ks.m l = ks.m
      · rw [decide_eq_true (show Alike (Kp.all ks.m l) ks.m l from hiff.mp he)]
        have HEQ := Lib.hid he
        clear he hiff
        go_wp2_with fail
        go_ret
        exact put_quiet HD.out HK.out HB4.out (putK_same HW.out HO.out HEQ.out)
      · rw [decide_eq_false (show ¬ Alike (Kp.all ks.m l) ks.m l from fun h => he (hiff.mpr h))]
        have HEQ := Lib.hid he
        clear he hiff
        obtain ⟨-, c1, c2⟩ := cells_three (HK.out.blk.older HB4.out HK.out.blk.lt)
        obtain ⟨G4, D4, hta⟩ := HT4.out
        obtain ⟨-, t1, -, -⟩ := cells_two hta.blk
        obtain ⟨G5, D5, htb⟩ := HK.out.tab.below HB4.out
        obtain ⟨-, u1, -, -⟩ := cells_two htb.blk
        clear hta htb
        by_cases hf : ks.room < (Kp.size (Kp.all ks.m l) : Int) ∧ Kp.size ks.m < Kp.size (Kp.all ks.m l)
        · have hf1 : decide (ks.room < ((Kp.size (Kp.all ks.m l) : Nat) : Int)) = true := decide_eq_true hf.1
          have hf2 : decide (((Kp.size ks.m : Nat) : Int) < ((Kp.size (Kp.all ks.m l) : Nat) : Int)) = true := decide_eq_true (by omega)
          have HF := Lib.hid hf
          have hf3 := hf.1
          have hf4 : ((Kp.size ks.m : Nat) : Int) < ((Kp.size (Kp.all ks.m l) : Nat) : Int) := by omega
          clear hf
          go_wp2_with fail
          go_quiet (fail)
          go_wp2_with fail
          go_ret
          exact put_quiet HD.out HK.out (HB4.out.trans ((Quiet.drewN _ _).below.mono HB4.out.size)) (putK_full HW.out HO.out HEQ.out HF.out)
        · have HP := Lib.hid (putK_write (st := st) HW.out HO.out HEQ.out hf)
          have HDK := Lib.hid (dsk_more HD.out HB4.out.size (fun i _ hl => HB4.out.block i hl))
          have HLK := Lib.hid (lgw_more (w' := w4) HK.out.log (fun i _ hl => HB4.out.block i hl))
          have hz1 : ((Kp.size (Kp.all ks.m l) : Nat) : Int) ≤ 1000000 := by have := HA.out; omega
          have hsplit : (decide (ks.room < ((Kp.size (Kp.all ks.m l) : Nat) : Int)) = false ∧ ¬ ks.room < ((Kp.size (Kp.all ks.m l) : Nat) : Int)) ∨ (decide (ks.room < ((Kp.size (Kp.all ks.m l) : Nat) : Int)) = true ∧ ks.room < ((Kp.size (Kp.all ks.m l) : Nat) : Int) ∧ decide (((Kp.size ks.m : Nat) : Int) < ((Kp.size (Kp.all ks.m l) : Nat) : Int)) = false ∧ ¬ ((Kp.size ks.m : Nat) : Int) < ((Kp.size (Kp.all ks.m l) : Nat) : Int)) := by
            by_cases h1 : ks.room < ((Kp.size (Kp.all ks.m l) : Nat) : Int)
            · refine .inr ⟨decide_eq_true h1, h1, ?_⟩
              have h2 : ¬ ((Kp.size ks.m : Nat) : Int) < ((Kp.size (Kp.all ks.m l) : Nat) : Int) := fun h => hf ⟨h1, by omega⟩
              exact ⟨decide_eq_false h2, h2⟩
            · exact .inl ⟨decide_eq_false h1, h1⟩
          clear hf
          rcases hsplit with ⟨hf1, hf2⟩ | ⟨hf1, hf2, hf3, hf4⟩
          all_goals
            go_wp2_with fail
            go_quiet (fail)
            clear c1 c2 t1 u1
            go_wp2_with fail
            refine (@write_store (more K w.heap.size w4.heap.size) _ B s q g tn mn (n + l.length) _ _ ks st l vl _ (dsk_below HDK.out (Quiet.drewN w4 _).below) ((HK.out.blk.older HB4.out HK.out.blk.lt).older (Quiet.drewN w4 _).below (HK.out.blk.older HB4.out HK.out.blk.lt).lt) (lgw_below HLK.out (Quiet.drewN w4 _).below) (HT4.out.below (Quiet.drewN w4 _).below) ((HL.out.below HB4.out).below (Quiet.drewN w4 _).below) HS.out.1 HS.out.2.1 HS.out.2.2.1 (.inr ⟨HNW.out.2, HT4.out.lt.2⟩)).mono ?_
            rintro e w5 ⟨rfl, hd5, hl5, hc5⟩
            obtain ⟨q1, q2⟩ := put_end HK.out (HB4.out.trans ((Quiet.drewN w4 _).below.mono HB4.out.size)) (HT4.out.below (Quiet.drewN w4 _).below) HNW.out.2 (Nat.le_refl _) HP.out hd5 hl5 hc5
            clear hd5 hl5 hc5
            by_cases he : (Kp.writeK ks st l).1 = 0
            · obtain ⟨q3, q4⟩ := q2 he
              rw [he]
              have HQ := Lib.hid q4
              obtain ⟨r0, r1, r2⟩ := cells_three q3
              have f1 := q3.frozen 1
              clear q1 q2 q3 q4 he
              go_wp2_with fail
              go_ret
              exact HQ.out
            · have he' : ((Kp.writeK ks st l).1 != 0) = true := by rw [bne_iff_ne]; exact he
              have HQ := Lib.hid (q1 he)
              clear q1 q2 he
              generalize (Kp.writeK ks st l).1 = E at *
              go_wp2_with fail
              go_ret
              exact HQ.out
  · have hw' : (ks.lo.wrong != 0) = true := by rw [bne_iff_ne]; exact hw
    have HW := Lib.hid hw
    clear hd hk hl hs hm hn hnn hw hB
    go_enter Tryz.func11, Tryz.ntmps11
    go_wp2_with fail
    refine HE.out.mono ?_
    rintro e w1 ⟨rfl, rfl⟩
    go_wp2_with fail
    go_ret
    exact put_quiet HD.out HK.out (Below.refl _ _) (putK_wrong HW.out)
end Go.Proofs.YtimcepoleboldaaGreatDoor

/- What (*Reader).End comes to. -/
namespace Go.Proofs.YtimcepoleboldaaGreatDoor
open Go.RowKit

/-- End's answer. -/
def endE (s : ByteArray) : Int := if s.data.toList = [] then 0 else 21

theorem end_any (br : Nat) (s : ByteArray) (w : World) (h : Blk w br 148 #[.string s]) :
    Calls Tryz.prog 66 #[.pointer (some ⟨br, 0, none⟩)] w fun e w' => e = .returned (.int .i64 (endE s)) ∧ w = w' := by
  have c0 := h.cell 0
  simp at c0
  go_enter Tryz.func66, Tryz.ntmps66
  go_wp2_with fail
  · have h0 : (!s.toList.isEmpty) = true := by assumption
    go_ret
    refine ⟨congrArg (fun x => Ending.returned (Value.int .i64 x)) ?_, rfl⟩
    rw [ByteArray.toList_eq] at h0
    have h1 : s.data.toList ≠ [] := by intro e; rw [e] at h0; simp at h0
    exact (if_neg h1).symm
  · have h0 : (!s.toList.isEmpty) = false := by assumption
    go_ret
    refine ⟨congrArg (fun x => Ending.returned (Value.int .i64 x)) ?_, rfl⟩
    rw [ByteArray.toList_eq] at h0
    have h1 : s.data.toList = [] := by simpa using h0
    exact (if_pos h1).symm

end Go.Proofs.YtimcepoleboldaaGreatDoor

/- What Unrecord comes to, whatever bytes: the error that the document's order of looks gives. -/
namespace Go.Proofs.YtimcepoleboldaaGreatDoor
open Go.RowKit

/-- What record leaves beside the error: some record; where there is no error, the document's. -/
def RecPost (br : Nat) (L : List UInt8) (w : World) (e : Ending) (w' : World) : Prop :=
  ∃ (k : Int) (key val : ByteArray) (err : Int), e = .returned (.tuple #[.agg #[.int .i64 k, .string key, .string val], .int .i64 err]) ∧ err = ((Pk.unrec L).2.2.2 : Int) ∧
    ((Pk.unrec L).2.2.2 = 0 → k = ((Pk.unrec L).1 : Int) ∧ key.data.toList = (Pk.unrec L).2.1 ∧ val.data.toList = (Pk.unrec L).2.2.1) ∧ w.grownBy w' (some br)

theorem info_rec : (Tryz.prog.info? 32).map (·.size) = some 3 := by kernel_rfl

/-- The two results: what the block holds, and the error. -/
theorem results_rec {fn : Func} (h : fn.results = #[.cell 2 32, .tmp 3]) (tmps : Array Value) (W : World) (B : Nat) (x y z : Value)
    (hp : tmps.getD 2 undef = .pointer (some ⟨B, 0, none⟩)) (hb : Blk W B 32 #[x, y, z]) :
    (results fn tmps).run Tryz.prog W = .ok (.tuple #[.agg #[x, y, z], tmps.getD 3 undef]) W := by
  have hp' : tmps[2]?.getD undef = .pointer (some ⟨B, 0, none⟩) := by simpa using hp
  simp [results, h, hp', asAddr, run_loadVar_row W B 32 32 #[x, y, z] (0, 0) _ hb Tryz.underlying32 rfl info_rec]

section
variable {w : World} {g : Nat} {t : TypeId} {x y z : Value}
theorem Blk.s0 (h : Blk w g t #[x, y, z]) (u : Value) : Blk (w.setCell ⟨g, 0, none⟩ u) g t #[u, y, z] := by
  have e := heap_setCell_same w g 0 _ t u h
  simpa [Blk] using e
theorem Blk.s1 (h : Blk w g t #[x, y, z]) (u : Value) : Blk (w.setCell ⟨g, 1, none⟩ u) g t #[x, u, z] := by
  have e := heap_setCell_same w g 1 _ t u h
  simpa [Blk] using e
theorem Blk.s2 (h : Blk w g t #[x, y, z]) (u : Value) : Blk (w.setCell ⟨g, 2, none⟩ u) g t #[x, y, u] := by
  have e := heap_setCell_same w g 2 _ t u h
  simpa [Blk] using e
/-- A struct written whole. -/
theorem Blk.s3 (h : Blk w g t #[x, y, z]) (a b c : Value) : Blk (((w.setCell ⟨g, 0, none⟩ a).setCell ⟨g, 1, none⟩ b).setCell ⟨g, 2, none⟩ c) g t #[a, b, c] := ((h.s0 a).s1 b).s2 c
end
theorem gr_s3 {a b : World} {row : Option Nat} {g : Nat} (h : a.grownBy b row) (hg : a.heap.size ≤ g) (x y z : Value) : a.grownBy (((b.setCell ⟨g, 0, none⟩ x).setCell ⟨g, 1, none⟩ y).setCell ⟨g, 2, none⟩ z) row :=
  gr_set_new (gr_set_new (gr_set_new h hg 0 x) hg 1 y) hg 2 z

theorem three_cells {w : World} {g : Nat} {t : TypeId} {x y z : Value} (h : Blk w g t #[x, y, z]) :
    (w.cell? ⟨g, 0, none⟩ = some x ∧ w.cell? ⟨g, 1, none⟩ = some y ∧ w.cell? ⟨g, 2, none⟩ = some z) ∧ w.frozen? ⟨g, 0, none⟩ = false ∧ w.frozen? ⟨g, 1, none⟩ = false ∧ w.frozen? ⟨g, 2, none⟩ = false := by
  have c0 := h.cell 0
  have c1 := h.cell 1
  have c2 := h.cell 2
  simp at c0 c1 c2
  exact ⟨⟨c0, c1, c2⟩, h.frozen 0, h.frozen 1, h.frozen 2⟩

theorem end_del {L : List UInt8} {s key : ByteArray} (h : Pk.unrec L = if s.data.toList ≠ [] then (0, [], [], 21) else (2, key.data.toList, [], 0)) : endE s = ((Pk.unrec L).2.2.2 : Int) := by
  rw [h]
  unfold endE
  by_cases hn : s.data.toList = []
  · rw [if_pos hn, if_neg (fun h => h hn)]; rfl
  · rw [if_neg hn, if_pos hn]; rfl
theorem end_del0 {L : List UInt8} {s key : ByteArray} (h : Pk.unrec L = if s.data.toList ≠ [] then (0, [], [], 21) else (2, key.data.toList, [], 0)) :
    (Pk.unrec L).2.2.2 = 0 → (2 : Int) = ((Pk.unrec L).1 : Int) ∧ key.data.toList = (Pk.unrec L).2.1 ∧ (⟨#[]⟩ : ByteArray).data.toList = (Pk.unrec L).2.2.1 := by
  rw [h]
  by_cases hn : s.data.toList = []
  · rw [if_neg (fun h => h hn)]; intro _; exact ⟨rfl, rfl, rfl⟩
  · rw [if_pos hn]; intro h; exact absurd h (by decide)
theorem end_put {L : List UInt8} {s key val : ByteArray} (h : Pk.unrec L = if s.data.toList ≠ [] then (0, [], [], 21) else (1, key.data.toList, val.data.toList, 0)) : endE s = ((Pk.unrec L).2.2.2 : Int) := by
  rw [h]
  unfold endE
  by_cases hn : s.data.toList = []
  · rw [if_pos hn, if_neg (fun h => h hn)]; rfl
  · rw [if_neg hn, if_pos hn]; rfl
theorem end_put0 {L : List UInt8} {s key val : ByteArray} (h : Pk.unrec L = if s.data.toList ≠ [] then (0, [], [], 21) else (1, key.data.toList, val.data.toList, 0)) :
    (Pk.unrec L).2.2.2 = 0 → (1 : Int) = ((Pk.unrec L).1 : Int) ∧ key.data.toList = (Pk.unrec L).2.1 ∧ val.data.toList = (Pk.unrec L).2.2.1 := by
  rw [h]
  by_cases hn : s.data.toList = []
  · rw [if_neg (fun h => h hn)]; intro _; exact ⟨rfl, rfl, rfl⟩
  · rw [if_pos hn]; intro h; exact absurd h (by decide)

set_option maxRecDepth 20000 in
set_option maxHeartbeats 1000000 in
theorem rec_any (br : Nat) (s : ByteArray) (w : World) (h : Blk w br 148 #[.string s]) (hs : s.size ≤ 1048576) :
    Calls Tryz.prog 121 #[.pointer (some ⟨br, 0, none⟩)] w (RecPost br s.data.toList w) := by
  have hlt := h.lt
  have hB := Blk.new w 32 #[.int .i64 0, .string ⟨#[]⟩, .string ⟨#[]⟩]
  have hr := h.alloc (.cells #[.int .i64 0, .string ⟨#[]⟩, .string ⟨#[]⟩] 32)
  have hg : w.grownBy (w.alloc (.cells #[.int .i64 0, .string ⟨#[]⟩, .string ⟨#[]⟩] 32)) (some br) := gr_alloc (gr_refl w _) _
  go_enter Tryz.func121, Tryz.ntmps121
  go_wp2_with fail
  generalize w.alloc (.cells #[.int .i64 0, .string ⟨#[]⟩, .string ⟨#[]⟩] 32) = w1 at *
  generalize hBB : w.heap.size = B at *
  have HBB := Lib.hid hBB; clear hBB
  refine (readnum_any br s w1 hr (by omega)).mono ?_
  rintro e w2 ⟨s1, rfl, hs1, hr2, hg2⟩
  have hB2 := hB.grown hg2 (by intro e; injection e; omega)
  have hgg := gr_trans hg hg2
  obtain ⟨⟨c0, c1, c2⟩, f0, f1, f2⟩ := three_cells hB2
  have HB2 := Lib.hid hB2; have HR2 := Lib.hid hr2; have HS1 := Lib.hid hs1
  clear hB hr hg hg2 hB2 hr2 hs1 h
  by_cases h1 : (Pk.num s.data.toList).2.1 = 0
  · by_cases hk1 : (Pk.num s.data.toList).1 = 1
    · have hwB : w.heap.size ≤ B := Nat.le_of_eq HBB.out
      have h1' : ((Pk.num s.data.toList).2.1 : Int) = 0 := by omega
      have hkk : ((Pk.num s.data.toList).1 : Int) = 1 := by omega
      have hz := Lib.hid h1; have hk := Lib.hid hk1
      clear h1 hk1
      go_wp2_with fail
      have hb3 := HB2.out.s0 (.int .i64 1)
      have hr3 := HR2.out.apart (p := ⟨B, 0, none⟩) (by show br ≠ B; omega) (.int .i64 1)
      have hg3 := gr_set_new hgg hwB 0 (.int .i64 1)
      generalize w2.setCell ⟨B, 0, none⟩ (.int .i64 1) = w3 at *
      have hsz1 : s1.size ≤ 1099511627776 := by have := Pk.num_len s.data.toList; rw [← HS1.out, toList_len, toList_len] at this; omega
      have H := readtext_any br s1 w3 hr3 hsz1
      rw [HS1.out] at H
      refine H.mono ?_
      rintro e w4 ⟨s2, key, rfl, hr4, hs2, hkey, hg4⟩
      have hb4 := hb3.grown hg4 (by intro e; injection e; omega)
      have hgg4 := gr_trans hg3 hg4
      clear c0 c1 c2 f0 f1 f2
      obtain ⟨⟨c0, c1, c2⟩, f0, f1, f2⟩ := three_cells hb4
      have HB4 := Lib.hid hb4; have HR4 := Lib.hid hr4; have HS2 := Lib.hid hs2; have HKEY := Lib.hid hkey
      clear H hb3 hr3 hg3 hb4 hr4 hs2 hkey hg4 HB2 HR2 hgg h1' hkk
      by_cases h2 : (Pk.text (Pk.num s.data.toList).2.2).2.1 = 0
      · have h2' : ((Pk.text (Pk.num s.data.toList).2.2).2.1 : Int) = 0 := by omega
        have H2 := Lib.hid h2
        clear h2
        go_wp2_with fail
        have hb5 := HB4.out.s1 (.string key)
        have hr5 := HR4.out.apart (p := ⟨B, 1, none⟩) (by show br ≠ B; omega) (.string key)
        have hg5 := gr_set_new hgg4 hwB 1 (.string key)
        generalize w4.setCell ⟨B, 1, none⟩ (.string key) = w5 at *
        have hsz2 : s2.size ≤ 1099511627776 := by have := Pk.text_len (Pk.num s.data.toList).2.2; rw [← HS2.out, ← HS1.out, toList_len, toList_len] at this; omega
        have H := readtext_any br s2 w5 hr5 hsz2
        rw [HS2.out] at H
        refine H.mono ?_
        rintro e w6 ⟨s3, val, rfl, hr6, hs3, hval, hg6⟩
        have hb6 := hb5.grown hg6 (by intro e; injection e; omega)
        have hgg6 := gr_trans hg5 hg6
        clear c0 c1 c2 f0 f1 f2
        obtain ⟨⟨c0, c1, c2⟩, f0, f1, f2⟩ := three_cells hb6
        have HB6 := Lib.hid hb6; have HR6 := Lib.hid hr6; have HS3 := Lib.hid hs3; have HVAL := Lib.hid hval
        clear H hb5 hr5 hg5 hb6 hr6 hs3 hval hg6 HB4 HR4 hgg4 h2'
        by_cases h3 : (Pk.text (Pk.text (Pk.num s.data.toList).2.2).2.2).2.1 = 0
        · have hu := Pk.unrec_put hz.out hk.out H2.out h3
          have h3' : ((Pk.text (Pk.text (Pk.num s.data.toList).2.2).2.2).2.1 : Int) = 0 := by omega
          rw [← HS3.out, ← HVAL.out, ← HKEY.out] at hu
          have HU := Lib.hid hu
          clear h3 hu
          go_wp2_with fail
          have hb7 := HB6.out.s2 (.string val)
          have hr7 := HR6.out.apart (p := ⟨B, 2, none⟩) (by show br ≠ B; omega) (.string val)
          have hg7 := gr_set_new hgg6 hwB 2 (.string val)
          generalize w6.setCell ⟨B, 2, none⟩ (.string val) = w7 at *
          clear c0 c1 c2 f0 f1 f2
          obtain ⟨⟨c0, c1, c2⟩, f0, f1, f2⟩ := three_cells hb7
          have HB7 := Lib.hid hb7; have HR7 := Lib.hid hr7
          clear hb7 hr7 h3'
          go_region_with (go_at_call 66; refine (end_any br s3 _ HR7.out.drew).mono ?_; rintro e w' ⟨rfl, rfl⟩)
          all_goals
            go_wp2_with fail
            refine bodyPost_ret (results_rec rfl _ _ B _ _ _ rfl ((HB7.out.s3 _ _ _).drew)) rfl ⟨_, _, _, _, rfl, end_put HU.out, end_put0 HU.out, gr_drew (gr_s3 hg7 hwB _ _ _)⟩
        · have hu := Lib.hid (Pk.unrec_val hz.out hk.out H2.out h3)
          have h3' : (((Pk.text (Pk.text (Pk.num s.data.toList).2.2).2.2).2.1 : Int) != 0) = true := by rw [bne_iff_ne]; omega
          have H3 := Lib.hid h3; clear h3
          go_wp2_with fail
          refine bodyPost_ret (results_rec rfl _ _ B _ _ _ rfl ((HB6.out.s2 _).s3 _ _ _)) rfl ⟨_, _, _, _, rfl, by rw [hu.out], fun h => ?_, gr_s3 (gr_set_new hgg6 hwB 2 _) hwB _ _ _⟩
          rw [hu.out] at h
          exact absurd h H3.out
      · have hu := Lib.hid (Pk.unrec_key hz.out (.inl hk.out) h2)
        have h2' : (((Pk.text (Pk.num s.data.toList).2.2).2.1 : Int) != 0) = true := by rw [bne_iff_ne]; omega
        have H2 := Lib.hid h2; clear h2
        go_wp2_with fail
        refine bodyPost_ret (results_rec rfl _ _ B _ _ _ rfl ((HB4.out.s1 _).s3 _ _ _)) rfl ⟨_, _, _, _, rfl, by rw [hu.out], fun h => ?_, gr_s3 (gr_set_new hgg4 hwB 1 _) hwB _ _ _⟩
        rw [hu.out] at h
        exact absurd h H2.out
    · by_cases hk2 : (Pk.num s.data.toList).1 = 2
      · have hwB : w.heap.size ≤ B := Nat.le_of_eq HBB.out
        have h1' : ((Pk.num s.data.toList).2.1 : Int) = 0 := by omega
        have hkk : ((Pk.num s.data.toList).1 : Int) = 2 := by omega
        have hz := Lib.hid h1; have hk := Lib.hid hk2
        clear h1 hk2
        go_wp2_with fail
        have hb3 := HB2.out.s0 (.int .i64 2)
        have hr3 := HR2.out.apart (p := ⟨B, 0, none⟩) (by show br ≠ B; omega) (.int .i64 2)
        have hg3 := gr_set_new hgg hwB 0 (.int .i64 2)
        generalize w2.setCell ⟨B, 0, none⟩ (.int .i64 2) = w3 at *
        have hsz1 : s1.size ≤ 1099511627776 := by have := Pk.num_len s.data.toList; rw [← HS1.out, toList_len, toList_len] at this; omega
        have H := readtext_any br s1 w3 hr3 hsz1
        rw [HS1.out] at H
        refine H.mono ?_
        rintro e w4 ⟨s2, key, rfl, hr4, hs2, hkey, hg4⟩
        have hb4 := hb3.grown hg4 (by intro e; injection e; omega)
        have hgg4 := gr_trans hg3 hg4
        clear c0 c1 c2 f0 f1 f2
        obtain ⟨⟨c0, c1, c2⟩, f0, f1, f2⟩ := three_cells hb4
        have HB4 := Lib.hid hb4; have HR4 := Lib.hid hr4; have HS2 := Lib.hid hs2; have HKEY := Lib.hid hkey
        clear H hb3 hr3 hg3 hb4 hr4 hs2 hkey hg4 HB2 HR2 hgg h1' hkk
        by_cases h2 : (Pk.text (Pk.num s.data.toList).2.2).2.1 = 0
        · have hu := Pk.unrec_del hz.out hk.out h2
          have h2' : ((Pk.text (Pk.num s.data.toList).2.2).2.1 : Int) = 0 := by omega
          rw [← HS2.out, ← HKEY.out] at hu
          have HU := Lib.hid hu
          clear h2 hu
          go_wp2_with fail
          have hb5 := HB4.out.s1 (.string key)
          have hr5 := HR4.out.apart (p := ⟨B, 1, none⟩) (by show br ≠ B; omega) (.string key)
          have hg5 := gr_set_new hgg4 hwB 1 (.string key)
          generalize w4.setCell ⟨B, 1, none⟩ (.string key) = w5 at *
          clear c0 c1 c2 f0 f1 f2
          obtain ⟨⟨c0, c1, c2⟩, f0, f1, f2⟩ := three_cells hb5
          have HB5 := Lib.hid hb5; have HR5 := Lib.hid hr5
          clear hb5 hr5 h2'
          go_region_with (go_at_call 66; refine (end_any br s2 _ HR5.out.drew).mono ?_; rintro e w' ⟨rfl, rfl⟩)
          all_goals
            go_wp2_with fail
            refine bodyPost_ret (results_rec rfl _ _ B _ _ _ rfl ((HB5.out.s3 _ _ _).drew)) rfl ⟨_, _, _, _, rfl, end_del HU.out, end_del0 HU.out, gr_drew (gr_s3 hg5 hwB _ _ _)⟩
        · have hu := Lib.hid (Pk.unrec_key hz.out (.inr hk.out) h2)
          have h2' : (((Pk.text (Pk.num s.data.toList).2.2).2.1 : Int) != 0) = true := by rw [bne_iff_ne]; omega
          have H2 := Lib.hid h2; clear h2
          go_wp2_with fail
          refine bodyPost_ret (results_rec rfl _ _ B _ _ _ rfl ((HB4.out.s1 _).s3 _ _ _)) rfl ⟨_, _, _, _, rfl, by rw [hu.out], fun h => ?_, gr_s3 (gr_set_new hgg4 hwB 1 _) hwB _ _ _⟩
          rw [hu.out] at h
          exact absurd h H2.out
      · have hu := Lib.hid (Pk.unrec_kind h1 hk1 hk2)
        have hz := Lib.hid h1
        have h1' : ((Pk.num s.data.toList).2.1 : Int) = 0 := by omega
        have hk1' : (((Pk.num s.data.toList).1 : Int) != 1) = true := by rw [bne_iff_ne]; omega
        have hk2' : (((Pk.num s.data.toList).1 : Int) != 2) = true := by rw [bne_iff_ne]; omega
        clear h1 hk1 hk2
        go_wp2_with fail
        refine bodyPost_ret (results_rec rfl _ _ B _ _ _ rfl ((HB2.out.s0 _).s3 _ _ _)) rfl ⟨_, _, _, _, rfl, by rw [hu.out]; rfl, fun h => ?_, gr_s3 (gr_set_new hgg (by have := HBB.out; omega) 0 _) (by have := HBB.out; omega) _ _ _⟩
        rw [hu.out] at h
        exact absurd h (by decide)
  · have hu := Lib.hid (Pk.unrec_num h1)
    have h1' : (((Pk.num s.data.toList).2.1 : Int) != 0) = true := by rw [bne_iff_ne]; omega
    have H1 := Lib.hid h1; clear h1
    go_wp2_with fail
    refine bodyPost_ret (results_rec rfl _ _ B _ _ _ rfl ((HB2.out.s0 _).s3 _ _ _)) rfl ⟨_, _, _, _, rfl, by rw [hu.out], fun h => ?_, gr_s3 (gr_set_new hgg (by have := HBB.out; omega) 0 _) (by have := HBB.out; omega) _ _ _⟩
    rw [hu.out] at h
    exact absurd h H1.out

end Go.Proofs.YtimcepoleboldaaGreatDoor

/- What pack.Unrecord comes to, of any bytes. -/
namespace Go.Proofs.YtimcepoleboldaaGreatDoor
open Go.RowKit

/-- What Unrecord leaves: the document's record and error. -/
def UnrecPost (L : List UInt8) (w : World) (e : Ending) (w' : World) : Prop :=
  ∃ (k : Int) (key val : ByteArray), e = .returned (.tuple #[.agg #[.int .i64 k, .string key, .string val], .int .i64 ((Pk.unrec L).2.2.2 : Int)]) ∧
    ((Pk.unrec L).2.2.2 = 0 → k = ((Pk.unrec L).1 : Int) ∧ key.data.toList = (Pk.unrec L).2.1 ∧ val.data.toList = (Pk.unrec L).2.2.1) ∧ ((Pk.unrec L).2.2.2 ≠ 0 → k = 0 ∧ key = ⟨#[]⟩ ∧ val = ⟨#[]⟩) ∧ Below w.heap.size w w'

set_option maxRecDepth 20000 in
set_option maxHeartbeats 1000000 in
theorem unrec_any (s : ByteArray) (w : World) (hs : s.size ≤ 1048576) :
    Calls Tryz.prog 99 #[.string s] w (UnrecPost s.data.toList w) := by
  have hB := Blk.new w 32 #[.int .i64 0, .string ⟨#[]⟩, .string ⟨#[]⟩]
  have hg : w.grownBy (w.alloc (.cells #[.int .i64 0, .string ⟨#[]⟩, .string ⟨#[]⟩] 32)) none := gr_alloc (gr_refl w _) _
  have hsz : (w.alloc (.cells #[.int .i64 0, .string ⟨#[]⟩, .string ⟨#[]⟩] 32)).heap.size = w.heap.size + 1 := by simp
  go_enter Tryz.func99, Tryz.ntmps99
  go_wp2_with fail
  generalize w.alloc (.cells #[.int .i64 0, .string ⟨#[]⟩, .string ⟨#[]⟩] 32) = w1 at *
  generalize hBB : w.heap.size = B at *
  have HBB := Lib.hid hBB; clear hBB
  refine (read_any s w1).mono ?_
  rintro e w2 ⟨rfl, hw2⟩
  have hr2 : Blk w2 w1.heap.size 148 #[.string s] := by rw [hw2]; exact Blk.new _ _ _
  have hB2 : Blk w2 B 32 #[.int .i64 0, .string ⟨#[]⟩, .string ⟨#[]⟩] := by rw [hw2]; exact hB.alloc _
  have hg2 : w.grownBy w2 none := by rw [hw2]; exact gr_alloc hg _
  rw [hsz] at hr2
  clear hw2 hB hg
  have H := rec_any (B + 1) s w2 hr2 hs
  rw [hsz]
  clear hsz
  go_wp2_with fail
  refine H.mono ?_
  rintro e w3 ⟨k, key, val, err, rfl, herr, hz, hg3⟩
  have hB3 := hB2.grown hg3 (by intro e; injection e; omega)
  have hgg : w.grownBy w3 none := gr_new hg2 hg3 (by have := HBB.out; omega)
  obtain ⟨⟨c0, c1, c2⟩, f0, f1, f2⟩ := three_cells hB3
  have hlt := hB3.lt
  have HB3 := Lib.hid hB3
  clear H hB3 hB2 hr2 hg2 hg3
  by_cases h1 : (Pk.unrec s.data.toList).2.2.2 = 0
  · obtain ⟨rfl, hk2, hk3⟩ := hz h1
    have HZ := Lib.hid (And.intro hk2 hk3)
    have H1 := Lib.hid h1
    have he : err = 0 := by omega
    subst he
    clear h1 hz hk2 hk3 herr
    go_wp2_with fail
    refine bodyPost_ret (results_rec rfl _ _ B _ _ _ rfl ((HB3.out.s3 _ _ _).alloc _)) rfl ⟨_, key, val, ?_, fun _ => ⟨rfl, HZ.out⟩, fun h => absurd H1.out h, ?_⟩
    · rw [H1.out]; rfl
    · exact gr_to_below (gr_alloc (gr_s3 hgg (Nat.le_of_eq HBB.out) _ _ _) _)
  · have H1 := Lib.hid h1
    have he : (err != 0) = true := by rw [bne_iff_ne]; omega
    have HE := Lib.hid herr
    clear h1 hz herr
    go_wp2_with fail
    refine bodyPost_ret (results_rec rfl _ _ B _ _ _ rfl ((HB3.out.s3 _ _ _).alloc _)) rfl ⟨0, ⟨#[]⟩, ⟨#[]⟩, ?_, fun h => absurd h H1.out, fun _ => ⟨rfl, rfl, rfl⟩, ?_⟩
    · rw [← HE.out]; rfl
    · exact gr_to_below (gr_alloc (gr_s3 hgg (Nat.le_of_eq HBB.out) _ _ _) _)

end Go.Proofs.YtimcepoleboldaaGreatDoor

/- What unbatch comes to: a batch's records, none of what is no batch. -/
namespace Go.Proofs.YtimcepoleboldaaGreatDoor
open Go.RowKit Go.Deep

/-! ### The next record of a batch -/
/-- What is there of a record: it, or nothing. -/
def nextRc (L : List UInt8) : Option (Kp.Rc × List UInt8) :=
  if (Pk.text L).2.1 = 0 ∧ (Pk.unrec (Pk.text L).1).2.2.2 = 0 then
    some (⟨((Pk.unrec (Pk.text L).1).1 : Int), Kp.mkb (Pk.unrec (Pk.text L).1).2.1, Kp.mkb (Pk.unrec (Pk.text L).1).2.2.1⟩, (Pk.text L).2.2)
  else none
theorem unb_next (n : Nat) (L : List UInt8) : Kp.unb (n + 1) L = match nextRc L with | some (x, s) => (Kp.unb n s).map fun r => (x :: r.1, r.2) | none => none := by
  unfold nextRc
  show (if (Pk.text L).2.1 = 0 ∧ (Pk.unrec (Pk.text L).1).2.2.2 = 0 then _ else none) = _
  by_cases h : (Pk.text L).2.1 = 0 ∧ (Pk.unrec (Pk.text L).1).2.2.2 = 0
  · rw [if_pos h, if_pos h]
  · rw [if_neg h, if_neg h]

theorem numGo_shorter : ∀ (l : List UInt8) (i acc : Nat), (Pk.numGo i acc l).2.1 = 0 → (Pk.numGo i acc l).2.2.length < l.length
  | [], _, _, h => by simp [Pk.numGo] at h
  | b :: t, i, acc, h => by
    unfold Pk.numGo at h ⊢
    split at h
    · simp at h
    · split at h
      · have := numGo_shorter t _ _ h
        show _ < t.length + 1
        rename_i h1 h2
        rw [if_neg h1, if_pos h2]
        omega
      · split at h
        · simp at h
        · rename_i h1 h2 h3
          rw [if_neg h1, if_neg h2, if_neg h3]
          show t.length < t.length + 1
          omega
theorem num_shorter {l : List UInt8} (h : (Pk.num l).2.1 = 0) : (Pk.num l).2.2.length < l.length := by
  unfold Pk.num at h ⊢
  split at h
  · rename_i h1
    rw [if_pos h1]
    exact numGo_shorter l 0 0 h1
  · rename_i h1
    exact absurd h h1
theorem text_shorter {l : List UInt8} (h : (Pk.text l).2.1 = 0) : (Pk.text l).2.2.length < l.length := by
  unfold Pk.text at h ⊢
  split at h
  · rename_i h1
    rw [if_pos h1]
    have := num_shorter h1
    split at h
    · rename_i h2
      rw [if_pos h2]
      simp only [List.length_drop]
      omega
    · simp at h
  · rename_i h1
    exact absurd h h1
theorem next_shorter {L s : List UInt8} {x : Kp.Rc} (h : nextRc L = some (x, s)) : s.length < L.length := by
  unfold nextRc at h
  split at h
  · rename_i h1
    simp only [Option.some.injEq, Prod.mk.injEq] at h
    rw [← h.2]
    exact text_shorter h1.1
  · cases h
theorem unrec_kinds (L : List UInt8) (h : (Pk.unrec L).2.2.2 = 0) : (Pk.unrec L).1 = 1 ∨ (Pk.unrec L).1 = 2 := by
  unfold Pk.unrec at h ⊢
  repeat' split at h
  all_goals simp_all
theorem next_kind {L s : List UInt8} {x : Kp.Rc} (h : nextRc L = some (x, s)) : x.k = 1 ∨ x.k = 2 := by
  unfold nextRc at h
  split at h
  · rename_i h1
    simp only [Option.some.injEq, Prod.mk.injEq] at h
    rw [← h.1]
    show ((Pk.unrec (Pk.text L).1).1 : Int) = 1 ∨ ((Pk.unrec (Pk.text L).1).1 : Int) = 2
    rcases unrec_kinds _ h1.2 with h2 | h2 <;> rw [h2] <;> simp
  · cases h
/-- A batch's records are all of a kind that there is, and no longer than its bytes. -/
theorem unb_fits : ∀ (n : Nat) (L : List UInt8) (l : List Kp.Rc) (r : List UInt8), Kp.unb n L = some (l, r) → (∀ x ∈ l, x.k = 1 ∨ x.k = 2) ∧ l.length + r.length ≤ L.length
  | 0, L, l, r, h => by
    simp only [Kp.unb, Option.some.injEq, Prod.mk.injEq] at h
    obtain ⟨rfl, rfl⟩ := h
    exact ⟨fun x hx => by simp at hx, by simp⟩
  | n + 1, L, l, r, h => by
    rw [unb_next] at h
    cases hn : nextRc L with
    | none => rw [hn] at h; cases h
    | some p =>
      obtain ⟨x, s⟩ := p
      rw [hn] at h
      simp only [Option.map_eq_some_iff] at h
      obtain ⟨⟨l', r'⟩, h1, h2⟩ := h
      simp only [Prod.mk.injEq] at h2
      obtain ⟨rfl, rfl⟩ := h2
      obtain ⟨k1, k2⟩ := unb_fits n s l' r' h1
      have := next_shorter hn
      refine ⟨fun y hy => ?_, by simp only [List.length_cons]; omega⟩
      rcases List.mem_cons.mp hy with rfl | hy
      · exact next_kind hn
      · exact k1 y hy
end Go.Proofs.YtimcepoleboldaaGreatDoor
