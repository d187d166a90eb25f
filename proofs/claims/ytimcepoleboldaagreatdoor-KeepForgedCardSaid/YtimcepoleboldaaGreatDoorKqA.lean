/- Several texts in one: KpDiskRef, KpLogRefLook, KpDiskRput, KpDiskRdie, KpDiskRcall, KpDiskRwrite, KpLogRefHd, KpLogRefOpen, KpChunkRefCut, KpLogRefMany, KpLogRefApp, KpKeepRefUnb. -/
import Derived.Test.YtimcepoleboldaaGreatDoorKpA
import Derived.Test.YtimcepoleboldaaGreatDoorDiskOnly
import Derived.Outline
import Derived.Test.YtimcepoleboldaaGreatDoorKpC
import Derived.Test.YtimcepoleboldaaGreatDoorChunkRefDecode
import Derived.Deep.RegionHeld3
import Derived.BigQuiet
import Derived.LoopTactic
import Derived.Deep.RegionLaw
import Derived.Deep.AppendLies
import Derived.BigRegion
import Derived.Test.YtimcepoleboldaaGreatDoorChunkRefEncode
import Derived.Test.YtimcepoleboldaaGreatDoorLogRefHead
import Derived.OwnWalk
import Derived.Test.YtimcepoleboldaaGreatDoorKpB
import Derived.Deep.RegionWith
import Derived.IntWalk
import Derived.Deep.Cut
import Derived.Test.YtimcepoleboldaaGreatDoorPackRefRead
/- The document's disk in memory, and what its small calls come to: Dead, Calls, Fail, Cut, Power, Read, call. -/
namespace Go.Proofs.YtimcepoleboldaaGreatDoor
open Go.RowKit

def looses (l : List (Nat × ByteArray)) : List Value := l.flatMap fun p => [.int .i64 (p.1 : Int), .string p.2]

def refCells (b : Nat) (lv : Value) (off : Bool) (cuts keep fails many : Nat) : Array Value :=
  #[.slice (some ⟨b, 0, none⟩) 256 256, lv, .bool off, .int .i64 (cuts : Int), .int .u64 (keep : Int), .int .i64 (fails : Int), .int .i64 (many : Int)]

def stCells (b : Nat) (lv : Value) (st : Dk.St) : Array Value := refCells b lv st.off st.cuts st.keep st.fails st.many

/-- Block g is a disk of the document's that is as st is; all of it lies from B on. -/
structure RefAt (w : World) (B g : Nat) (st : Dk.St) (b : Nat) (lv : Value) : Prop where
  blk : Blk w g 53 (stCells b lv st)
  sec : Blk w b 9 (sect st.is).toArray
  row : w.ownsRow B 188 2 lv st.loose.length (looses st.loose)
  atg : B ≤ g
  atb : B ≤ b
  cuts : st.cuts ≤ 9223372036854775807
  fails : st.fails ≤ 9223372036854775807
  keep : st.keep < 18446744073709551616
  inv : Dk.Inv st

def Ref (w : World) (B g : Nat) (st : Dk.St) : Prop := ∃ b lv, RefAt w B g st b lv

/-- The kinds of blocks that a disk of the document's has. -/
def Tr : Obj → Bool
  | .cells _ t _ => t == 53 || t == 9 || t == 188
  | _ => false

/-- What a call of the document's disk may change: blocks of its kinds; of the strings the sectors' block b alone. -/
structure Rch (B b : Nat) (w w' : World) : Prop where
  ch : Ch Tr B w w'
  only : Only b w w'
theorem Rch.refl (B b : Nat) (w : World) : Rch B b w w := ⟨Ch.refl _ _ _, Only.refl _ _⟩
theorem Rch.trans {B b : Nat} {w w1 w2 : World} (h : Rch B b w w1) (k : Rch B b w1 w2) : Rch B b w w2 := ⟨h.ch.trans k.ch, h.only.trans k.only⟩
theorem Rch.drew {B b : Nat} {w w1 : World} (h : Rch B b w w1) : Rch B b w w1.drew := ⟨h.ch.drew, h.only.drew⟩
theorem Rch.alloc {B b : Nat} {w w1 : World} (h : Rch B b w w1) (o : Obj) : Rch B b w (w1.alloc o) := ⟨h.ch.alloc o, h.only.alloc o⟩

section
variable {w w' : World} {B g b : Nat} {st : Dk.St} {lv : Value}
theorem RefAt.kept {T : Obj → Bool} {B' : Nat} (h : RefAt w B g st b lv) (hc : Ch T B' w w') (h1 : ∀ cs, T (.cells cs 53 (0, 0)) = false) (h2 : ∀ cs, T (.cells cs 9 (0, 0)) = false) (h3 : ∀ cs, T (.cells cs 188 (0, 0)) = false) :
    RefAt w' B g st b lv :=
  { h with
    blk := hc.blk h.blk (h1 _)
    sec := hc.blk h.sec (h2 _)
    row := owns_ch h.row hc h3 }
theorem RefAt.drew (h : RefAt w B g st b lv) : RefAt w.drew B g st b lv := { h with blk := h.blk.drew, sec := h.sec.drew, row := h.row }
theorem Ref.kept {T : Obj → Bool} {B' : Nat} (h : Ref w B g st) (hc : Ch T B' w w') (h1 : ∀ cs, T (.cells cs 53 (0, 0)) = false) (h2 : ∀ cs, T (.cells cs 9 (0, 0)) = false) (h3 : ∀ cs, T (.cells cs 188 (0, 0)) = false) : Ref w' B g st := by
  obtain ⟨b, lv, h⟩ := h
  exact ⟨b, lv, h.kept hc h1 h2 h3⟩
theorem Ref.inv (h : Ref w B g st) : Dk.Inv st := by
  obtain ⟨b, lv, h⟩ := h
  exact h.inv

theorem blk_ne {w : World} {g g' : Nat} {t t' : TypeId} {cs cs' : Array Value} (h : Blk w g t cs) (h' : Blk w g' t' cs') (ht : t ≠ t') : g ≠ g' := by
  intro e
  subst e
  have h1 : some (Obj.cells cs t (0, 0)) = some (.cells cs' t' (0, 0)) := Eq.trans (Eq.symm h) h'
  injection h1 with h1
  injection h1 with _ h1
  exact ht h1

theorem RefAt.gb (h : RefAt w B g st b lv) : g ≠ b := blk_ne h.blk h.sec (by decide)

/-- A store into one field, and the state that it leaves. -/
theorem RefAt.field {st' : Dk.St} (h : RefAt w B g st b lv) {i : Nat} {u : Value} (hb : (stCells b lv st).setIfInBounds i u = stCells b lv st')
    (hl : st'.loose = st.loose) (hs : st'.is = st.is) (hc : st'.cuts ≤ 9223372036854775807) (hf : st'.fails ≤ 9223372036854775807) (hk : st'.keep < 18446744073709551616) (hi : Dk.Inv st') :
    RefAt (w.setCell ⟨g, i, none⟩ u) B g st' b lv :=
  have hg := Lib.grownBy_setCell w g i u
  { blk := by rw [← hb]; exact h.blk.set i u
    sec := by rw [hs]; exact h.sec.grown hg (by intro e; injection e with e; exact h.gb e.symm)
    row := by rw [hl]; exact h.row.kept hg (row_apart h.row h.blk (by decide))
    atg := h.atg
    atb := h.atb
    cuts := hc
    fails := hf
    keep := hk
    inv := hi }
theorem RefAt.ch (h : RefAt w B g st b lv) (i : Nat) (u : Value) : Ch Tr B w (w.setCell ⟨g, i, none⟩ u) := Ch.set h.blk h.atg rfl i u
theorem RefAt.chr (h : RefAt w B g st b lv) (i : Nat) (u : Value) : Rch B b w (w.setCell ⟨g, i, none⟩ u) := ⟨h.ch i u, Only.set h.blk (by decide) i u⟩

theorem RefAt.cells (h : RefAt w B g st b lv) :
    w.cell? ⟨g, 0, none⟩ = some (.slice (some ⟨b, 0, none⟩) 256 256) ∧ w.cell? ⟨g, 1, none⟩ = some lv ∧ w.cell? ⟨g, 2, none⟩ = some (.bool st.off) ∧ w.cell? ⟨g, 3, none⟩ = some (.int .i64 (st.cuts : Int)) ∧
    w.cell? ⟨g, 4, none⟩ = some (.int .u64 (st.keep : Int)) ∧ w.cell? ⟨g, 5, none⟩ = some (.int .i64 (st.fails : Int)) ∧ w.cell? ⟨g, 6, none⟩ = some (.int .i64 (st.many : Int)) :=
  ⟨h.blk.cell 0, h.blk.cell 1, h.blk.cell 2, h.blk.cell 3, h.blk.cell 4, h.blk.cell 5, h.blk.cell 6⟩
theorem RefAt.sector (h : RefAt w B g st b lv) {i : Nat} (hi : i < 256) : w.cell? ⟨b, i, none⟩ = some (.string (st.is i)) := by
  rw [h.sec.cell i, List.getElem?_toArray, sect_get _ hi]

/-- A store into a sector. -/
theorem RefAt.put_sec (h : RefAt w B g st b lv) {i : Nat} (hi : i < 256) (s : ByteArray) (hinv : Dk.Inv { st with is := Dk.up st.is i s }) :
    RefAt (w.setCell ⟨b, i, none⟩ (.string s)) B g { st with is := Dk.up st.is i s } b lv ∧ Rch B b w (w.setCell ⟨b, i, none⟩ (.string s)) := by
  have hg := Lib.grownBy_setCell w b i (.string s)
  refine ⟨{ blk := h.blk.grown hg (by intro e; injection e with e; exact h.gb e)
            sec := by
              have := h.sec.set i (.string s)
              rw [List.setIfInBounds_toArray, sect_set _ hi] at this
              exact this
            row := h.row.kept hg (row_apart h.row h.sec (by decide))
            atg := h.atg, atb := h.atb, cuts := h.cuts, fails := h.fails, keep := h.keep, inv := hinv }, Ch.set h.sec h.atb rfl i _, Only.set_own i _⟩
end

/-! ### Dead, Calls, Fail, Cut, Power -/

/-! ### Read, call -/
set_option maxHeartbeats 400000 in
theorem rread_any (B g : Nat) (st : Dk.St) (i : Int) (w : World) (h : Ref w B g st) :
    Calls Tryz.prog 41 #[.pointer (some ⟨g, 0, none⟩), .int .i64 i] w fun e w' => e = .returned (.tuple #[.string (st.read i), .int .i64 (st.reach i)]) ∧ w = w' := by
  obtain ⟨b, lv, h⟩ := h
  obtain ⟨c1, -, c0, -⟩ := h.cells
  cases ho : st.off with
  | true =>
    rw [ho] at c0
    have e : st.reach i = 33 := by unfold Dk.St.reach; rw [if_pos ho]
    rw [show st.read i = ByteArray.empty by unfold Dk.St.read; rw [if_neg (by rw [e]; decide)], e]
    clear ho h e
    go_enter Tryz.func41, Tryz.ntmps41
    go_wp2_with fail
    go_ret2
    exact ⟨rfl, rfl⟩
  | false =>
    rw [ho] at c0
    by_cases h1 : i < 0
    · have e : st.reach i = 30 := by unfold Dk.St.reach; rw [if_neg (by rw [ho]; decide), if_pos (.inl h1)]
      rw [show st.read i = ByteArray.empty by unfold Dk.St.read; rw [if_neg (by rw [e]; decide)], e]
      clear ho h e
      go_enter Tryz.func41, Tryz.ntmps41
      go_wp2_with fail
      go_ret2
      exact ⟨rfl, rfl⟩
    · by_cases h2 : 256 ≤ i
      · have e : st.reach i = 30 := by unfold Dk.St.reach; rw [if_neg (by rw [ho]; decide), if_pos (.inr h2)]
        rw [show st.read i = ByteArray.empty by unfold Dk.St.read; rw [if_neg (by rw [e]; decide)], e]
        clear ho h e
        go_enter Tryz.func41, Tryz.ntmps41
        go_wp2_with fail
        go_ret2
        exact ⟨rfl, rfl⟩
      · have e : st.reach i = 0 := Dk.reach_mk ho (by omega) (by omega)
        obtain ⟨k, rfl⟩ : ∃ k : Nat, i = (k : Int) := ⟨i.toNat, by omega⟩
        rw [show st.read (k : Int) = st.is k by unfold Dk.St.read; rw [if_pos e]; rfl, e]
        have hk : k < 256 := by omega
        have s0 := h.sector hk
        clear ho h e h1 h2
        go_enter Tryz.func41, Tryz.ntmps41
        go_wp2_with fail
        go_ret2
        exact ⟨rfl, rfl⟩

end Go.Proofs.YtimcepoleboldaaGreatDoor

/- What the document's first and scan come to: the records of the half that counts. -/
namespace Go.Proofs.YtimcepoleboldaaGreatDoor
open Go.RowKit

/-- Block q is a log of the document's on the disk at block g. -/
abbrev LgC (g : Nat) (t : Lg.Top) (nx : Nat) : Array Value := #[.pointer (some ⟨g, 0, none⟩), .int .i64 t.e, .int .i64 t.b, .int .i64 (t.h : Int), .int .i64 (nx : Int), .int .i64 0]

theorem rfirst_any (h : Nat) (w : World) (hh : h ≤ 1) : Calls Tryz.prog 77 #[.int .i64 (h : Int)] w fun x w' => x = .returned (.int .i64 (2 + 127 * (h : Int))) ∧ w = w' := by
  go_enter Tryz.func77, Tryz.ntmps77
  go_wp2_with fail
  go_ret
  exact ⟨rfl, rfl⟩

/-- Blocks of the document's logs. -/
def Tq : Obj → Bool
  | .cells _ t _ => t == 91
  | _ => false

/-- What the document's scan knows behind k places. -/
structure RLook (f : Nat → ByteArray) (t : Lg.Top) (w : World) (q g : Nat) (v : Value) (k nx : Nat) (ep : Int) (op : Option (List UInt8)) (L : List ByteArray) (wr : World) : Prop where
  row : RowS wr w.heap.size v L
  lg : Blk wr q 91 (LgC g t nx)
  ch : Ch Tq q w wr
  run : Lg.scan f t = (bls L ++ (Lg.scanGo (Lg.half f t.h) t.e (127 - k) k ep op nx).1, (Lg.scanGo (Lg.half f t.h) t.e (127 - k) k ep op nx).2)
  short : (op.getD []).length ≤ 96 * k
  few : L.length ≤ k
  nxle : nx ≤ k

section
variable {f : Nat → ByteArray} {t : Lg.Top} {w wr w1 : World} {q g : Nat} {v : Value} {k nx : Nat} {ep : Int} {op : Option (List UInt8)} {L : List ByteArray} {c : Cn.Chu}
theorem RLook.up (h : RLook f t w q g v k nx ep op L wr) (hb : Below wr.heap.size wr w1) : RLook f t w q g v k nx ep op L w1 :=
  { row := owns_ch (T := fun _ => false) (B := 0) h.row (Ch.of_below hb) (fun _ => rfl)
    lg := h.lg.older hb h.lg.lt
    ch := h.ch.trans (Ch.of_below hb)
    run := h.run, short := h.short, few := h.few, nxle := h.nxle }
theorem RLook.stop (h : RLook f t w q g v k nx ep op L wr) (hk : k < 127) (hg : Lg.half f t.h k = none ∨ ∃ c, Lg.half f t.h k = some c ∧ ¬ Fits t.e k ep op c) : Lg.scan f t = (bls L, nx) := by
  have e : 127 - k = (126 - k) + 1 := by omega
  rw [h.run, e]
  rcases hg with hg | ⟨c, hg, hb⟩
  · rw [Lg.scan_none hg, List.append_nil]
  · rw [Lg.scan_bad hg hb, List.append_nil]
theorem RLook.over (h : RLook f t w q g v 127 nx ep op L wr) : Lg.scan f t = (bls L, nx) := by
  rw [h.run]
  show (bls L ++ [], nx) = _
  rw [List.append_nil]
theorem RLook.more (h : RLook f t w q g v k nx ep op L wr) (hk : k < 127) (hg : Lg.half f t.h k = some c) (hf : Fits t.e k ep op c) (hl : c.l = false) :
    Lg.scan f t = (bls L ++ (Lg.scanGo (Lg.half f t.h) t.e (127 - (k + 1)) (k + 1) c.e (some (op.getD [] ++ c.d)) nx).1, (Lg.scanGo (Lg.half f t.h) t.e (127 - (k + 1)) (k + 1) c.e (some (op.getD [] ++ c.d)) nx).2) := by
  have e : 127 - k = (127 - (k + 1)) + 1 := by omega
  rw [h.run, e, Lg.scan_more hg hf hl]
theorem RLook.whole (h : RLook f t w q g v k nx ep op L wr) (hk : k < 127) (hg : Lg.half f t.h k = some c) (hf : Fits t.e k ep op c) (hl : c.l = true) (s : ByteArray) (hs : s.data.toList = op.getD [] ++ c.d) :
    Lg.scan f t = (bls (L ++ [s]) ++ (Lg.scanGo (Lg.half f t.h) t.e (127 - (k + 1)) (k + 1) c.e none (k + 1)).1, (Lg.scanGo (Lg.half f t.h) t.e (127 - (k + 1)) (k + 1) c.e none (k + 1)).2) := by
  have e : 127 - k = (127 - (k + 1)) + 1 := by omega
  rw [h.run, e, Lg.scan_last hg hf hl, bls_append, List.append_assoc]
  show _ = (bls L ++ (s.data.toList :: (Lg.scanGo (Lg.half f t.h) t.e (127 - (k + 1)) (k + 1) c.e none (k + 1)).1), _)
  rw [hs]
end

def RlookPost (f : Nat → ByteArray) (t : Lg.Top) (q g : Nat) (w : World) (x : Ending) (w' : World) : Prop :=
  ∃ v, x = .returned (.tuple #[v, .int .i64 0]) ∧ RowS w' w.heap.size v (mks (Lg.scan f t).1) ∧ Blk w' q 91 (LgC g t (Lg.scan f t).2) ∧ Ch Tq q w w'

theorem rlook_end {f : Nat → ByteArray} {t : Lg.Top} {w wr : World} {q g : Nat} {v : Value} {k nx : Nat} {ep : Int} {op : Option (List UInt8)} {L : List ByteArray} (hs : Lg.scan f t = (bls L, nx)) (h : RLook f t w q g v k nx ep op L wr) :
    RlookPost f t q g w (.returned (.tuple #[v, .int .i64 0])) wr := by
  refine ⟨v, rfl, ?_, ?_, h.ch⟩
  · rw [hs]
    show RowS wr w.heap.size v (mks (bls L))
    rw [mks_bls]
    exact h.row
  · rw [hs]
    exact h.lg

theorem no_texts (w : World) : RowS (w.alloc (.cells #[] 9)) w.heap.size (.slice (some ⟨w.heap.size, 0, none⟩) 0 0) [] :=
  ⟨rfl, .inr ⟨w.heap.size, 0, #[], rfl, Nat.le_refl _, Blk.new w _ _, Nat.le_refl _, by decide, rfl, rfl⟩⟩

theorem ref_up {w w1 : World} {B g q : Nat} {st : Dk.St} (h : Ref w B g st) (hc : Ch Tq q w w1) : Ref w1 B g st := h.kept hc (fun _ => rfl) (fun _ => rfl) (fun _ => rfl)

theorem Ch.then_new {T T' : Obj → Bool} {B : Nat} {a b c : World} (h : Ch T B a b) (k : Ch T' a.heap.size b c) : Ch T B a c where
  os := k.os.trans h.os
  tape := k.tape.trans h.tape
  output := k.output.trans h.output
  size := Nat.le_trans h.size k.size
  all i hi hT := (k.block i (Nat.lt_of_lt_of_le hi h.size) (fun hB => absurd hi (by omega))).trans (h.all i hi hT)
theorem base_drewN {b : Nat} {w : World} (h : b ≤ w.heap.size) (n : Nat) (o : Obj) : b ≤ ((w.drewN n).alloc o).heap.size := by
  show b ≤ (w.heap.push o).size
  rw [Array.size_push]; omega
theorem below_drewN (w : World) (n : Nat) : Below w.heap.size w (w.drewN n) := (Quiet.drewN w n).below

theorem rlook_store {f : Nat → ByteArray} {t : Lg.Top} {w w6 w7 : World} {q g : Nat} {v v7 : Value} {k nx : Nat} {ep : Int} {op : Option (List UInt8)} {L : List ByteArray} {S : ByteArray} {e : Int} (h : RLook f t w q g v k nx ep op L w6)
    (hown : w7.ownsRow w.heap.size 9 1 v7 (L ++ [S]).length ((L ++ [S]).map Value.string)) (hc : Ch Ts w.heap.size (w6.alloc (.cells #[.string S] 9)) w7)
    (hrun : Lg.scan f t = (bls (L ++ [S]) ++ (Lg.scanGo (Lg.half f t.h) t.e (127 - (k + 1)) (k + 1) e none (k + 1)).1, (Lg.scanGo (Lg.half f t.h) t.e (127 - (k + 1)) (k + 1) e none (k + 1)).2)) :
    RLook f t w q g v7 (k + 1) (k + 1) e none (L ++ [S]) (w7.setCell ⟨q, 4, none⟩ (.int .i64 ((k : Int) + 1))) := by
  have hl7 : Blk w7 q 91 (LgC g t nx) := hc.blk (h.lg.alloc _) rfl
  have hl8 := hl7.l4 (.int .i64 ((k : Int) + 1))
  have hcq : Ch Tq q w7 (w7.setCell ⟨q, 4, none⟩ (.int .i64 ((k : Int) + 1))) := Ch.set hl7 (Nat.le_refl _) rfl 4 _
  have e1 : (k : Int) + 1 = ((k + 1 : Nat) : Int) := by omega
  exact { row := owns_ch hown hcq (fun _ => rfl), lg := by rw [e1] at hl8 ⊢; exact hl8, ch := ((h.ch.alloc _).then_new hc).trans hcq, run := hrun, short := Nat.zero_le _, few := by rw [List.length_append]; exact Nat.succ_le_succ h.few, nxle := Nat.le_refl _ }

set_option maxRecDepth 20000 in
set_option maxHeartbeats 4000000 in
theorem rlook_any (B g q : Nat) (st : Dk.St) (t : Lg.Top) (w : World) (h : Ref w B g st) (hl : Blk w q 91 (LgC g t 0)) (ho : st.off = false) (hh : t.h ≤ 1) :
    Calls Tryz.prog 43 #[.pointer (some ⟨q, 0, none⟩)] w (RlookPost st.is t q g w) := by
  have hin := Lib.hid h.inv.texts
  have HR := Lib.hid (fun (i : Int) (W : World) (hb : Ch Tq q w W) => rread_any B g st i W (ref_up h hb))
  have h0 : RLook st.is t w q g (.slice (some ⟨w.heap.size, 0, none⟩) 0 0) 0 0 t.b none [] (w.alloc (.cells #[] 9)) :=
    { row := no_texts w, lg := hl.alloc _, ch := (Ch.refl _ _ _).alloc _, run := rfl, short := Nat.le_refl _, few := Nat.le_refl _, nxle := Nat.le_refl _ }
  have HO := Lib.hid ho
  have HH := Lib.hid hh
  obtain ⟨⟨-, -, c2, -⟩, -⟩ := six (hl.alloc (.cells #[] 9))
  clear h ho hl
  go_enter Tryz.func43, Tryz.ntmps43
  go_wp2_with fail
  clear c2
  go_loopw [4, 5, 6, 7, 8] (fun v4 v5 v6 v7 v8 wr => ∃ (k nx : Nat) (ep : Int) (op : Option (List UInt8)) (L : List ByteArray), k ≤ 127 ∧ v5 = .string (opB op) ∧ v6 = .bool op.isSome ∧ v7 = .int .i64 ep ∧ v8 = .int .i64 (k : Int) ∧ RLook st.is t w q g v4 k nx ep op L wr) (fun _ _ _ _ v _ => 127 - (intOf v).toNat)
  case atStart => exact ⟨0, 0, t.b, none, [], by omega, rfl, rfl, rfl, rfl, h0⟩
  case round =>
    obtain ⟨k, nx, ep, op, L, hk, rfl, rfl, rfl, rfl, hL⟩ := hrel
    clear h0
    have HL := Lib.hid hL
    by_cases hlt : k < 127
    · obtain ⟨⟨a0, a1, -, a3, -, -⟩, -⟩ := six hL.lg
      clear hL
      have hs := Lg.sec_lt HH.out hlt
      obtain ⟨r1, r2⟩ := read_on HO.out hs
      obtain ⟨s, hs2⟩ : ∃ s, st.is (Lg.sec t.h k) = s := ⟨_, rfl⟩
      have hsz : s.size ≤ 1048576 := by rw [← hs2]; exact Nat.le_trans (hin.out _) (by decide)
      rw [hs2] at r1
      have hsec : IntKind.i64.wrap ((2 : Int) + 127 * (t.h : Int) + (k : Int)) = ((Lg.sec t.h k : Nat) : Int) := by
        have hh1 := HH.out
        rw [IntKind.wrap_i64]
        unfold Lg.sec
        omega
      have HR12 := Lib.hid (And.intro r1 (And.intro r2 hsec))
      have HHF := Lib.hid (fun (c : Cn.Chu) (h1 : Cn.isC s.data.toList) (h2 : c = Cn.decC s.data.toList) => half_at st.is t.h k s hs2 h1 h2)
      have HHN := Lib.hid (half_no st.is t.h k s hs2)
      clear r1 r2 hs2 hs hsec
      go_wp2_with fail
      go_region_held3 (fun W => W.cell? ⟨q, 0, none⟩ = some (.pointer (some ⟨g, 0, none⟩)) ∧ W.cell? ⟨q, 3, none⟩ = some (.int .i64 (t.h : Int))) (first | assumption | exact ⟨a0, a3⟩ | go_keep)
        (first
          | (go_at_call 77; refine (rfirst_any t.h _ HH.out).mono ?_; rintro e w2 ⟨rfl, rfl⟩)
          | (go_at_call 41; rw [HR12.out.2.2]; refine (HR.out _ _ (HL.out.ch.drew)).mono ?_; rintro e w3 ⟨rfl, rfl⟩; rw [HR12.out.1, HR12.out.2.1]))
      clear a0 a1 a3 HR12 HR
      go_wp2_with fail
      refine (decode_ref s _ hsz).mono ?_
      rintro x w4 ⟨e, cq, f, l, d, rfl, his, hb4⟩
      have his' : (⟨e, cq, f, l, d.data.toList⟩ : Cn.Chu) = Cn.decC s.data.toList := his
      have hL4 := (HL.out.up (Below.refl _ _).drew).up hb4
      have hap : q ≠ w4.heap.size := fun e => by have := hL4.lg.lt; omega
      have hL5 := hL4.up ((Below.refl _ _).alloc (Nat.le_refl _) (.cells (ChC e cq f l d) 95))
      have n5 := Blk.new w4 95 (ChC e cq f l d)
      obtain ⟨d0, d1, d2, d3, d4⟩ := five n5
      obtain ⟨⟨a0, a1, a2, a3, a4, a5⟩, y0, y1, y2, y3, y4, y5⟩ := six hL5.lg
      have HL5 := Lib.hid hL5
      have HN5 := Lib.hid n5
      have HHIS := Lib.hid his'
      clear hL4 hL5 n5 his his' hb4 HL
      by_cases hC : Cn.isC s.data.toList
      · have hE : Cn.decE s.data.toList = 0 := by unfold Cn.decE; rw [if_pos hC]
        have hg := HHF.out _ hC HHIS.out
        have hok := (Cn.enc_dec _ hE).1
        rw [← HHIS.out] at hok
        have hd96 : d.data.toList.length ≤ 96 := hok.2.2.2.2
        have HD96 := Lib.hid hd96
        rw [hE]
        clear hE hok HHF HHN hd96
        by_cases hq : cq = (k : Int)
        · subst hq
          have hqn : ((k : Int) != (k : Int)) = false := by simp
          by_cases h1 : ep ≤ e
          · have hb1 : decide (e < ep) = false := decide_eq_false (by omega)
            by_cases h2 : e ≤ t.e
            · have hb2 : decide (t.e < e) = false := decide_eq_false (by omega)
              by_cases h3 : f = op.isNone
              · by_cases h4 : op.isSome = true → e = ep
                · have HF := Lib.hid (show Fits t.e k ep op ⟨e, (k : Int), f, l, d.data.toList⟩ from ⟨rfl, h1, h2, h3, h4⟩)
                  have HG := Lib.hid hg
                  have hRs : (opB op).size ≤ 96 * 127 := by
                    have h1 := HL5.out.short
                    show (opB op).data.size ≤ _
                    rw [← Array.length_toList]
                    show (op.getD []).length ≤ _
                    omega
                  have hds : d.size ≤ 96 := by
                    show d.data.size ≤ _
                    rw [← Array.length_toList]
                    exact HD96.out
                  have hno : ¬ 9223372036854775807 < (opB op).size + d.size := by omega
                  obtain ⟨S, hS⟩ : ∃ S, opB op ++ d = S := ⟨_, rfl⟩
                  have HSl := Lib.hid (show S.data.toList = op.getD [] ++ d.data.toList by rw [← hS, opB_add])
                  have HSO := Lib.hid (show S = opB (some (op.getD [] ++ d.data.toList)) by rw [← hS, opB_add]; rfl)
                  have hopen : (op.isSome = false ∧ f = true) ∨ (op.isSome = true ∧ f = false ∧ (e != ep) = false) := by
                    cases op with
                    | none => exact .inl ⟨rfl, h3⟩
                    | some x => exact .inr ⟨rfl, h3, by rw [bne_eq_false_iff_eq]; exact h4 rfl⟩
                  have HRUNm := Lib.hid (fun hl : l = false => HL5.out.more hlt HG.out HF.out hl)
                  have HRUNw := Lib.hid (fun hl : l = true => HL5.out.whole hlt HG.out HF.out hl S HSl.out)
                  have HU := Lib.hid (fun n => HL5.out.up (below_drewN _ n))
                  have hfew := HL5.out.few
                  have HS2 := Lib.hid (show (op.getD [] ++ d.data.toList).length ≤ 96 * (k + 1) by
                    have h1 := HL5.out.short
                    have h2 := HD96.out
                    rw [List.length_append]
                    omega)
                  have hbs : w.heap.size ≤ (w4.alloc (.cells (ChC e (k : Int) f l d) 95)).heap.size := HL5.out.ch.size
                  clear hg hRs hds h3 h4 HL5
                  cases l with
                  | false =>
                    rcases hopen with ⟨ho2, rfl⟩ | ⟨ho2, rfl, hne⟩
                    all_goals
                      go_wp2_with fail
                      go_quiet (fail)
                      go_wp2_with fail
                      go_roundw
                      case rel => exact ⟨k + 1, nx, e, some (op.getD [] ++ d.data.toList), L, by omega, by rw [HSO.out], rfl, rfl, by go_num, { row := (HU.out _).row, lg := (HU.out _).lg, ch := (HU.out _).ch, run := HRUNm.out (by first | rfl | trivial), short := HS2.out, few := Nat.le_succ_of_le hfew, nxle := Nat.le_succ_of_le (HU.out 0).nxle }⟩
                      case measure => simp [intOf]; omega
                  | true =>
                    rcases hopen with ⟨ho2, rfl⟩ | ⟨ho2, rfl, hne⟩
                    · go_wp2_with fail
                      generalize w4.alloc (.cells (ChC e (k : Int) true true d) 95) = w5 at *
                      go_quiet (fail)
                      go_wp2_with (at_builtin; refine wpList_append_texts rfl (.tmp 95) (.tmp 97) rfl ((HU.out _).row.alloc (.cells #[.string S] 9)) (text_one _ S) (by simp; omega) (base_drewN hbs _ _) rfl rfl ?_; intro v7 w7 hown7 hgrow7; have hc7 := ch_of_append (T := Ts) ((HU.out _).row.alloc (.cells #[.string S] 9)) hgrow7 (fun _ => rfl); obtain ⟨⟨m0, m1, m2, m3, m4, m5⟩, n0, n1, n2, n3, n4, n5⟩ := six (hc7.blk ((HU.out _).lg.alloc _) rfl); have HN := Lib.hid (rlook_store (HU.out _) hown7 hc7 (HRUNw.out (by first | rfl | trivial))); clear hown7 hgrow7 hc7)
                      go_roundw
                      case rel => exact ⟨k + 1, k + 1, e, none, L ++ [S], by omega, rfl, rfl, rfl, by go_num, HN.out⟩
                      case measure => simp [intOf]; omega
                    · go_wp2_with fail
                      generalize w4.alloc (.cells (ChC e (k : Int) false true d) 95) = w5 at *
                      go_quiet (fail)
                      go_wp2_with (at_builtin; refine wpList_append_texts rfl (.tmp 95) (.tmp 97) rfl ((HU.out _).row.alloc (.cells #[.string S] 9)) (text_one _ S) (by simp; omega) (base_drewN hbs _ _) rfl rfl ?_; intro v7 w7 hown7 hgrow7; have hc7 := ch_of_append (T := Ts) ((HU.out _).row.alloc (.cells #[.string S] 9)) hgrow7 (fun _ => rfl); obtain ⟨⟨m0, m1, m2, m3, m4, m5⟩, n0, n1, n2, n3, n4, n5⟩ := six (hc7.blk ((HU.out _).lg.alloc _) rfl); have HN := Lib.hid (rlook_store (HU.out _) hown7 hc7 (HRUNw.out (by first | rfl | trivial))); clear hown7 hgrow7 hc7)
                      go_roundw
                      case rel => exact ⟨k + 1, k + 1, e, none, L ++ [S], by omega, rfl, rfl, rfl, by go_num, HN.out⟩
                      case measure => simp [intOf]; omega
                · obtain ⟨hso, hne0⟩ : op.isSome = true ∧ e ≠ ep := by
                    by_cases ho2 : op.isSome = true
                    · exact ⟨ho2, fun he => h4 (fun _ => he)⟩
                    · exact absurd (fun h => absurd h ho2) h4
                  have hne : (e != ep) = true := by rw [bne_iff_ne]; exact hne0
                  have hf : f = false := by
                    rw [h3]
                    cases op with
                    | none => cases hso
                    | some x => rfl
                  have HS := Lib.hid (HL5.out.stop hlt (.inr ⟨_, hg, fun h => h4 h.2.2.2.2⟩))
                  clear hg h3 h4
                  subst hf
                  go_wp2_with fail
                  go_quiet (fail)
                  go_wp2_with fail
                  go_ret2
                  exact rlook_end HS.out (HL5.out.up (below_drewN _ _))
              · have hfb : (f == op.isSome) = true := by
                  rw [beq_iff_eq]
                  cases op <;> cases f <;> simp_all
                have HS := Lib.hid (HL5.out.stop hlt (.inr ⟨_, hg, fun h => h3 h.2.2.2.1⟩))
                clear hg
                go_wp2_with fail
                go_quiet (fail)
                go_wp2_with fail
                go_ret2
                exact rlook_end HS.out (HL5.out.up (below_drewN _ _))
            · have hb2 : decide (t.e < e) = true := decide_eq_true (by omega)
              have HS := Lib.hid (HL5.out.stop hlt (.inr ⟨_, hg, fun h => h2 h.2.2.1⟩))
              clear hg
              go_wp2_with fail
              go_quiet (fail)
              go_wp2_with fail
              go_ret2
              exact rlook_end HS.out (HL5.out.up (below_drewN _ _))
          · have hb1 : decide (e < ep) = true := decide_eq_true (by omega)
            have HS := Lib.hid (HL5.out.stop hlt (.inr ⟨_, hg, fun h => h1 h.2.1⟩))
            clear hg
            go_wp2_with fail
            go_quiet (fail)
            go_wp2_with fail
            go_ret2
            exact rlook_end HS.out (HL5.out.up (below_drewN _ _))
        · have hqn : (cq != (k : Int)) = true := by rw [bne_iff_ne]; exact hq
          have HS := Lib.hid (HL5.out.stop hlt (.inr ⟨_, hg, fun h => hq h.1⟩))
          clear hg
          go_wp2_with fail
          go_quiet (fail)
          go_wp2_with fail
          go_ret2
          exact rlook_end HS.out (HL5.out.up (below_drewN _ _))
      · have hE : Cn.decE s.data.toList = 21 := by unfold Cn.decE; rw [if_neg hC]
        have HS := Lib.hid (HL5.out.stop hlt (.inl (HHN.out hC)))
        rw [hE]
        clear hE HHF HHN
        go_wp2_with fail
        go_quiet (fail)
        go_wp2_with fail
        go_ret2
        exact rlook_end HS.out (HL5.out.up (below_drewN _ _))
    · obtain rfl : k = 127 := by omega
      clear hL
      go_wp2_with fail
      go_ret2
      exact rlook_end HL.out.over HL.out

end Go.Proofs.YtimcepoleboldaaGreatDoor

/- What the document's put and die come to. -/
namespace Go.Proofs.YtimcepoleboldaaGreatDoor
open Go.RowKit

theorem info_loose : (Tryz.prog.info? 188).map (fun i => (i.zero, i.size, i.bytes)) = some (some (.agg #[.int .i64 0, .string ByteArray.empty]), 2, 24) := by kernel_rfl

theorem looses_get {l : List (Nat × ByteArray)} {k : Nat} {p : Nat × ByteArray} (h : l[k]? = some p) : (looses l)[k * 2]? = some (.int .i64 (p.1 : Int)) ∧ (looses l)[k * 2 + 1]? = some (.string p.2) := by
  induction l generalizing k with
  | nil => simp at h
  | cons q l ih =>
    have e : looses (q :: l) = .int .i64 (q.1 : Int) :: .string q.2 :: looses l := rfl
    cases k with
    | zero =>
      simp at h
      subst h
      rw [e]
      exact ⟨rfl, rfl⟩
    | succ k =>
      simp at h
      have := ih h
      rw [e, show (k + 1) * 2 = k * 2 + 1 + 1 by omega]
      exact this

/-- How the row of the loose ones lies. -/
theorem loose_cells {w : World} {B : Nat} {lv : Value} {l : List (Nat × ByteArray)} (h : w.ownsRow B 188 2 lv l.length (looses l)) :
    ∃ A cap, lv = .slice A l.length cap ∧ ∀ k p, l[k]? = some p → ∃ b cur, A = some ⟨b, 0, none⟩ ∧ Blk w b 188 cur ∧ w.cell? ⟨b, k * 2, none⟩ = some (.int .i64 (p.1 : Int)) ∧ w.cell? ⟨b, k * 2 + 1, none⟩ = some (.string p.2) := by
  rcases h.2 with ⟨rfl, h0⟩ | ⟨g, cap, cur, rfl, hb, hg, hnc, hcm, hcs, htk⟩
  · refine ⟨none, 0, by rw [h0], ?_⟩
    intro k p hk
    have := (List.getElem?_eq_some_iff.1 hk).1
    omega
  · refine ⟨some ⟨g, 0, none⟩, cap, rfl, ?_⟩
    intro k p hk
    obtain ⟨h1, h2⟩ := looses_get hk
    have h3 := h.cells (g := g) rfl _ _ h1
    have h4 := h.cells (g := g) rfl _ _ h2
    rw [Addr.add_lit, Nat.zero_add] at h3 h4
    exact ⟨g, cur, rfl, hg, h3, h4⟩

/-- Is i among the first k? -/
def among (l : List (Nat × ByteArray)) (i k : Nat) : Bool := (l.take k).any fun p => p.1 == i

theorem among_up {l : List (Nat × ByteArray)} {i k : Nat} {p : Nat × ByteArray} (h : l[k]? = some p) : among l i (k + 1) = (among l i k || p.1 == i) := by
  unfold among
  obtain ⟨hk, rfl⟩ := List.getElem?_eq_some_iff.1 h
  rw [List.take_succ_eq_append_getElem hk, List.any_append]
  simp

theorem among_all {l : List (Nat × ByteArray)} {i : Nat} : among l i l.length = (Dk.was l i).isSome := by
  unfold among
  rw [List.take_length]
  induction l with
  | nil => rfl
  | cons p l ih =>
    rw [List.any_cons, ih]
    show _ = (if p.1 = i then some p.2 else Dk.was l i).isSome
    by_cases e : p.1 = i
    · rw [if_pos e]; simp [e]
    · rw [if_neg e]; simp [e]

theorem cell_two_new (w : World) (x y : Value) (t : TypeId) : ∀ j u, [x, y][j]? = some u → (w.alloc (.cells #[x, y] t)).drew.cell? ((⟨w.heap.size, 0, none⟩ : Addr).add j) = some u := by
  intro j u hj
  rw [Addr.add_lit, Nat.zero_add]
  have := ((Blk.new w t #[x, y]).drew).cell j
  rw [this]
  simpa using hj
theorem two_cells (x : Int) (s : ByteArray) : ∀ u ∈ [Value.int .i64 x, .string s], u.oneCell' = true := by
  intro u hu
  simp at hu
  rcases hu with rfl | rfl <;> rfl
theorem room_max2 (k : Nat) (h : k ≤ 1099511627776) : k + 1 ≤ maxLen := by unfold maxLen; omega
theorem room_bytes24 (k : Nat) (h : k ≤ 1099511627776) : (k + 1) * 24 ≤ 140737488355328 := by omega
theorem base_alloc2 {B : Nat} {w : World} (h : B ≤ w.heap.size) (o : Obj) : B ≤ (w.alloc o).drew.heap.size := by
  show B ≤ (w.heap.push o).size
  rw [Array.size_push]; omega

section
variable {w w1 : World} {B g b i : Nat} {st : Dk.St} {lv v : Value} {s : ByteArray} {o : Obj}
theorem rput_w1 (h : RefAt w B g st b lv) (hg : (w.alloc o).drew.grownBy w1 lv.ownBlock) : Blk w1 g 53 (stCells b lv st) ∧ Blk w1 b 9 (sect st.is).toArray := by
  refine ⟨((h.blk.alloc o).drew).grown hg ?_, ((h.sec.alloc o).drew).grown hg ?_⟩
  · rcases row_apart h.row h.blk (by decide) with e | e
    · rw [e]; simp
    · exact fun e2 => e e2.symm
  · rcases row_apart h.row h.sec (by decide) with e | e
    · rw [e]; simp
    · exact fun e2 => e e2.symm
theorem rput_facts (h : RefAt w B g st b lv) (hi : i < 256) (hg : (w.alloc o).drew.grownBy w1 lv.ownBlock) :
    w1.cell? ⟨g, 0, none⟩ = some (.slice (some ⟨b, 0, none⟩) 256 256) ∧ w1.cell? ⟨g, 1, none⟩ = some lv ∧ w1.frozen? ⟨g, 1, none⟩ = false ∧ w1.frozen? ⟨b, i, none⟩ = false ∧ w1.cell? ⟨b, i, none⟩ = some (.string (st.is i)) := by
  obtain ⟨h1, h2⟩ := rput_w1 h hg
  refine ⟨h1.cell 0, h1.cell 1, h1.frozen 1, h2.frozen i, ?_⟩
  rw [h2.cell i, List.getElem?_toArray, sect_get _ hi]
theorem rput_more (h : RefAt w B g st b lv) (hi : i < 256) (hs : s.size ≤ 128) (hw : Dk.was st.loose i = none) (hf : st.loose.length < st.many) (hg : (w.alloc o).drew.grownBy w1 lv.ownBlock)
    (hown : w1.ownsRow B 188 2 v (st.loose.length + 1) (looses st.loose ++ [.int .i64 (i : Int), .string (st.is i)])) :
    RefAt ((w1.setCell ⟨g, 1, none⟩ v).setCell ⟨b, i, none⟩ (.string s)) B g (st.put i s) b v ∧ Rch B b w ((w1.setCell ⟨g, 1, none⟩ v).setCell ⟨b, i, none⟩ (.string s)) := by
  obtain ⟨h1, h2⟩ := rput_w1 h hg
  have s1 := Lib.grownBy_setCell w1 g 1 v
  have hb := h1.set 1 v
  have hb1 : Blk (w1.setCell ⟨g, 1, none⟩ v) g 53 (stCells b v st) := hb
  have hs1 := h2.grown s1 (by intro e; injection e with e; exact h.gb e.symm)
  have hr1 := hown.kept s1 (row_apart hown h1 (by decide))
  have s2 := Lib.grownBy_setCell (w1.setCell ⟨g, 1, none⟩ v) b i (.string s)
  have e1 : (st.put i s).loose = st.loose ++ [(i, st.is i)] := if_pos hw
  have e2 : (st.put i s).loose.length = st.loose.length + 1 := by rw [e1]; simp
  have e3 : looses (st.put i s).loose = looses st.loose ++ [.int .i64 (i : Int), .string (st.is i)] := by rw [e1]; simp [looses]
  refine ⟨{ blk := hb1.grown s2 (by intro e; injection e with e; exact h.gb e)
            sec := by
              have := hs1.set i (.string s)
              rw [List.setIfInBounds_toArray, sect_set _ hi] at this
              exact this
            row := by
              rw [e2, e3]
              exact hr1.kept s2 (row_apart hr1 hs1 (by decide))
            atg := h.atg, atb := h.atb, cuts := h.cuts, fails := h.fails, keep := h.keep, inv := h.inv.put hf hi hs }, ?_⟩
  have c1 : Rch B b (w.alloc o).drew w1 := ⟨ch_of_append (a := (w.alloc o).drew) (h.row.alloc o) hg (fun _ => rfl), Only.of_append (w := (w.alloc o).drew) (h.row.alloc o) hg (by decide)⟩
  exact (((((Rch.refl _ _ _).alloc o).drew.trans c1).trans ⟨Ch.set h1 h.atg rfl 1 v, Only.set h1 (by decide) 1 v⟩)).trans ⟨Ch.set hs1 h.atb rfl i _, Only.set_own i _⟩
theorem rput_same (h : RefAt w B g st b lv) (hi : i < 256) (hs : s.size ≤ 128) (hw : Dk.was st.loose i ≠ none) (hf : st.loose.length < st.many) :
    RefAt (w.setCell ⟨b, i, none⟩ (.string s)) B g (st.put i s) b lv ∧ Rch B b w (w.setCell ⟨b, i, none⟩ (.string s)) := by
  have e : st.put i s = { st with is := Dk.up st.is i s } := by unfold Dk.St.put; rw [if_neg hw]
  have hp := h.inv.put hf hi hs
  rw [e] at hp ⊢
  exact h.put_sec hi s hp
end

def RputPost (B g : Nat) (st : Dk.St) (b : Nat) (w : World) (e : Ending) (w' : World) : Prop :=
  e = .returned (.tuple #[]) ∧ (∃ lv, RefAt w' B g st b lv) ∧ Rch B b w w'

set_option maxRecDepth 20000 in
set_option maxHeartbeats 400000 in
theorem rput_any (B g : Nat) (st : Dk.St) (b : Nat) (lv : Value) (i : Nat) (s : ByteArray) (w : World) (h : RefAt w B g st b lv) (hi : i < 256) (hs : s.size ≤ 128) (hf : st.loose.length < st.many) (hm : st.many ≤ 1099511627776) :
    Calls Tryz.prog 113 #[.pointer (some ⟨g, 0, none⟩), .int .i64 (i : Int), .string s] w (RputPost B g (st.put i s) b w) := by
  obtain ⟨i0, hin, hz0, hz1, hz2⟩ := info_parts info_loose
  obtain ⟨c0, c1, -⟩ := h.cells
  obtain ⟨A, cap, rfl, hrow⟩ := loose_cells h.row
  have hlen : st.loose.length ≤ 1099511627776 := by omega
  have HR := Lib.hid hrow
  have HD := Lib.hid h
  have HF := Lib.hid hf
  clear hrow h hf hm
  go_enter Tryz.func113, Tryz.ntmps113
  go_wp2_with fail
  go_loop [6, 7] (fun v x => ∃ k : Nat, k ≤ st.loose.length ∧ x = .int .i64 (k : Int) ∧ v = .bool (among st.loose i k)) (fun _ x => st.loose.length - (intOf x).toNat)
  case atStart => exact ⟨0, Nat.zero_le _, rfl, rfl⟩
  case round =>
    obtain ⟨k, hk, rfl, rfl⟩ := hrel
    by_cases hlt : k < st.loose.length
    · obtain ⟨p, hp⟩ : ∃ p, st.loose[k]? = some p := ⟨_, List.getElem?_eq_getElem hlt⟩
      obtain ⟨lb, cur, rfl, hb, d0, d1⟩ := HR.out k p hp
      have hup := Lib.hid (among_up (i := i) hp)
      clear hp hb
      cases ha : among st.loose i k with
      | true =>
        have HA := Lib.hid ha; clear ha
        go_wp2_with fail
        go_round
        case rel => exact ⟨k + 1, by omega, by go_num, by rw [hup.out, HA.out]; rfl⟩
        case measure => simp [intOf]; omega
      | false =>
        have HA := Lib.hid ha; clear ha
        go_wp2_with fail
        go_round
        case rel => exact ⟨k + 1, by omega, by go_num, congrArg Value.bool (by rw [hup.out, HA.out, Bool.false_or, Bool.eq_iff_iff]; simp; omega)⟩
        case measure => simp [intOf]; omega
    · obtain rfl : k = st.loose.length := by omega
      have hgb := HD.out.gb
      have hbg := fun e : b = g => hgb e.symm
      have s0 := HD.out.sector hi
      have f0 := HD.out.sec.frozen i
      have f1 := HD.out.blk.frozen 1
      rw [among_all]
      cases hw : Dk.was st.loose i with
      | some x =>
        have HE := Lib.hid (rput_same (s := s) HD.out hi hs (by rw [hw]; simp) HF.out)
        clear hw
        rw [Option.isSome_some]
        go_wp2_with fail
        go_end0
        exact ⟨rfl, ⟨_, HE.out.1⟩, HE.out.2⟩
      | none =>
        have HW := Lib.hid hw; clear hw
        rw [Option.isSome_none]
        have hi2 : (i : Int) < 256 := by omega
        have hbase : B ≤ w.heap.size := Nat.le_trans HD.out.atg (Nat.le_of_lt HD.out.blk.lt)
        have c1a : (w.alloc (.cells #[.int .i64 (i : Int), .string (st.is i)] 188)).cell? ⟨g, 1, none⟩ = some (.slice A st.loose.length cap) := (HD.out.blk.alloc _).cell 1
        go_wp2_with fail
        go_region_law (refine step_append_lies _ rfl (.tmp 36) (.tmp 46) 50 rfl B 188 i0 (.agg #[.int .i64 0, .string ByteArray.empty]) 2 24 Tryz.underlying50 hin hz0 hz1 hz2 rfl (by decide) (.slice A st.loose.length cap) st.loose.length _ rfl ((HD.out.row.alloc (.cells #[.int .i64 (i : Int), .string (st.is i)] 188))) ⟨w.heap.size, 0, none⟩ 1 1 [.int .i64 (i : Int), .string (st.is i)] rfl rfl (cell_two_new w _ _ 188) (two_cells _ _) (by decide) (room_max2 _ hlen) (room_bytes24 _ hlen) (base_alloc2 hbase _) _ rfl ?_; intro b2 cap2 w1 hown1 hgrow1 _ _; obtain ⟨g0, g1, g2, g3, g4⟩ := rput_facts HD.out hi hgrow1; have HO := Lib.hid hown1; have HG := Lib.hid hgrow1; clear hown1 hgrow1)
        all_goals
          have HE := Lib.hid (rput_more (s := s) HD.out hi hs HW.out HF.out HG.out HO.out)
          clear c0 c1 c1a f0 f1 s0
          go_wp2_with fail
          go_end0
          exact ⟨rfl, ⟨_, HE.out.1⟩, HE.out.2⟩

end Go.Proofs.YtimcepoleboldaaGreatDoor

/- What the document's die comes to: loose sectors that are not kept become what lasted. -/
namespace Go.Proofs.YtimcepoleboldaaGreatDoor
open Go.RowKit

def RdieLoop (w : World) (B g : Nat) (st : Dk.St) (b : Nat) (lv v2 v3 : Value) (wr : World) : Prop :=
  ∃ j kk : Nat, j ≤ st.loose.length ∧ v3 = .int .i64 (j : Int) ∧ v2 = .int .u64 (kk : Int) ∧ kk < 18446744073709551616 ∧ (j % 64 ≠ 0 → kk = st.keep / 2 ^ (j % 64)) ∧ RefAt wr B g (stTo st j) b lv ∧ Rch B b w wr

theorem half_next {keep j kk : Nat} (h : kk = keep / 2 ^ (j % 64)) (hn : (j + 1) % 64 ≠ 0) : kk / 2 = keep / 2 ^ ((j + 1) % 64) := by
  rw [show (j + 1) % 64 = j % 64 + 1 by omega, Nat.pow_succ, ← Nat.div_div_eq_div_mul, h]

theorem rdie_back {w : World} {B g b k : Nat} {st : Dk.St} {lv : Value} {p : Nat × ByteArray} (h : RefAt w B g (stTo st k) b lv) (hp : st.loose[k]? = some p) (h256 : p.1 < 256) (hb : Dk.bit st.keep k = false) (hi : Dk.Inv st) :
    RefAt (w.drew.setCell ⟨b, p.1, none⟩ (.string p.2)) B g (stTo st (k + 1)) b lv ∧ Rch B b w (w.drew.setCell ⟨b, p.1, none⟩ (.string p.2)) := by
  have e : stTo st (k + 1) = { stTo st k with is := Dk.up (stTo st k).is p.1 p.2 } := by
    unfold stTo
    rw [Dk.dieTo_back hp hb]
  have h2 := stTo_inv hi (k + 1)
  rw [e] at h2 ⊢
  have h3 := h.drew.put_sec h256 p.2 h2
  exact ⟨h3.1, ((Rch.refl _ _ _).drew).trans h3.2⟩

theorem rdie_end {w : World} {B g b : Nat} {st : Dk.St} {lv : Value} (h : RefAt w B g (stTo st st.loose.length) b lv) (hi : Dk.Inv st) :
    RefAt ((w.setCell ⟨g, 1, none⟩ (.slice none 0 0)).setCell ⟨g, 2, none⟩ (.bool true)) B g st.die b (.slice none 0 0) ∧ Rch B b w ((w.setCell ⟨g, 1, none⟩ (.slice none 0 0)).setCell ⟨g, 2, none⟩ (.bool true)) := by
  have s1 := Lib.grownBy_setCell w g 1 (.slice none 0 0)
  have s2 := Lib.grownBy_setCell (w.setCell ⟨g, 1, none⟩ (.slice none 0 0)) g 2 (.bool true)
  have b1 := h.blk.set 1 (.slice none 0 0)
  have b2 := b1.set 2 (.bool true)
  have n1 : some b ≠ some g := by intro e; injection e with e; exact h.gb e.symm
  exact ⟨{ blk := b2, sec := (h.sec.grown s1 n1).grown s2 n1, row := World.ownsRow_nil _ _ _ _, atg := h.atg, atb := h.atb, cuts := h.cuts, fails := h.fails, keep := h.keep, inv := hi.die },
    (show Rch B b w _ from ⟨Ch.set h.blk h.atg rfl 1 _, Only.set h.blk (by decide) 1 _⟩).trans ⟨Ch.set b1 h.atg rfl 2 _, Only.set b1 (by decide) 2 _⟩⟩

set_option maxRecDepth 20000 in
set_option maxHeartbeats 800000 in
theorem rdie_any (B g : Nat) (st : Dk.St) (b : Nat) (lv : Value) (w : World) (h : RefAt w B g st b lv) (hm : st.many ≤ 1099511627776) :
    Calls Tryz.prog 114 #[.pointer (some ⟨g, 0, none⟩)] w fun e w' => e = .returned (.tuple #[]) ∧ (∃ lv', RefAt w' B g st.die b lv') ∧ Rch B b w w' := by
  have hky := Lib.hid h.inv.keys
  have hfew : st.loose.length ≤ 1099511627776 := Nat.le_trans h.inv.few hm
  have hst : RefAt w B g (stTo st 0) b lv := h
  obtain ⟨A, cap, rfl, -⟩ := loose_cells h.row
  obtain ⟨-, -, -, -, c4, -⟩ := h.cells
  have HK := Lib.hid h.keep
  have HI := Lib.hid h.inv
  clear h hm
  go_enter Tryz.func114, Tryz.ntmps114
  go_wp2_with fail
  go_loopw [2, 3] (RdieLoop w B g st b (.slice A st.loose.length cap)) (fun _ v _ => st.loose.length - (intOf v).toNat)
  case atStart => exact ⟨0, st.keep, Nat.zero_le _, rfl, rfl, HK.out, fun hn => absurd rfl hn, hst, Rch.refl _ _ _⟩
  case round =>
    obtain ⟨j, kk, hj, rfl, rfl, hkk, hkeq, hR, hch⟩ := hrel
    obtain ⟨c0, c1, c2, -, c5, -⟩ := hR.cells
    have hq1 : (stTo st j).keep = st.keep := rfl
    have hq2 : (stTo st j).off = st.off := rfl
    rw [hq1] at c5
    clear hq1 hq2 c4 hst
    by_cases hlt : j < st.loose.length
    · obtain ⟨p, hp⟩ : ∃ p, st.loose[j]? = some p := ⟨_, List.getElem?_eq_getElem hlt⟩
      have hp256 := (hky.out p (List.mem_of_getElem? hp)).1
      have hpi : (p.1 : Int) < 256 := by omega
      obtain ⟨A', cap', e, hrow⟩ := loose_cells hR.row
      obtain ⟨lb, cur, e2, hb, d0, d1⟩ := hrow j p hp
      subst e2
      injection e with e3 e4 e5
      subst e3 e5
      clear e4 hrow hb
      have f0 := hR.sec.frozen p.1
      have s0 := hR.sector hp256
      have hkeep := HK.out
      have hkq : ∀ kx : Nat, kx = st.keep / 2 ^ (j % 64) → kx < 18446744073709551616 := fun kx e => by
        have := Nat.div_le_self st.keep (2 ^ (j % 64)); omega
      have hnext : ∀ kx : Nat, kx = st.keep / 2 ^ (j % 64) → (j + 1) % 64 ≠ 0 → kx / 2 = st.keep / 2 ^ ((j + 1) % 64) := fun kx e hn => half_next e hn
      have HN := Lib.hid hnext
      have HP := Lib.hid hp
      have HR := Lib.hid hR
      have HQ := Lib.hid hkeq
      have HQ0 := Lib.hid hkeq
      clear hnext hp hR hkq hkeq
      by_cases h64 : j % 64 = 0
      · have t64 : ((j : Int) % 64 == 0) = true := by simp; omega
        have hpw : st.keep = st.keep / 2 ^ (j % 64) := by rw [h64]; simp
        have HPW := Lib.hid hpw
        clear hpw
        cases hbit : Dk.bit st.keep j with
        | true =>
          have tb : ((st.keep : Int) % 2 == 0) = false := by
            have := of_decide_eq_true hbit
            rw [h64] at this
            simp at this ⊢; omega
          have HE := Lib.hid (stTo_keep hbit)
          clear hbit h64
          go_wp2_with fail
          go_roundw
          case rel => exact ⟨j + 1, st.keep / 2, by omega, by go_num, by go_num, by omega, HN.out _ HPW.out, by rw [HE.out]; exact HR.out, hch⟩
          case measure => simp [intOf]; omega
        | false =>
          have tb : ((st.keep : Int) % 2 == 0) = true := by
            have := of_decide_eq_false hbit
            rw [h64] at this
            simp at this ⊢; omega
          have HE := Lib.hid (rdie_back HR.out HP.out hp256 hbit HI.out)
          clear hbit h64
          go_wp2_with fail
          go_region
          all_goals
            go_wp2_with fail
            go_roundw
            case rel => exact ⟨j + 1, st.keep / 2, by omega, by go_num, by go_num, by omega, HN.out _ HPW.out, HE.out.1, hch.trans HE.out.2⟩
            case measure => simp [intOf]; omega
      · have t64 : ((j : Int) % 64 == 0) = false := by simp; omega
        have hpw := HQ0.out h64
        have HPW := Lib.hid hpw
        cases hbit : Dk.bit st.keep j with
        | true =>
          have tb : ((kk : Int) % 2 == 0) = false := by
            have := of_decide_eq_true hbit
            rw [← hpw] at this
            simp; omega
          have HE := Lib.hid (stTo_keep hbit)
          clear hbit h64 hpw
          go_wp2_with fail
          go_roundw
          case rel => exact ⟨j + 1, kk / 2, by omega, by go_num, by go_num, by omega, HN.out _ HPW.out, by rw [HE.out]; exact HR.out, hch⟩
          case measure => simp [intOf]; omega
        | false =>
          have tb : ((kk : Int) % 2 == 0) = true := by
            have := of_decide_eq_false hbit
            rw [← hpw] at this
            simp; omega
          have HE := Lib.hid (rdie_back HR.out HP.out hp256 hbit HI.out)
          clear hbit h64 hpw
          go_wp2_with fail
          go_region
          all_goals
            go_wp2_with fail
            go_roundw
            case rel => exact ⟨j + 1, kk / 2, by omega, by go_num, by go_num, by omega, HN.out _ HPW.out, HE.out.1, hch.trans HE.out.2⟩
            case measure => simp [intOf]; omega
    · obtain rfl : j = st.loose.length := by omega
      have HE := Lib.hid (rdie_end hR HI.out)
      have f1 := hR.blk.frozen 1
      have f2 := hR.blk.frozen 2
      clear hR hkeq
      go_wp2_with fail
      go_end0
      exact ⟨rfl, ⟨_, HE.out.1⟩, hch.trans HE.out.2⟩

end Go.Proofs.YtimcepoleboldaaGreatDoor

/- What the document's call comes to. -/
namespace Go.Proofs.YtimcepoleboldaaGreatDoor
open Go.RowKit

def RcallPost (B g : Nat) (st : Dk.St) (b : Nat) (lv : Value) (w : World) (e : Ending) (w' : World) : Prop :=
  e = .returned (.tuple #[.bool ((st.cuts : Int) == 1), .bool ((st.fails : Int) == 1)]) ∧ RefAt w' B g st.tick b lv ∧ Rch B b w w'

theorem RefAt.to {w : World} {B g b : Nat} {st st' : Dk.St} {lv : Value} (h : RefAt w B g st b lv) (e : st = st') : RefAt w B g st' b lv := e ▸ h

theorem rc1 {w : World} {B g b : Nat} {st : Dk.St} {lv : Value} (h : RefAt w B g st b lv) :
    RefAt (w.setCell ⟨g, 6, none⟩ (.int .i64 ((st.many : Int) + 1))) B g { st with many := st.many + 1 } b lv ∧ Rch B b w (w.setCell ⟨g, 6, none⟩ (.int .i64 ((st.many : Int) + 1))) :=
  ⟨h.field (by show _ = refCells _ _ _ _ _ _ (st.many + 1); unfold stCells refCells; simp) rfl rfl h.cuts h.fails h.keep ⟨h.inv.nodup, h.inv.keys, h.inv.texts, Nat.le_succ_of_le h.inv.few⟩, h.chr 6 _⟩
theorem rc2 {w : World} {B g b : Nat} {st : Dk.St} {lv : Value} (h : RefAt w B g st b lv) (hc : 0 < st.cuts) :
    RefAt (w.setCell ⟨g, 3, none⟩ (.int .i64 ((st.cuts : Int) - 1))) B g { st with cuts := st.cuts - 1 } b lv ∧ Rch B b w (w.setCell ⟨g, 3, none⟩ (.int .i64 ((st.cuts : Int) - 1))) :=
  ⟨h.field (by rw [show (st.cuts : Int) - 1 = ((st.cuts - 1 : Nat) : Int) by omega]; rfl) rfl rfl (by have := h.cuts; show st.cuts - 1 ≤ _; omega) h.fails h.keep ⟨h.inv.nodup, h.inv.keys, h.inv.texts, h.inv.few⟩, h.chr 3 _⟩
theorem rc3 {w : World} {B g b : Nat} {st : Dk.St} {lv : Value} (h : RefAt w B g st b lv) (hc : 0 < st.fails) :
    RefAt (w.setCell ⟨g, 5, none⟩ (.int .i64 ((st.fails : Int) - 1))) B g { st with fails := st.fails - 1 } b lv ∧ Rch B b w (w.setCell ⟨g, 5, none⟩ (.int .i64 ((st.fails : Int) - 1))) :=
  ⟨h.field (by rw [show (st.fails : Int) - 1 = ((st.fails - 1 : Nat) : Int) by omega]; rfl) rfl rfl h.cuts (by have := h.fails; show st.fails - 1 ≤ _; omega) h.keep ⟨h.inv.nodup, h.inv.keys, h.inv.texts, h.inv.few⟩, h.chr 5 _⟩

theorem tick_of {st : Dk.St} {c f : Nat} (hc : c = st.cuts - 1) (hf : f = st.fails - 1) : ({ st with many := st.many + 1, cuts := c, fails := f } : Dk.St) = st.tick := by
  subst hc hf
  rfl

set_option maxRecDepth 20000 in
set_option maxHeartbeats 400000 in
theorem rcall_any (B g : Nat) (st : Dk.St) (b : Nat) (lv : Value) (w : World) (h : RefAt w B g st b lv) (hm : st.many ≤ 1099511627776) :
    Calls Tryz.prog 112 #[.pointer (some ⟨g, 0, none⟩)] w (RcallPost B g st b lv w) := by
  obtain ⟨-, -, -, c1, -, c2, c3⟩ := h.cells
  have f1 := h.blk.frozen 3
  have f2 := h.blk.frozen 5
  have f3 := h.blk.frozen 6
  have hcl := h.cuts
  have hfl := h.fails
  have R1 := rc1 h
  by_cases hc : 0 < st.cuts
  · have R2 := rc2 R1.1 hc
    by_cases hf : 0 < st.fails
    · have R3 := rc3 R2.1 hf
      have HR := Lib.hid (And.intro (R3.1.to (tick_of (st := st) rfl rfl)) ((R1.2.trans R2.2).trans R3.2))
      clear h R1 R2 R3
      go_enter Tryz.func112, Tryz.ntmps112
      go_wp2_with fail
      go_ret2
      exact ⟨rfl, HR.out⟩
    · have e : st.fails = 0 := by omega
      have HR := Lib.hid (And.intro (R2.1.to (tick_of (st := st) rfl (by rw [e]))) (R1.2.trans R2.2))
      clear h R1 R2 e
      go_enter Tryz.func112, Tryz.ntmps112
      go_wp2_with fail
      go_ret2
      exact ⟨rfl, HR.out⟩
  · have ec : st.cuts = 0 := by omega
    by_cases hf : 0 < st.fails
    · have R3 := rc3 R1.1 hf
      have HR := Lib.hid (And.intro (R3.1.to (tick_of (st := st) (by rw [ec]) rfl)) (R1.2.trans R3.2))
      clear h R1 R3 ec
      go_enter Tryz.func112, Tryz.ntmps112
      go_wp2_with fail
      go_ret2
      exact ⟨rfl, HR.out⟩
    · have e : st.fails = 0 := by omega
      have HR := Lib.hid (And.intro (R1.1.to (tick_of (st := st) (by rw [ec]) (by rw [e]))) R1.2)
      clear h R1 e ec
      go_enter Tryz.func112, Tryz.ntmps112
      go_wp2_with fail
      go_ret2
      exact ⟨rfl, HR.out⟩

end Go.Proofs.YtimcepoleboldaaGreatDoor

/- What Write, Barrier and New come to, the document's. -/
namespace Go.Proofs.YtimcepoleboldaaGreatDoor
open Go.RowKit

def RwritePost (B g : Nat) (st : Dk.St) (i : Int) (s : ByteArray) (w : World) (e : Ending) (w' : World) : Prop :=
  e = .returned (.int .i64 (st.writeE i s)) ∧ Ref w' B g (st.write i s) ∧ Ch Tr B w w'

def RwriteAt (B g b : Nat) (st : Dk.St) (i : Int) (s : ByteArray) (w : World) (e : Ending) (w' : World) : Prop :=
  e = .returned (.int .i64 (st.writeE i s)) ∧ (∃ lv, RefAt w' B g (st.write i s) b lv) ∧ Rch B b w w'

/-- What call tells, as two bools. -/
theorem due_bools {st : Dk.St} {x : Int} (h : st.due = x) : (x = 33 → ((st.cuts : Int) == 1) = true) ∧ (x = 32 → ((st.cuts : Int) == 1) = false ∧ ((st.fails : Int) == 1) = true) ∧ (x = 0 → ((st.cuts : Int) == 1) = false ∧ ((st.fails : Int) == 1) = false) := by
  subst h
  refine ⟨fun e => ?_, fun e => ?_, fun e => ?_⟩
  · have := Dk.due_cut e
    simp; omega
  · have := Dk.due_fail e
    simp; omega
  · have := Dk.due_ok (st := st) (by rw [e]; decide) (by rw [e]; decide)
    simp; omega

theorem bars_reach {st : Dk.St} {i x : Int} (s : ByteArray) (h : st.reach i = x) (hx : x ≠ 0) : st.bars i s = x := by
  unfold Dk.St.bars
  rw [h, if_pos hx]

set_option maxRecDepth 20000 in
set_option maxHeartbeats 400000 in
theorem rwrite_at (B g : Nat) (st : Dk.St) (b : Nat) (lv : Value) (i : Int) (s : ByteArray) (w : World) (h : RefAt w B g st b lv) (hm : st.many ≤ 1073741824) :
    Calls Tryz.prog 79 #[.pointer (some ⟨g, 0, none⟩), .int .i64 i, .string s] w (RwriteAt B g b st i s w) := by
  obtain ⟨-, -, c0, -⟩ := h.cells
  by_cases hb : st.bars i s = 0
  · obtain ⟨ho, h0, h1, h2⟩ := Dk.bars_ok hb
    obtain ⟨k, rfl⟩ : ∃ k : Nat, i = (k : Int) := ⟨i.toNat, by omega⟩
    have hk : k < 256 := by omega
    have HC := Lib.hid (rcall_any B g st b lv w h (by omega))
    have hf1 : st.tick.loose.length < st.tick.many := by have := h.inv.few; show st.loose.length < st.many + 1; omega
    have hm1 : st.tick.many ≤ 1099511627776 := by show st.many + 1 ≤ 1099511627776; omega
    have hm2 : (st.tick.put k s).many ≤ 1099511627776 := hm1
    rw [ho] at c0
    clear h hm ho
    rcases due_three st with hd | hd | hd
    · have HB := Lib.hid (write_cut hb hd)
      have t1 := (due_bools hd).1 rfl
      clear hb hd
      go_enter Tryz.func79, Tryz.ntmps79
      go_wp2_with fail
      refine HC.out.mono ?_
      rintro e w1 ⟨rfl, h1, hc1⟩
      go_wp2_with fail
      refine (rput_any B g _ b lv k s w1 h1 hk (by omega) hf1 hm1).mono ?_
      rintro e w2 ⟨rfl, ⟨lv2, h2⟩, hc2⟩
      go_wp2_with fail
      refine (rdie_any B g _ b lv2 w2 h2 hm2).mono ?_
      rintro e w3 ⟨rfl, ⟨lv3, h3⟩, hc3⟩
      go_wp2_with fail
      go_ret
      exact ⟨by rw [HB.out.1]; rfl, by rw [HB.out.2]; exact ⟨lv3, h3⟩, (hc1.trans hc2).trans hc3⟩
    · have HB := Lib.hid (write_fail hb hd)
      obtain ⟨t1, t2⟩ := (due_bools hd).2.1 rfl
      clear hb hd
      go_enter Tryz.func79, Tryz.ntmps79
      go_wp2_with fail
      refine HC.out.mono ?_
      rintro e w1 ⟨rfl, h1, hc1⟩
      go_wp2_with fail
      go_ret
      exact ⟨by rw [HB.out.1]; rfl, by rw [HB.out.2]; exact ⟨lv, h1⟩, hc1⟩
    · have HB := Lib.hid (write_ok hb hd)
      obtain ⟨t1, t2⟩ := (due_bools hd).2.2 rfl
      clear hb hd
      go_enter Tryz.func79, Tryz.ntmps79
      go_wp2_with fail
      refine HC.out.mono ?_
      rintro e w1 ⟨rfl, h1, hc1⟩
      go_wp2_with fail
      refine (rput_any B g _ b lv k s w1 h1 hk (by omega) hf1 hm1).mono ?_
      rintro e w2 ⟨rfl, ⟨lv2, h2⟩, hc2⟩
      go_wp2_with fail
      go_ret
      exact ⟨by rw [HB.out.1]; rfl, by rw [HB.out.2]; exact ⟨lv2, h2⟩, hc1.trans hc2⟩
  · have HB := Lib.hid (write_bars hb)
    have HD := Lib.hid h
    have HX : ∀ x, st.bars i s = x → st.writeE i s = x := fun x e => by rw [HB.out.1, e]
    have HY := Lib.hid HX
    have HBB := Lib.hid hb
    clear h hb HX
    cases ho : st.off with
    | true =>
      have e := HY.out 33 (bars_reach s (by unfold Dk.St.reach; rw [if_pos ho]) (by decide))
      have HE := Lib.hid e
      rw [ho] at c0
      clear ho e
      go_enter Tryz.func79, Tryz.ntmps79
      go_wp2_with fail
      go_ret
      exact ⟨by rw [HE.out]; rfl, by rw [HB.out.2]; exact ⟨lv, HD.out⟩, Rch.refl _ _ _⟩
    | false =>
      rw [ho] at c0
      by_cases h1 : i < 0
      · have e := HY.out 30 (bars_reach s (by unfold Dk.St.reach; rw [if_neg (by simp [ho]), if_pos (.inl h1)]) (by decide))
        have HE := Lib.hid e
        clear ho e
        go_enter Tryz.func79, Tryz.ntmps79
        go_wp2_with fail
        go_ret
        exact ⟨by rw [HE.out]; rfl, by rw [HB.out.2]; exact ⟨lv, HD.out⟩, Rch.refl _ _ _⟩
      · by_cases h2 : 256 ≤ i
        · have e := HY.out 30 (bars_reach s (by unfold Dk.St.reach; rw [if_neg (by simp [ho]), if_pos (.inr h2)]) (by decide))
          have HE := Lib.hid e
          clear ho e
          go_enter Tryz.func79, Tryz.ntmps79
          go_wp2_with fail
          go_ret
          exact ⟨by rw [HE.out]; rfl, by rw [HB.out.2]; exact ⟨lv, HD.out⟩, Rch.refl _ _ _⟩
        · have h3 : 128 < s.size := by
            rcases Nat.lt_or_ge 128 s.size with h | h
            · exact h
            · exfalso
              exact HBB.out (Dk.bars_mk ho (by omega) (by omega) h)
          have e := HY.out 31 (by unfold Dk.St.bars; rw [Dk.reach_mk ho (by omega) (by omega), if_neg (by simp), if_pos h3])
          have HE := Lib.hid e
          clear ho e
          go_enter Tryz.func79, Tryz.ntmps79
          go_wp2_with fail
          go_ret
          exact ⟨by rw [HE.out]; rfl, by rw [HB.out.2]; exact ⟨lv, HD.out⟩, Rch.refl _ _ _⟩

theorem rwrite_any (B g : Nat) (st : Dk.St) (i : Int) (s : ByteArray) (w : World) (h : Ref w B g st) (hm : st.many ≤ 1073741824) :
    Calls Tryz.prog 79 #[.pointer (some ⟨g, 0, none⟩), .int .i64 i, .string s] w (RwritePost B g st i s w) := by
  obtain ⟨b, lv, h⟩ := h
  refine (rwrite_at B g st b lv i s w h hm).mono ?_
  rintro e w' ⟨h1, ⟨lv', h2⟩, h3⟩
  exact ⟨h1, ⟨b, lv', h2⟩, h3.ch⟩

def RbarrierPost (B g : Nat) (st : Dk.St) (w : World) (e : Ending) (w' : World) : Prop :=
  e = .returned (.int .i64 st.barrierE) ∧ Ref w' B g st.barrier ∧ Ch Tr B w w'

def RbarrierAt (B g b : Nat) (st : Dk.St) (w : World) (e : Ending) (w' : World) : Prop :=
  e = .returned (.int .i64 st.barrierE) ∧ (∃ lv, RefAt w' B g st.barrier b lv) ∧ Rch B b w w'

theorem ref_fasten {w : World} {B g b : Nat} {st : Dk.St} {lv : Value} (h : RefAt w B g st b lv) :
    RefAt (w.setCell ⟨g, 1, none⟩ (.slice none 0 0)) B g st.fasten b (.slice none 0 0) ∧ Rch B b w (w.setCell ⟨g, 1, none⟩ (.slice none 0 0)) := by
  have s1 := Lib.grownBy_setCell w g 1 (.slice none 0 0)
  exact ⟨{ blk := h.blk.set 1 (.slice none 0 0), sec := h.sec.grown s1 (by intro e; injection e with e; exact h.gb e.symm), row := World.ownsRow_nil _ _ _ _, atg := h.atg, atb := h.atb, cuts := h.cuts, fails := h.fails, keep := h.keep, inv := h.inv.fasten },
    Ch.set h.blk h.atg rfl 1 _, Only.set h.blk (by decide) 1 _⟩

set_option maxRecDepth 20000 in
set_option maxHeartbeats 400000 in
theorem rbarrier_at (B g : Nat) (st : Dk.St) (b : Nat) (lv : Value) (w : World) (h : RefAt w B g st b lv) (hm : st.many ≤ 1073741824) :
    Calls Tryz.prog 80 #[.pointer (some ⟨g, 0, none⟩)] w (RbarrierAt B g b st w) := by
  obtain ⟨-, -, c2, -⟩ := h.cells
  cases ho : st.off with
  | true =>
    rw [ho] at c2
    have HB := Lib.hid (barrier_off ho)
    have HD := Lib.hid h
    clear h ho
    go_enter Tryz.func80, Tryz.ntmps80
    go_wp2_with fail
    go_ret
    exact ⟨by rw [HB.out.1]; rfl, by rw [HB.out.2]; exact ⟨lv, HD.out⟩, Rch.refl _ _ _⟩
  | false =>
    rw [ho] at c2
    have HC := Lib.hid (rcall_any B g st b lv w h (by omega))
    have hm1 : st.tick.many ≤ 1099511627776 := by show st.many + 1 ≤ 1099511627776; omega
    clear h hm
    rcases due_three st with hd | hd | hd
    · have HB := Lib.hid (barrier_cut ho hd)
      have t1 := (due_bools hd).1 rfl
      clear hd ho
      go_enter Tryz.func80, Tryz.ntmps80
      go_wp2_with fail
      refine HC.out.mono ?_
      rintro e w1 ⟨rfl, h1, hc1⟩
      go_wp2_with fail
      refine (rdie_any B g _ b lv w1 h1 hm1).mono ?_
      rintro e w3 ⟨rfl, ⟨lv3, h3⟩, hc3⟩
      go_wp2_with fail
      go_ret
      exact ⟨by rw [HB.out.1]; rfl, by rw [HB.out.2]; exact ⟨lv3, h3⟩, hc1.trans hc3⟩
    · have HB := Lib.hid (barrier_fail ho hd)
      obtain ⟨t1, t2⟩ := (due_bools hd).2.1 rfl
      clear hd ho
      go_enter Tryz.func80, Tryz.ntmps80
      go_wp2_with fail
      refine HC.out.mono ?_
      rintro e w1 ⟨rfl, h1, hc1⟩
      go_wp2_with fail
      go_ret
      exact ⟨by rw [HB.out.1]; rfl, by rw [HB.out.2]; exact ⟨lv, h1⟩, hc1⟩
    · have HB := Lib.hid (barrier_ok ho hd)
      obtain ⟨t1, t2⟩ := (due_bools hd).2.2 rfl
      clear hd ho
      go_enter Tryz.func80, Tryz.ntmps80
      go_wp2_with fail
      refine HC.out.mono ?_
      rintro e w1 ⟨rfl, h1, hc1⟩
      obtain ⟨-, d1, -⟩ := h1.cells
      have f1 := h1.blk.frozen 1
      have HE := Lib.hid (ref_fasten h1)
      clear h1
      go_wp2_with fail
      go_ret
      exact ⟨by rw [HB.out.1]; rfl, by rw [HB.out.2]; exact ⟨_, HE.out.1⟩, hc1.trans HE.out.2⟩

theorem rbarrier_any (B g : Nat) (st : Dk.St) (w : World) (h : Ref w B g st) (hm : st.many ≤ 1073741824) :
    Calls Tryz.prog 80 #[.pointer (some ⟨g, 0, none⟩)] w (RbarrierPost B g st w) := by
  obtain ⟨b, lv, h⟩ := h
  refine (rbarrier_at B g st b lv w h hm).mono ?_
  rintro e w' ⟨h1, ⟨lv', h2⟩, h3⟩
  exact ⟨h1, ⟨b, lv', h2⟩, h3.ch⟩

/-! ### New -/
theorem make_256 (w : World) : (Instr.makeSlice 22 (.int .i64 256) (.int .i64 256)).run Tryz.prog w = .ok (.slice (some ⟨w.heap.size, 0, none⟩) 256 256) (w.alloc (.cells (sect fun _ => ByteArray.empty).toArray 9)) := by kernel_rfl

theorem wpList_make_256 (w : World) {ops : Array Oper} {rest : List Oper} {o : Oper} {a : Act} {Q : Exit → Act → World → Prop}
    (hg : o.guard = none) (x y : Operand) (hop : o.op = Op.makeSlice 22 x y) (hx : a.eval x = .int .i64 256) (hy : a.eval y = .int .i64 256)
    (hK : wpList Tryz.prog ops Q rest (a.put o.dst (.slice (some ⟨w.heap.size, 0, none⟩) 256 256)) (w.alloc (.cells (sect fun _ => ByteArray.empty).toArray 9))) :
    wpList Tryz.prog ops Q (o :: rest) a w := by
  refine wpList_plain hg fun K' hK' => ?_
  have hrun := make_256 w
  unfold Oper.wp
  simp [execOp, hop, hx, hy, hrun, Result.andThen]
  exact hK' _ _ hK

theorem rnew_end (w : World) : (∃ lv, RefAt ((w.alloc (.cells (sect fun _ => ByteArray.empty).toArray 9)).alloc (.cells (stCells w.heap.size (.slice none 0 0) Dk.St.new) 53)) w.heap.size (w.heap.size + 1) Dk.St.new w.heap.size lv) ∧
    Ch Tr w.heap.size w ((w.alloc (.cells (sect fun _ => ByteArray.empty).toArray 9)).alloc (.cells (stCells w.heap.size (.slice none 0 0) Dk.St.new) 53)) := by
  have hz : (w.alloc (.cells (sect fun _ => ByteArray.empty).toArray 9)).heap.size = w.heap.size + 1 := by simp
  have hb := Blk.new (w.alloc (.cells (sect fun _ => ByteArray.empty).toArray 9)) 53 (stCells w.heap.size (.slice none 0 0) Dk.St.new)
  rw [hz] at hb
  exact ⟨⟨.slice none 0 0, { blk := hb, sec := (Blk.new w _ _).alloc _, row := World.ownsRow_nil _ _ _ _, atg := Nat.le_succ _, atb := Nat.le_refl _, cuts := by decide, fails := by decide, keep := by decide, inv := Dk.Inv.new }⟩, ((Ch.refl _ _ _).alloc _).alloc _⟩

set_option maxRecDepth 20000 in
set_option maxHeartbeats 400000 in
theorem rnew_at (w : World) :
    Calls Tryz.prog 17 #[] w fun e w' => e = .returned (.pointer (some ⟨w.heap.size + 1, 0, none⟩)) ∧ (∃ lv, RefAt w' w.heap.size (w.heap.size + 1) Dk.St.new w.heap.size lv) ∧ Ch Tr w.heap.size w w' := by
  have HE := Lib.hid (rnew_end w)
  go_enter Tryz.func17, Tryz.ntmps17
  go_wp2_with (refine wpList_make_256 _ rfl _ _ rfl rfl rfl ?_)
  go_ret
  exact ⟨rfl, HE.out.1, HE.out.2⟩
theorem rnew_any (w : World) :
    Calls Tryz.prog 17 #[] w fun e w' => e = .returned (.pointer (some ⟨w.heap.size + 1, 0, none⟩)) ∧ Ref w' w.heap.size (w.heap.size + 1) Dk.St.new ∧ Ch Tr w.heap.size w w' := by
  refine (rnew_at w).mono ?_
  rintro e w' ⟨h1, ⟨lv, h2⟩, h3⟩
  exact ⟨h1, ⟨_, lv, h2⟩, h3⟩

end Go.Proofs.YtimcepoleboldaaGreatDoor

/- What the document's writeHead comes to. -/
namespace Go.Proofs.YtimcepoleboldaaGreatDoor
open Go.RowKit

theorem wrb_ok {st : Dk.St} {i : Nat} {s : ByteArray} (h : st.writeE (i : Int) s = 0) : Lg.wrb st [(i, s)] = ((st.write (i : Int) s).barrierE, (st.write (i : Int) s).barrier) := by
  have e : Lg.wr st [(i, s)] = (0, st.write (i : Int) s) := if_pos h
  unfold Lg.wrb
  rw [e]
  rfl
theorem wrb_no {st : Dk.St} {i : Nat} {s : ByteArray} (h : ¬ st.writeE (i : Int) s = 0) : Lg.wrb st [(i, s)] = (st.writeE (i : Int) s, st.write (i : Int) s) := by
  have e : Lg.wr st [(i, s)] = (st.writeE (i : Int) s, st.write (i : Int) s) := if_neg h
  unfold Lg.wrb
  rw [e]
  exact if_neg h

theorem RefAt.up {w w' : World} {B g b : Nat} {st : Dk.St} {lv : Value} (h : RefAt w B g st b lv) (hb : Below w.heap.size w w') : RefAt w' B g st b lv :=
  h.kept (T := fun _ => false) (B' := 0) (Ch.of_below hb) (fun _ => rfl) (fun _ => rfl) (fun _ => rfl)
theorem Rch.of_below {B b : Nat} {w w' : World} (h : Below w.heap.size w w') : Rch B b w w' := ⟨Ch.of_below h, Only.of_below h⟩

def RwhPost (B g b q : Nat) (st : Dk.St) (t : Lg.Top) (nx : Nat) (w : World) (e : Ending) (w' : World) : Prop :=
  e = .returned (.int .i64 (Lg.wrb st [(Lg.hsec t.e, Lg.encs (Lg.hd t))]).1) ∧ (∃ lv, RefAt w' B g (Lg.wrb st [(Lg.hsec t.e, Lg.encs (Lg.hd t))]).2 b lv) ∧ Rch B b w w' ∧ Blk w' q 91 (LgC g t nx)

theorem two_log {W : World} {q g nx : Nat} {t : Lg.Top} (h : Blk W q 91 (LgC g t nx)) :
    W.cell? ⟨q, 0, none⟩ = some (.pointer (some ⟨g, 0, none⟩)) ∧ W.cell? ⟨q, 1, none⟩ = some (.int .i64 t.e) ∧ W.cell? ⟨q, 2, none⟩ = some (.int .i64 t.b) := by
  obtain ⟨⟨a0, a1, a2, -⟩, -⟩ := six h
  exact ⟨a0, a1, a2⟩

set_option maxRecDepth 20000 in
set_option maxHeartbeats 2000000 in
theorem rwh_any (B g b q : Nat) (st : Dk.St) (lv : Value) (t : Lg.Top) (nx : Nat) (w : World) (hr : RefAt w B g st b lv) (hl : Blk w q 91 (LgC g t nx)) (ht : 0 ≤ t.b ∧ t.b ≤ t.e ∧ t.e ≤ 1099511627776 ∧ t.h ≤ 1) (hm : st.many ≤ 1000000) :
    Calls Tryz.prog 44 #[.pointer (some ⟨q, 0, none⟩)] w (RwhPost B g b q st t nx w) := by
  obtain ⟨s, hs⟩ : ∃ s : ByteArray, s = hafB t.h := ⟨_, rfl⟩
  have hsl : s.data.toList = if t.h = 1 then [49] else [48] := by rw [hs]; exact hafB_list t.h
  have hok := Lg.hd_ok t ht.1 ht.2.1 ht.2.2.1
  have hchu : (⟨t.e, t.b, true, true, s.data.toList⟩ : Cn.Chu) = Lg.hd t := by rw [hsl]; rfl
  have HE := Lib.hid (fun W => encode_ref t.e t.b true true s W)
  rw [hchu, encs_data _ hok] at HE
  have he0 : 0 ≤ t.e := by omega
  obtain ⟨z, hz⟩ : ∃ z, z = Lg.hsec t.e := ⟨_, rfl⟩
  have hzz : t.e % 2 = (z : Int) := by rw [hz]; unfold Lg.hsec; omega
  have HZ := Lib.hid hz
  have HTM := Lib.hid (show t.e.tmod 2 = (z : Int) by rw [Int.tmod_eq_emod_of_nonneg he0]; exact hzz)
  have HR := Lib.hid hr
  have HL := Lib.hid hl
  have HM := Lib.hid hm
  obtain ⟨a0, a1, a2⟩ := two_log hl
  obtain ⟨⟨-, -, -, a3, -, -⟩, -⟩ := six hl
  have HS := Lib.hid hs
  obtain ⟨S, hS⟩ : ∃ S, S = Lg.encs (Lg.hd t) := ⟨_, rfl⟩
  rw [← hS] at HE
  have HSS := Lib.hid hS
  clear hr hl hm hsl hok hchu hz hS
  rcases (show t.h = 0 ∨ t.h = 1 by omega) with hh | hh
  all_goals
    rw [hh] at a3 hs
    have hs2 : s = _ := hs
    unfold hafB at hs2
    first | simp only [if_false, Nat.zero_ne_one] at hs2 | simp only [if_true] at hs2
    subst hs2
    clear hs
    go_enter Tryz.func44, Tryz.ntmps44
    go_wp2_with fail
    go_region_held3 (fun W => W.cell? ⟨q, 0, none⟩ = some (.pointer (some ⟨g, 0, none⟩)) ∧ W.cell? ⟨q, 1, none⟩ = some (.int .i64 t.e) ∧ W.cell? ⟨q, 2, none⟩ = some (.int .i64 t.b)) (first | assumption | exact ⟨a0, a1, a2⟩ | go_keep)
      (first
        | (go_at_call 78; refine (HE.out _).mono ?_; rintro x w2 ⟨rfl, hb2⟩; have l2 := HL.out.drew.older hb2 HL.out.drew.lt; have s2 := two_log l2))
    obtain ⟨b0, b1, b2⟩ := s2
    have hr2 := HR.out.drew.up hb2
    have hch2 : Rch B b w w2 := (Rch.refl B b w).drew.trans (Rch.of_below hb2)
    rename_i hheld
    clear hheld HE a0 a1 a2 a3 hb2
    by_cases hE : st.writeE (z : Int) S = 0
    · have HE0 := Lib.hid hE
      go_wp2_with fail
      go_region_held3 (fun W => W.cell? ⟨q, 0, none⟩ = some (.pointer (some ⟨g, 0, none⟩)) ∧ W.cell? ⟨q, 1, none⟩ = some (.int .i64 t.e)) (first | assumption | exact ⟨b0, b1⟩ | go_keep)
        (first
          | (go_at_call 79; rw [HTM.out]; (with_reducible refine (rwrite_at B g st b lv (z : Int) S _ hr2.drew (by have := HM.out; omega)).mono ?_); rintro x w3 ⟨rfl, ⟨lv3, hr3⟩, hc3⟩; rw [hE]; have l3 := hc3.ch.blk l2.drew rfl; have s3 := And.intro (two_log l3).1 (two_log l3).2.1))
      all_goals
        obtain ⟨e0, e1, -⟩ := two_log l3
        have HF := Lib.hid (And.intro hr3 (And.intro (hch2.drew.trans hc3) l3))
        clear hr2 hch2 hr3 hc3 l3 s3 l2
        rename_i hheld
        clear hheld b0 b1 b2
        clear hE
        go_wp2_with fail
        refine (rbarrier_at B g _ b lv3 w3 HF.out.1 (by have := HM.out; have := Dk.many_write st (z : Int) S; omega)).mono ?_
        rintro x w4 ⟨rfl, ⟨lv4, hr4⟩, hc4⟩
        go_wp2_with fail
        go_ret
        unfold RwhPost
        rw [← HSS.out, ← HZ.out, wrb_ok HE0.out]
        exact ⟨rfl, ⟨lv4, hr4⟩, HF.out.2.1.trans hc4, hc4.ch.blk HF.out.2.2 rfl⟩
    · have HE0 := Lib.hid hE
      go_wp2_with fail
      go_region_held3 (fun W => W.cell? ⟨q, 0, none⟩ = some (.pointer (some ⟨g, 0, none⟩)) ∧ W.cell? ⟨q, 1, none⟩ = some (.int .i64 t.e)) (first | assumption | exact ⟨b0, b1⟩ | go_keep)
        (first
          | (go_at_call 79; rw [HTM.out]; (with_reducible refine (rwrite_at B g st b lv (z : Int) S _ hr2.drew (by have := HM.out; omega)).mono ?_); rintro x w3 ⟨rfl, ⟨lv3, hr3⟩, hc3⟩; have l3 := hc3.ch.blk l2.drew rfl; have s3 := And.intro (two_log l3).1 (two_log l3).2.1))
      all_goals
        obtain ⟨e0, e1, -⟩ := two_log l3
        have HF := Lib.hid (And.intro hr3 (And.intro (hch2.drew.trans hc3) l3))
        clear hr2 hch2 hr3 hc3 l3 s3 l2
        rename_i hheld
        clear hheld b0 b1 b2
        have hEb : (st.writeE (z : Int) S != 0) = true := by rw [bne_iff_ne]; exact hE
        have HWN := Lib.hid (wrb_no HE0.out)
        generalize st.writeE (z : Int) S = E at *
        go_wp2_with fail
        go_ret
        unfold RwhPost
        rw [← HSS.out, ← HZ.out, HWN.out]
        exact ⟨rfl, ⟨lv3, HF.out.1⟩, HF.out.2⟩

end Go.Proofs.YtimcepoleboldaaGreatDoor

/- What the document's Open comes to. -/
namespace Go.Proofs.YtimcepoleboldaaGreatDoor
open Go.RowKit

/-- Has one of the first k sectors a head? -/
def foundTo (f : Nat → ByteArray) : Nat → Bool
  | 0 => false
  | k + 1 => foundTo f k || (hdIn f k).isSome

theorem best_found {f : Nat → ByteArray} : ∀ {k : Nat}, foundTo f k = false → bestTo f k = ⟨0, 0, 0⟩ := by
  intro k
  induction k with
  | zero => intro _; rfl
  | succ k ih =>
    intro h
    have h' : (foundTo f k || (hdIn f k).isSome) = false := h
    rw [Bool.or_eq_false_iff] at h'
    have hn : hdIn f k = none := by
      cases hh : hdIn f k with
      | none => rfl
      | some t => rw [hh] at h'; cases h'.2
    rw [best_none hn]
    exact ih h'.1
theorem found_one {f : Nat → ByteArray} (h : foundTo f 1 = true) : (bestTo f 1).e % 2 = 0 := by
  have h' : (false || (hdIn f 0).isSome) = true := h
  rw [Bool.false_or] at h'
  cases hh : hdIn f 0 with
  | none => rw [hh] at h'; cases h'
  | some t =>
    have hg := hdIn_good hh
    rw [best_some hh, if_pos (by show (0 : Int) ≤ t.e; omega)]
    exact hg.2.2.2.2

theorem hdIn_head {f : Nat → ByteArray} {k : Nat} {s : ByteArray} (hs : f k = s) (hC : Cn.isC s.data.toList) (hH : Lg.isHead (Cn.decC s.data.toList) k) : hdIn f k = some (Lg.topOf (Cn.decC s.data.toList)) := by
  have eD : Cn.decC s.data.toList = Cn.got s.data.toList := by unfold Cn.decC; rw [if_pos hC]
  unfold hdIn Lg.head Lg.chk
  rw [hs, if_pos hC, ← eD]
  show (if Lg.isHead (Cn.decC s.data.toList) k then some (Cn.decC s.data.toList) else none).map Lg.topOf = _
  rw [if_pos hH]
  rfl
theorem hdIn_none {f : Nat → ByteArray} {k : Nat} {s : ByteArray} (hs : f k = s) (h : ¬ (Cn.isC s.data.toList ∧ Lg.isHead (Cn.decC s.data.toList) k)) : hdIn f k = none := by
  unfold hdIn Lg.head Lg.chk
  rw [hs]
  by_cases hC : Cn.isC s.data.toList
  · have eD : Cn.decC s.data.toList = Cn.got s.data.toList := by unfold Cn.decC; rw [if_pos hC]
    rw [if_pos hC, ← eD]
    show (if Lg.isHead (Cn.decC s.data.toList) k then some (Cn.decC s.data.toList) else none).map Lg.topOf = _
    rw [if_neg (fun hH => h ⟨hC, hH⟩)]
    rfl
  · rw [if_neg hC]
    rfl

def RopenPost (B g b : Nat) (st : Dk.St) (w : World) (e : Ending) (w' : World) : Prop :=
  (∃ lv, RefAt w' B g (Lg.openR st).2 b lv) ∧ Rch B b w w' ∧
  (((Lg.openR st).1 = 0 ∧ ∃ q v, e = .returned (.tuple #[.pointer (some ⟨q, 0, none⟩), v, .int .i64 0]) ∧ Strs w' v (mks (Lg.openRecs st))) ∨
   ((Lg.openR st).1 ≠ 0 ∧ ∃ v, e = .returned (.tuple #[.pointer none, v, .int .i64 (Lg.openR st).1]) ∧ Strs w' v []))

/-- Likewise, with the log that was opened. -/
def RopenLog (B g b : Nat) (st : Dk.St) (w : World) (e : Ending) (w' : World) : Prop :=
  (∃ lv, RefAt w' B g (Lg.openR st).2 b lv) ∧ Rch B b w w' ∧
  (((Lg.openR st).1 = 0 ∧ ∃ q v, e = .returned (.tuple #[.pointer (some ⟨q, 0, none⟩), v, .int .i64 0]) ∧ Strs w' v (mks (Lg.openRecs st)) ∧ w.heap.size ≤ q ∧ Blk w' q 91 (LgC g (Lg.openTop st) (Lg.scan st.is (Lg.top st.is)).2)) ∨
   ((Lg.openR st).1 ≠ 0 ∧ ∃ v, e = .returned (.tuple #[.pointer none, v, .int .i64 (Lg.openR st).1]) ∧ Strs w' v []))
theorem RopenLog.post {B g b : Nat} {st : Dk.St} {w : World} {e : Ending} {w' : World} (h : RopenLog B g b st w e w') : RopenPost B g b st w e w' := by
  obtain ⟨h1, h2, h3⟩ := h
  refine ⟨h1, h2, h3.imp (fun ⟨k1, q, v, k2, k3, _⟩ => ⟨k1, q, v, k2, k3⟩) id⟩

theorem ropen_bad {B g b : Nat} {st : Dk.St} {lv : Value} {w w' : World} {E : Int} (h : RefAt w' B g st b lv) (hc : Rch B b w w') (hr : Lg.openR st = (E, st)) (hE : E ≠ 0) :
    RopenLog B g b st w (.returned (.tuple #[.pointer none, .slice none 0 0, .int .i64 E])) w' := by
  unfold RopenLog
  rw [hr]
  exact ⟨⟨lv, h⟩, hc, .inr ⟨hE, _, rfl, Strs.of_row (l := []) (World.ownsRow_nil _ 0 _ _)⟩⟩

theorem Chg.lower {T : Obj → Bool} {B B' : Nat} {a b : World} (h : Ch T B a b) (hB : B' ≤ B) : Ch T B' a b :=
  ⟨h.os, h.tape, h.output, h.size, fun i hi hT => h.all i hi (fun hb hn => hT (Nat.le_trans hB hb) hn)⟩
theorem Only.of_ch {T : Obj → Bool} {B b : Nat} {w w' : World} (hc : Ch T B w w') (hT : ∀ cs z, T (.cells cs 9 z) = false) : Only b w w' := fun k cs z _ h0 =>
  (hc.block k (by
    rcases Nat.lt_or_ge k w.heap.size with h2 | h2
    · exact h2
    · rw [Array.getElem?_eq_none h2] at h0; cases h0) (fun _ o ho => by rw [h0] at ho; injection ho with ho; rw [← ho]; exact hT cs z)).trans h0
/-- A log of one's own, newer than w. -/
theorem Rch.then_log {B b q : Nat} {w w1 w2 : World} (h : Rch B b w w1) (hc : Ch Tq q w1 w2) (hq : w.heap.size ≤ q) : Rch B b w w2 :=
  ⟨h.ch.then_new (hc.lower hq), h.only.trans (Only.of_ch hc (fun _ _ => rfl))⟩

/-- What Open's loop knows. -/
structure RopAt (f : Nat → ByteArray) (g : Nat) (w : World) (k : Nat) (wr : World) : Prop where
  lg : Blk wr w.heap.size 91 (LgC g (bestTo f k) 0)
  below : Below w.heap.size w wr
theorem RopAt.up {f : Nat → ByteArray} {g : Nat} {w wr w1 : World} {k : Nat} (h : RopAt f g w k wr) (hb : Below wr.heap.size wr w1) : RopAt f g w k w1 := ⟨h.lg.older hb h.lg.lt, h.below.trans (hb.mono h.below.size)⟩
theorem RopAt.turn {f : Nat → ByteArray} {g : Nat} {w W : World} {k : Nat} {t0 : Lg.Top} {e q : Int} (hl : Blk W w.heap.size 91 (LgC g t0 0)) (hb : Below w.heap.size w W) :
    (bestTo f (k + 1) = ⟨e, q, 0⟩ → RopAt f g w (k + 1) (((W.setCell ⟨w.heap.size, 1, none⟩ (.int .i64 e)).setCell ⟨w.heap.size, 2, none⟩ (.int .i64 q)).setCell ⟨w.heap.size, 3, none⟩ (.int .i64 0))) ∧
    (bestTo f (k + 1) = ⟨e, q, 1⟩ → RopAt f g w (k + 1) ((((W.setCell ⟨w.heap.size, 1, none⟩ (.int .i64 e)).setCell ⟨w.heap.size, 2, none⟩ (.int .i64 q)).setCell ⟨w.heap.size, 3, none⟩ (.int .i64 0)).setCell ⟨w.heap.size, 3, none⟩ (.int .i64 1))) := by
  have h3 := ((hl.l1 (.int .i64 e)).l2 (.int .i64 q)).l3 (.int .i64 0)
  have g3 := gr_set_new (gr_set_new (gr_set_new (gr_of_below hb none) (Nat.le_refl _) 1 (.int .i64 e)) (Nat.le_refl _) 2 (.int .i64 q)) (Nat.le_refl _) 3 (.int .i64 0)
  exact ⟨fun he => ⟨by rw [he]; exact h3, gr_to_below g3⟩, fun he => ⟨by rw [he]; exact h3.l3 (.int .i64 1), gr_to_below (gr_set_new g3 (Nat.le_refl _) 3 _)⟩⟩

set_option maxRecDepth 20000 in
set_option maxHeartbeats 4000000 in
theorem ropen_log (B g b : Nat) (st : Dk.St) (lv : Value) (w : World) (h : RefAt w B g st b lv) (hm : st.many ≤ 1000000) :
    Calls Tryz.prog 18 #[.pointer (some ⟨g, 0, none⟩)] w (RopenLog B g b st w) := by
  have hin := Lib.hid h.inv.texts
  have HR := Lib.hid (fun (i : Int) (W : World) (hb : Below w.heap.size w W) => rread_any B g st i W ⟨b, lv, h.up hb⟩)
  have h0 : RopAt st.is g w 0 (w.alloc (.cells #[.pointer (some ⟨g, 0, none⟩), .int .i64 0, .int .i64 0, .int .i64 0, .int .i64 0, .int .i64 0] 91)) :=
    ⟨Blk.new w 91 _, (Below.refl _ _).alloc (Nat.le_refl _) _⟩
  have HRef := Lib.hid h
  have HM := Lib.hid hm
  clear h hm
  go_enter Tryz.func18, Tryz.ntmps18
  go_wp2_with fail
  go_loopw [6, 7] (fun v6 v7 wr => ∃ k : Nat, k ≤ 2 ∧ (0 < k → st.off = false) ∧ v6 = .bool (foundTo st.is k) ∧ v7 = .int .i64 (k : Int) ∧ RopAt st.is g w k wr) (fun _ v _ => 2 - (intOf v).toNat)
  case atStart => exact ⟨0, by omega, fun h => absurd h (Nat.lt_irrefl _), rfl, rfl, h0⟩
  case round =>
    obtain ⟨k, hk, hoff, rfl, rfl, hL⟩ := hrel
    have HOF := Lib.hid hoff
    have HL := Lib.hid hL
    clear h0 hoff hL
    by_cases hlt : k < 2
    · cases ho : st.off with
      | true =>
        obtain ⟨r1, r2⟩ := read_off (i := (k : Int)) ho
        have HR33 := Lib.hid (show Lg.openR st = (33, st) by unfold Lg.openR; rw [if_pos ho])
        go_wp2_with fail
        refine (HR.out (k : Int) wr HL.out.below).mono ?_
        rintro e w2 ⟨rfl, rfl⟩
        rw [r1, r2]
        clear r1 r2 ho
        go_wp2_with fail
        go_ret3
        exact ropen_bad (HRef.out.up HL.out.below) (Rch.of_below HL.out.below) HR33.out (by decide)
      | false =>
        have HO := Lib.hid ho
        obtain ⟨r1, r2⟩ := read_on ho (i := k) (by omega)
        obtain ⟨s, hs⟩ : ∃ s, st.is k = s := ⟨_, rfl⟩
        have hsz : s.size ≤ 1048576 := by rw [← hs]; exact Nat.le_trans (hin.out k) (by decide)
        rw [hs] at r1
        have HS := Lib.hid hs
        clear ho hs
        go_wp2_with fail
        refine (HR.out (k : Int) wr HL.out.below).mono ?_
        rintro e w2 ⟨rfl, rfl⟩
        rw [r1, r2]
        clear r1 r2
        go_wp2_with fail
        refine (refhead_any s k wr hsz).mono ?_
        rintro x w2 ⟨e, cq, f, l, d, rfl, his, hb2⟩
        have his' : (⟨e, cq, f, l, d.data.toList⟩ : Cn.Chu) = Cn.decC s.data.toList := his
        have hL2 := HL.out.up hb2
        have hap : w.heap.size ≠ w2.heap.size := fun e => by have := hL2.lg.lt; omega
        have hL3 := hL2.up ((Below.refl _ _).alloc (Nat.le_refl _) (.cells (ChC e cq f l d) 95))
        obtain ⟨d0, d1, d2, d3, d4⟩ := five (Blk.new w2 95 (ChC e cq f l d))
        obtain ⟨⟨a0, a1, a2, a3, a4, a5⟩, y0, y1, y2, y3, y4, y5⟩ := six hL3.lg
        have HL3 := Lib.hid hL3
        have HIS := Lib.hid his'
        clear hL2 hL3 his his' hb2 HL
        by_cases hc : Cn.isC s.data.toList ∧ Lg.isHead (Cn.decC s.data.toList) k
        · rw [decide_eq_true hc]
          have HD := Lib.hid (hdIn_head HS.out hc.1 hc.2)
          have HTOP := Lib.hid (show Lg.topOf (Cn.decC s.data.toList) = ⟨e, cq, if d.data.toList = [49] then 1 else 0⟩ by rw [← HIS.out]; rfl)
          have HG := Lib.hid (hdIn_good HD.out)
          have hpos : 0 ≤ e := by
            have h1 := HG.out
            rw [HTOP.out] at h1
            have h2 : 0 ≤ cq ∧ cq ≤ e := ⟨h1.1, h1.2.1⟩
            omega
          have HFN := Lib.hid (show foundTo st.is (k + 1) = true by show (foundTo st.is k || (hdIn st.is k).isSome) = true; rw [HD.out]; simp)
          clear hc
          cases hfd : foundTo st.is k with
          | false =>
            have HB1 := Lib.hid (show bestTo st.is (k + 1) = Lg.topOf (Cn.decC s.data.toList) by
              rw [best_some HD.out, best_found hfd, if_pos (by rw [HTOP.out]; exact hpos)])
            clear hfd
            by_cases hd1 : d = ⟨#[49]⟩
            · subst hd1
              have HEQ := Lib.hid (show bestTo st.is (k + 1) = ⟨e, cq, 1⟩ by rw [HB1.out, HTOP.out]; rfl)
              go_wp2_with fail
              generalize w2.alloc (.cells (ChC e cq f l ⟨#[49]⟩) 95) = w3 at *
              have HT := Lib.hid (fun n => RopAt.turn (f := st.is) (k := k) (e := e) (q := cq) (W := w3.drewN n) (t0 := bestTo st.is k) HL3.out.lg (HL3.out.below.trans ((below_drewN w3 n).mono HL3.out.below.size)))
              go_quiet (fail)
              go_wp2_with fail
              go_roundw
              case rel => exact ⟨k + 1, by omega, by first | exact fun _ => trivial | exact fun _ => HO.out, by rw [HFN.out], by go_num, (HT.out _).2 HEQ.out⟩
              case measure => simp [intOf]; omega
            · have hd2 : (d.toList == [49]) = false := by
                rw [beq_eq_false_iff_ne]
                exact fun e => hd1 (of_list (by rw [← ByteArray.toList_eq]; exact e))
              have HEQ := Lib.hid (show bestTo st.is (k + 1) = ⟨e, cq, 0⟩ by
                rw [HB1.out, HTOP.out, if_neg (fun h => hd1 (of_list h))])
              go_wp2_with fail
              generalize w2.alloc (.cells (ChC e cq f l d) 95) = w3 at *
              have HT := Lib.hid (fun n => RopAt.turn (f := st.is) (k := k) (e := e) (q := cq) (W := w3.drewN n) (t0 := bestTo st.is k) HL3.out.lg (HL3.out.below.trans ((below_drewN w3 n).mono HL3.out.below.size)))
              go_quiet (fail)
              go_wp2_with fail
              go_roundw
              case rel => exact ⟨k + 1, by omega, by first | exact fun _ => trivial | exact fun _ => HO.out, by rw [HFN.out], by go_num, (HT.out _).1 HEQ.out⟩
              case measure => simp [intOf]; omega
          | true =>
            have hk1 : k = 1 := by
              rcases (show k = 0 ∨ k = 1 by omega) with rfl | rfl
              · cases hfd
              · rfl
            have hpar : (bestTo st.is k).e % 2 = 0 := by subst hk1; exact found_one hfd
            have hpe : e % 2 = (k : Int) := by
              have h1 := HG.out.2.2.2.2
              rw [HTOP.out] at h1
              exact h1
            clear hfd
            by_cases hle : (bestTo st.is k).e < e
            · have HB1 := Lib.hid (show bestTo st.is (k + 1) = Lg.topOf (Cn.decC s.data.toList) by
                rw [best_some HD.out, if_pos (by rw [HTOP.out]; show (bestTo st.is k).e ≤ e; omega)])
              have hcmp : decide ((bestTo st.is k).e < e) = true := decide_eq_true hle
              clear hpar hpe hk1
              by_cases hd1 : d = ⟨#[49]⟩
              · subst hd1
                have HEQ := Lib.hid (show bestTo st.is (k + 1) = ⟨e, cq, 1⟩ by rw [HB1.out, HTOP.out]; rfl)
                go_wp2_with fail
                generalize w2.alloc (.cells (ChC e cq f l ⟨#[49]⟩) 95) = w3 at *
                have HT := Lib.hid (fun n => RopAt.turn (f := st.is) (k := k) (e := e) (q := cq) (W := w3.drewN n) (t0 := bestTo st.is k) HL3.out.lg (HL3.out.below.trans ((below_drewN w3 n).mono HL3.out.below.size)))
                go_quiet (fail)
                go_wp2_with fail
                go_roundw
                case rel => exact ⟨k + 1, by omega, by first | exact fun _ => trivial | exact fun _ => HO.out, by rw [HFN.out], by go_num, (HT.out _).2 HEQ.out⟩
                case measure => simp [intOf]; omega
              · have hd2 : (d.toList == [49]) = false := by
                  rw [beq_eq_false_iff_ne]
                  exact fun e => hd1 (of_list (by rw [← ByteArray.toList_eq]; exact e))
                have HEQ := Lib.hid (show bestTo st.is (k + 1) = ⟨e, cq, 0⟩ by
                  rw [HB1.out, HTOP.out, if_neg (fun h => hd1 (of_list h))])
                go_wp2_with fail
                generalize w2.alloc (.cells (ChC e cq f l d) 95) = w3 at *
                have HT := Lib.hid (fun n => RopAt.turn (f := st.is) (k := k) (e := e) (q := cq) (W := w3.drewN n) (t0 := bestTo st.is k) HL3.out.lg (HL3.out.below.trans ((below_drewN w3 n).mono HL3.out.below.size)))
                go_quiet (fail)
                go_wp2_with fail
                go_roundw
                case rel => exact ⟨k + 1, by omega, by first | exact fun _ => trivial | exact fun _ => HO.out, by rw [HFN.out], by go_num, (HT.out _).1 HEQ.out⟩
                case measure => simp [intOf]; omega
            · have HB1 := Lib.hid (show bestTo st.is (k + 1) = bestTo st.is k by
                rw [best_some HD.out, if_neg (by rw [HTOP.out]; show ¬ (bestTo st.is k).e ≤ e; omega)])
              have hcmp : decide ((bestTo st.is k).e < e) = false := decide_eq_false hle
              clear hpar hpe hk1
              go_wp2_with fail
              generalize w2.alloc (.cells (ChC e cq f l d) 95) = w3 at *
              go_quiet (fail)
              go_wp2_with fail
              go_roundw
              case rel => exact ⟨k + 1, by omega, by first | exact fun _ => trivial | exact fun _ => HO.out, by rw [HFN.out], by go_num, ⟨by rw [HB1.out]; exact HL3.out.lg, HL3.out.below.trans ((below_drewN w3 _).mono HL3.out.below.size)⟩⟩
              case measure => simp [intOf]; omega
        · rw [decide_eq_false hc]
          have HD := Lib.hid (hdIn_none HS.out hc)
          have HFN := Lib.hid (show foundTo st.is (k + 1) = foundTo st.is k by show (foundTo st.is k || (hdIn st.is k).isSome) = _; rw [HD.out]; simp)
          have HB1 := Lib.hid (best_none HD.out)
          clear hc
          go_wp2_with fail
          generalize w2.alloc (.cells (ChC e cq f l d) 95) = w3 at *
          go_quiet (fail)
          go_wp2_with fail
          go_roundw
          case rel => exact ⟨k + 1, by omega, by first | exact fun _ => trivial | exact fun _ => HO.out, by rw [HFN.out], by go_num, ⟨by rw [HB1.out]; exact HL3.out.lg, HL3.out.below.trans ((below_drewN w3 _).mono HL3.out.below.size)⟩⟩
          case measure => simp [intOf]; omega
    · obtain rfl : k = 2 := by omega
      have ho := HOF.out (by decide)
      have ht := top_good st.is
      have hlg := HL.out.lg
      rw [best_two] at hlg
      obtain ⟨t, htt⟩ : ∃ t, t = Lg.top st.is := ⟨_, rfl⟩
      rw [← htt] at ht hlg
      have HT := Lib.hid htt
      have HG := Lib.hid ht
      have hte := ht.2.2.1
      have ht0 : 0 ≤ t.e := by omega
      have HO := Lib.hid ho
      have HSC := Lib.hid (rlook_any B g w.heap.size st t wr ⟨b, lv, HRef.out.up HL.out.below⟩ hlg ho ht.2.2.2)
      clear ho ht hlg htt HOF
      go_wp2_with fail
      refine HSC.out.mono ?_
      rintro x w4 ⟨v, rfl, hrow, hl4, hc4⟩
      have hr4 : RefAt w4 B g st b lv := (HRef.out.up HL.out.below).kept hc4 (fun _ => rfl) (fun _ => rfl) (fun _ => rfl)
      have hch4 : Rch B b w w4 := (Rch.of_below HL.out.below).then_log hc4 (Nat.le_refl _)
      obtain ⟨⟨a0, a1, a2, a3, a4, a5⟩, y0, y1, y2, y3, y4, y5⟩ := six hl4
      have hbsz : b < wr.heap.size := Nat.lt_of_lt_of_le HRef.out.sec.lt HL.out.below.size
      by_cases hfull : t.e = 1099511627776
      · have HR50 := Lib.hid (show Lg.openR st = (50, st) by unfold Lg.openR; rw [if_neg (by rw [HO.out]; decide), ← HT.out, if_pos hfull])
        have HF := Lib.hid (And.intro hr4 hch4)
        clear hr4 hch4 hrow hl4 hc4
        go_wp2_with fail
        go_ret3
        exact ropen_bad HF.out.1 HF.out.2 HR50.out (by decide)
      · have hfb : (t.e == 1099511627776) = false := by rw [beq_eq_false_iff_ne]; exact hfull
        have hcs : Ch Tq w.heap.size w4 (w4.setCell ⟨w.heap.size, 1, none⟩ (.int .i64 (t.e + 1))) := Ch.set hl4 (Nat.le_refl _) rfl 1 _
        have hl5 : Blk (w4.setCell ⟨w.heap.size, 1, none⟩ (.int .i64 (t.e + 1))) w.heap.size 91 (LgC g ⟨t.e + 1, t.b, t.h⟩ (Lg.scan st.is t).2) := hl4.l1 _
        have hr5 : RefAt (w4.setCell ⟨w.heap.size, 1, none⟩ (.int .i64 (t.e + 1))) B g st b lv := hr4.kept hcs (fun _ => rfl) (fun _ => rfl) (fun _ => rfl)
        have hch5 := hch4.then_log hcs (Nat.le_refl _)
        have hrow5 := owns_ch hrow hcs (fun _ => rfl)
        have te1 : t.e + 1 ≤ 1099511627776 := by omega
        have HT1 := Lib.hid (show Lg.openTop st = ⟨t.e + 1, t.b, t.h⟩ by unfold Lg.openTop; rw [← HT.out])
        have HOR := Lib.hid (show Lg.openR st = Lg.wrb st [(Lg.hsec (⟨t.e + 1, t.b, t.h⟩ : Lg.Top).e, Lg.encs (Lg.hd ⟨t.e + 1, t.b, t.h⟩))] by
          unfold Lg.openR
          rw [if_neg (by rw [HO.out]; decide), ← HT.out, if_neg hfull, HT1.out])
        have HW := Lib.hid (rwh_any B g b w.heap.size st lv ⟨t.e + 1, t.b, t.h⟩ (Lg.scan st.is t).2 _ hr5 hl5 ⟨HG.out.1, by show t.b ≤ t.e + 1; have := HG.out.2.1; omega, te1, HG.out.2.2.2⟩ HM.out)
        have HF5 := Lib.hid (And.intro hch5 hrow5)
        clear hcs hl5 hr5 hch5 hrow5 hr4 hch4 hrow hl4 hc4
        go_wp2_with fail
        refine HW.out.mono ?_
        rintro e w6 ⟨rfl, ⟨lv6, hr6⟩, hch6, hl6⟩
        have HL6 := Lib.hid hl6
        obtain ⟨r, hr⟩ : ∃ r, r = Lg.wrb st [(Lg.hsec (⟨t.e + 1, t.b, t.h⟩ : Lg.Top).e, Lg.encs (Lg.hd ⟨t.e + 1, t.b, t.h⟩))] := ⟨_, rfl⟩
        rw [← hr] at hr6 ⊢
        have HRR := Lib.hid (HOR.out.trans hr.symm)
        have HF := Lib.hid (And.intro (show ∃ lv, RefAt w6 B g r.2 b lv from ⟨lv6, hr6⟩) (And.intro (HF5.out.1.trans hch6) (Strs.of_row (owns_only HF5.out.2 hch6.only hbsz))))
        clear hr hr6 hch6 hl6 HW HOR
        by_cases hE : r.1 = 0
        · have HE := Lib.hid hE
          rw [hE]
          clear hE
          go_wp2_with fail
          go_ret3
          unfold RopenLog
          rw [HRR.out]
          refine ⟨HF.out.1, HF.out.2.1, .inl ⟨HE.out, _, _, rfl, ?_, Nat.le_refl _, ?_⟩⟩
          · unfold Lg.openRecs
            rw [← HT.out]
            exact HF.out.2.2
          · rw [HT1.out, ← HT.out]
            exact HL6.out
        · have hEb : (r.1 != 0) = true := by rw [bne_iff_ne]; exact hE
          have HE := Lib.hid hE
          go_wp2_with fail
          go_ret3
          unfold RopenLog
          rw [HRR.out]
          exact ⟨HF.out.1, HF.out.2.1, .inr ⟨HE.out, _, rfl, Strs.of_row (l := []) (World.ownsRow_nil _ 0 _ _)⟩⟩

theorem ropen_any (B g b : Nat) (st : Dk.St) (lv : Value) (w : World) (h : RefAt w B g st b lv) (hm : st.many ≤ 1000000) :
    Calls Tryz.prog 18 #[.pointer (some ⟨g, 0, none⟩)] w (RopenPost B g b st w) := (ropen_log B g b st lv w h hm).mono fun _ _ h => h.post
end Go.Proofs.YtimcepoleboldaaGreatDoor

/- What the document's Cut comes to. -/
namespace Go.Proofs.YtimcepoleboldaaGreatDoor
open Go.RowKit

/-- What the loop knows: the pieces of pre are there, those of r are to come. -/
def CutLoop (base : Nat) (s : ByteArray) (w : World) (v0 v3 : Value) (wr : World) : Prop :=
  ∃ (pre : List ByteArray) (r : ByteArray), v0 = .string r ∧ r.size ≤ 1048576 ∧ pre ++ cutB r = cutB s ∧ wr.ownsRow base 9 1 v3 pre.length (pre.map Value.string) ∧ Below base w wr

theorem own_none (w : World) : (w.alloc (.cells #[] 9)).ownsRow w.heap.size 9 1 (.slice (some ⟨w.heap.size, 0, none⟩) 0 0) 0 [] :=
  ⟨rfl, .inr ⟨w.heap.size, 0, #[], rfl, Nat.le_refl _, heap_alloc_new w _, Nat.le_refl _, Nat.zero_le _, rfl, rfl⟩⟩

theorem one_str (x : ByteArray) : ∀ u ∈ [Value.string x], u.oneCell' = true := by
  intro u hu; simp at hu; subst hu; rfl

theorem strs_one (l : List ByteArray) : ∀ u ∈ l.map Value.string, u.oneCell' = true := by
  intro u hu
  simp only [List.mem_map] at hu
  obtain ⟨b, _, rfl⟩ := hu
  rfl

/-- One piece more. -/
theorem own_piece {w1 : World} {base g1 cap1 : Nat} {pre : List ByteArray} {x : ByteArray}
    (h : w1.ownsRow base 9 1 (.slice (some ⟨g1, 0, none⟩) (pre.length + 1) cap1) (pre.length + 1) (pre.map Value.string ++ [.string x])) :
    w1.ownsRow base 9 1 (.slice (some ⟨g1, 0, none⟩) (pre.length + 1) cap1) (pre ++ [x]).length ((pre ++ [x]).map Value.string) := by
  simpa using h

theorem base_up {B : Nat} {w wr : World} (h : Below B w wr) (hB : B ≤ w.heap.size) (o : Obj) : B ≤ (wr.alloc o).heap.size := by
  have h1 := h.size
  show B ≤ (wr.heap.push o).size
  rw [Array.size_push]; omega
theorem below_piece {B : Nat} {w wr w1 : World} {row : Option Nat} (h : Below B w wr) (hB : B ≤ w.heap.size) (o : Obj) (hg : (wr.alloc o).grownBy w1 row) (hr : ∀ k, row = some k → B ≤ k) : Below B w w1 :=
  (h.alloc (Nat.le_trans hB h.size) o).grown hg (base_up h hB o) hr

set_option maxRecDepth 20000 in
set_option maxHeartbeats 1000000 in
theorem chunkcut_ref (s : ByteArray) (w : World) (hs : s.size ≤ 1048576) :
    Calls Tryz.prog 81 #[.string s] w fun e W' => ∃ v, e = .returned v ∧ W'.ownsRow w.heap.size 9 1 v (cutB s).length ((cutB s).map Value.string) ∧ Below w.heap.size w W' := by
  have hlen := cutB_len _ s hs
  obtain ⟨i0, hi, hz0, hz1, hz2⟩ := info_parts info_str
  go_enter Tryz.func81, Tryz.ntmps81
  go_wp2_with fail
  go_loopw [0, 3] (CutLoop w.heap.size s w) (fun r _ _ => strLen r)
  case atStart => exact ⟨[], s, rfl, hs, rfl, own_none w, (Below.refl _ _).alloc (Nat.le_refl _) _⟩
  case round =>
    obtain ⟨pre, r, rfl, hr, hx, hown, hbel⟩ := hrel
    have hpl : pre.length ≤ 1048577 := by
      have := congrArg List.length hx
      rw [List.length_append] at this
      omega
    have HX := Lib.hid hx; clear hx
    by_cases hl : 96 < r.size
    · have hli : 96 < (r.size : Int) := by omega
      go_wp2_with (at_builtin; refine wpList_append_lies _ rfl (.tmp 8) (.tmp 11) 22 rfl w.heap.size 9 i0 (.string ⟨#[]⟩) 1 16 Tryz.underlying22 hi hz0 hz1 hz2 rfl (by decide) u3 pre.length _ rfl (hown.alloc _) ⟨wr.heap.size, 0, none⟩ 1 1 [.string (r.extract 0 96)] rfl rfl (cell_one_new wr _ 9) (one_str _) (by decide) (by unfold maxLen; omega) (by omega) (base_up hbel (Nat.le_refl _) _) _ rfl ?_; intro g1 cap1 w1 hown1 hgrow1 _ _)
      have hown2 := own_piece hown1
      have hbel2 := below_piece hbel (Nat.le_refl _) _ hgrow1 (fun j hj => (hown.lt j hj).1)
      clear hgrow1 hown1 hown hbel
      go_wp2_with fail
      go_roundw
      case rel => exact ⟨_, r.extract 96 r.size, rfl, by rw [ByteArray.size_extract]; omega, by rw [← HX.out, cutB_long r hl]; simp, hown2, hbel2⟩
      case measure => simp only [strLen]; rw [ByteArray.size_extract]; omega
    · have hli : (r.size : Int) ≤ 96 := by omega
      go_wp2_with (at_builtin; refine wpList_append_lies _ rfl (.tmp 15) (.tmp 17) 22 rfl w.heap.size 9 i0 (.string ⟨#[]⟩) 1 16 Tryz.underlying22 hi hz0 hz1 hz2 rfl (by decide) u3 pre.length _ rfl (hown.alloc _) ⟨wr.heap.size, 0, none⟩ 1 1 [.string r] rfl rfl (cell_one_new wr _ 9) (one_str _) (by decide) (by unfold maxLen; omega) (by omega) (base_up hbel (Nat.le_refl _) _) _ rfl ?_; intro g1 cap1 w1 hown1 hgrow1 _ _)
      have hown2 := own_piece hown1
      have hbel2 := below_piece hbel (Nat.le_refl _) _ hgrow1 (fun j hj => (hown.lt j hj).1)
      clear hgrow1 hown1 hown hbel
      go_wp2_with fail
      go_ret
      have hxx := HX.out
      rw [cutB_short r (by omega)] at hxx
      rw [hxx] at hown2
      exact ⟨_, rfl, hown2, hbel2⟩

end Go.Proofs.YtimcepoleboldaaGreatDoor

/- The document's Many. -/
namespace Go.Proofs.YtimcepoleboldaaGreatDoor
open Go.RowKit

/-! ### Many -/
def ManyPost (l : List ByteArray) (w : World) (e : Ending) (w' : World) : Prop :=
  ∃ n : Nat, e = .returned (.int .i64 (n : Int)) ∧ n ≤ 3000000 ∧ (n ≤ 127 → n = manyB l) ∧ (127 < n → 127 < manyB l) ∧ Below w.heap.size w w'

theorem many_end {l : List ByteArray} {k : Nat} (h : l.length ≤ k ∨ 127 < manyB (l.take k)) : (manyB (l.take k) ≤ 127 → manyB (l.take k) = manyB l) ∧ (127 < manyB (l.take k) → 127 < manyB l) := by
  have h1 := many_take l k
  refine ⟨fun hs => ?_, fun hs => by omega⟩
  rcases h with hk | hk
  · rw [List.take_of_length_le hk]
  · omega

set_option maxRecDepth 20000 in
set_option maxHeartbeats 800000 in
theorem refmany_any (va : Value) (l : List ByteArray) (w : World) (ha : Strs w va l) (hl : size l ≤ 1048576) :
    Calls Tryz.prog 45 #[va] w (ManyPost l w) := by
  obtain ⟨A, ca, rfl, hca, hA⟩ := ha
  have HA := Lib.hid hA
  have hlen : l.length ≤ 1048576 := by unfold size at hl; omega
  have HS := Lib.hid hl
  clear hA hl
  go_enter Tryz.func45, Tryz.ntmps45
  go_wp2_with fail
  go_loopw [3, 4] (fun n i wr => ∃ k : Nat, k ≤ l.length ∧ manyB (l.take k) ≤ 3000000 ∧ i = .int .i64 (k : Int) ∧ n = .int .i64 ((manyB (l.take k) : Nat) : Int) ∧ Below w.heap.size w wr) (fun _ i _ => l.length - (intOf i).toNat)
  case atStart => exact ⟨0, Nat.zero_le _, by simp [manyB, bls, Lg.many], rfl, rfl, Below.refl _ _⟩
  case round =>
    obtain ⟨k, hk, hsz, rfl, rfl, hb⟩ := hrel
    by_cases hn : manyB (l.take k) ≤ 127
    · by_cases hlt : k < l.length
      · obtain ⟨x, hx⟩ : ∃ x, l[k]? = some x := ⟨_, List.getElem?_eq_getElem hlt⟩
        obtain ⟨b1, o1, rfl, l1, c1⟩ := HA.out k x hx
        have d1 := (hb.cell (p := ⟨b1, o1 + k, none⟩) l1).trans c1
        have hup := Lib.hid (many_take_up hx)
        have hxs := size_mem hx
        have hpl := plc_le x
        have hS := HS.out
        have HC := Lib.hid (fun W : World => chunkcut_ref x W (by omega))
        rw [cutB_plc] at HC
        clear hx c1
        generalize Lg.plc (bl x) = q at *
        go_wp2_with fail
        refine (HC.out wr).mono ?_
        rintro e w2 ⟨v, rfl, hr, hb2⟩
        have hb3 := hb.trans (hb2.mono hb.size)
        have hv : ∃ A2 cap2, v = .slice A2 q cap2 := by
          rcases hr.2 with ⟨rfl, h0⟩ | ⟨g2, cap2, cur, rfl, _⟩
          · exact ⟨none, 0, by rw [h0]⟩
          · exact ⟨_, cap2, rfl⟩
        obtain ⟨A2, cap2, rfl⟩ := hv
        clear hr hb2 HC d1
        go_wp2_with fail
        go_roundw
        case rel => exact ⟨k + 1, by omega, by rw [hup.out]; omega, by go_num, congrArg (Value.int .i64) (by rw [hup.out]; omega), hb3⟩
        case measure => simp [intOf]; omega
      · have HE := Lib.hid (many_end (l := l) (k := k) (.inl (by omega)))
        go_wp2_with fail
        go_ret
        exact ⟨_, rfl, hsz, HE.out.1, HE.out.2, hb⟩
    · have HE := Lib.hid (many_end (l := l) (k := k) (.inr (by omega)))
      by_cases hlt : k < l.length
      · go_wp2_with fail
        go_ret
        exact ⟨_, rfl, hsz, HE.out.1, HE.out.2, hb⟩
      · go_wp2_with fail
        go_ret
        exact ⟨_, rfl, hsz, HE.out.1, HE.out.2, hb⟩
end Go.Proofs.YtimcepoleboldaaGreatDoor

/- The document's Append, of any records: what stays of its disk, whatever it writes. -/
namespace Go.Proofs.YtimcepoleboldaaGreatDoor.Dk

/-- The power is on, and nothing is to come. -/
structure Well (st : St) : Prop where
  on : st.off = false
  cuts : st.cuts = 0
  fails : st.fails = 0
  out : ∀ j, 256 ≤ j → st.is j = ByteArray.empty
theorem Well.new : Well St.new := ⟨rfl, rfl, rfl, fun _ _ => rfl⟩
theorem Well.due {st : St} (h : Well st) : st.due = 0 := by unfold St.due; rw [h.cuts, h.fails]; rfl
theorem Well.tick {st : St} (h : Well st) : Well st.tick := ⟨h.on, by show st.cuts - 1 = 0; rw [h.cuts], by show st.fails - 1 = 0; rw [h.fails], h.out⟩
theorem Well.write {st : St} (h : Well st) (i : Int) (s : ByteArray) : Well (st.write i s) := by
  unfold St.write
  by_cases hb : st.bars i s ≠ 0
  · rw [if_pos hb]
    exact h
  · rw [if_neg hb, h.due, if_neg (by decide), if_neg (by decide)]
    refine ⟨h.tick.on, h.tick.cuts, h.tick.fails, fun j hj => ?_⟩
    have hi : i.toNat < 256 := by
      have hb' : st.bars i s = 0 := Classical.byContradiction hb
      unfold St.bars at hb'
      by_cases hr : st.reach i = 0
      · unfold St.reach at hr
        rw [h.on, if_neg (by decide)] at hr
        by_cases h2 : i < 0 ∨ 256 ≤ i
        · rw [if_pos h2] at hr
          exact absurd hr (by decide)
        · omega
      · rw [if_pos hr] at hb'
        exact absurd hb' hr
    show up st.is i.toNat s j = _
    unfold up
    rw [if_neg (by omega)]
    exact h.out j hj
theorem Well.barrier {st : St} (h : Well st) : Well st.barrier ∧ st.barrierE = 0 ∧ st.barrier.loose = [] ∧ st.barrier.is = st.is := by
  have e : st.barrier = st.tick.fasten := by
    unfold St.barrier
    rw [h.on, h.due]
    rfl
  refine ⟨?_, ?_, ?_, ?_⟩
  · rw [e]
    exact ⟨h.tick.on, h.tick.cuts, h.tick.fails, h.tick.out⟩
  · unfold St.barrierE
    rw [h.on, h.due]
    rfl
  · rw [e]; rfl
  · rw [e]; rfl
theorem Well.still {st : St} (h : Well st) (hl : st.loose = []) : Lg.Still st := ⟨h.on, h.fails, hl⟩
/-- A write of a text that fits, to a sector that there is. -/
theorem Well.written {st : St} (h : Well st) {i : Nat} {s : ByteArray} (hi : i < 256) (hs : s.size ≤ 128) : st.writeE (i : Int) s = 0 ∧ (st.write (i : Int) s).is = up st.is i s := by
  have hr : st.reach (i : Int) = 0 := by
    unfold St.reach
    rw [h.on, if_neg (by decide), if_neg (by omega)]
  have hb : st.bars (i : Int) s = 0 := by
    unfold St.bars
    rw [hr, if_neg (by decide), if_neg (by omega)]
  refine ⟨?_, ?_⟩
  · unfold St.writeE
    rw [hb, if_neg (by decide)]
    exact h.due
  · unfold St.write
    rw [hb, if_neg (by decide), h.due, if_neg (by decide), if_neg (by decide)]
    rfl
theorem Well.bars {a b : St} (ha : Well a) (hb : Well b) (i : Int) (s : ByteArray) : a.writeE i s = b.writeE i s := by
  unfold St.writeE St.bars St.reach
  rw [ha.on, hb.on, ha.due, hb.due]
theorem Well.wrb {st : St} (h : Well st) (i : Nat) (s : ByteArray) : (Lg.wrb st [(i, s)]).1 = st.writeE (i : Int) s ∧ Well (Lg.wrb st [(i, s)]).2 := by
  by_cases hE : st.writeE (i : Int) s = 0
  · rw [wrb_ok hE]
    have hb := (h.write (i : Int) s).barrier
    exact ⟨by rw [hE]; exact hb.2.1, hb.1⟩
  · rw [wrb_no hE]
    exact ⟨rfl, h.write (i : Int) s⟩
theorem Well.openR {st : St} (h : Well st) : Well (Lg.openR st).2 := by
  unfold Lg.openR
  rw [h.on, if_neg (by decide)]
  split
  · exact h
  · exact (h.wrb _ _).2
/-- What is told by an opening hangs on the sectors alone. -/
theorem Well.same {a b : St} (ha : Well a) (hb : Well b) (h : a.is = b.is) : (Lg.openR a).1 = (Lg.openR b).1 ∧ Lg.openRecs a = Lg.openRecs b := by
  refine ⟨?_, by unfold Lg.openRecs; rw [h]⟩
  unfold Lg.openR
  rw [ha.on, hb.on]
  simp only [Bool.false_eq_true, if_false]
  have ht : Lg.openTop a = Lg.openTop b := by unfold Lg.openTop; rw [h]
  rw [ht, h]
  split
  · rfl
  · rw [(ha.wrb _ _).1, (hb.wrb _ _).1, ha.bars hb]
end Go.Proofs.YtimcepoleboldaaGreatDoor.Dk

namespace Go.Proofs.YtimcepoleboldaaGreatDoor
open Go.RowKit Go.Deep

theorem encode_some (e q : Int) (f l : Bool) (d : ByteArray) (w : World) :
    Calls Tryz.prog 78 #[ChV e q f l d] w fun x w' => ∃ s E, x = .returned (.tuple #[.string s, .int .i64 E]) ∧ Below w.heap.size w w' :=
  (encode_ref e q f l d w).mono fun _ _ h => ⟨_, _, h.1, h.2⟩
theorem row_some {w : World} {base n cap : Nat} {A : Option Addr} {xs : List Value} (h : w.ownsRow base 9 1 (.slice A n cap) n xs) (hn : 0 < n) : ∃ g, A = some ⟨g, 0, none⟩ := by
  rcases h.2 with ⟨h1, h0⟩ | ⟨g, cap', cur, h1, _⟩
  · omega
  · injection h1 with h1 _ _
    exact ⟨g, h1⟩
theorem row_text {w : World} {base n cap g j : Nat} {L : List ByteArray} {y : ByteArray} (h : w.ownsRow base 9 1 (.slice (some ⟨g, 0, none⟩) n cap) n (L.map Value.string)) (hy : L[j]? = some y) : w.cell? ⟨g, j, none⟩ = some (.string y) := by
  have h1 := World.ownsRow.cells h (g := g) rfl j (.string y) (by rw [List.getElem?_map, hy]; rfl)
  rw [Addr.add_lit, Nat.zero_add] at h1
  exact h1

/-- What the loops of write know: the disk goes on. -/
structure WrAt (B g b q : Nat) (t : Lg.Top) (nx0 : Nat) (m0 : Nat) (c : Nat) (w0 w : World) : Prop where
  ref : ∃ lv st, RefAt w B g st b lv ∧ Dk.Well st ∧ st.many ≤ m0 + c
  lg : Blk w q 91 (LgC g t nx0)
  ch : Rch B b w0 w
theorem WrAt.up {B g b q nx0 m0 c : Nat} {t : Lg.Top} {w0 w w' : World} (h : WrAt B g b q t nx0 m0 c w0 w) (hb : Below w.heap.size w w') : WrAt B g b q t nx0 m0 c w0 w' := by
  obtain ⟨⟨lv, st, h1, h2⟩, h3, h4⟩ := h
  exact ⟨⟨lv, st, h1.up hb, h2⟩, h3.older hb h3.lt, h4.trans (Rch.of_below hb)⟩

def WrPost (B g b q : Nat) (t : Lg.Top) (nx0 m0 c : Nat) (w : World) (e : Ending) (w' : World) : Prop :=
  ∃ (n : Nat) (E : Int) (lv : Value) (st : Dk.St), e = .returned (.tuple #[.int .i64 (n : Int), .int .i64 E]) ∧ n ≤ 100000 ∧ RefAt w' B g st b lv ∧ Dk.Well st ∧ st.many ≤ m0 + c + 1 ∧ (E = 0 → st.loose = []) ∧ Blk w' q 91 (LgC g t nx0) ∧ Rch B b w w'

set_option maxRecDepth 20000 in
set_option maxHeartbeats 8000000 in
theorem rwrites_any (B g b q : Nat) (t : Lg.Top) (nx0 m0 : Nat) (l : List ByteArray) (v : Value) (w : World) (h : WrAt B g b q t nx0 m0 0 w w) (hv : ∀ W, Rch B b w W → Strs W v l) (hz : size l ≤ 8192) (hh : t.h ≤ 1) (hnx : nx0 ≤ 127) (hm : m0 ≤ 10000) :
    Calls Tryz.prog 47 #[.pointer (some ⟨q, 0, none⟩), v, .int .i64 (t.h : Int), .int .i64 (nx0 : Int)] w (WrPost B g b q t nx0 m0 (manyB l) w) := by
  have HV := Lib.hid hv
  obtain ⟨A, cap, rfl, -⟩ := hv w (Rch.refl B b w)
  have H0 := Lib.hid h
  have HZ := Lib.hid hz
  have hlen : (l.length : Int) ≤ 8192 := by unfold size at hz; omega
  have HMB := Lib.hid (many_le l)
  clear h hz hv
  go_enter Tryz.func47, Tryz.ntmps47
  go_wp2_with fail
  go_loopw [3, 10] (fun vn vi wr => ∃ k : Nat, k ≤ l.length ∧ vi = .int .i64 (k : Int) ∧ vn = .int .i64 ((nx0 + manyB (l.take k) : Nat) : Int) ∧ WrAt B g b q t nx0 m0 (manyB (l.take k)) w wr) (fun _ vi _ => l.length - (intOf vi).toNat)
  case atStart => exact ⟨0, Nat.zero_le _, rfl, by simp [manyB, bls, Lg.many], by simpa [manyB, bls, Lg.many] using H0.out⟩
  case round =>
    obtain ⟨k, hk, rfl, rfl, hW⟩ := hrel
    have HW := Lib.hid hW
    clear hW H0
    by_cases hlt : k < l.length
    · obtain ⟨x, hx⟩ : ∃ x, l[k]? = some x := ⟨_, List.getElem?_eq_getElem hlt⟩
      obtain ⟨A0, cap0, e0, -, hA⟩ := HV.out wr HW.out.ch
      injection e0 with e1 _ e2
      subst e1 e2
      obtain ⟨b1, o1, rfl, l1, c1⟩ := hA k x hx
      clear hA
      have hki : (k : Int) < (l.length : Int) := by omega
      have HUP := Lib.hid (many_take_up hx)
      have hxs := size_mem hx
      have hpl := plc_le x
      have hS := HZ.out
      have HC := Lib.hid (fun W : World => chunkcut_ref x W (by omega))
      have hmt := many_take l (k + 1)
      have hmb := HMB.out
      rw [HUP.out] at hmt
      have HPL := Lib.hid (cutB_plc x)
      obtain ⟨L, hL⟩ : ∃ L, L = cutB x := ⟨_, rfl⟩
      rw [← hL] at HC HPL
      rw [← HPL.out] at hmt hpl
      have HUP2 := Lib.hid (show manyB (l.take (k + 1)) = manyB (l.take k) + L.length by rw [HUP.out, HPL.out])
      obtain ⟨M, hM⟩ : ∃ M, manyB (l.take k) = M := ⟨_, rfl⟩
      rw [hM] at HUP2 HW hmt ⊢
      have hML : M + L.length ≤ 8192 := by omega
      have HTOT := Lib.hid (show M + L.length ≤ manyB l from hmt)
      clear hx hL hM HUP HPL hxs hpl hS hmt hmb
      go_wp2_with fail
      refine (HC.out wr).mono ?_
      rintro e w2 ⟨v2, rfl, hrow, hb2⟩
      have hv2 : ∃ A2 cap2, v2 = .slice A2 L.length cap2 := by
        rcases hrow.2 with ⟨rfl, h0⟩ | ⟨g2, cap2, cur, rfl, _⟩
        · exact ⟨none, 0, by rw [h0]⟩
        · exact ⟨_, cap2, rfl⟩
      obtain ⟨A2, cap2, rfl⟩ := hv2
      have HROW := Lib.hid hrow
      have HW2 := Lib.hid (HW.out.up hb2)
      have HBS := Lib.hid (show b < wr.heap.size by
        obtain ⟨lv, st, h1, -⟩ := HW.out.ref
        exact h1.sec.lt)
      have hL8 : (L.length : Int) ≤ 8192 := by omega
      clear hrow hb2 c1 HC
      go_wp2_with fail
      go_loopw [3, 12] (fun vn vj wx => ∃ j : Nat, j ≤ L.length ∧ vj = .int .i64 (j : Int) ∧ vn = .int .i64 ((nx0 + (M + j) : Nat) : Int) ∧ WrAt B g b q t nx0 m0 (M + j) w wx ∧ Rch B b w2 wx) (fun _ vj _ => L.length - (intOf vj).toNat)
      case atStart => exact ⟨0, Nat.zero_le _, rfl, rfl, HW2.out, Rch.refl _ _ _⟩
      case round =>
        obtain ⟨j, hj, rfl, rfl, hX, hR⟩ := hrel
        have HX := Lib.hid hX
        have HR := Lib.hid hR
        clear hX hR HW2
        by_cases hlj : j < L.length
        · have hji : (j : Int) < (L.length : Int) := by omega
          obtain ⟨y, hy⟩ : ∃ y, L[j]? = some y := ⟨_, List.getElem?_eq_getElem hlj⟩
          obtain ⟨g2, rfl⟩ := row_some HROW.out (by omega)
          have hrx := owns_only HROW.out HR.out.only HBS.out
          have HRX := Lib.hid hrx
          have HY := Lib.hid hy
          have d1 := row_text hrx hy
          obtain ⟨⟨a0, a1, a2, a3, a4, a5⟩, -⟩ := six HX.out.lg
          have hwr : IntKind.i64.wrap ((L.length : Int) - 1) = (L.length : Int) - 1 := IntWalk.i64_in _ (by omega)
          have HE := Lib.hid (fun (f lb : Bool) (n : Int) (W : World) => encode_some t.e n f lb y W)
          have HXD := Lib.hid (HX.out.up (Below.refl _ _).drew)
          have HRD := Lib.hid (HR.out.trans (Rch.of_below (Below.refl _ _).drew))
          clear hrx hy
          go_wp2_with fail
          go_region_held3 (fun W => W.cell? ⟨q, 1, none⟩ = some (.int .i64 t.e) ∧ W.cell? ⟨g2, j, none⟩ = some (.string y)) (first | assumption | exact ⟨a1, d1⟩ | go_keep)
            (first
              | (go_at_call 78; (refine (HE.out _ _ _ _).mono ?_); rintro e w3 ⟨sc, Ec, rfl, hb3⟩; have HX3 := Lib.hid (HXD.out.up hb3); have HR3 := Lib.hid (HRD.out.trans (Rch.of_below hb3)); have s3 := And.intro (six HX3.out.lg).1.2.1 (row_text (owns_only HROW.out HR3.out.only HBS.out) HY.out); clear hb3))
          obtain ⟨⟨b0, b1', b2, b3, b4, b5⟩, -⟩ := six HX3.out.lg
          obtain ⟨lv, st, h1, h2, h3⟩ := HX3.out.ref
          have HRF := Lib.hid h1
          have HWL := Lib.hid h2
          have HMN := Lib.hid h3
          clear h1 h2 h3 a0 a1 a2 a3 a4 a5 d1 s3 HE
          go_wp2_with fail
          have HRFD := Lib.hid (HRF.out.up (Below.refl _ _).drew)
          have HH := Lib.hid hh
          go_region_held3 (fun W => W.cell? ⟨q, 0, none⟩ = some (.pointer (some ⟨g, 0, none⟩))) (first | assumption | exact b0 | go_keep)
            (first
              | (go_at_call 77; (refine (rfirst_any t.h _ HH.out).mono ?_); rintro e w4 ⟨rfl, rfl⟩)
              | (go_at_call 79; (refine (rwrite_at B g st b lv _ sc _ HRFD.out (by have := HMN.out; omega)).mono ?_); rintro e w5 ⟨rfl, ⟨lv5, hr5⟩, hc5⟩; have s5 := (six (hc5.ch.blk (Blk.drew HX3.out.lg) rfl)).1.1))
          obtain ⟨I, hI⟩ : ∃ I, IntKind.i64.wrap (2 + 127 * (t.h : Int) + ((nx0 : Int) + ((M : Int) + (j : Int)))) = I := ⟨_, rfl⟩
          rw [hI] at hr5 ⊢
          have hq5 := HX3.out.ch.drew.trans hc5
          have HX5 := Lib.hid (show WrAt B g b q t nx0 m0 (M + (j + 1)) w w5 from ⟨⟨lv5, _, hr5, HWL.out.write I sc, by have := Dk.many_write st I sc; have := HMN.out; omega⟩, hc5.ch.blk (Blk.drew HX3.out.lg) rfl, hq5⟩)
          have HR5 := Lib.hid (HR3.out.drew.trans hc5)
          have HRF5 := Lib.hid hr5
          have hjm : (M : Int) + (j : Int) ≤ 8192 := by omega
          clear hr5 hc5 hq5 hI HX HR HRX HXD HRD HX3 HR3 HRF HRFD s5 b0 b1' b2 b3 b4 b5
          by_cases hE : st.writeE I sc = 0
          · rw [hE]
            clear hE
            go_wp2_with fail
            go_roundw
            case rel => exact ⟨j + 1, by omega, by go_num, congrArg (Value.int .i64) (by omega), HX5.out, HR5.out⟩
            case measure => simp [intOf]; omega
          · have hEb : (st.writeE I sc != 0) = true := by rw [bne_iff_ne]; exact hE
            have HEE := Lib.hid hE
            have HWW := Lib.hid (HWL.out.write I sc)
            have HMW := Lib.hid (show (st.write I sc).many ≤ m0 + manyB l + 1 by have := Dk.many_write st I sc; have := HMN.out; have := HTOT.out; omega)
            generalize st.write I sc = st5 at *
            generalize st.writeE I sc = E5 at *
            clear hE
            go_wp2_with fail
            go_ret2
            exact ⟨0, E5, lv5, st5, rfl, by omega, HRF5.out, HWW.out, HMW.out, fun h => absurd h HEE.out, HX5.out.lg, HX5.out.ch⟩
        · have hjl : j = L.length := by omega
          subst hjl
          go_wp2_with fail
          go_roundw
          case rel => exact ⟨k + 1, by omega, by go_num, by rw [HUP2.out], by rw [HUP2.out]; exact HX.out⟩
          case measure => simp [intOf]; omega
    · obtain rfl : k = l.length := by omega
      obtain ⟨lv, st, h1, h2, h3⟩ := HW.out.ref
      have HRF := Lib.hid h1
      have HWL := Lib.hid h2
      have HMN := Lib.hid h3
      obtain ⟨⟨a0, a1, a2, a3, a4, a5⟩, -⟩ := six HW.out.lg
      have hall : manyB (l.take l.length) = manyB l := by rw [List.take_of_length_le (Nat.le_refl _)]
      have HALL := Lib.hid hall
      have hmb := HMB.out
      have hS := HZ.out
      clear h1 h2 h3 hall
      go_wp2_with fail
      refine (rbarrier_at B g st b lv wr HRF.out (by have := HMN.out; have := HALL.out; omega)).mono ?_
      rintro x w4 ⟨rfl, ⟨lv4, hr4⟩, hc4⟩
      have HF := Lib.hid (And.intro hr4 hc4)
      clear hr4 hc4
      go_wp2_with fail
      go_ret2
      have hb := HWL.out.barrier
      exact ⟨_, _, lv4, _, rfl, by have := HALL.out; omega, HF.out.1, hb.1, by have := Dk.many_barrier st; have := HMN.out; have := HALL.out; omega, fun _ => hb.2.2.1, HF.out.2.ch.blk HW.out.lg rfl, HW.out.ch.trans HF.out.2⟩

theorem rroom_any (q : Nat) (g : Nat) (t : Lg.Top) (nx : Nat) (w : World) (h : Blk w q 91 (LgC g t nx)) (hn : nx ≤ 127) :
    Calls Tryz.prog 46 #[.pointer (some ⟨q, 0, none⟩)] w fun e w' => e = .returned (.int .i64 (127 - (nx : Int))) ∧ w = w' := by
  obtain ⟨⟨-, -, -, -, a4, -⟩, -⟩ := six h
  have hni : (nx : Int) ≤ 127 := by omega
  clear h hn
  go_enter Tryz.func46, Tryz.ntmps46
  go_wp2_with fail
  go_ret
  exact ⟨rfl, rfl⟩
theorem Rch.wide {B b : Nat} {w w' : World} (h : Rch B b w w') : Ch (fun o => Tr o || Tq o) B w w' :=
  ⟨h.ch.os, h.ch.tape, h.ch.output, h.ch.size, fun i hi hT => h.ch.all i hi (fun hB hK o ho => by
    have := hT hB hK o ho
    simp only [Bool.or_eq_false_iff] at this
    exact this.1)⟩

/-- Where Append ends well the disk goes on, and nothing is loose. -/
def RappPost (B g b : Nat) (m0 : Nat) (w : World) (e : Ending) (w' : World) : Prop :=
  ∃ E : Int, e = .returned (.int .i64 E) ∧ Ch (fun o => Tr o || Tq o) B w w' ∧ (E = 0 → ∃ lv st, RefAt w' B g st b lv ∧ Dk.Well st ∧ st.loose = [] ∧ st.many ≤ m0 + 8193)

set_option maxRecDepth 20000 in
set_option maxHeartbeats 8000000 in
theorem rappend_any (B g b q : Nat) (t : Lg.Top) (nx0 : Nat) (st : Dk.St) (lv : Value) (l : List ByteArray) (v : Value) (w : World) (hr : RefAt w B g st b lv) (hl : Blk w q 91 (LgC g t nx0)) (hw : Dk.Well st) (hv : ∀ W, Rch B b w W → Strs W v l) (hz : size l ≤ 8192) (hh : t.h ≤ 1) (hnx : nx0 ≤ 127) (hm : st.many ≤ 10000) (hq : B ≤ q) :
    Calls Tryz.prog 19 #[.pointer (some ⟨q, 0, none⟩), v] w (RappPost B g b st.many w) := by
  have HMY := Lib.hid (fun W (hW : Rch B b w W) => refmany_any v l W (hv W hW) (by omega))
  have HV := Lib.hid hv
  have HR := Lib.hid hr
  have HL := Lib.hid hl
  have HW := Lib.hid hw
  have HZ := Lib.hid hz
  have HQ := Lib.hid hq
  obtain ⟨⟨a0, a1, a2, a3, a4, a5⟩, -⟩ := six hl
  have hx127 : (nx0 : Int) ≤ 127 := by omega
  clear hr hl hw hv hz hq
  go_enter Tryz.func19, Tryz.ntmps19
  go_wp2_with fail
  refine (HMY.out w (Rch.refl _ _ _)).mono ?_
  rintro e w1 ⟨n, rfl, hn3, -, -, hb1⟩
  have HL1 := Lib.hid (HL.out.older hb1 HL.out.lt)
  have HB1 := Lib.hid hb1
  have hni : (n : Int) ≤ 3000000 := by omega
  clear a0 a1 a2 a3 a4 a5 hb1 hn3 HMY
  obtain ⟨⟨a0, a1, a2, a3, a4, a5⟩, -⟩ := six HL1.out
  go_wp2_with fail
  refine (rroom_any q g t nx0 w1 HL1.out hnx).mono ?_
  rintro e w2 ⟨rfl, rfl⟩
  by_cases hroom : (n : Int) ≤ 127 - (nx0 : Int)
  · have hro : ¬ 127 - (nx0 : Int) < (n : Int) := by omega
    clear hroom
    have HW1 := Lib.hid (show WrAt B g b q t nx0 st.many 0 w1 w1 from ⟨⟨lv, st, HR.out.up HB1.out, HW.out, Nat.le_refl _⟩, HL1.out, Rch.refl _ _ _⟩)
    have HD := Lib.hid (show WrAt B g b q t nx0 st.many 0 w1.drew w1.drew from ⟨⟨lv, st, (HR.out.up HB1.out).up (Below.refl _ _).drew, HW.out, Nat.le_refl _⟩, HL1.out.drew, Rch.refl _ _ _⟩)
    have HVD := Lib.hid (fun W (hW : Rch B b w1.drew W) => HV.out W (((Rch.refl B b w).trans (Rch.of_below HB1.out)).drew.trans hW))
    have HWR := Lib.hid (rwrites_any B g b q t nx0 st.many l v w1.drew HD.out HVD.out HZ.out hh hnx hm)
    go_upto_region 5 with fail
    go_region_held3 (fun W => W.cell? ⟨q, 3, none⟩ = some (.int .i64 (t.h : Int)) ∧ W.cell? ⟨q, 4, none⟩ = some (.int .i64 (nx0 : Int))) (first | assumption | exact ⟨a3, a4⟩ | go_keep)
      (first
        | (go_at_call 47; (refine HWR.out.mono ?_); rintro e w5 ⟨n5, E, lv5, st5, rfl, hn5, hr5, hw5, hm5, hl5, hb5, hc5⟩; have s5 := And.intro (six hb5).1.2.2.2.1 (six hb5).1.2.2.2.2.1))
    obtain ⟨⟨b0, b1, b2, b3, b4, b5⟩, f0, f1, f2, f3, f4, f5⟩ := six hb5
    have hch := (((Rch.of_below (b := b) (B := B) HB1.out).trans ((Rch.refl B b w1).drew)).trans hc5).wide
    have hcs : Ch Tq B w5 (w5.setCell ⟨q, 5, none⟩ (.int .i64 E)) := Ch.set hb5 HQ.out rfl 5 _
    have hl6 : Blk (w5.setCell ⟨q, 5, none⟩ (.int .i64 E)) q 91 #[.pointer (some ⟨g, 0, none⟩), .int .i64 t.e, .int .i64 t.b, .int .i64 (t.h : Int), .int .i64 (nx0 : Int), .int .i64 E] := by simpa using hb5.set 5 (.int .i64 E)
    have hr6 := hr5.kept hcs (fun _ => rfl) (fun _ => rfl) (fun _ => rfl)
    have wide : ∀ {a c : World}, Ch Tq B a c → Ch (fun o => Tr o || Tq o) B a c := fun h => ⟨h.os, h.tape, h.output, h.size, fun i hi hT => h.all i hi (fun hB hK o ho => by
      have := hT hB hK o ho
      simp only [Bool.or_eq_false_iff] at this
      exact this.2)⟩
    have HC6 := Lib.hid (hch.trans (wide hcs))
    have HL6 := Lib.hid hl6
    have HR6 := Lib.hid hr6
    have HF := Lib.hid (And.intro hw5 (And.intro hm5 hl5))
    have HMB := Lib.hid (show manyB l ≤ 8192 from Nat.le_trans (many_le l) HZ.out)
    by_cases hE : E = 0
    · subst hE
      have hcs7 : Ch Tq B (w5.setCell ⟨q, 5, none⟩ (.int .i64 0)) ((w5.setCell ⟨q, 5, none⟩ (.int .i64 0)).setCell ⟨q, 4, none⟩ (.int .i64 (n5 : Int))) := Ch.set hl6 HQ.out rfl 4 _
      have HC7 := Lib.hid (HC6.out.trans (wide hcs7))
      have HR7 := Lib.hid (hr6.kept hcs7 (fun _ => rfl) (fun _ => rfl) (fun _ => rfl))
      clear hcs7 hl6 hr6 hcs hch hr5 hc5 hb5 hw5 hm5 hl5 wide a0 a1 a2 a3 a4 a5 s5
      go_wp2_with fail
      go_ret
      exact ⟨0, rfl, HC7.out, fun _ => ⟨lv5, st5, HR7.out, HF.out.1, HF.out.2.2 (by first | rfl | trivial), by have := HF.out.2.1; have := HMB.out; omega⟩⟩
    · have hEb : (E == 0) = false := by rw [beq_eq_false_iff_ne]; exact hE
      have HEE := Lib.hid hE
      clear hl6 hr6 hcs hch hr5 hc5 hb5 hw5 hm5 hl5 wide a0 a1 a2 a3 a4 a5 s5 hE
      go_wp2_with fail
      go_ret
      exact ⟨E, rfl, HC6.out, fun h => absurd h HEE.out⟩
  · have hro : 127 - (nx0 : Int) < (n : Int) := by omega
    clear hroom
    go_wp2_with fail
    go_ret
    exact ⟨50, rfl, (Rch.of_below (b := b) HB1.out).wide, fun h => by cases h⟩
end Go.Proofs.YtimcepoleboldaaGreatDoor

/- The document's Unrecord and End, of any bytes. -/
namespace Go.Proofs.YtimcepoleboldaaGreatDoor
open Go.RowKit

/-- What Unrecord knows on its way: its result's cells, its reader, its record. -/
structure UrAt (w : World) (s : ByteArray) (k : Int) (key val : ByteArray) (W : World) : Prop where
  res : Blk W w.heap.size 32 #[.int .i64 0, .string ⟨#[]⟩, .string ⟨#[]⟩]
  rd : Blk W (w.heap.size + 1) 169 #[.string s]
  one : Blk W (w.heap.size + 2) 32 #[.int .i64 k, .string key, .string val]
  below : Below w.heap.size w W
  few : s.size ≤ 1048576
theorem UrAt.step {w W W' : World} {s s' : ByteArray} {k : Int} {key val : ByteArray} (h : UrAt w s k key val W) (hr : Blk W' (w.heap.size + 1) 169 #[.string s']) (hg : W.grownBy W' (some (w.heap.size + 1))) (hs : s'.size ≤ s.size) : UrAt w s' k key val W' :=
  ⟨h.res.grown hg (by intro e; injection e; omega), hr, h.one.grown hg (by intro e; injection e; omega), h.below.grown hg h.below.size (fun g e => by injection e; omega), Nat.le_trans hs h.few⟩
theorem below_set {w W : World} (h : Below w.heap.size w W) {g : Nat} (hg : w.heap.size ≤ g) (i : Nat) (u : Value) : Below w.heap.size w (W.setCell ⟨g, i, none⟩ u) := gr_to_below (gr_set_new (gr_of_below h none) hg i u)
theorem UrAt.s0 {w W : World} {s : ByteArray} {k : Int} {key val : ByteArray} (h : UrAt w s k key val W) (k' : Int) : UrAt w s k' key val (W.setCell ⟨w.heap.size + 2, 0, none⟩ (.int .i64 k')) :=
  ⟨h.res.apart (p := ⟨w.heap.size + 2, 0, none⟩) (by show w.heap.size ≠ w.heap.size + 2; omega) _, h.rd.apart (p := ⟨w.heap.size + 2, 0, none⟩) (by show w.heap.size + 1 ≠ w.heap.size + 2; omega) _, h.one.s0 _, below_set h.below (by omega) _ _, h.few⟩
theorem UrAt.s1 {w W : World} {s : ByteArray} {k : Int} {key val : ByteArray} (h : UrAt w s k key val W) (key' : ByteArray) : UrAt w s k key' val (W.setCell ⟨w.heap.size + 2, 1, none⟩ (.string key')) :=
  ⟨h.res.apart (p := ⟨w.heap.size + 2, 1, none⟩) (by show w.heap.size ≠ w.heap.size + 2; omega) _, h.rd.apart (p := ⟨w.heap.size + 2, 1, none⟩) (by show w.heap.size + 1 ≠ w.heap.size + 2; omega) _, h.one.s1 _, below_set h.below (by omega) _ _, h.few⟩
theorem UrAt.s2 {w W : World} {s : ByteArray} {k : Int} {key val : ByteArray} (h : UrAt w s k key val W) (val' : ByteArray) : UrAt w s k key val' (W.setCell ⟨w.heap.size + 2, 2, none⟩ (.string val')) :=
  ⟨h.res.apart (p := ⟨w.heap.size + 2, 2, none⟩) (by show w.heap.size ≠ w.heap.size + 2; omega) _, h.rd.apart (p := ⟨w.heap.size + 2, 2, none⟩) (by show w.heap.size + 1 ≠ w.heap.size + 2; omega) _, h.one.s2 _, below_set h.below (by omega) _ _, h.few⟩
theorem UrAt.put {w W : World} {s : ByteArray} {k : Int} {key val : ByteArray} (h : UrAt w s k key val W) (a b c : Value) :
    Blk (((W.setCell ⟨w.heap.size, 0, none⟩ a).setCell ⟨w.heap.size, 1, none⟩ b).setCell ⟨w.heap.size, 2, none⟩ c) w.heap.size 32 #[a, b, c] ∧ Below w.heap.size w (((W.setCell ⟨w.heap.size, 0, none⟩ a).setCell ⟨w.heap.size, 1, none⟩ b).setCell ⟨w.heap.size, 2, none⟩ c) :=
  ⟨h.res.s3 a b c, gr_to_below (gr_s3 (gr_of_below h.below none) (Nat.le_refl _) a b c)⟩
theorem cells_of {w : World} {g : Nat} {t : TypeId} {a b c : Value} (h : Blk w g t #[a, b, c]) : w.cell? ⟨g, 0, none⟩ = some a ∧ w.cell? ⟨g, 1, none⟩ = some b ∧ w.cell? ⟨g, 2, none⟩ = some c := ⟨h.cell 0, h.cell 1, h.cell 2⟩
theorem num_short {s s' : ByteArray} {n m : Nat} (h : Pk.num s.data.toList = (n, m, s'.data.toList)) : s'.size ≤ s.size := by
  have h1 := Pk.num_len s.data.toList
  rw [h] at h1
  simp only [toList_len] at h1
  omega
theorem text_short {s d s' : ByteArray} {m : Nat} (h : Pk.text s.data.toList = (d.data.toList, m, s'.data.toList)) : s'.size ≤ s.size := by
  have h1 : (Pk.text s.data.toList).2.2.length ≤ s.data.toList.length := by
    have h0 := Pk.num_len s.data.toList
    unfold Pk.text
    split
    · split
      · simp only [List.length_drop]
        omega
      · exact Nat.le_refl _
    · exact Nat.le_refl _
  rw [h] at h1
  simp only [toList_len] at h1
  omega

theorem refend_any (br : Nat) (s : ByteArray) (w : World) (h : Blk w br 169 #[.string s]) :
    Calls Tryz.prog 87 #[.pointer (some ⟨br, 0, none⟩)] w fun e w' => e = .returned (.int .i64 (if s.data.toList = [] then 0 else 21)) ∧ w = w' := by
  have c0 := h.cell 0
  simp at c0
  by_cases hs : s.data.toList = []
  · have he : (!s.toList.isEmpty) = false := by rw [ByteArray.toList_eq, hs]; rfl
    rw [if_pos hs]
    clear hs h
    go_enter Tryz.func87, Tryz.ntmps87
    go_wp2_with fail
    go_ret
    exact ⟨rfl, rfl⟩
  · have he : (!s.toList.isEmpty) = true := by rw [ByteArray.toList_eq]; cases hl : s.data.toList with
      | nil => exact absurd hl hs
      | cons a l => rfl
    rw [if_neg hs]
    clear hs h
    go_enter Tryz.func87, Tryz.ntmps87
    go_wp2_with fail
    go_ret
    exact ⟨rfl, rfl⟩

/-! ### what Unrecord comes to, way by way -/
section
variable {L L1 L2 L3 d d2 : List UInt8} {n m : Nat}
theorem unrec_num (h : Pk.num L = (n, m, L1)) (hm : m ≠ 0) : Pk.unrec L = (0, [], [], m) := by unfold Pk.unrec; simp [h, hm]
theorem unrec_kind (h : Pk.num L = (n, 0, L1)) (h1 : n ≠ 1) (h2 : n ≠ 2) : Pk.unrec L = (0, [], [], 21) := by unfold Pk.unrec; simp [h, h1, h2]
theorem unrec_key (h : Pk.num L = (n, 0, L1)) (hk : n = 1 ∨ n = 2) (t : Pk.text L1 = (d, m, L2)) (hm : m ≠ 0) : Pk.unrec L = (0, [], [], m) := by
  unfold Pk.unrec
  rcases hk with rfl | rfl <;> simp [h, t, hm]
theorem unrec_val (h : Pk.num L = (1, 0, L1)) (t : Pk.text L1 = (d, 0, L2)) (t2 : Pk.text L2 = (d2, m, L3)) (hm : m ≠ 0) : Pk.unrec L = (0, [], [], m) := by unfold Pk.unrec; simp [h, t, t2, hm]
theorem unrec_end1 (h : Pk.num L = (1, 0, L1)) (t : Pk.text L1 = (d, 0, L2)) (t2 : Pk.text L2 = (d2, 0, L3)) : Pk.unrec L = if L3 = [] then (1, d, d2, 0) else (0, [], [], 21) := by
  unfold Pk.unrec
  by_cases hl : L3 = [] <;> simp [h, t, t2, hl]
theorem unrec_end2 (h : Pk.num L = (2, 0, L1)) (t : Pk.text L1 = (d, 0, L2)) : Pk.unrec L = if L2 = [] then (2, d, [], 0) else (0, [], [], 21) := by
  unfold Pk.unrec
  by_cases hl : L2 = [] <;> simp [h, t, hl]
end
theorem unrec_bad {L : List UInt8} {m : Nat} {w w' : World} (h : Pk.unrec L = (0, [], [], m)) (hm : m ≠ 0) (hb : Below w.heap.size w w') : UnrecPost L w (.returned (.tuple #[.agg #[.int .i64 0, .string ⟨#[]⟩, .string ⟨#[]⟩], .int .i64 (m : Int)])) w' :=
  ⟨0, ⟨#[]⟩, ⟨#[]⟩, by rw [h], fun h' => by rw [h] at h'; exact absurd h' hm, fun _ => ⟨rfl, rfl, rfl⟩, hb⟩
theorem unrec_good {L : List UInt8} {k : Nat} {key val : ByteArray} {w w' : World} (h : Pk.unrec L = (k, key.data.toList, val.data.toList, 0)) (hb : Below w.heap.size w w') : UnrecPost L w (.returned (.tuple #[.agg #[.int .i64 (k : Int), .string key, .string val], .int .i64 0])) w' :=
  ⟨k, key, val, by rw [h]; rfl, fun _ => by rw [h]; exact ⟨rfl, rfl, rfl⟩, fun h' => by rw [h] at h'; exact absurd rfl h', hb⟩

set_option maxRecDepth 20000 in
set_option maxHeartbeats 3200000 in
theorem refunrec_any (s : ByteArray) (w : World) (hs : s.size ≤ 1048576) :
    Calls Tryz.prog 86 #[.string s] w (UnrecPost s.data.toList w) := by
  have hB := Blk.new w 32 #[.int .i64 0, .string ⟨#[]⟩, .string ⟨#[]⟩]
  have hb1 : Below w.heap.size w (w.alloc (.cells #[.int .i64 0, .string ⟨#[]⟩, .string ⟨#[]⟩] 32)) := (Below.refl _ _).alloc (Nat.le_refl _) _
  have hsz : (w.alloc (.cells #[.int .i64 0, .string ⟨#[]⟩, .string ⟨#[]⟩] 32)).heap.size = w.heap.size + 1 := by simp
  go_enter Tryz.func86, Tryz.ntmps86
  go_wp2_with fail
  generalize w.alloc (.cells #[.int .i64 0, .string ⟨#[]⟩, .string ⟨#[]⟩] 32) = w1 at *
  refine (refread_any s w1).mono ?_
  rintro e w2 ⟨rfl, rfl⟩
  rw [hsz]
  have hU : UrAt w s 0 ⟨#[]⟩ ⟨#[]⟩ ((w1.alloc (.cells #[.string s] 169)).alloc (.cells #[.int .i64 0, .string ⟨#[]⟩, .string ⟨#[]⟩] 32)) := by
    have h2 := Blk.new w1 169 #[.string s]
    have h3 := Blk.new (w1.alloc (.cells #[.string s] 169)) 32 #[.int .i64 0, .string ⟨#[]⟩, .string ⟨#[]⟩]
    rw [hsz] at h2
    rw [show (w1.alloc (.cells #[.string s] 169)).heap.size = w.heap.size + 2 by simp [hsz]] at h3
    exact ⟨(hB.alloc _).alloc _, h2.alloc _, h3, (hb1.alloc (by omega) _).alloc (by simp [hsz]; omega) _, hs⟩
  have HU := Lib.hid hU
  have HS := Lib.hid (show (w1.alloc (.cells #[.string s] 169)).heap.size = w.heap.size + 2 by simp [hsz])
  clear hU hB hb1 hs
  go_wp2_with fail
  generalize (w1.alloc (.cells #[.string s] 169)).alloc (.cells #[.int .i64 0, .string ⟨#[]⟩, .string ⟨#[]⟩] 32) = w3 at *
  rw [show w.heap.size + 1 + 1 = w.heap.size + 2 from rfl]
  refine (refnum_any (w.heap.size + 1) s w3 HU.out.rd HU.out.few).mono ?_
  rintro e w4 ⟨n, m, s1, rfl, hr4, hg4, hn⟩
  have HU4 := Lib.hid (HU.out.step hr4 hg4 (num_short hn))
  have HN := Lib.hid hn
  clear hr4 hg4 hn HU hsz HS
  obtain ⟨c0, c1, c2⟩ := cells_of HU4.out.res
  have f0 := HU4.out.res.frozen 0
  have f1 := HU4.out.res.frozen 1
  have f2 := HU4.out.res.frozen 2
  by_cases hm : m = 0
  · subst hm
    by_cases hk : n = 1 ∨ n = 2
    · obtain ⟨x0, x1, x2⟩ := cells_of HU4.out.one
      have g0 := HU4.out.one.frozen 0
      have g1 := HU4.out.one.frozen 1
      have g2 := HU4.out.one.frozen 2
      rcases hk with rfl | rfl
      · have HU5 := Lib.hid (HU4.out.s0 1)
        go_wp2_with fail
        generalize w4.setCell ⟨w.heap.size + 2, 0, none⟩ (.int .i64 1) = w5 at *
        refine (reftext_any (w.heap.size + 1) s1 w5 HU5.out.rd HU5.out.few).mono ?_
        rintro e w6 ⟨d, m1, s2, rfl, hr6, hg6, ht⟩
        have HU6 := Lib.hid (HU5.out.step hr6 hg6 (text_short ht))
        have HT := Lib.hid ht
        clear hr6 hg6 ht HU5 HU4
        clear c0 c1 c2 x0 x1 x2 f0 f1 f2 g0 g1 g2
        obtain ⟨c0, c1, c2⟩ := cells_of HU6.out.res
        obtain ⟨x0, x1, x2⟩ := cells_of HU6.out.one
        have f0 := HU6.out.res.frozen 0
        have f1 := HU6.out.res.frozen 1
        have f2 := HU6.out.res.frozen 2
        have g0 := HU6.out.one.frozen 0
        have g1 := HU6.out.one.frozen 1
        have g2 := HU6.out.one.frozen 2
        have HU7 := Lib.hid (HU6.out.s1 d)
        by_cases hm1 : m1 = 0
        · subst hm1
          go_wp2_with fail
          generalize w6.setCell ⟨w.heap.size + 2, 1, none⟩ (.string d) = w7 at *
          refine (reftext_any (w.heap.size + 1) s2 w7 HU7.out.rd HU7.out.few).mono ?_
          rintro e w8 ⟨d2, m2, s3, rfl, hr8, hg8, ht2⟩
          have HU8 := Lib.hid (HU7.out.step hr8 hg8 (text_short ht2))
          have HT2 := Lib.hid ht2
          clear hr8 hg8 ht2 HU7 HU6
          clear c0 c1 c2 x0 x1 x2 f0 f1 f2 g0 g1 g2
          obtain ⟨c0, c1, c2⟩ := cells_of HU8.out.res
          obtain ⟨x0, x1, x2⟩ := cells_of HU8.out.one
          have f0 := HU8.out.res.frozen 0
          have f1 := HU8.out.res.frozen 1
          have f2 := HU8.out.res.frozen 2
          have g0 := HU8.out.one.frozen 0
          have g1 := HU8.out.one.frozen 1
          have g2 := HU8.out.one.frozen 2
          have HU9 := Lib.hid (HU8.out.s2 d2)
          by_cases hm2 : m2 = 0
          · subst hm2
            have HE := Lib.hid (fun (W : World) (h : UrAt w s3 1 d d2 W) => refend_any (w.heap.size + 1) s3 W h.rd)
            by_cases hl : s3.data.toList = []
            · have HL := Lib.hid hl
              simp only [if_pos hl] at HE
              clear hl
              go_wp2_with fail
              generalize w8.setCell ⟨w.heap.size + 2, 2, none⟩ (.string d2) = w9 at *
              refine (HE.out _ HU9.out).mono ?_
              rintro e w10 ⟨rfl, rfl⟩
              clear c0 c1 c2 x0 x1 x2 f0 f1 f2 g0 g1 g2
              obtain ⟨c0, c1, c2⟩ := cells_of HU9.out.res
              obtain ⟨x0, x1, x2⟩ := cells_of HU9.out.one
              have f0 := HU9.out.res.frozen 0
              have f1 := HU9.out.res.frozen 1
              have f2 := HU9.out.res.frozen 2
              have g0 := HU9.out.one.frozen 0
              have g1 := HU9.out.one.frozen 1
              have g2 := HU9.out.one.frozen 2
              go_wp2_with fail
              refine bodyPost_ret (results_rec rfl _ _ w.heap.size _ _ _ rfl (HU9.out.put _ _ _).1) rfl (unrec_good (k := 1) (by rw [unrec_end1 HN.out HT.out HT2.out, if_pos HL.out]) (HU9.out.put _ _ _).2)
            · have HL := Lib.hid hl
              simp only [if_neg hl] at HE
              clear hl
              go_wp2_with fail
              generalize w8.setCell ⟨w.heap.size + 2, 2, none⟩ (.string d2) = w9 at *
              refine (HE.out _ HU9.out).mono ?_
              rintro e w10 ⟨rfl, rfl⟩
              clear c0 c1 c2 x0 x1 x2 f0 f1 f2 g0 g1 g2
              obtain ⟨c0, c1, c2⟩ := cells_of HU9.out.res
              obtain ⟨x0, x1, x2⟩ := cells_of HU9.out.one
              have f0 := HU9.out.res.frozen 0
              have f1 := HU9.out.res.frozen 1
              have f2 := HU9.out.res.frozen 2
              have g0 := HU9.out.one.frozen 0
              have g1 := HU9.out.one.frozen 1
              have g2 := HU9.out.one.frozen 2
              go_wp2_with fail
              refine bodyPost_ret (results_rec rfl _ _ w.heap.size _ _ _ rfl (HU9.out.put _ _ _).1) rfl (unrec_bad (m := 21) (by rw [unrec_end1 HN.out HT.out HT2.out, if_neg HL.out]) (by decide) (HU9.out.put _ _ _).2)
          · have hm3 : ((m2 : Int) != 0) = true := by rw [bne_iff_ne]; omega
            have HM := Lib.hid hm2
            clear hm2
            go_wp2_with fail
            refine bodyPost_ret (results_rec rfl _ _ w.heap.size _ _ _ rfl (HU9.out.put _ _ _).1) rfl (unrec_bad (unrec_val HN.out HT.out HT2.out HM.out) HM.out (HU9.out.put _ _ _).2)
        · have hm3 : ((m1 : Int) != 0) = true := by rw [bne_iff_ne]; omega
          have HM := Lib.hid hm1
          clear hm1
          go_wp2_with fail
          refine bodyPost_ret (results_rec rfl _ _ w.heap.size _ _ _ rfl (HU7.out.put _ _ _).1) rfl (unrec_bad (unrec_key HN.out (Or.inl rfl) HT.out HM.out) HM.out (HU7.out.put _ _ _).2)
      · have HU5 := Lib.hid (HU4.out.s0 2)
        go_wp2_with fail
        generalize w4.setCell ⟨w.heap.size + 2, 0, none⟩ (.int .i64 2) = w5 at *
        refine (reftext_any (w.heap.size + 1) s1 w5 HU5.out.rd HU5.out.few).mono ?_
        rintro e w6 ⟨d, m1, s2, rfl, hr6, hg6, ht⟩
        have HU6 := Lib.hid (HU5.out.step hr6 hg6 (text_short ht))
        have HT := Lib.hid ht
        clear hr6 hg6 ht HU5 HU4
        clear c0 c1 c2 x0 x1 x2 f0 f1 f2 g0 g1 g2
        obtain ⟨c0, c1, c2⟩ := cells_of HU6.out.res
        obtain ⟨x0, x1, x2⟩ := cells_of HU6.out.one
        have f0 := HU6.out.res.frozen 0
        have f1 := HU6.out.res.frozen 1
        have f2 := HU6.out.res.frozen 2
        have g0 := HU6.out.one.frozen 0
        have g1 := HU6.out.one.frozen 1
        have g2 := HU6.out.one.frozen 2
        have HU7 := Lib.hid (HU6.out.s1 d)
        by_cases hm1 : m1 = 0
        · subst hm1
          have HE := Lib.hid (fun (W : World) (h : UrAt w s2 2 d ⟨#[]⟩ W) => refend_any (w.heap.size + 1) s2 W h.rd)
          by_cases hl : s2.data.toList = []
          · have HL := Lib.hid hl
            simp only [if_pos hl] at HE
            clear hl
            go_wp2_with fail
            generalize w6.setCell ⟨w.heap.size + 2, 1, none⟩ (.string d) = w7 at *
            refine (HE.out _ HU7.out).mono ?_
            rintro e w8 ⟨rfl, rfl⟩
            clear c0 c1 c2 x0 x1 x2 f0 f1 f2 g0 g1 g2
            obtain ⟨c0, c1, c2⟩ := cells_of HU7.out.res
            obtain ⟨x0, x1, x2⟩ := cells_of HU7.out.one
            have f0 := HU7.out.res.frozen 0
            have f1 := HU7.out.res.frozen 1
            have f2 := HU7.out.res.frozen 2
            have g0 := HU7.out.one.frozen 0
            have g1 := HU7.out.one.frozen 1
            have g2 := HU7.out.one.frozen 2
            go_wp2_with fail
            refine bodyPost_ret (results_rec rfl _ _ w.heap.size _ _ _ rfl (HU7.out.put _ _ _).1) rfl (unrec_good (k := 2) (by rw [unrec_end2 HN.out HT.out, if_pos HL.out]) (HU7.out.put _ _ _).2)
          · have HL := Lib.hid hl
            simp only [if_neg hl] at HE
            clear hl
            go_wp2_with fail
            generalize w6.setCell ⟨w.heap.size + 2, 1, none⟩ (.string d) = w7 at *
            refine (HE.out _ HU7.out).mono ?_
            rintro e w8 ⟨rfl, rfl⟩
            clear c0 c1 c2 x0 x1 x2 f0 f1 f2 g0 g1 g2
            obtain ⟨c0, c1, c2⟩ := cells_of HU7.out.res
            obtain ⟨x0, x1, x2⟩ := cells_of HU7.out.one
            have f0 := HU7.out.res.frozen 0
            have f1 := HU7.out.res.frozen 1
            have f2 := HU7.out.res.frozen 2
            have g0 := HU7.out.one.frozen 0
            have g1 := HU7.out.one.frozen 1
            have g2 := HU7.out.one.frozen 2
            go_wp2_with fail
            refine bodyPost_ret (results_rec rfl _ _ w.heap.size _ _ _ rfl (HU7.out.put _ _ _).1) rfl (unrec_bad (m := 21) (by rw [unrec_end2 HN.out HT.out, if_neg HL.out]) (by decide) (HU7.out.put _ _ _).2)
        · have hm3 : ((m1 : Int) != 0) = true := by rw [bne_iff_ne]; omega
          have HM := Lib.hid hm1
          clear hm1
          go_wp2_with fail
          refine bodyPost_ret (results_rec rfl _ _ w.heap.size _ _ _ rfl (HU7.out.put _ _ _).1) rfl (unrec_bad (unrec_key HN.out (Or.inr rfl) HT.out HM.out) HM.out (HU7.out.put _ _ _).2)
    · have hk1 : ((n : Int) != 1) = true := by rw [bne_iff_ne]; omega
      have hk2 : ((n : Int) != 2) = true := by rw [bne_iff_ne]; omega
      have HK := Lib.hid (show n ≠ 1 ∧ n ≠ 2 by omega)
      clear hk
      go_wp2_with fail
      refine bodyPost_ret (results_rec rfl _ _ w.heap.size _ _ _ rfl (HU4.out.put _ _ _).1) rfl (unrec_bad (m := 21) (unrec_kind HN.out HK.out.1 HK.out.2) (by decide) (HU4.out.put _ _ _).2)
  · have hm' : ((m : Int) != 0) = true := by rw [bne_iff_ne]; omega
    have HM := Lib.hid hm
    clear hm
    go_wp2_with fail
    refine bodyPost_ret (results_rec rfl _ _ w.heap.size _ _ _ rfl (HU4.out.put _ _ _).1) rfl (unrec_bad (unrec_num HN.out HM.out) HM.out (HU4.out.put _ _ _).2)
end Go.Proofs.YtimcepoleboldaaGreatDoor
