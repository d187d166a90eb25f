/- The document's disk in memory, and what its small calls come to: Dead, Calls, Fail, Cut, Power, Read, call. -/
import Derived.Test.YtgahcbhdnplnoaaDoorCkDiskDsk
import Derived.Test.YtgahcbhdnplnoaaDoorCkDiskFasten
import Derived.Test.YtgahcbhdnplnoaaDoorCkDiskOnly
import Derived.Outline
namespace Go.Proofs.YtgahcbhdnplnoaaDoor
open Go.RowKit

def looses (l : List (Nat × ByteArray)) : List Value := l.flatMap fun p => [.int .i64 (p.1 : Int), .string p.2]

def refCells (b : Nat) (lv : Value) (off : Bool) (cuts keep fails many : Nat) : Array Value :=
  #[.slice (some ⟨b, 0, none⟩) 256 256, lv, .bool off, .int .i64 (cuts : Int), .int .u64 (keep : Int), .int .i64 (fails : Int), .int .i64 (many : Int)]

def stCells (b : Nat) (lv : Value) (st : Dk.St) : Array Value := refCells b lv st.off st.cuts st.keep st.fails st.many

/-- Block g is a disk of the document's that is as st is; all of it lies from B on. -/
structure RefAt (w : World) (B g : Nat) (st : Dk.St) (b : Nat) (lv : Value) : Prop where
  blk : Blk w g 76 (stCells b lv st)
  sec : Blk w b 9 (sect st.is).toArray
  row : w.ownsRow B 104 2 lv st.loose.length (looses st.loose)
  atg : B ≤ g
  atb : B ≤ b
  cuts : st.cuts ≤ 9223372036854775807
  fails : st.fails ≤ 9223372036854775807
  keep : st.keep < 18446744073709551616
  inv : Dk.Inv st

def Ref (w : World) (B g : Nat) (st : Dk.St) : Prop := ∃ b lv, RefAt w B g st b lv

/-- The kinds of blocks that a disk of the document's has. -/
def Tr : Obj → Bool
  | .cells _ t _ => t == 76 || t == 9 || t == 104
  | _ => false

/-- What a call of the document's disk may change: blocks of its kinds; of the strings the sectors' block b alone. -/
structure Rch (B b : Nat) (w w' : World) : Prop where
  ch : Ch Tr B w w'
  only : Only b w w'
theorem Rch.refl (B b : Nat) (w : World) : Rch B b w w := ⟨Ch.refl _ _ _, Only.refl _ _⟩
theorem Rch.trans {B b : Nat} {w w1 w2 : World} (h : Rch B b w w1) (k : Rch B b w1 w2) : Rch B b w w2 := ⟨h.ch.trans k.ch, h.only.trans k.only⟩
theorem Rch.drew {B b : Nat} {w w1 : World} (h : Rch B b w w1) : Rch B b w w1.drew := ⟨h.ch.drew, h.only.drew⟩
theorem Rch.alloc {B b : Nat} {w w1 : World} (h : Rch B b w w1) (o : Obj) : Rch B b w (w1.alloc o) := ⟨h.ch.alloc o, h.only.alloc o⟩

section
variable {w w' : World} {B g b : Nat} {st : Dk.St} {lv : Value}
theorem RefAt.kept {T : Obj → Bool} {B' : Nat} (h : RefAt w B g st b lv) (hc : Ch T B' w w') (h1 : ∀ cs, T (.cells cs 76 (0, 0)) = false) (h2 : ∀ cs, T (.cells cs 9 (0, 0)) = false) (h3 : ∀ cs, T (.cells cs 104 (0, 0)) = false) :
    RefAt w' B g st b lv :=
  { h with
    blk := hc.blk h.blk (h1 _)
    sec := hc.blk h.sec (h2 _)
    row := owns_ch h.row hc h3 }
theorem RefAt.drew (h : RefAt w B g st b lv) : RefAt w.drew B g st b lv := { h with blk := h.blk.drew, sec := h.sec.drew, row := h.row }
theorem Ref.kept {T : Obj → Bool} {B' : Nat} (h : Ref w B g st) (hc : Ch T B' w w') (h1 : ∀ cs, T (.cells cs 76 (0, 0)) = false) (h2 : ∀ cs, T (.cells cs 9 (0, 0)) = false) (h3 : ∀ cs, T (.cells cs 104 (0, 0)) = false) : Ref w' B g st := by
  obtain ⟨b, lv, h⟩ := h
  exact ⟨b, lv, h.kept hc h1 h2 h3⟩
theorem Ref.inv (h : Ref w B g st) : Dk.Inv st := by
  obtain ⟨b, lv, h⟩ := h
  exact h.inv

theorem blk_ne {w : World} {g g' : Nat} {t t' : TypeId} {cs cs' : Array Value} (h : Blk w g t cs) (h' : Blk w g' t' cs') (ht : t ≠ t') : g ≠ g' := by
  intro e
  subst e
  have h1 : some (Obj.cells cs t (0, 0)) = some (.cells cs' t' (0, 0)) := Eq.trans (Eq.symm h) h'
  injection h1 with h1
  injection h1 with _ h1
  exact ht h1

theorem RefAt.gb (h : RefAt w B g st b lv) : g ≠ b := blk_ne h.blk h.sec (by decide)

/-- A store into one field, and the state that it leaves. -/
theorem RefAt.field {st' : Dk.St} (h : RefAt w B g st b lv) {i : Nat} {u : Value} (hb : (stCells b lv st).setIfInBounds i u = stCells b lv st')
    (hl : st'.loose = st.loose) (hs : st'.is = st.is) (hc : st'.cuts ≤ 9223372036854775807) (hf : st'.fails ≤ 9223372036854775807) (hk : st'.keep < 18446744073709551616) (hi : Dk.Inv st') :
    RefAt (w.setCell ⟨g, i, none⟩ u) B g st' b lv :=
  have hg := Lib.grownBy_setCell w g i u
  { blk := by rw [← hb]; exact h.blk.set i u
    sec := by rw [hs]; exact h.sec.grown hg (by intro e; injection e with e; exact h.gb e.symm)
    row := by rw [hl]; exact h.row.kept hg (row_apart h.row h.blk (by decide))
    atg := h.atg
    atb := h.atb
    cuts := hc
    fails := hf
    keep := hk
    inv := hi }
theorem RefAt.ch (h : RefAt w B g st b lv) (i : Nat) (u : Value) : Ch Tr B w (w.setCell ⟨g, i, none⟩ u) := Ch.set h.blk h.atg rfl i u
theorem RefAt.chr (h : RefAt w B g st b lv) (i : Nat) (u : Value) : Rch B b w (w.setCell ⟨g, i, none⟩ u) := ⟨h.ch i u, Only.set h.blk (by decide) i u⟩

theorem RefAt.cells (h : RefAt w B g st b lv) :
    w.cell? ⟨g, 0, none⟩ = some (.slice (some ⟨b, 0, none⟩) 256 256) ∧ w.cell? ⟨g, 1, none⟩ = some lv ∧ w.cell? ⟨g, 2, none⟩ = some (.bool st.off) ∧ w.cell? ⟨g, 3, none⟩ = some (.int .i64 (st.cuts : Int)) ∧
    w.cell? ⟨g, 4, none⟩ = some (.int .u64 (st.keep : Int)) ∧ w.cell? ⟨g, 5, none⟩ = some (.int .i64 (st.fails : Int)) ∧ w.cell? ⟨g, 6, none⟩ = some (.int .i64 (st.many : Int)) :=
  ⟨h.blk.cell 0, h.blk.cell 1, h.blk.cell 2, h.blk.cell 3, h.blk.cell 4, h.blk.cell 5, h.blk.cell 6⟩
theorem RefAt.sector (h : RefAt w B g st b lv) {i : Nat} (hi : i < 256) : w.cell? ⟨b, i, none⟩ = some (.string (st.is i)) := by
  rw [h.sec.cell i, List.getElem?_toArray, sect_get _ hi]

/-- A store into a sector. -/
theorem RefAt.put_sec (h : RefAt w B g st b lv) {i : Nat} (hi : i < 256) (s : ByteArray) (hinv : Dk.Inv { st with is := Dk.up st.is i s }) :
    RefAt (w.setCell ⟨b, i, none⟩ (.string s)) B g { st with is := Dk.up st.is i s } b lv ∧ Rch B b w (w.setCell ⟨b, i, none⟩ (.string s)) := by
  have hg := Lib.grownBy_setCell w b i (.string s)
  refine ⟨{ blk := h.blk.grown hg (by intro e; injection e with e; exact h.gb e)
            sec := by
              have := h.sec.set i (.string s)
              rw [List.setIfInBounds_toArray, sect_set _ hi] at this
              exact this
            row := h.row.kept hg (row_apart h.row h.sec (by decide))
            atg := h.atg, atb := h.atb, cuts := h.cuts, fails := h.fails, keep := h.keep, inv := hinv }, Ch.set h.sec h.atb rfl i _, Only.set_own i _⟩
end

/-! ### Dead, Calls, Fail, Cut, Power -/
set_option maxHeartbeats 400000 in
theorem rcalls_any (B g : Nat) (st : Dk.St) (w : World) (h : Ref w B g st) :
    Calls Tryd.prog 50 #[.pointer (some ⟨g, 0, none⟩)] w fun e w' => e = .returned (.int .i64 (st.many : Int)) ∧ w = w' := by
  obtain ⟨b, lv, h⟩ := h
  obtain ⟨-, -, -, -, -, -, c2⟩ := h.cells
  clear h
  go_enter Tryd.func50, Tryd.ntmps50
  go_wp2_with fail
  go_ret
  exact ⟨rfl, rfl⟩

/-! ### Read, call -/
set_option maxHeartbeats 400000 in
theorem rread_any (B g : Nat) (st : Dk.St) (i : Int) (w : World) (h : Ref w B g st) :
    Calls Tryd.prog 44 #[.pointer (some ⟨g, 0, none⟩), .int .i64 i] w fun e w' => e = .returned (.tuple #[.string (st.read i), .int .i64 (st.reach i)]) ∧ w = w' := by
  obtain ⟨b, lv, h⟩ := h
  obtain ⟨c1, -, c0, -⟩ := h.cells
  cases ho : st.off with
  | true =>
    rw [ho] at c0
    have e : st.reach i = 33 := by unfold Dk.St.reach; rw [if_pos ho]
    rw [show st.read i = ByteArray.empty by unfold Dk.St.read; rw [if_neg (by rw [e]; decide)], e]
    clear ho h e
    go_enter Tryd.func44, Tryd.ntmps44
    go_wp2_with fail
    go_ret2
    exact ⟨rfl, rfl⟩
  | false =>
    rw [ho] at c0
    by_cases h1 : i < 0
    · have e : st.reach i = 30 := by unfold Dk.St.reach; rw [if_neg (by rw [ho]; decide), if_pos (.inl h1)]
      rw [show st.read i = ByteArray.empty by unfold Dk.St.read; rw [if_neg (by rw [e]; decide)], e]
      clear ho h e
      go_enter Tryd.func44, Tryd.ntmps44
      go_wp2_with fail
      go_ret2
      exact ⟨rfl, rfl⟩
    · by_cases h2 : 256 ≤ i
      · have e : st.reach i = 30 := by unfold Dk.St.reach; rw [if_neg (by rw [ho]; decide), if_pos (.inr h2)]
        rw [show st.read i = ByteArray.empty by unfold Dk.St.read; rw [if_neg (by rw [e]; decide)], e]
        clear ho h e
        go_enter Tryd.func44, Tryd.ntmps44
        go_wp2_with fail
        go_ret2
        exact ⟨rfl, rfl⟩
      · have e : st.reach i = 0 := Dk.reach_mk ho (by omega) (by omega)
        obtain ⟨k, rfl⟩ : ∃ k : Nat, i = (k : Int) := ⟨i.toNat, by omega⟩
        rw [show st.read (k : Int) = st.is k by unfold Dk.St.read; rw [if_pos e]; rfl, e]
        have hk : k < 256 := by omega
        have s0 := h.sector hk
        clear ho h e h1 h2
        go_enter Tryd.func44, Tryd.ntmps44
        go_wp2_with fail
        go_ret2
        exact ⟨rfl, rfl⟩

end Go.Proofs.YtgahcbhdnplnoaaDoor
