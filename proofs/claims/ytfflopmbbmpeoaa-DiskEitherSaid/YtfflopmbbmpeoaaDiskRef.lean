/- The document's disk in memory, and what its small calls come to: Dead, Calls, Fail, Cut, Power, Read, call. -/
import Derived.Test.YtfflopmbbmpeoaaDiskDsk
import Derived.Test.YtfflopmbbmpeoaaDiskFasten
import Derived.Outline
namespace Go.Proofs.Ytfflopmbbmpeoaa
open Go.RowKit

def looses (l : List (Nat × ByteArray)) : List Value := l.flatMap fun p => [.int .i64 (p.1 : Int), .string p.2]

def refCells (b : Nat) (lv : Value) (off : Bool) (cuts keep fails many : Nat) : Array Value :=
  #[.slice (some ⟨b, 0, none⟩) 256 256, lv, .bool off, .int .i64 (cuts : Int), .int .u64 (keep : Int), .int .i64 (fails : Int), .int .i64 (many : Int)]

def stCells (b : Nat) (lv : Value) (st : Dk.St) : Array Value := refCells b lv st.off st.cuts st.keep st.fails st.many

/-- Block g is a disk of the document's that is as st is; all of it lies from B on. -/
structure RefAt (w : World) (B g : Nat) (st : Dk.St) (b : Nat) (lv : Value) : Prop where
  blk : Blk w g 43 (stCells b lv st)
  sec : Blk w b 9 (sect st.is).toArray
  row : w.ownsRow B 65 2 lv st.loose.length (looses st.loose)
  atg : B ≤ g
  atb : B ≤ b
  cuts : st.cuts ≤ 9223372036854775807
  fails : st.fails ≤ 9223372036854775807
  keep : st.keep < 18446744073709551616
  inv : Dk.Inv st

def Ref (w : World) (B g : Nat) (st : Dk.St) : Prop := ∃ b lv, RefAt w B g st b lv

/-- The kinds of blocks that a disk of the document's has. -/
def Tr : Obj → Bool
  | .cells _ t _ => t == 43 || t == 9 || t == 65
  | _ => false

section
variable {w w' : World} {B g b : Nat} {st : Dk.St} {lv : Value}
theorem RefAt.kept {T : Obj → Bool} {B' : Nat} (h : RefAt w B g st b lv) (hc : Ch T B' w w') (h1 : ∀ cs, T (.cells cs 43 (0, 0)) = false) (h2 : ∀ cs, T (.cells cs 9 (0, 0)) = false) (h3 : ∀ cs, T (.cells cs 65 (0, 0)) = false) :
    RefAt w' B g st b lv :=
  { h with
    blk := hc.blk h.blk (h1 _)
    sec := hc.blk h.sec (h2 _)
    row := owns_ch h.row hc h3 }
theorem RefAt.drew (h : RefAt w B g st b lv) : RefAt w.drew B g st b lv := { h with blk := h.blk.drew, sec := h.sec.drew, row := h.row }
theorem Ref.kept {T : Obj → Bool} {B' : Nat} (h : Ref w B g st) (hc : Ch T B' w w') (h1 : ∀ cs, T (.cells cs 43 (0, 0)) = false) (h2 : ∀ cs, T (.cells cs 9 (0, 0)) = false) (h3 : ∀ cs, T (.cells cs 65 (0, 0)) = false) : Ref w' B g st := by
  obtain ⟨b, lv, h⟩ := h
  exact ⟨b, lv, h.kept hc h1 h2 h3⟩
theorem Ref.inv (h : Ref w B g st) : Dk.Inv st := by
  obtain ⟨b, lv, h⟩ := h
  exact h.inv

theorem blk_ne {w : World} {g g' : Nat} {t t' : TypeId} {cs cs' : Array Value} (h : Blk w g t cs) (h' : Blk w g' t' cs') (ht : t ≠ t') : g ≠ g' := by
  intro e
  subst e
  have h1 : some (Obj.cells cs t (0, 0)) = some (.cells cs' t' (0, 0)) := Eq.trans (Eq.symm h) h'
  injection h1 with h1
  injection h1 with _ h1
  exact ht h1

theorem RefAt.gb (h : RefAt w B g st b lv) : g ≠ b := blk_ne h.blk h.sec (by decide)

/-- A store into one field, and the state that it leaves. -/
theorem RefAt.field {st' : Dk.St} (h : RefAt w B g st b lv) {i : Nat} {u : Value} (hb : (stCells b lv st).setIfInBounds i u = stCells b lv st')
    (hl : st'.loose = st.loose) (hs : st'.is = st.is) (hc : st'.cuts ≤ 9223372036854775807) (hf : st'.fails ≤ 9223372036854775807) (hk : st'.keep < 18446744073709551616) (hi : Dk.Inv st') :
    RefAt (w.setCell ⟨g, i, none⟩ u) B g st' b lv :=
  have hg := Lib.grownBy_setCell w g i u
  { blk := by rw [← hb]; exact h.blk.set i u
    sec := by rw [hs]; exact h.sec.grown hg (by intro e; injection e with e; exact h.gb e.symm)
    row := by rw [hl]; exact h.row.kept hg (row_apart h.row h.blk (by decide))
    atg := h.atg
    atb := h.atb
    cuts := hc
    fails := hf
    keep := hk
    inv := hi }
theorem RefAt.ch (h : RefAt w B g st b lv) (i : Nat) (u : Value) : Ch Tr B w (w.setCell ⟨g, i, none⟩ u) := Ch.set h.blk h.atg rfl i u

theorem RefAt.cells (h : RefAt w B g st b lv) :
    w.cell? ⟨g, 0, none⟩ = some (.slice (some ⟨b, 0, none⟩) 256 256) ∧ w.cell? ⟨g, 1, none⟩ = some lv ∧ w.cell? ⟨g, 2, none⟩ = some (.bool st.off) ∧ w.cell? ⟨g, 3, none⟩ = some (.int .i64 (st.cuts : Int)) ∧
    w.cell? ⟨g, 4, none⟩ = some (.int .u64 (st.keep : Int)) ∧ w.cell? ⟨g, 5, none⟩ = some (.int .i64 (st.fails : Int)) ∧ w.cell? ⟨g, 6, none⟩ = some (.int .i64 (st.many : Int)) :=
  ⟨h.blk.cell 0, h.blk.cell 1, h.blk.cell 2, h.blk.cell 3, h.blk.cell 4, h.blk.cell 5, h.blk.cell 6⟩
theorem RefAt.sector (h : RefAt w B g st b lv) {i : Nat} (hi : i < 256) : w.cell? ⟨b, i, none⟩ = some (.string (st.is i)) := by
  rw [h.sec.cell i, List.getElem?_toArray, sect_get _ hi]

/-- A store into a sector. -/
theorem RefAt.put_sec (h : RefAt w B g st b lv) {i : Nat} (hi : i < 256) (s : ByteArray) (hinv : Dk.Inv { st with is := Dk.up st.is i s }) :
    RefAt (w.setCell ⟨b, i, none⟩ (.string s)) B g { st with is := Dk.up st.is i s } b lv ∧ Ch Tr B w (w.setCell ⟨b, i, none⟩ (.string s)) := by
  have hg := Lib.grownBy_setCell w b i (.string s)
  refine ⟨{ blk := h.blk.grown hg (by intro e; injection e with e; exact h.gb e)
            sec := by
              have := h.sec.set i (.string s)
              rw [List.setIfInBounds_toArray, sect_set _ hi] at this
              exact this
            row := h.row.kept hg (row_apart h.row h.sec (by decide))
            atg := h.atg, atb := h.atb, cuts := h.cuts, fails := h.fails, keep := h.keep, inv := hinv }, Ch.set h.sec h.atb rfl i _⟩
end

/-! ### Dead, Calls, Fail, Cut, Power -/
set_option maxHeartbeats 400000 in
theorem rdead_any (B g : Nat) (st : Dk.St) (w : World) (h : Ref w B g st) :
    Calls Try.prog 37 #[.pointer (some ⟨g, 0, none⟩)] w fun e w' => e = .returned (.bool st.off) ∧ w = w' := by
  obtain ⟨b, lv, h⟩ := h
  obtain ⟨-, -, c2, -⟩ := h.cells
  clear h
  go_enter Try.func37, Try.ntmps37
  go_wp2_with fail
  go_ret
  exact ⟨rfl, rfl⟩

set_option maxHeartbeats 400000 in
theorem rcalls_any (B g : Nat) (st : Dk.St) (w : World) (h : Ref w B g st) :
    Calls Try.prog 19 #[.pointer (some ⟨g, 0, none⟩)] w fun e w' => e = .returned (.int .i64 (st.many : Int)) ∧ w = w' := by
  obtain ⟨b, lv, h⟩ := h
  obtain ⟨-, -, -, -, -, -, c2⟩ := h.cells
  clear h
  go_enter Try.func19, Try.ntmps19
  go_wp2_with fail
  go_ret
  exact ⟨rfl, rfl⟩

set_option maxHeartbeats 400000 in
theorem rfail_any (B g : Nat) (st : Dk.St) (x : Int) (w : World) (h : Ref w B g st) (hx : x ≤ 9223372036854775807) :
    Calls Try.prog 36 #[.pointer (some ⟨g, 0, none⟩), .int .i64 x] w fun e w' => e = .returned (.tuple #[]) ∧ Ref w' B g (st.fail x) ∧ Ch Tr B w w' := by
  obtain ⟨b, lv, h⟩ := h
  obtain ⟨-, -, -, -, -, c2, -⟩ := h.cells
  have f2 := h.blk.frozen 5
  have R : ∀ v : Int, v = (x.toNat : Int) → RefAt (w.setCell ⟨g, 5, none⟩ (.int .i64 v)) B g (st.fail x) b lv ∧ Ch Tr B w (w.setCell ⟨g, 5, none⟩ (.int .i64 v)) := fun v hv =>
    ⟨h.field (by rw [hv]; rfl) rfl rfl h.cuts (by show x.toNat ≤ _; omega) h.keep (h.inv.fail x), h.ch 5 _⟩
  have HR := Lib.hid R
  clear h R hx
  go_enter Try.func36, Try.ntmps36
  go_wp2_with fail
  all_goals first
    | (have hv := HR.out 0 (by omega); go_end0; exact ⟨rfl, ⟨b, lv, hv.1⟩, hv.2⟩)
    | (have hv := HR.out x (by omega); go_end0; exact ⟨rfl, ⟨b, lv, hv.1⟩, hv.2⟩)

set_option maxHeartbeats 400000 in
theorem rcut_any (B g : Nat) (st : Dk.St) (x : Int) (keep : Nat) (w : World) (h : Ref w B g st) (hx : x ≤ 9223372036854775807) (hk : keep < 18446744073709551616) :
    Calls Try.prog 12 #[.pointer (some ⟨g, 0, none⟩), .int .i64 x, .int .u64 (keep : Int)] w fun e w' => e = .returned (.tuple #[]) ∧ Ref w' B g (st.cut x keep) ∧ Ch Tr B w w' := by
  obtain ⟨b, lv, h⟩ := h
  obtain ⟨-, -, -, c1, c2, -, -⟩ := h.cells
  have f1 := h.blk.frozen 3
  have f2 := h.blk.frozen 4
  have R1 : ∀ v : Int, v = (x.toNat : Int) → RefAt (w.setCell ⟨g, 3, none⟩ (.int .i64 v)) B g { st with cuts := x.toNat } b lv := fun v hv => h.field (by rw [hv]; rfl) rfl rfl (by show x.toNat ≤ _; omega) h.fails h.keep ⟨h.inv.nodup, h.inv.keys, h.inv.texts, h.inv.few⟩
  have R2 : ∀ v : Int, v = (x.toNat : Int) → RefAt ((w.setCell ⟨g, 3, none⟩ (.int .i64 v)).setCell ⟨g, 4, none⟩ (.int .u64 (keep : Int))) B g (st.cut x keep) b lv ∧ Ch Tr B w ((w.setCell ⟨g, 3, none⟩ (.int .i64 v)).setCell ⟨g, 4, none⟩ (.int .u64 (keep : Int))) := fun v hv =>
    ⟨(R1 v hv).field rfl rfl rfl (R1 v hv).cuts h.fails hk ⟨h.inv.nodup, h.inv.keys, h.inv.texts, h.inv.few⟩, (h.ch 3 _).trans ((R1 v hv).ch 4 _)⟩
  have HR := Lib.hid R2
  clear h R1 R2 hx
  go_enter Try.func12, Try.ntmps12
  go_wp2_with fail
  all_goals first
    | (have hv := HR.out 0 (by omega); go_end0; exact ⟨rfl, ⟨b, lv, hv.1⟩, hv.2⟩)
    | (have hv := HR.out x (by omega); go_end0; exact ⟨rfl, ⟨b, lv, hv.1⟩, hv.2⟩)

set_option maxHeartbeats 400000 in
theorem rpower_any (B g : Nat) (st : Dk.St) (w : World) (h : Ref w B g st) :
    Calls Try.prog 24 #[.pointer (some ⟨g, 0, none⟩)] w fun e w' => e = .returned (.tuple #[]) ∧ Ref w' B g st.power ∧ Ch Tr B w w' := by
  obtain ⟨b, lv, h⟩ := h
  obtain ⟨-, -, c0, c1, -, c2, -⟩ := h.cells
  cases ho : st.off with
  | false =>
    rw [power_on ho]
    have HR := Lib.hid h
    rw [ho] at c0
    clear h c1 c2 ho
    go_enter Try.func24, Try.ntmps24
    go_wp2_with fail
    go_end0
    exact ⟨rfl, ⟨b, lv, HR.out⟩, Ch.refl _ _ _⟩
  | true =>
    rw [power_off ho]
    rw [ho] at c0
    have f0 := h.blk.frozen 2
    have f1 := h.blk.frozen 3
    have f2 := h.blk.frozen 5
    have R0 : RefAt (w.setCell ⟨g, 2, none⟩ (.bool false)) B g { st with off := false } b lv := h.field rfl rfl rfl h.cuts h.fails h.keep ⟨h.inv.nodup, h.inv.keys, h.inv.texts, h.inv.few⟩
    have R1 : RefAt ((w.setCell ⟨g, 2, none⟩ (.bool false)).setCell ⟨g, 3, none⟩ (.int .i64 0)) B g { st with off := false, cuts := 0 } b lv := R0.field rfl rfl rfl (Nat.zero_le _) h.fails h.keep ⟨h.inv.nodup, h.inv.keys, h.inv.texts, h.inv.few⟩
    have R2 : RefAt (((w.setCell ⟨g, 2, none⟩ (.bool false)).setCell ⟨g, 3, none⟩ (.int .i64 0)).setCell ⟨g, 5, none⟩ (.int .i64 0)) B g { st with off := false, cuts := 0, fails := 0 } b lv := R1.field rfl rfl rfl (Nat.zero_le _) (Nat.zero_le _) h.keep ⟨h.inv.nodup, h.inv.keys, h.inv.texts, h.inv.few⟩
    have HR := Lib.hid (And.intro R2 (((h.ch 2 (.bool false)).trans (R0.ch 3 (.int .i64 0))).trans (R1.ch 5 (.int .i64 0))))
    clear h R0 R1 R2 ho
    go_enter Try.func24, Try.ntmps24
    go_wp2_with fail
    go_end0
    exact ⟨rfl, ⟨b, lv, HR.out.1⟩, HR.out.2⟩

/-! ### Read, call -/
set_option maxHeartbeats 400000 in
theorem rread_any (B g : Nat) (st : Dk.St) (i : Int) (w : World) (h : Ref w B g st) :
    Calls Try.prog 35 #[.pointer (some ⟨g, 0, none⟩), .int .i64 i] w fun e w' => e = .returned (.tuple #[.string (st.read i), .int .i64 (st.reach i)]) ∧ w = w' := by
  obtain ⟨b, lv, h⟩ := h
  obtain ⟨c1, -, c0, -⟩ := h.cells
  cases ho : st.off with
  | true =>
    rw [ho] at c0
    have e : st.reach i = 33 := by unfold Dk.St.reach; rw [if_pos ho]
    rw [show st.read i = ByteArray.empty by unfold Dk.St.read; rw [if_neg (by rw [e]; decide)], e]
    clear ho h e
    go_enter Try.func35, Try.ntmps35
    go_wp2_with fail
    go_ret2
    exact ⟨rfl, rfl⟩
  | false =>
    rw [ho] at c0
    by_cases h1 : i < 0
    · have e : st.reach i = 30 := by unfold Dk.St.reach; rw [if_neg (by rw [ho]; decide), if_pos (.inl h1)]
      rw [show st.read i = ByteArray.empty by unfold Dk.St.read; rw [if_neg (by rw [e]; decide)], e]
      clear ho h e
      go_enter Try.func35, Try.ntmps35
      go_wp2_with fail
      go_ret2
      exact ⟨rfl, rfl⟩
    · by_cases h2 : 256 ≤ i
      · have e : st.reach i = 30 := by unfold Dk.St.reach; rw [if_neg (by rw [ho]; decide), if_pos (.inr h2)]
        rw [show st.read i = ByteArray.empty by unfold Dk.St.read; rw [if_neg (by rw [e]; decide)], e]
        clear ho h e
        go_enter Try.func35, Try.ntmps35
        go_wp2_with fail
        go_ret2
        exact ⟨rfl, rfl⟩
      · have e : st.reach i = 0 := Dk.reach_mk ho (by omega) (by omega)
        obtain ⟨k, rfl⟩ : ∃ k : Nat, i = (k : Int) := ⟨i.toNat, by omega⟩
        rw [show st.read (k : Int) = st.is k by unfold Dk.St.read; rw [if_pos e]; rfl, e]
        have hk : k < 256 := by omega
        have s0 := h.sector hk
        clear ho h e h1 h2
        go_enter Try.func35, Try.ntmps35
        go_wp2_with fail
        go_ret2
        exact ⟨rfl, rfl⟩

end Go.Proofs.Ytfflopmbbmpeoaa
