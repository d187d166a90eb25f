/- What the small calls of the program's disk come to: New, Dead, Calls, Fail, Cut, Power, Read; and reach, due. -/
import Derived.Test.YtgahcbhdnplnoaaDoorCkDiskWorld
import Derived.Outline
import Derived.Carry
namespace Go.Proofs.YtgahcbhdnplnoaaDoor
open Go.RowKit

def ints (l : List (Nat × ByteArray)) : List Value := l.map fun p => .int .i64 (p.1 : Int)

def rawOf (st : Dk.St) (m : Nat) (lv : Value) (tc tf : Int) : Raw := ⟨st.is, m, lv, st.off, st.many, tc, tf, st.keep⟩

/-- Block g is a disk of the program's that is as st is; all of it lies from B on; n bounds its map. -/
structure DskAt (w : World) (B g : Nat) (st : Dk.St) (m : Nat) (lv : Value) (tc tf : Int) (n : Nat) : Prop where
  blk : Blk w g 61 (rawOf st m lv tc tf).cells
  map : MapIs w m n st.loose
  row : w.ownsRow B 3 1 lv st.loose.length (ints st.loose)
  atg : B ≤ g
  atm : B ≤ m
  cuts : tc.toNat = st.cuts
  tcle : -9223372036854775808 ≤ tc ∧ tc ≤ 9223372036854775807
  fails : tf.toNat = st.fails
  tfle : -9223372036854775808 ≤ tf ∧ tf ≤ 9223372036854775807
  keep : st.keep < 18446744073709551616
  inv : Dk.Inv st

def Dsk (w : World) (B g : Nat) (st : Dk.St) : Prop := ∃ m lv tc tf n, DskAt w B g st m lv tc tf n ∧ n ≤ st.many

/-- The kinds of blocks that a disk of the program's has. -/
def Td : Obj → Bool
  | .cells _ t _ => t == 61 || t == 3
  | .map _ _ => true
  | _ => false

/-- Likewise, but the rows of numbers: only put writes into one. -/
def Td0 : Obj → Bool
  | .cells _ t _ => t == 61
  | .map _ _ => true
  | _ => false

theorem Ch.d {B : Nat} {w w' : World} (h : Ch Td0 B w w') : Ch Td B w w' where
  os := h.os
  tape := h.tape
  output := h.output
  size := h.size
  block i hi hT := h.block i hi (fun hB o ho => by
    have h1 := hT hB o ho
    cases o with
    | cells cs t z => simp [Td] at h1; simp [Td0]; exact h1.1
    | map es c => cases h1
    | _ => rfl)

/-- What a call leaves of the rows of numbers: the loose ones' row is the one that was, or a new one; no other one has changed. -/
structure Lvs (w : World) (lv : Value) (w' : World) (lv' : Value) : Prop where
  size : w.heap.size ≤ w'.heap.size
  own : ∀ k, lv'.ownBlock = some k → lv.ownBlock = some k ∨ w.heap.size ≤ k
  block : ∀ k cs z, lv.ownBlock ≠ some k → w.heap[k]? = some (.cells cs 3 z) → w'.heap[k]? = some (.cells cs 3 z)

theorem lt_of_at {w : World} {k : Nat} {o : Obj} (h : w.heap[k]? = some o) : k < w.heap.size := by
  rcases Nat.lt_or_ge k w.heap.size with h2 | h2
  · exact h2
  · rw [Array.getElem?_eq_none h2] at h; cases h
theorem Lvs.refl (w : World) (lv : Value) : Lvs w lv w lv := ⟨Nat.le_refl _, fun _ h => .inl h, fun _ _ _ _ h => h⟩
theorem Lvs.trans {a b c : World} {u v x : Value} (h : Lvs a u b v) (k : Lvs b v c x) : Lvs a u c x where
  size := Nat.le_trans h.size k.size
  own i hi := by
    rcases k.own i hi with h1 | h1
    · exact h.own i h1
    · exact .inr (Nat.le_trans h.size h1)
  block i cs z hne ho := k.block i cs z (fun e => by
    rcases h.own i e with h1 | h1
    · exact hne h1
    · have := lt_of_at ho; omega) (h.block i cs z hne ho)
theorem Lvs.of_ch {T : Obj → Bool} {B : Nat} {w w' : World} {lv lv' : Value} (hc : Ch T B w w') (hT : ∀ cs z, T (.cells cs 3 z) = false) (he : lv'.ownBlock = lv.ownBlock) : Lvs w lv w' lv' :=
  ⟨hc.size, fun k h => .inl (by rw [← he]; exact h), fun k cs z _ ho => (hc.block k (lt_of_at ho) (fun _ o h => by rw [ho] at h; injection h with h; rw [← h]; exact hT cs z)).trans ho⟩
theorem td0_int : ∀ cs z, Td0 (.cells cs 3 z) = false := fun _ _ => rfl

section
variable {w w' : World} {B g m n : Nat} {st : Dk.St} {lv : Value} {tc tf : Int}
theorem DskAt.kept {T : Obj → Bool} {B' : Nat} (h : DskAt w B g st m lv tc tf n) (hc : Ch T B' w w') (h1 : ∀ cs, T (.cells cs 61 (0, 0)) = false) (h2 : ∀ es c, T (.map es c) = false) (h3 : ∀ cs, T (.cells cs 3 (0, 0)) = false) :
    DskAt w' B g st m lv tc tf n :=
  { h with
    blk := hc.blk h.blk (h1 _)
    map := h.map.move (hc.block m h.map.lt (fun _ o ho => by
      obtain ⟨es, c, e⟩ := h.map.block
      rw [e] at ho; injection ho with ho; rw [← ho]; exact h2 _ _))
    row := owns_ch h.row hc h3 }
theorem DskAt.drew (h : DskAt w B g st m lv tc tf n) : DskAt w.drew B g st m lv tc tf n := { h with blk := h.blk.drew, map := h.map, row := h.row }

/-- A store into one field, and the state that it leaves. -/
theorem DskAt.field {st' : Dk.St} {tc' tf' : Int} {n' : Nat} (h : DskAt w B g st m lv tc tf n) {i : Nat} {u : Value} (hb : Blk (w.setCell ⟨g, i, none⟩ u) g 61 (rawOf st' m lv tc' tf').cells)
    (hl : st'.loose = st.loose) (hn : n ≤ n') (hc : tc'.toNat = st'.cuts) (hc' : -9223372036854775808 ≤ tc' ∧ tc' ≤ 9223372036854775807) (hf : tf'.toNat = st'.fails) (hf' : -9223372036854775808 ≤ tf' ∧ tf' ≤ 9223372036854775807) (hk : st'.keep < 18446744073709551616) (hi : Dk.Inv st') :
    DskAt (w.setCell ⟨g, i, none⟩ u) B g st' m lv tc' tf' n' :=
  have hg := Lib.grownBy_setCell w g i u
  { blk := hb
    map := by rw [hl]; exact (h.map.mono hn).grown hg (by intro e; injection e with e; exact h.map.ne h.blk e)
    row := by
      rw [hl]
      refine h.row.kept hg ?_
      rcases h.row.2 with ⟨rfl, _⟩ | ⟨b, cap, cur, rfl, _, hh, _⟩
      · exact .inl rfl
      · refine .inr ?_
        intro e
        simp [Value.ownBlock] at e
        subst e
        rw [show w.heap[b]? = some (.cells _ 61 (0, 0)) from h.blk] at hh
        injection hh with hh
        injection hh with _ hh
        cases hh
    atg := h.atg
    atm := h.atm
    cuts := hc
    tcle := hc'
    fails := hf
    tfle := hf'
    keep := hk
    inv := hi }
theorem DskAt.ch (h : DskAt w B g st m lv tc tf n) (i : Nat) (u : Value) : Ch Td0 B w (w.setCell ⟨g, i, none⟩ u) := Ch.set h.blk h.atg rfl i u
end

theorem Dsk.kept {w w' : World} {B g : Nat} {st : Dk.St} {T : Obj → Bool} {B' : Nat} (h : Dsk w B g st) (hc : Ch T B' w w') (h1 : ∀ cs, T (.cells cs 61 (0, 0)) = false) (h2 : ∀ es c, T (.map es c) = false) (h3 : ∀ cs, T (.cells cs 3 (0, 0)) = false) : Dsk w' B g st := by
  obtain ⟨m, lv, tc, tf, n, h, hn⟩ := h
  exact ⟨m, lv, tc, tf, n, h.kept hc h1 h2 h3, hn⟩
theorem Dsk.inv {w : World} {B g : Nat} {st : Dk.St} (h : Dsk w B g st) : Dk.Inv st := by
  obtain ⟨m, lv, tc, tf, n, h, hn⟩ := h
  exact h.inv

/-! ### Dead, Calls, Fail, Cut, Power -/
theorem toNat_le {n : Int} {k : Nat} (h : n.toNat = k) (hn : n ≤ 9223372036854775807) : (k : Int) ≤ 9223372036854775807 := by omega

set_option maxHeartbeats 400000 in
theorem cut_any (B g : Nat) (st : Dk.St) (x : Int) (keep : Nat) (w : World) (h : Dsk w B g st) (hx : -9223372036854775808 ≤ x ∧ x ≤ 9223372036854775807) (hk : keep < 18446744073709551616) :
    Calls Tryd.prog 15 #[.pointer (some ⟨g, 0, none⟩), .int .i64 x, .int .u64 (keep : Int)] w fun e w' => e = .returned (.tuple #[]) ∧ Dsk w' B g (st.cut x keep) ∧ Ch Td B w w' := by
  obtain ⟨m, lv, tc, tf, n, h, hn⟩ := h
  obtain ⟨-, -, -, -, c1, -, c2⟩ := dk_cells h.blk
  have f1 := dk_frozen h.blk 260
  have f2 := dk_frozen h.blk 262
  have R1 : DskAt (w.setCell ⟨g, 260, none⟩ (.int .i64 x)) B g { st with cuts := x.toNat } m lv x tf n := h.field (dk_set_tc h.blk x) rfl (Nat.le_refl _) rfl hx h.fails h.tfle h.keep ⟨h.inv.nodup, h.inv.keys, h.inv.texts, h.inv.few⟩
  have R2 : DskAt ((w.setCell ⟨g, 260, none⟩ (.int .i64 x)).setCell ⟨g, 262, none⟩ (.int .u64 (keep : Int))) B g (st.cut x keep) m lv x tf n := R1.field (dk_set_keep R1.blk (keep : Int)) rfl (Nat.le_refl _) rfl hx h.fails h.tfle hk ⟨h.inv.nodup, h.inv.keys, h.inv.texts, h.inv.few⟩
  have HR := Lib.hid (And.intro R2 ((h.ch 260 (.int .i64 x)).trans (R1.ch 262 (.int .u64 (keep : Int)))))
  have HN := Lib.hid hn
  clear h R1 R2 hn
  go_enter Tryd.func15, Tryd.ntmps15
  go_wp2_with fail
  go_end0
  exact ⟨rfl, ⟨m, lv, x, tf, n, HR.out.1, HN.out⟩, HR.out.2.d⟩

theorem power_on {st : Dk.St} (h : st.off = false) : st.power = st := by unfold Dk.St.power; rw [h]; rfl
theorem power_off {st : Dk.St} (h : st.off = true) : st.power = { st with off := false, cuts := 0, fails := 0 } := by unfold Dk.St.power; rw [if_pos h]

set_option maxHeartbeats 400000 in
theorem power_any (B g : Nat) (st : Dk.St) (w : World) (h : Dsk w B g st) :
    Calls Tryd.prog 16 #[.pointer (some ⟨g, 0, none⟩)] w fun e w' => e = .returned (.tuple #[]) ∧ Dsk w' B g st.power ∧ Ch Td B w w' := by
  obtain ⟨m, lv, tc, tf, n, h, hn⟩ := h
  obtain ⟨-, -, c0, -, c1, c2, -⟩ := dk_cells h.blk
  cases ho : st.off with
  | false =>
    rw [power_on ho]
    have HR := Lib.hid h
    have HN := Lib.hid hn
    simp only [rawOf, ho] at c0
    clear h hn c1 c2 ho
    go_enter Tryd.func16, Tryd.ntmps16
    go_wp2_with fail
    go_end0
    exact ⟨rfl, ⟨m, lv, tc, tf, n, HR.out, HN.out⟩, Ch.refl _ _ _⟩
  | true =>
    rw [power_off ho]
    simp only [rawOf, ho] at c0
    have f0 := dk_frozen h.blk 258
    have f1 := dk_frozen h.blk 260
    have f2 := dk_frozen h.blk 261
    have R0 : DskAt (w.setCell ⟨g, 258, none⟩ (.bool false)) B g { st with off := false } m lv tc tf n := h.field (dk_set_off h.blk false) rfl (Nat.le_refl _) h.cuts h.tcle h.fails h.tfle h.keep ⟨h.inv.nodup, h.inv.keys, h.inv.texts, h.inv.few⟩
    have R1 : DskAt ((w.setCell ⟨g, 258, none⟩ (.bool false)).setCell ⟨g, 260, none⟩ (.int .i64 0)) B g { st with off := false, cuts := 0 } m lv 0 tf n := R0.field (dk_set_tc R0.blk 0) rfl (Nat.le_refl _) rfl (by decide) h.fails h.tfle h.keep ⟨h.inv.nodup, h.inv.keys, h.inv.texts, h.inv.few⟩
    have R2 : DskAt (((w.setCell ⟨g, 258, none⟩ (.bool false)).setCell ⟨g, 260, none⟩ (.int .i64 0)).setCell ⟨g, 261, none⟩ (.int .i64 0)) B g { st with off := false, cuts := 0, fails := 0 } m lv 0 0 n := R1.field (dk_set_tf R1.blk 0) rfl (Nat.le_refl _) rfl (by decide) rfl (by decide) h.keep ⟨h.inv.nodup, h.inv.keys, h.inv.texts, h.inv.few⟩
    have HR := Lib.hid (And.intro R2 (((h.ch 258 (.bool false)).trans (R0.ch 260 (.int .i64 0))).trans (R1.ch 261 (.int .i64 0))))
    have HN := Lib.hid hn
    clear h hn R0 R1 R2 ho
    go_enter Tryd.func16, Tryd.ntmps16
    go_wp2_with fail
    go_end0
    exact ⟨rfl, ⟨m, lv, 0, 0, n, HR.out.1, HN.out⟩, HR.out.2.d⟩

/-! ### reach, Read, due -/
set_option maxHeartbeats 400000 in
theorem reach_any (B g : Nat) (st : Dk.St) (i : Int) (w : World) (h : Dsk w B g st) :
    Calls Tryd.prog 39 #[.pointer (some ⟨g, 0, none⟩), .int .i64 i] w fun e w' => e = .returned (.int .i64 (st.reach i)) ∧ w = w' := by
  obtain ⟨m, lv, tc, tf, n, h, -⟩ := h
  obtain ⟨-, -, c0, -⟩ := dk_cells h.blk
  clear h
  cases ho : st.off with
  | true =>
    simp only [rawOf, ho] at c0
    rw [show st.reach i = 33 by unfold Dk.St.reach; rw [if_pos ho]]
    clear ho
    go_enter Tryd.func39, Tryd.ntmps39
    go_wp2_with fail
    go_ret
    exact ⟨rfl, rfl⟩
  | false =>
    simp only [rawOf, ho] at c0
    by_cases h1 : i < 0
    · rw [show st.reach i = 30 by unfold Dk.St.reach; rw [if_neg (by rw [ho]; decide), if_pos (.inl h1)]]
      clear ho
      go_enter Tryd.func39, Tryd.ntmps39
      go_wp2_with fail
      go_ret
      exact ⟨rfl, rfl⟩
    · by_cases h2 : 256 ≤ i
      · rw [show st.reach i = 30 by unfold Dk.St.reach; rw [if_neg (by rw [ho]; decide), if_pos (.inr h2)]]
        clear ho
        go_enter Tryd.func39, Tryd.ntmps39
        go_wp2_with fail
        go_ret
        exact ⟨rfl, rfl⟩
      · rw [show st.reach i = 0 by unfold Dk.St.reach; rw [if_neg (by rw [ho]; decide), if_neg (by omega)]]
        clear ho
        go_enter Tryd.func39, Tryd.ntmps39
        go_wp2_with fail
        go_ret
        exact ⟨rfl, rfl⟩

set_option maxHeartbeats 400000 in
theorem dread_any (B g : Nat) (st : Dk.St) (i : Int) (w : World) (h : Dsk w B g st) :
    Calls Tryd.prog 48 #[.pointer (some ⟨g, 0, none⟩), .int .i64 i] w fun e w' => e = .returned (.tuple #[.string (st.read i), .int .i64 (st.reach i)]) ∧ w = w' := by
  have H := Lib.hid (reach_any B g st i w h)
  by_cases hr : st.reach i = 0
  · obtain ⟨h1, h2, h3⟩ := Dk.reach_ok hr
    obtain ⟨m, lv, tc, tf, n, h, -⟩ := h
    have c := dk_sect h.blk (i := i.toNat) (by omega)
    obtain ⟨k, rfl⟩ : ∃ k : Nat, i = (k : Int) := ⟨i.toNat, by omega⟩
    rw [show st.read (k : Int) = st.is k by unfold Dk.St.read; rw [if_pos hr]; rfl, hr]
    simp only [Int.toNat_natCast, rawOf] at c
    have hk : k < 256 := by omega
    have HR := Lib.hid hr
    clear h hr h1
    go_enter Tryd.func48, Tryd.ntmps48
    go_wp2_with fail
    refine H.out.mono ?_
    rintro e w' ⟨rfl, rfl⟩
    rw [HR.out]
    go_wp2_with fail
    go_ret2
    exact ⟨rfl, rfl⟩
  · rw [show st.read i = ByteArray.empty by unfold Dk.St.read; rw [if_neg hr]]
    have HR := Lib.hid hr
    clear hr h
    generalize st.reach i = x at *
    have hx := HR.out
    go_enter Tryd.func48, Tryd.ntmps48
    go_wp2_with fail
    refine H.out.mono ?_
    rintro e w' ⟨rfl, rfl⟩
    go_wp2_with fail
    go_ret2
    exact ⟨rfl, rfl⟩

set_option maxHeartbeats 400000 in
theorem due_any (p : Addr) (n : Int) (w : World) (hc : w.cell? p = some (.int .i64 n)) (hf : w.frozen? p = false) (hn : -9223372036854775808 ≤ n ∧ n ≤ 9223372036854775807) :
    Calls Tryd.prog 59 #[.pointer (some p)] w fun e w' => e = .returned (.bool (decide (n = 1))) ∧ w' = if n < 1 then w else w.setCell p (.int .i64 (n - 1)) := by
  obtain ⟨hn1, hn2⟩ := hn
  by_cases h : n < 1
  · rw [if_pos h, decide_eq_false (by omega)]
    go_enter Tryd.func59, Tryd.ntmps59
    go_wp2_with fail
    go_ret
    exact ⟨rfl, rfl⟩
  · rw [if_neg h, show decide (n = 1) = decide (n - 1 = 0) by by_cases e : n = 1 <;> simp [e]; omega]
    go_enter Tryd.func59, Tryd.ntmps59
    go_wp2_with fail
    go_ret
    exact ⟨rfl, rfl⟩

end Go.Proofs.YtgahcbhdnplnoaaDoor
