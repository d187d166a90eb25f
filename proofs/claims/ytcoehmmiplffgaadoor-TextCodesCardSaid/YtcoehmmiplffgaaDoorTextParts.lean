/- Parts of a line in memory: pointers to names and to numbers; what is wrong first. -/
import Derived.Test.YtcoehmmiplffgaaDoorTextPage
import Derived.Test.YtcoehmmiplffgaaDoorIrRow
import Derived.Test.YtcoehmmiplffgaaDoorIrNames
import Derived.Deep.Cut
namespace Go.Proofs.YtcoehmmiplffgaaDoor
open Go.ChangeShapes Go.WideShapes Go.RowKit Go.Deep

/-- A part, as the program has it: a pointer to a name, or to a number. -/
structure Pa where
  nm : Bool
  b : Nat
  o : Nat
def Pa.p0 (p : Pa) : Option Addr := if p.nm then some ⟨p.b, p.o, none⟩ else none
def Pa.p1 (p : Pa) : Option Addr := if p.nm then none else some ⟨p.b, p.o, none⟩
abbrev Pa.cells (p : Pa) : List Value := [.pointer p.p0, .pointer p.p1]
def flatPa (l : List Pa) : List Value := l.flatMap Pa.cells
/-- What a part points at. -/
def PaV (w : World) (p : Pa) (x : Tx.Pt) : Prop :=
  match x with
  | .nm s => p.nm = true ∧ w.cell? ⟨p.b, p.o, none⟩ = some (.string s) ∧ s.size ≤ 1048576
  | .num n => p.nm = false ∧ w.cell? ⟨p.b, p.o, none⟩ = some (.int .i64 n) ∧ -9223372036854775808 ≤ n ∧ n ≤ 9223372036854775807

/-- A block that a page's calls leave. -/
def Firm (B : Nat) (w : World) (b : Nat) : Prop := b < w.heap.size ∧ (b < B ∨ ∃ t cs, Blk w b t cs ∧ Tp (.cells cs t (0, 0)) = false)
theorem Firm.ch {B : Nat} {w w' : World} {b : Nat} (h : Firm B w b) (hc : Ch Tp B w w') : Firm B w' b := by
  obtain ⟨h1, h2⟩ := h
  refine ⟨Nat.lt_of_lt_of_le h1 hc.size, ?_⟩
  rcases h2 with h2 | ⟨t, cs, h3, h4⟩
  · exact .inl h2
  · exact .inr ⟨t, cs, hc.blk h3 h4, h4⟩
theorem Firm.heap {B : Nat} {w w' : World} {b : Nat} (h : Firm B w b) (hc : Ch Tp B w w') : w'.heap[b]? = w.heap[b]? := by
  obtain ⟨h1, h2⟩ := h
  rcases h2 with h2 | ⟨t, cs, h3, h4⟩
  · exact hc.block b h1 (fun hB => absurd hB (by omega))
  · exact (hc.blk h3 h4).trans h3.symm
theorem cell_of_heap_eq {w w' : World} {b : Nat} (h : w'.heap[b]? = w.heap[b]?) (o : Nat) : w'.cell? ⟨b, o, none⟩ = w.cell? ⟨b, o, none⟩ := World.cell?_of_block (a := ⟨b, o, none⟩) h
theorem Firm.cell {B : Nat} {w w' : World} {b : Nat} (h : Firm B w b) (hc : Ch Tp B w w') (o : Nat) : w'.cell? ⟨b, o, none⟩ = w.cell? ⟨b, o, none⟩ := cell_of_heap_eq (h.heap hc) o
theorem Firm.below {B : Nat} {w w' : World} {b : Nat} (h : Firm B w b) (hb : Below w.heap.size w w') : Firm B w' b := h.ch (Ch.of_below hb)

theorem PaV.of_cell {w w' : World} {p : Pa} {x : Tx.Pt} (h : PaV w p x) (hc : w'.cell? ⟨p.b, p.o, none⟩ = w.cell? ⟨p.b, p.o, none⟩) : PaV w' p x := by
  cases x with
  | nm s => exact ⟨h.1, hc.trans h.2.1, h.2.2⟩
  | num n => exact ⟨h.1, hc.trans h.2.1, h.2.2⟩

/-- A []part at v that reads as ps. -/
def PaS (B : Nat) (w : World) (v : Value) (ps : List Pa) : Prop :=
  ∃ A cap, v = .slice A ps.length cap ∧ ps.length ≤ maxLen ∧ ∀ (j : Nat) (p : Pa), ps[j]? = some p →
    ∃ b off, A = some ⟨b, off, none⟩ ∧ Firm B w b ∧ w.cell? ⟨b, off + j * 2, none⟩ = some (.pointer p.p0) ∧ w.cell? ⟨b, off + j * 2 + 1, none⟩ = some (.pointer p.p1)
theorem PaS.ch {B : Nat} {w w' : World} {v : Value} {ps : List Pa} (h : PaS B w v ps) (hc : Ch Tp B w w') : PaS B w' v ps := by
  obtain ⟨A, cap, h1, h0, h2⟩ := h
  refine ⟨A, cap, h1, h0, fun j p hj => ?_⟩
  obtain ⟨b, off, h3, h4, h5, h6⟩ := h2 j p hj
  exact ⟨b, off, h3, h4.ch hc, (h4.cell hc _).trans h5, (h4.cell hc _).trans h6⟩

/-- A []part at v whose parts point at xs. -/
def Pts (B : Nat) (w : World) (v : Value) (xs : List Tx.Pt) : Prop :=
  ∃ ps : List Pa, ps.length = xs.length ∧ PaS B w v ps ∧ ∀ (j : Nat) (p : Pa) (x : Tx.Pt), ps[j]? = some p → xs[j]? = some x → PaV w p x ∧ Firm B w p.b
theorem Pts.ch {B : Nat} {w w' : World} {v : Value} {xs : List Tx.Pt} (h : Pts B w v xs) (hc : Ch Tp B w w') : Pts B w' v xs := by
  obtain ⟨ps, h1, h2, h3⟩ := h
  refine ⟨ps, h1, h2.ch hc, fun j p x hp hx => ?_⟩
  obtain ⟨h4, h5⟩ := h3 j p x hp hx
  exact ⟨h4.of_cell (h5.cell hc _), h5.ch hc⟩
theorem Pts.below {B : Nat} {w w' : World} {v : Value} {xs : List Tx.Pt} (h : Pts B w v xs) (hb : Below w.heap.size w w') : Pts B w' v xs := h.ch (Ch.of_below hb)
theorem Pts.nil (B : Nat) (w : World) : Pts B w (.slice none 0 0) [] := ⟨[], rfl, ⟨none, 0, rfl, Nat.zero_le _, fun j p h => by simp at h⟩, fun j p x h => by simp at h⟩
theorem Pts.form {B : Nat} {w : World} {v : Value} {xs : List Tx.Pt} (h : Pts B w v xs) : ∃ A cap, v = .slice A xs.length cap ∧ xs.length ≤ maxLen := by
  obtain ⟨ps, h1, ⟨A, cap, h2, h3, _⟩, _⟩ := h
  exact ⟨A, cap, by rw [h2, h1], by omega⟩

/-- One part, read. -/
theorem Pts.at_ {B : Nat} {w : World} {A : Option Addr} {n cap : Nat} {xs : List Tx.Pt} (h : Pts B w (.slice A n cap) xs) {j : Nat} {x : Tx.Pt} (hx : xs[j]? = some x) :
    ∃ p b off, A = some ⟨b, off, none⟩ ∧ w.cell? ⟨b, off + j * 2, none⟩ = some (.pointer p.p0) ∧ w.cell? ⟨b, off + j * 2 + 1, none⟩ = some (.pointer p.p1) ∧ PaV w p x ∧ Firm B w p.b := by
  obtain ⟨ps, h1, ⟨A', cap', h2, _, h3⟩, h4⟩ := h
  have hj := (List.getElem?_eq_some_iff.1 hx).1
  have hp : ps[j]? = some ps[j] := List.getElem?_eq_getElem (by omega)
  obtain ⟨b, off, h5, h6, h7, h8⟩ := h3 j _ hp
  injection h2 with h2 _ _
  obtain ⟨h9, h10⟩ := h4 j _ x hp hx
  exact ⟨ps[j], b, off, h2.trans h5, h7, h8, h9, h10⟩

theorem fits_any (n : Int) (w : World) : Calls Tryd.prog 67 #[.int .i64 n] w fun e w' => e = .returned (.bool (Tx.okN n)) ∧ w = w' := by
  by_cases h0 : 0 ≤ n
  · by_cases h1 : n ≤ 2147483647
    · have HE := Lib.hid (show Tx.okN n = true from decide_eq_true ⟨h0, h1⟩)
      rw [HE.out]
      go_enter Tryd.func67, Tryd.ntmps67
      go_wp2
      go_ret
      exact ⟨rfl, rfl⟩
    · have HE := Lib.hid (show Tx.okN n = false from decide_eq_false (fun h => h1 h.2))
      have h2 : decide (n ≤ 2147483647) = false := decide_eq_false h1
      have h3 : (2147483647 : Int) < n := by omega
      clear h1
      rw [HE.out]
      go_enter Tryd.func67, Tryd.ntmps67
      go_wp2
      go_ret
      exact ⟨rfl, rfl⟩
  · have HE := Lib.hid (show Tx.okN n = false from decide_eq_false (fun h => h0 h.1))
    have h2 : decide (0 ≤ n) = false := decide_eq_false h0
    have h3 : n < 0 := by omega
    clear h0
    rw [HE.out]
    go_enter Tryd.func67, Tryd.ntmps67
    go_wp2
    go_ret
    exact ⟨rfl, rfl⟩

theorem any_up {l : List Tx.Pt} {f : Tx.Pt → Bool} {k : Nat} {x : Tx.Pt} (hx : l[k]? = some x) : (l.take (k + 1)).any f = ((l.take k).any f || f x) := by
  obtain ⟨h1, rfl⟩ := List.getElem?_eq_some_iff.1 hx
  rw [List.take_succ_eq_append_getElem h1, List.any_append]
  simp
theorem any_hit {l : List Tx.Pt} {f : Tx.Pt → Bool} {k : Nat} {x : Tx.Pt} (hx : l[k]? = some x) (h : f x = true) : l.any f = true :=
  List.any_eq_true.2 ⟨x, List.mem_of_getElem? hx, h⟩

def badN (p : Tx.Pt) : Bool := p.isN && !p.ok
def badM (p : Tx.Pt) : Bool := !p.isN && !p.ok
theorem check_is (xs : List Tx.Pt) : Tx.check xs = if xs.any badN then 80 else if xs.any badM then 81 else 0 := rfl
theorem check_80 {xs : List Tx.Pt} (h : xs.any badN = true) : Tx.check xs = 80 := by rw [check_is, if_pos h]
theorem check_81 {xs : List Tx.Pt} (h : xs.any badN = false) (h2 : xs.any badM = true) : Tx.check xs = 81 := by rw [check_is, h, if_neg (by decide), if_pos h2]
theorem check_0 {xs : List Tx.Pt} (h : xs.any badN = false) (h2 : xs.any badM = false) : Tx.check xs = 0 := by rw [check_is, h, h2]; rfl

theorem badN_nm (s : ByteArray) : badN (.nm s) = !Ir.nm s := rfl
theorem badN_num (n : Int) : badN (.num n) = false := rfl
theorem badM_nm (s : ByteArray) : badM (.nm s) = false := rfl
theorem badM_num (n : Int) : badM (.num n) = !Tx.okN n := rfl
theorem all_take {l : List Tx.Pt} : l.take l.length = l := List.take_of_length_le (Nat.le_refl _)

set_option maxRecDepth 20000 in
set_option maxHeartbeats 2000000 in
theorem check_any (B : Nat) (v : Value) (xs : List Tx.Pt) (w : World) (h : Pts B w v xs) (hl : xs.length ≤ 1048576) :
    Calls Tryd.prog 56 #[v] w fun e w' => e = .returned (.int .i64 (Tx.check xs)) ∧ Below w.heap.size w w' := by
  obtain ⟨A, cap, rfl, _⟩ := h.form
  have HL := Lib.hid hl
  have HP := Lib.hid (show ∀ wr, Below w.heap.size w wr → ∀ (j : Nat) (x : Tx.Pt), xs[j]? = some x → ∃ p b off, A = some ⟨b, off, none⟩ ∧ wr.cell? ⟨b, off + j * 2, none⟩ = some (.pointer p.p0) ∧ wr.cell? ⟨b, off + j * 2 + 1, none⟩ = some (.pointer p.p1) ∧ PaV wr p x ∧ Firm B wr p.b from
    fun wr hb j x hx => (h.below hb).at_ hx)
  have hl2 : (xs.length : Int) ≤ 1048576 := by omega
  clear h hl
  go_enter Tryd.func56, Tryd.ntmps56
  go_wp2_with fail
  go_loopw [9] (fun v wr => ∃ k : Nat, k ≤ xs.length ∧ v = .int .i64 (k : Int) ∧ (xs.take k).any badN = false ∧ Below w.heap.size w wr) (fun v _ => xs.length - (intOf v).toNat)
  case atStart => exact ⟨0, Nat.zero_le _, rfl, rfl, Below.refl _ _⟩
  case round =>
    obtain ⟨k, hk, rfl, hn, hb⟩ := hrel
    have HB := Lib.hid hb
    have HN := Lib.hid hn
    clear hb hn
    by_cases hlt : k < xs.length
    · have hlt' : (k : Int) < (xs.length : Int) := by omega
      have hx : xs[k]? = some xs[k] := List.getElem?_eq_getElem hlt
      have HX := Lib.hid hx
      obtain ⟨p, b, off, rfl, c0, c1, hv, -⟩ := HP.out wr HB.out k _ hx
      have hup := any_up (f := badN) hx
      rw [HN.out, Bool.false_or] at hup
      have HU := Lib.hid hup
      clear hup
      have HO := Lib.hid hx
      clear hx
      obtain ⟨x, hxx⟩ : ∃ x, xs[k] = x := ⟨_, rfl⟩
      rw [hxx] at hv HU HX
      clear hxx
      cases x with
      | nm s =>
        obtain ⟨h1, h2, h3⟩ := hv
        have e0 : p.p0 = some ⟨p.b, p.o, none⟩ := by unfold Pa.p0; rw [h1]; rfl
        rw [e0] at c0
        have HNA := Lib.hid (fun W => name_any s W)
        have hbl : p.b < wr.heap.size := World.block_lt_of_cell? wr ⟨p.b, p.o, none⟩ h2
        clear e0 h1
        cases hnm : Ir.nm s with
        | true =>
          rw [hnm] at HNA
          have HE := Lib.hid (show (xs.take (k + 1)).any badN = false by rw [HU.out, badN_nm, hnm]; rfl)
          clear hnm
          go_wp2_with (go_at_call 64; (with_reducible refine (HNA.out _).mono ?_); rintro e w2 ⟨rfl, rfl⟩)
          go_roundw
          case rel => exact ⟨k + 1, by omega, by go_num, HE.out, HB.out.alloc HB.out.size _⟩
          case measure => simp [intOf]; omega
        | false =>
          rw [hnm] at HNA
          have HE := Lib.hid (check_80 (any_hit (f := badN) HX.out (by rw [badN_nm, hnm]; rfl)))
          clear hnm
          go_wp2_with (go_at_call 64; (with_reducible refine (HNA.out _).mono ?_); rintro e w2 ⟨rfl, rfl⟩)
          go_ret
          exact ⟨by rw [HE.out] <;> rfl, HB.out.alloc HB.out.size _⟩
      | num n =>
        obtain ⟨h1, h2, h3⟩ := hv
        have e0 : p.p0 = none := by unfold Pa.p0; rw [h1]; rfl
        rw [e0] at c0
        have HE := Lib.hid (show (xs.take (k + 1)).any badN = false by rw [HU.out, badN_num])
        clear e0 h1 h2 h3
        go_wp2_with fail
        go_roundw
        case rel => exact ⟨k + 1, by omega, by go_num, HE.out, HB.out.alloc HB.out.size _⟩
        case measure => simp [intOf]; omega
    · obtain rfl : k = xs.length := by omega
      have HN0 := Lib.hid (show xs.any badN = false by have := HN.out; rwa [all_take] at this)
      clear HN
      go_wp2_with fail
      go_loopw [27] (fun v wr => ∃ k : Nat, k ≤ xs.length ∧ v = .int .i64 (k : Int) ∧ (xs.take k).any badM = false ∧ Below w.heap.size w wr) (fun v _ => xs.length - (intOf v).toNat)
      case atStart => exact ⟨0, Nat.zero_le _, rfl, rfl, HB.out⟩
      case round =>
        clear HB
        obtain ⟨k, hk, rfl, hn, hb⟩ := hrel
        have HB := Lib.hid hb
        have HN := Lib.hid hn
        clear hb hn
        by_cases hlt : k < xs.length
        · have hlt' : (k : Int) < (xs.length : Int) := by omega
          have hx : xs[k]? = some xs[k] := List.getElem?_eq_getElem hlt
          have HX := Lib.hid hx
          obtain ⟨p, b, off, rfl, c0, c1, hv, -⟩ := HP.out _ HB.out k _ hx
          have hup := any_up (f := badM) hx
          rw [HN.out, Bool.false_or] at hup
          have HU := Lib.hid hup
          clear hup hx
          obtain ⟨x, hxx⟩ : ∃ x, xs[k] = x := ⟨_, rfl⟩
          rw [hxx] at hv HU HX
          clear hxx
          cases x with
          | nm s =>
            obtain ⟨h1, h2, h3⟩ := hv
            have e0 : p.p1 = none := by unfold Pa.p1; rw [h1]; rfl
            rw [e0] at c1
            have HE := Lib.hid (show (xs.take (k + 1)).any badM = false by rw [HU.out, badM_nm])
            clear e0 h1 h2 h3
            go_wp2_with fail
            go_roundw
            case rel => exact ⟨k + 1, by omega, by go_num, HE.out, HB.out.alloc HB.out.size _⟩
            case measure => simp [intOf]; omega
          | num n =>
            obtain ⟨h1, h2, h3, h4⟩ := hv
            have e0 : p.p1 = some ⟨p.b, p.o, none⟩ := by unfold Pa.p1; rw [h1]; rfl
            rw [e0] at c1
            have HNA := Lib.hid (fun W => fits_any n W)
            have hbl := World.block_lt_of_cell? _ ⟨p.b, p.o, none⟩ h2
            clear e0 h1
            cases hnm : Tx.okN n with
            | true =>
              rw [hnm] at HNA
              have HE := Lib.hid (show (xs.take (k + 1)).any badM = false by rw [HU.out, badM_num, hnm]; rfl)
              clear hnm
              go_wp2_with (go_at_call 67; (with_reducible refine (HNA.out _).mono ?_); rintro e w2 ⟨rfl, rfl⟩)
              go_roundw
              case rel => exact ⟨k + 1, by omega, by go_num, HE.out, HB.out.alloc HB.out.size _⟩
              case measure => simp [intOf]; omega
            | false =>
              rw [hnm] at HNA
              have HE := Lib.hid (check_81 HN0.out (any_hit (f := badM) HX.out (by rw [badM_num, hnm]; rfl)))
              clear hnm
              go_wp2_with (go_at_call 67; (with_reducible refine (HNA.out _).mono ?_); rintro e w2 ⟨rfl, rfl⟩)
              go_ret
              exact ⟨by rw [HE.out] <;> rfl, HB.out.alloc HB.out.size _⟩
        · obtain rfl : k = xs.length := by omega
          have HE := Lib.hid (check_0 HN0.out (show xs.any badM = false by have := HN.out; rwa [all_take] at this))
          go_wp2_with fail
          go_ret
          exact ⟨by rw [HE.out] <;> rfl, HB.out⟩
end Go.Proofs.YtcoehmmiplffgaaDoor
