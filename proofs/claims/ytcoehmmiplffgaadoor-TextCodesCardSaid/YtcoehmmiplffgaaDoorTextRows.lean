/- The program's table of lines: as start-up lays it, and what rowOf and rowBy come to. -/
import Derived.Test.YtcoehmmiplffgaaDoorQuiets
import Derived.Test.YtcoehmmiplffgaaDoorTextPlain
import Derived.Test.YtcoehmmiplffgaaDoorIrRead
import Derived.WalkSmall
import Derived.MakeChecks
import Derived.OpenShut
import Derived.Deep.Cut
namespace Go.Proofs.YtcoehmmiplffgaaDoor
open Go.ChangeShapes Go.WideShapes Go.RowKit Go.Deep Go.Joins

/-- How an instruction is written. -/
structure Rw where
  op : Int
  w : List UInt8
  f : List UInt8
  a : Bool
  o : Int
def Rw.zero : Rw := ⟨0, [], [], false, 0⟩
abbrev Rw.arr (r : Rw) : Array Value := #[.int .i64 r.op, .string ⟨r.w.toArray⟩, .string ⟨r.f.toArray⟩, .bool r.a, .int .i64 r.o]
abbrev Rw.v (r : Rw) : Value := .agg r.arr

def rowL : List Rw := [
  ⟨1, [99, 111, 110, 115, 116], [68, 65], false, 0⟩,
  ⟨2, [99, 111, 112, 121], [68, 65], false, 0⟩,
  ⟨3, [97, 100, 100], [68, 65, 66], false, 0⟩,
  ⟨4, [115, 117, 98], [68, 65, 66], false, 0⟩,
  ⟨5, [109, 117, 108], [68, 65, 66], false, 0⟩,
  ⟨6, [108, 101, 115, 115], [68, 65, 66], false, 0⟩,
  ⟨7, [100, 105, 118], [68, 65, 66], false, 0⟩,
  ⟨8, [108, 111, 97, 100], [68, 65], false, 0⟩,
  ⟨9, [115, 116, 111, 114, 101], [65, 66], false, 0⟩,
  ⟨10, [111, 117, 116], [65], false, 0⟩,
  ⟨11, [99, 97, 108, 108], [68, 78], true, 1⟩,
  ⟨11, [99, 97, 108, 108], [68, 78, 65], false, 2⟩,
  ⟨12, [106, 117, 109, 112], [65], false, 0⟩,
  ⟨13, [98, 114, 97, 110, 99, 104], [65, 66, 68], false, 0⟩,
  ⟨14, [114, 101, 116], [65], false, 0⟩,
  ⟨21, [102, 101, 116, 99, 104], [68, 65], false, 2⟩,
  ⟨22, [115, 97, 118, 101], [68, 65], false, 2⟩]
def rowC : Array Value := (rowL.flatMap fun r => r.arr.toList).toArray

/-! ### which row -/
def kd (code : Bool) : Int := if code then 2 else 1
theorem kd_true : kd true = 2 := rfl
theorem kd_false : kd false = 1 := rfl
def onl (op : Int) (code : Bool) : Int := if op = 11 then kd code else if op = 21 ∨ op = 22 then 2 else 0
/-- The fields of a line, as the table has them. -/
def fieldsB (k : Nat) : List UInt8 :=
  match k with
  | 1 => [68, 65]
  | 2 => [68, 65, 66]
  | 3 => [65, 66]
  | 4 => [65]
  | 5 => [68, 78]
  | 6 => [68, 78, 65]
  | 7 => [65, 66, 68]
  | _ => []
def rowAt (op : Int) (code : Bool) : Rw := ⟨op, Tx.word op code, fieldsB (Tx.shp op code), decide (Tx.shp op code = 5), onl op code⟩

/-- Does a row stand in texts of this kind? -/
def stands (code : Bool) (r : Rw) : Bool := r.o == 0 || r.o == kd code

theorem row_lt {k : Nat} (h : k < 17) : ∃ r, rowL[k]? = some r := ⟨_, List.getElem?_eq_getElem (show k < rowL.length from h)⟩
theorem cases17 {k : Nat} (h : k < 17) : k = 0 ∨ k = 1 ∨ k = 2 ∨ k = 3 ∨ k = 4 ∨ k = 5 ∨ k = 6 ∨ k = 7 ∨ k = 8 ∨ k = 9 ∨ k = 10 ∨ k = 11 ∨ k = 12 ∨ k = 13 ∨ k = 14 ∨ k = 15 ∨ k = 16 := by omega

set_option maxRecDepth 20000 in
/-- A row that stands there is its Op's. -/
theorem row_is {k : Nat} {r : Rw} {code : Bool} (h : rowL[k]? = some r) (hs : stands code r = true) : r = rowAt r.op code ∧ Tx.word r.op code ≠ [] := by
  have hk : k < 17 := (List.getElem?_eq_some_iff.1 h).1
  rcases cases17 hk with rfl | rfl | rfl | rfl | rfl | rfl | rfl | rfl | rfl | rfl | rfl | rfl | rfl | rfl | rfl | rfl | rfl <;>
    (injection h with h; subst h; cases code <;> first | exact ⟨rfl, by decide⟩ | (exfalso; revert hs; decide))

set_option maxRecDepth 20000 in
theorem no_row {op : Int} {code : Bool} (h : ∀ j r, j < 17 → rowL[j]? = some r → ¬ (r.op = op ∧ stands code r = true)) : Tx.word op code = [] := by
  have g : ∀ j r, j < 17 → rowL[j]? = some r → stands code r = true → op ≠ r.op := fun j r hj hr hs e => h j r hj hr ⟨e.symm, hs⟩
  clear h
  have a1 := g 0 _ (by decide) rfl (by cases code <;> decide)
  have a2 := g 1 _ (by decide) rfl (by cases code <;> decide)
  have a3 := g 2 _ (by decide) rfl (by cases code <;> decide)
  have a4 := g 3 _ (by decide) rfl (by cases code <;> decide)
  have a5 := g 4 _ (by decide) rfl (by cases code <;> decide)
  have a6 := g 5 _ (by decide) rfl (by cases code <;> decide)
  have a7 := g 6 _ (by decide) rfl (by cases code <;> decide)
  have a8 := g 7 _ (by decide) rfl (by cases code <;> decide)
  have a9 := g 8 _ (by decide) rfl (by cases code <;> decide)
  have a10 := g 9 _ (by decide) rfl (by cases code <;> decide)
  have a12 := g 12 _ (by decide) rfl (by cases code <;> decide)
  have a13 := g 13 _ (by decide) rfl (by cases code <;> decide)
  have a14 := g 14 _ (by decide) rfl (by cases code <;> decide)
  unfold Tx.word
  cases code with
  | true =>
    have a11 := g 11 _ (by decide) rfl (by decide)
    have a21 := g 15 _ (by decide) rfl (by decide)
    have a22 := g 16 _ (by decide) rfl (by decide)
    rw [if_neg a1, if_neg a2, if_neg a3, if_neg a4, if_neg a5, if_neg a6, if_neg a7, if_neg a8, if_neg a9, if_neg a10, if_neg a11, if_neg a12, if_neg a13, if_neg a14, if_neg a21, if_neg a22]
  | false =>
    have a11 := g 10 _ (by decide) rfl (by decide)
    rw [if_neg a1, if_neg a2, if_neg a3, if_neg a4, if_neg a5, if_neg a6, if_neg a7, if_neg a8, if_neg a9, if_neg a10, if_neg a11, if_neg a12, if_neg a13, if_neg a14]
    by_cases h1 : op = 21
    · rw [if_pos h1]; rfl
    · rw [if_neg h1]
      by_cases h2 : op = 22
      · rw [if_pos h2]; rfl
      · rw [if_neg h2]

/-! ### in memory -/
theorem row_cells : Tryd.prog.cellsOf 108 = 5 := by kernel_rfl
theorem info_row : (Tryd.prog.info? 108).map (·.size) = some 5 := by kernel_rfl
theorem info_rows : (Tryd.prog.info? 116).map (·.size) = some 85 := by kernel_rfl

/-- The program's table lies in memory as start-up lays it. -/
def Rws (w : World) : Prop := ∃ t fr, w.heap[0]? = some (.cells rowC t fr)
theorem Rws.below {w w' : World} {B : Nat} (h : Rws w) (hb : Below B w w') (hB : 0 < B) : Rws w' := by
  obtain ⟨t, fr, h⟩ := h
  exact ⟨t, fr, (hb.block _ hB).trans h⟩

set_option maxRecDepth 20000 in
theorem index_row {k : Nat} {r : Rw} (h : rowL[k]? = some r) (w : World) : (Instr.index 116 (.agg rowC) (.int .i64 (k : Int))).run Tryd.prog w = .ok r.v w := by
  have hk : k < 17 := (List.getElem?_eq_some_iff.1 h).1
  rcases cases17 hk with rfl | rfl | rfl | rfl | rfl | rfl | rfl | rfl | rfl | rfl | rfl | rfl | rfl | rfl | rfl | rfl | rfl <;>
    (injection h with h; subst h; first | kernel_rfl | (show _ = _; kernel_rfl) | rfl)

set_option maxRecDepth 20000 in
theorem standsin_any (code : Bool) (r : Rw) (w : World) :
    Calls Tryd.prog 70 #[r.v, .int .i64 (kd code)] w fun e w' => e = .returned (.bool (stands code r)) ∧ w' = w.alloc (.cells r.arr 108) := by
  obtain ⟨op, wd, f, a, o⟩ := r
  obtain ⟨k, hk⟩ : ∃ k, k = kd code := ⟨_, rfl⟩
  have HS := Lib.hid (show stands code ⟨op, wd, f, a, o⟩ = (o == 0 || o == k) by rw [hk]; rfl)
  rw [← hk]
  clear hk
  show Calls _ _ #[.agg #[.int .i64 op, .string ⟨wd.toArray⟩, .string ⟨f.toArray⟩, .bool a, .int .i64 o], _] _ _
  by_cases h0 : o = 0
  · have h0' : (o == 0) = true := by simpa using h0
    have HE := Lib.hid (show stands code ⟨op, wd, f, a, o⟩ = true by rw [HS.out, h0']; rfl)
    clear h0
    rw [HE.out]
    go_enter Tryd.func70, Tryd.ntmps70
    go_wp2_with fail
    go_ret
    exact ⟨rfl, rfl⟩
  · have h0' : (o == 0) = false := by simpa using h0
    obtain ⟨c, hc⟩ : ∃ c, c = (o == k) := ⟨_, rfl⟩
    have HE := Lib.hid (show stands code ⟨op, wd, f, a, o⟩ = c by rw [HS.out, h0', hc]; rfl)
    have hc' := hc.symm
    clear h0 hc
    rw [HE.out]
    go_enter Tryd.func70, Tryd.ntmps70
    go_wp2_with fail
    go_ret
    exact ⟨rfl, rfl⟩

/-- The two results: what the block holds, and whether there is one. -/
theorem results_row {fn : Func} (h : fn.results = #[.cell 4 108, .tmp 5]) (tmps : Array Value) (W : World) (B : Nat) (a b c d e : Value)
    (hp : tmps.getD 4 undef = .pointer (some ⟨B, 0, none⟩)) (hb : Blk W B 108 #[a, b, c, d, e]) :
    (results fn tmps).run Tryd.prog W = .ok (.tuple #[.agg #[a, b, c, d, e], tmps.getD 5 undef]) W := by
  have hp' : tmps[4]?.getD undef = .pointer (some ⟨B, 0, none⟩) := by simpa using hp
  simp [results, h, hp', asAddr, run_loadVar_row W B 108 108 #[a, b, c, d, e] (0, 0) _ hb Tryd.underlying108 rfl info_row]

section
variable {w : World} {g : Nat} {t : TypeId} {a b c d e : Value}
theorem Blk.q5 (h : Blk w g t #[a, b, c, d, e]) (a' b' c' d' e' : Value) : Blk (((((w.setCell ⟨g, 0, none⟩ a').setCell ⟨g, 1, none⟩ b').setCell ⟨g, 2, none⟩ c').setCell ⟨g, 3, none⟩ d').setCell ⟨g, 4, none⟩ e') g t #[a', b', c', d', e'] := by
  have e0 : Blk (w.setCell ⟨g, 0, none⟩ a') g t #[a', b, c, d, e] := by simpa [Blk] using heap_setCell_same w g 0 _ t a' h
  have e1 : Blk ((w.setCell ⟨g, 0, none⟩ a').setCell ⟨g, 1, none⟩ b') g t #[a', b', c, d, e] := by simpa [Blk] using heap_setCell_same _ g 1 _ t b' e0
  have e2 : Blk (((w.setCell ⟨g, 0, none⟩ a').setCell ⟨g, 1, none⟩ b').setCell ⟨g, 2, none⟩ c') g t #[a', b', c', d, e] := by simpa [Blk] using heap_setCell_same _ g 2 _ t c' e1
  have e3 : Blk ((((w.setCell ⟨g, 0, none⟩ a').setCell ⟨g, 1, none⟩ b').setCell ⟨g, 2, none⟩ c').setCell ⟨g, 3, none⟩ d') g t #[a', b', c', d', e] := by simpa [Blk] using heap_setCell_same _ g 3 _ t d' e2
  simpa [Blk] using heap_setCell_same _ g 4 _ t e' e3
theorem cells5 (h : Blk w g t #[a, b, c, d, e]) : w.cell? ⟨g, 0, none⟩ = some a ∧ w.cell? ⟨g, 1, none⟩ = some b ∧ w.cell? ⟨g, 2, none⟩ = some c ∧ w.cell? ⟨g, 3, none⟩ = some d ∧ w.cell? ⟨g, 4, none⟩ = some e :=
  ⟨h.cell 0, h.cell 1, h.cell 2, h.cell 3, h.cell 4⟩
theorem frozen5 (h : Blk w g t #[a, b, c, d, e]) : w.frozen? ⟨g, 0, none⟩ = false ∧ w.frozen? ⟨g, 1, none⟩ = false ∧ w.frozen? ⟨g, 2, none⟩ = false ∧ w.frozen? ⟨g, 3, none⟩ = false ∧ w.frozen? ⟨g, 4, none⟩ = false :=
  ⟨h.frozen 0, h.frozen 1, h.frozen 2, h.frozen 3, h.frozen 4⟩
theorem below5 {B : Nat} {w0 : World} (h : Below B w0 w) (hg : B ≤ g) (a b c d e : Value) : Below B w0 (((((w.setCell ⟨g, 0, none⟩ a).setCell ⟨g, 1, none⟩ b).setCell ⟨g, 2, none⟩ c).setCell ⟨g, 3, none⟩ d).setCell ⟨g, 4, none⟩ e) :=
  ((((h.setCell (p := ⟨g, 0, none⟩) hg _).setCell (p := ⟨g, 1, none⟩) hg _).setCell (p := ⟨g, 2, none⟩) hg _).setCell (p := ⟨g, 3, none⟩) hg _).setCell (p := ⟨g, 4, none⟩) hg _
end

/-- What a search for a row knows at its k-th round. -/
structure RowAt (w : World) (p : Rw → Prop) (k : Nat) (wr : World) : Prop where
  none_ : ∀ j r, j < k → rowL[j]? = some r → ¬ p r
  cell : Blk wr w.heap.size 108 #[.int .i64 0, .string ⟨#[]⟩, .string ⟨#[]⟩, .bool false, .int .i64 0]
  below : Below w.heap.size w wr
theorem RowAt.next {w wr : World} {p : Rw → Prop} {k : Nat} {r : Rw} (h : RowAt w p k wr) (hr : rowL[k]? = some r) (hn : ¬ p r) {wr' : World} (hb : Below wr.heap.size wr wr') : RowAt w p (k + 1) wr' :=
  ⟨fun j r' hj hr' => by
    rcases Nat.lt_succ_iff_lt_or_eq.1 hj with h1 | rfl
    · exact h.none_ j r' h1 hr'
    · rw [hr] at hr'
      injection hr' with e
      rw [← e]
      exact hn, h.cell.older hb h.cell.lt, h.below.trans (hb.mono h.below.size)⟩

abbrev RowRes (e : Ending) (r : Rw) (b : Bool) : Prop := e = .returned (.tuple #[r.v, .bool b])
/-- What a search for a row comes to. -/
def RowPost (p : Rw → Prop) (w : World) (e : Ending) (w' : World) : Prop :=
  ((∃ (k : Nat) (r : Rw), rowL[k]? = some r ∧ p r ∧ RowRes e r true) ∨ ((∀ (j : Nat) (r : Rw), j < 17 → rowL[j]? = some r → ¬ p r) ∧ RowRes e Rw.zero false)) ∧ Below w.heap.size w w'

set_option maxRecDepth 100000 in
set_option maxHeartbeats 2000000 in
theorem rowof_any (op : Int) (code : Bool) (w : World) (ht : Rws w) (hlt : 0 < w.heap.size) :
    Calls Tryd.prog 60 #[.int .i64 (kd code), .int .i64 op] w (RowPost (fun r => r.op = op ∧ stands code r = true) w) := by
  have hC := fun (k : Nat) (r : Rw) (h : rowL[k]? = some r) w => index_row h w
  obtain ⟨C, eC⟩ : ∃ C, C = rowC := ⟨_, rfl⟩
  have hz : C.size = 85 := by rw [eC]; rfl
  obtain ⟨tt, fr, ht1⟩ := (show Rws w from ht)
  rw [← eC] at hC ht1
  have hb0 : (w.alloc (.cells #[.int .i64 0, .string ⟨#[]⟩, .string ⟨#[]⟩, .bool false, .int .i64 0] 108)).heap[0]? = some (.cells C tt fr) := (Below.heap_alloc w _ _ hlt).trans ht1
  have HI := Lib.hid hC
  have HZ := Lib.hid hz
  have HB := Lib.hid hb0
  clear hC eC hz ht ht1 hb0
  obtain ⟨kk, hkk⟩ : ∃ kk, kk = kd code := ⟨_, rfl⟩
  have HK := Lib.hid hkk
  rw [← hkk]
  clear hkk
  go_enter Tryd.func60, Tryd.ntmps60
  go_wp2_with (refine wpList_load_row rfl 116 _ rfl 0 rfl tt C fr _ HB.out Tryd.underlying116 rfl (by rw [HZ.out]; exact info_rows) ?_)
  go_loopw [9] (fun v wr => ∃ k : Nat, k ≤ 17 ∧ v = .int .i64 (k : Int) ∧ RowAt w (fun r => r.op = op ∧ stands code r = true) k wr) (fun v _ => 17 - (intOf v).toNat)
  case atStart => exact ⟨0, Nat.zero_le _, rfl, fun j r h => absurd h (Nat.not_lt_zero _), Blk.new _ _ _, (Below.refl _ _).alloc (Nat.le_refl _) _⟩
  case round =>
    obtain ⟨k, hk, rfl, hR⟩ := hrel
    have HR := Lib.hid hR
    clear hR
    by_cases hlt : k < 17
    · have hlt' : (k : Int) < 17 := by omega
      obtain ⟨r, hr⟩ := row_lt hlt
      have hix := HI.out k r hr
      have HRR := Lib.hid hr
      clear hr
      have hB := Blk.new wr 108 r.arr
      obtain ⟨c0, c1, c2, c3, c4⟩ := cells5 hB
      have HBB := Lib.hid hB
      clear hB
      by_cases h1 : r.op = op
      · have h1' : (r.op == op) = true := by simpa using h1
        have H1 := Lib.hid h1
        clear h1
        have HST := Lib.hid (fun W => standsin_any code r W)
        rw [← HK.out] at HST
        cases hs : stands code r with
        | true =>
          rw [hs] at HST
          have HS := Lib.hid hs
          clear hs
          go_wp2_with (go_at_call 70; (with_reducible refine (HST.out _).mono ?_); rintro e w2 ⟨rfl, rfl⟩; have q2 := (HR.out.cell.alloc (.cells r.arr 108)).alloc (.cells r.arr 108); obtain ⟨d0, d1, d2, d3, d4⟩ := cells5 q2; obtain ⟨f0, f1, f2, f3, f4⟩ := frozen5 q2; have HQ := Lib.hid q2; clear q2)
          refine bodyPost_ret (results_row rfl _ _ w.heap.size _ _ _ _ _ rfl (HQ.out.q5 _ _ _ _ _)) rfl ⟨.inl ⟨k, r, HRR.out, ⟨H1.out, HS.out⟩, rfl⟩, below5 ((HR.out.below.alloc HR.out.below.size _).alloc (by have := HR.out.below.size; simp; omega) _) (Nat.le_refl _) _ _ _ _ _⟩
        | false =>
          rw [hs] at HST
          have HS := Lib.hid (show ¬ (r.op = op ∧ stands code r = true) from fun h => by rw [hs] at h; exact absurd h.2 (by decide))
          clear hs
          go_wp2_with (go_at_call 70; (with_reducible refine (HST.out _).mono ?_); rintro e w2 ⟨rfl, rfl⟩)
          go_roundw
          case rel => exact ⟨k + 1, by omega, by go_num, HR.out.next HRR.out HS.out (((Below.refl _ _).alloc (Nat.le_refl _) _).alloc (by simp) _)⟩
          case measure => simp [intOf]; omega
      · have h1' : (r.op == op) = false := by simpa using h1
        have HS := Lib.hid (show ¬ (r.op = op ∧ stands code r = true) from fun h => h1 h.1)
        clear h1
        go_wp2_with fail
        go_roundw
        case rel => exact ⟨k + 1, by omega, by go_num, HR.out.next HRR.out HS.out ((Below.refl _ _).alloc (Nat.le_refl _) _)⟩
        case measure => simp [intOf]; omega
    · obtain rfl : k = 17 := by omega
      have q2 := HR.out.cell
      obtain ⟨d0, d1, d2, d3, d4⟩ := cells5 q2
      obtain ⟨f0, f1, f2, f3, f4⟩ := frozen5 q2
      have HQ := Lib.hid q2
      clear q2
      go_wp2_with fail
      refine bodyPost_ret (results_row rfl _ _ w.heap.size _ _ _ _ _ rfl (HQ.out.q5 _ _ _ _ _)) rfl ⟨.inr ⟨fun j r hj hr => HR.out.none_ j r hj hr, rfl⟩, below5 HR.out.below (Nat.le_refl _) _ _ _ _ _⟩

set_option maxRecDepth 100000 in
set_option maxHeartbeats 2000000 in
theorem rowby_any (s : ByteArray) (code : Bool) (w : World) (ht : Rws w) (hlt : 0 < w.heap.size) :
    Calls Tryd.prog 66 #[.int .i64 (kd code), .string s] w (RowPost (fun r => r.w = s.data.toList ∧ stands code r = true) w) := by
  have hC := fun (k : Nat) (r : Rw) (h : rowL[k]? = some r) w => index_row h w
  obtain ⟨C, eC⟩ : ∃ C, C = rowC := ⟨_, rfl⟩
  have hz : C.size = 85 := by rw [eC]; rfl
  obtain ⟨tt, fr, ht1⟩ := (show Rws w from ht)
  rw [← eC] at hC ht1
  have hb0 : (w.alloc (.cells #[.int .i64 0, .string ⟨#[]⟩, .string ⟨#[]⟩, .bool false, .int .i64 0] 108)).heap[0]? = some (.cells C tt fr) := (Below.heap_alloc w _ _ hlt).trans ht1
  have HI := Lib.hid hC
  have HZ := Lib.hid hz
  have HB := Lib.hid hb0
  clear hC eC hz ht ht1 hb0
  obtain ⟨kk, hkk⟩ : ∃ kk, kk = kd code := ⟨_, rfl⟩
  have HK := Lib.hid hkk
  rw [← hkk]
  clear hkk
  go_enter Tryd.func66, Tryd.ntmps66
  go_wp2_with (refine wpList_load_row rfl 116 _ rfl 0 rfl tt C fr _ HB.out Tryd.underlying116 rfl (by rw [HZ.out]; exact info_rows) ?_)
  go_loopw [9] (fun v wr => ∃ k : Nat, k ≤ 17 ∧ v = .int .i64 (k : Int) ∧ RowAt w (fun r => r.w = s.data.toList ∧ stands code r = true) k wr) (fun v _ => 17 - (intOf v).toNat)
  case atStart => exact ⟨0, Nat.zero_le _, rfl, fun j r h => absurd h (Nat.not_lt_zero _), Blk.new _ _ _, (Below.refl _ _).alloc (Nat.le_refl _) _⟩
  case round =>
    obtain ⟨k, hk, rfl, hR⟩ := hrel
    have HR := Lib.hid hR
    clear hR
    by_cases hlt : k < 17
    · have hlt' : (k : Int) < 17 := by omega
      obtain ⟨r, hr⟩ := row_lt hlt
      have hix := HI.out k r hr
      have HRR := Lib.hid hr
      clear hr
      have hB := Blk.new wr 108 r.arr
      obtain ⟨c0, c1, c2, c3, c4⟩ := cells5 hB
      have HBB := Lib.hid hB
      clear hB
      by_cases h1 : r.w = s.data.toList
      · obtain rfl : s = ⟨r.w.toArray⟩ := by rw [h1]
        clear h1
        have HST := Lib.hid (fun W => standsin_any code r W)
        rw [← HK.out] at HST
        cases hs : stands code r with
        | true =>
          rw [hs] at HST
          have HS := Lib.hid hs
          clear hs
          go_wp2_with (go_at_call 70; (with_reducible refine (HST.out _).mono ?_); rintro e w2 ⟨rfl, rfl⟩; have q2 := (HR.out.cell.alloc (.cells r.arr 108)).alloc (.cells r.arr 108); obtain ⟨d0, d1, d2, d3, d4⟩ := cells5 q2; obtain ⟨f0, f1, f2, f3, f4⟩ := frozen5 q2; have HQ := Lib.hid q2; clear q2)
          refine bodyPost_ret (results_row rfl _ _ w.heap.size _ _ _ _ _ rfl (HQ.out.q5 _ _ _ _ _)) rfl ⟨.inl ⟨k, r, HRR.out, ⟨by simp, HS.out⟩, rfl⟩, below5 ((HR.out.below.alloc HR.out.below.size _).alloc (by have := HR.out.below.size; simp; omega) _) (Nat.le_refl _) _ _ _ _ _⟩
        | false =>
          rw [hs] at HST
          have HS := Lib.hid (show ¬ (r.w = (⟨r.w.toArray⟩ : ByteArray).data.toList ∧ stands code r = true) from fun h => by rw [hs] at h; exact absurd h.2 (by decide))
          clear hs
          go_wp2_with (go_at_call 70; (with_reducible refine (HST.out _).mono ?_); rintro e w2 ⟨rfl, rfl⟩)
          go_roundw
          case rel => exact ⟨k + 1, by omega, by go_num, HR.out.next HRR.out (fun h => HS.out ⟨by simp, h.2⟩) (((Below.refl _ _).alloc (Nat.le_refl _) _).alloc (by simp) _)⟩
          case measure => simp [intOf]; omega
      · have h1' : (r.w == s.toList) = false := by rw [beq_eq_false_iff_ne, ByteArray.toList_eq]; exact h1
        have HS := Lib.hid (show ¬ (r.w = s.data.toList ∧ stands code r = true) from fun h => h1 h.1)
        clear h1
        go_wp2_with fail
        go_roundw
        case rel => exact ⟨k + 1, by omega, by go_num, HR.out.next HRR.out HS.out ((Below.refl _ _).alloc (Nat.le_refl _) _)⟩
        case measure => simp [intOf]; omega
    · obtain rfl : k = 17 := by omega
      have q2 := HR.out.cell
      obtain ⟨d0, d1, d2, d3, d4⟩ := cells5 q2
      obtain ⟨f0, f1, f2, f3, f4⟩ := frozen5 q2
      have HQ := Lib.hid q2
      clear q2
      go_wp2_with fail
      refine bodyPost_ret (results_row rfl _ _ w.heap.size _ _ _ _ _ rfl (HQ.out.q5 _ _ _ _ _)) rfl ⟨.inr ⟨fun j r hj hr => HR.out.none_ j r hj hr, rfl⟩, below5 HR.out.below (Nat.le_refl _) _ _ _ _ _⟩
end Go.Proofs.YtcoehmmiplffgaaDoor
