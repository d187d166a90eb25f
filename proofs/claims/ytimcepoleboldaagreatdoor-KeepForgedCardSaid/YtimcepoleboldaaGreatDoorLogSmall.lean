/- What the small calls of the program's log come to: a head's sector, follows, Itoa, Room, Err, headOf. -/
import Derived.Test.YtimcepoleboldaaGreatDoorLogDisk
import Derived.Test.YtimcepoleboldaaGreatDoorChunkDecode
namespace Go.Proofs.YtimcepoleboldaaGreatDoor
open Go.RowKit

/-- A head, as it is handed by value; and its cells. -/
abbrev HdV (t : Lg.Top) : Value := .agg #[.int .i64 t.e, .int .i64 t.b, .int .i64 (t.h : Int)]
abbrev HdC (t : Lg.Top) : Array Value := #[.int .i64 t.e, .int .i64 t.b, .int .i64 (t.h : Int)]

section
variable {w : World} {g : Nat} {t : TypeId} {a b c : Value}
theorem three (h : Blk w g t #[a, b, c]) :
    (w.cell? ⟨g, 0, none⟩ = some a ∧ w.cell? ⟨g, 1, none⟩ = some b ∧ w.cell? ⟨g, 2, none⟩ = some c) ∧ w.frozen? ⟨g, 0, none⟩ = false ∧ w.frozen? ⟨g, 1, none⟩ = false ∧ w.frozen? ⟨g, 2, none⟩ = false := by
  have c0 := h.cell 0
  have c1 := h.cell 1
  have c2 := h.cell 2
  simp at c0 c1 c2
  exact ⟨⟨c0, c1, c2⟩, h.frozen 0, h.frozen 1, h.frozen 2⟩
theorem Blk.h0 (h : Blk w g t #[a, b, c]) (u : Value) : Blk (w.setCell ⟨g, 0, none⟩ u) g t #[u, b, c] := by
  have e := heap_setCell_same w g 0 _ t u h
  simpa [Blk] using e
theorem Blk.h1 (h : Blk w g t #[a, b, c]) (u : Value) : Blk (w.setCell ⟨g, 1, none⟩ u) g t #[a, u, c] := by
  have e := heap_setCell_same w g 1 _ t u h
  simpa [Blk] using e
theorem Blk.h2 (h : Blk w g t #[a, b, c]) (u : Value) : Blk (w.setCell ⟨g, 2, none⟩ u) g t #[a, b, u] := by
  have e := heap_setCell_same w g 2 _ t u h
  simpa [Blk] using e
theorem Blk.h3 (h : Blk w g t #[a, b, c]) (x y z : Value) : Blk (((w.setCell ⟨g, 0, none⟩ x).setCell ⟨g, 1, none⟩ y).setCell ⟨g, 2, none⟩ z) g t #[x, y, z] := ((h.h0 x).h1 y).h2 z
theorem gr_h3 {o : World} {row : Option Nat} (h : o.grownBy w row) (hg : o.heap.size ≤ g) (x y z : Value) : o.grownBy (((w.setCell ⟨g, 0, none⟩ x).setCell ⟨g, 1, none⟩ y).setCell ⟨g, 2, none⟩ z) row :=
  gr_set_new (gr_set_new (gr_set_new h hg 0 x) hg 1 y) hg 2 z
end

/-! ### sector -/
set_option maxHeartbeats 400000 in
theorem hsector_any (t : Lg.Top) (p : Nat) (w : World) (hh : t.h ≤ 1) (hp : p ≤ 127) :
    Calls Tryz.prog 91 #[HdV t, .int .i64 (p : Int)] w fun x w' => x = .returned (.int .i64 ((Lg.sec t.h p : Nat) : Int)) ∧ Below w.heap.size w w' := by
  obtain ⟨⟨-, -, c2⟩, -⟩ := three (Blk.new w 108 (HdC t))
  have hs : ((Lg.sec t.h p : Nat) : Int) = 2 + (t.h : Int) * 127 + (p : Int) := by unfold Lg.sec; omega
  have HS := Lib.hid hs
  clear hs
  go_enter Tryz.func91, Tryz.ntmps91
  go_wp2_with fail
  go_ret
  exact ⟨by rw [HS.out]; rfl, (Below.refl _ _).alloc (Nat.le_refl _) _⟩

/-! ### follows -/
/-- May a chunk stand behind another one? -/
def Folw (e : Int) (f : Bool) (e2 : Int) (l2 : Bool) : Prop := f = l2 ∧ (e = e2 ∨ f = true ∧ e2 < e)
instance (e : Int) (f : Bool) (e2 : Int) (l2 : Bool) : Decidable (Folw e f e2 l2) := by unfold Folw; infer_instance

set_option maxHeartbeats 1000000 in
theorem follows_any (e q : Int) (f l : Bool) (d : ByteArray) (e2 q2 : Int) (f2 l2 : Bool) (d2 : ByteArray) (w : World) :
    Calls Tryz.prog 93 #[ChV e q f l d, ChV e2 q2 f2 l2 d2] w fun x w' => x = .returned (.bool (decide (Folw e f e2 l2))) ∧ Below w.heap.size w w' := by
  obtain ⟨a0, -, a2, -, -⟩ := five ((Blk.new w 95 (ChC e q f l d)).alloc (.cells (ChC e2 q2 f2 l2 d2) 95))
  obtain ⟨b0, -, -, b3, -⟩ := five (Blk.new (w.alloc (.cells (ChC e q f l d) 95)) 95 (ChC e2 q2 f2 l2 d2))
  have hsz : (w.alloc (.cells (ChC e q f l d) 95)).heap.size = w.heap.size + 1 := by simp
  rw [hsz] at b0 b3
  have hB := Lib.hid (((Below.refl w.heap.size w).alloc (Nat.le_refl _) (.cells (ChC e q f l d) 95)).alloc (by simp) (.cells (ChC e2 q2 f2 l2 d2) 95))
  clear hsz
  by_cases hfl : f = l2
  · subst hfl
    by_cases heq : e = e2
    · subst heq
      have HN := Lib.hid (show Folw e f e f from ⟨rfl, .inl rfl⟩)
      have hbb : (f == f) = true := by simp
      have hee : (e == e) = true := by simp
      go_enter Tryz.func93, Tryz.ntmps93
      go_wp2_with fail
      go_ret
      exact ⟨by rw [decide_eq_true HN.out]; rfl, hB.out⟩
    · have hee : (e == e2) = false := by rw [beq_eq_false_iff_ne]; exact heq
      cases f with
      | false =>
        have HN := Lib.hid (show ¬ Folw e false e2 false from fun h => h.2.elim heq (fun h => by cases h.1))
        go_enter Tryz.func93, Tryz.ntmps93
        go_wp2_with fail
        go_ret
        exact ⟨by rw [decide_eq_false HN.out]; rfl, hB.out⟩
      | true =>
        by_cases hlt : e2 < e
        · have HN := Lib.hid (show Folw e true e2 true from ⟨rfl, .inr ⟨rfl, hlt⟩⟩)
          go_enter Tryz.func93, Tryz.ntmps93
          go_wp2_with fail
          go_ret
          exact ⟨by rw [decide_eq_true HN.out]; rfl, hB.out⟩
        · have HN := Lib.hid (show ¬ Folw e true e2 true from fun h => h.2.elim heq (fun h => hlt h.2))
          go_enter Tryz.func93, Tryz.ntmps93
          go_wp2_with fail
          go_ret
          exact ⟨by rw [decide_eq_false HN.out]; rfl, hB.out⟩
  · have HN := Lib.hid (show ¬ Folw e f e2 l2 from fun h => hfl h.1)
    have hbb : (f == l2) = false := by rw [beq_eq_false_iff_ne]; exact hfl
    go_enter Tryz.func93, Tryz.ntmps93
    go_wp2_with fail
    go_ret
    exact ⟨by rw [decide_eq_false HN.out]; rfl, hB.out⟩

/-! ### Itoa, of a half's number -/
/-- A half's number as text. -/
def hafB (h : Nat) : ByteArray := if h = 1 then ⟨#[49]⟩ else ⟨#[48]⟩
theorem hafB_list (h : Nat) : (hafB h).data.toList = if h = 1 then [49] else [48] := by unfold hafB; split <;> rfl
set_option maxRecDepth 20000 in
theorem small_any (h : Nat) (w : World) (hh : h ≤ 1) :
    Calls Tryz.prog 148 #[.int .i64 (h : Int)] w fun x w' => x = .returned (.string (hafB h)) ∧ w = w' := by
  rcases (show h = 0 ∨ h = 1 by omega) with rfl | rfl
  all_goals
    go_enter Tryz.func148, Tryz.ntmps148
    go_wp2_with fail
    go_ret
    exact ⟨rfl, rfl⟩
set_option maxRecDepth 20000 in
theorem formatInt_any (h : Nat) (w : World) (hh : h ≤ 1) :
    Calls Tryz.prog 140 #[.int .i64 (h : Int), .int .i64 10] w fun x w' => x = .returned (.string (hafB h)) ∧ w = w' := by
  have h1 : (h : Int) < 100 := by omega
  have h0 : (0 : Int) ≤ (h : Int) := by omega
  go_enter Tryz.func140, Tryz.ntmps140
  go_wp2_with fail
  refine (small_any h w hh).mono ?_
  rintro x w1 ⟨rfl, rfl⟩
  go_wp2_with fail
  go_ret
  exact ⟨rfl, rfl⟩
set_option maxRecDepth 20000 in
theorem itoa_in (h : Nat) (w : World) (hh : h ≤ 1) :
    Calls Tryz.prog 117 #[.int .i64 (h : Int)] w fun x w' => x = .returned (.string (hafB h)) ∧ w = w' := by
  go_enter Tryz.func117, Tryz.ntmps117
  go_wp2_with fail
  refine (formatInt_any h w hh).mono ?_
  rintro x w1 ⟨rfl, rfl⟩
  go_wp2_with fail
  go_ret
  exact ⟨rfl, rfl⟩
theorem itoa_any (h : Nat) (w : World) (hh : h ≤ 1) :
    Calls Tryz.prog 95 #[.int .i64 (h : Int)] w fun x w' => x = .returned (.string (hafB h)) ∧ w = w' := by
  go_enter Tryz.func95, Tryz.ntmps95
  go_wp2_with fail
  refine (itoa_in h w hh).mono ?_
  rintro x w1 ⟨rfl, rfl⟩
  go_wp2_with fail
  go_ret
  exact ⟨rfl, rfl⟩

/-! ### The log in memory -/
/-- Block q is the program's log on the disk at block g, as lo says; it lies from B on. -/
def Lgw [K : Keep] (w : World) (B q g : Nat) (lo : Lg.Lo) : Prop :=
  Blk w q 114 #[.pointer (some ⟨g, 0, none⟩), .int .i64 lo.t.e, .int .i64 lo.t.b, .int .i64 (lo.t.h : Int), .int .i64 (lo.next : Int), .int .i64 lo.wrong] ∧ (B ≤ q ∧ ¬ K.p q) ∧
    0 ≤ lo.t.b ∧ lo.t.b ≤ lo.t.e ∧ lo.t.e ≤ 1099511627776 ∧ lo.t.h ≤ 1 ∧ lo.next ≤ 127

theorem Lgw.kept {K K' : Keep} {w w' : World} {B q g : Nat} {lo : Lg.Lo} {T : Obj → Bool} {B' : Nat} (h : @Lgw K w B q g lo) (hc : @Ch K' T B' w w') (hT : ∀ cs, T (.cells cs 114 (0, 0)) = false) : @Lgw K w' B q g lo :=
  ⟨hc.blk h.1 (hT _), h.2⟩

section
variable {w : World} {g : Nat} {t : TypeId} {a b c d e f : Value}
theorem six (h : Blk w g t #[a, b, c, d, e, f]) :
    (w.cell? ⟨g, 0, none⟩ = some a ∧ w.cell? ⟨g, 1, none⟩ = some b ∧ w.cell? ⟨g, 2, none⟩ = some c ∧ w.cell? ⟨g, 3, none⟩ = some d ∧ w.cell? ⟨g, 4, none⟩ = some e ∧ w.cell? ⟨g, 5, none⟩ = some f) ∧
    w.frozen? ⟨g, 0, none⟩ = false ∧ w.frozen? ⟨g, 1, none⟩ = false ∧ w.frozen? ⟨g, 2, none⟩ = false ∧ w.frozen? ⟨g, 3, none⟩ = false ∧ w.frozen? ⟨g, 4, none⟩ = false ∧ w.frozen? ⟨g, 5, none⟩ = false := by
  have c0 := h.cell 0
  have c1 := h.cell 1
  have c2 := h.cell 2
  have c3 := h.cell 3
  have c4 := h.cell 4
  have c5 := h.cell 5
  simp at c0 c1 c2 c3 c4 c5
  exact ⟨⟨c0, c1, c2, c3, c4, c5⟩, h.frozen 0, h.frozen 1, h.frozen 2, h.frozen 3, h.frozen 4, h.frozen 5⟩
theorem Blk.l1 (h : Blk w g t #[a, b, c, d, e, f]) (u : Value) : Blk (w.setCell ⟨g, 1, none⟩ u) g t #[a, u, c, d, e, f] := by
  have e := heap_setCell_same w g 1 _ t u h
  simpa [Blk] using e
theorem Blk.l2 (h : Blk w g t #[a, b, c, d, e, f]) (u : Value) : Blk (w.setCell ⟨g, 2, none⟩ u) g t #[a, b, u, d, e, f] := by
  have e := heap_setCell_same w g 2 _ t u h
  simpa [Blk] using e
theorem Blk.l3 (h : Blk w g t #[a, b, c, d, e, f]) (u : Value) : Blk (w.setCell ⟨g, 3, none⟩ u) g t #[a, b, c, u, e, f] := by
  have e := heap_setCell_same w g 3 _ t u h
  simpa [Blk] using e
theorem Blk.l4 (h : Blk w g t #[a, b, c, d, e, f]) (u : Value) : Blk (w.setCell ⟨g, 4, none⟩ u) g t #[a, b, c, d, u, f] := by
  have e := heap_setCell_same w g 4 _ t u h
  simpa [Blk] using e
theorem Blk.l5 (h : Blk w g t #[a, b, c, d, e, f]) (u : Value) : Blk (w.setCell ⟨g, 5, none⟩ u) g t #[a, b, c, d, e, u] := by
  have e := heap_setCell_same w g 5 _ t u h
  simpa [Blk] using e
end

theorem err_any [Keep] (B q g : Nat) (lo : Lg.Lo) (w : World) (hl : Lgw w B q g lo) : Calls Tryz.prog 67 #[.pointer (some ⟨q, 0, none⟩)] w fun e w' => e = .returned (.int .i64 lo.wrong) ∧ w = w' := by
  obtain ⟨hb, -⟩ := hl
  obtain ⟨⟨-, -, -, -, -, c5⟩, -⟩ := six hb
  clear hb
  go_enter Tryz.func67, Tryz.ntmps67
  go_wp2_with fail
  go_ret
  exact ⟨rfl, rfl⟩

end Go.Proofs.YtimcepoleboldaaGreatDoor
