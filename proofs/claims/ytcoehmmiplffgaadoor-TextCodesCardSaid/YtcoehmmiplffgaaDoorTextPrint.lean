/- Print, PrintCode: the program's and the document's. -/
import Derived.Test.YtcoehmmiplffgaaDoorTextOfW
import Derived.Test.YtcoehmmiplffgaaDoorTextRefPrint
import Derived.Test.YtcoehmmiplffgaaDoorTextHeavy
namespace Go.Proofs.YtcoehmmiplffgaaDoor
open Go.ChangeShapes Go.WideShapes Go.RowKit Go.Deep

/-- A function as code without slots. -/
def cdOf (f : Ir.Fu) : Tx.Cd := ⟨f.name, f.params, f.regs, 0, f.blocks⟩

/-- Strings that a slice's names may be: with room to spare. -/
theorem LightT.smalR {bs : List (List Ir.In)} {w : World} {v : Value} (h : LightT bs) (hv : Blks w v bs) : SmalR bs := by
  refine ⟨by have := h.blocks; have := h.count; omega, fun b hb x hx => ?_⟩
  have h1 := h.ins b hb x hx
  obtain ⟨j, hj, rfl⟩ := List.mem_iff_getElem.1 hb
  obtain ⟨k, hk, rfl⟩ := List.mem_iff_getElem.1 hx
  obtain ⟨A, cap, rfl⟩ := hv.form
  obtain ⟨bl, off, D, cbp, -, -, -, hI⟩ := hv.at (List.getElem?_eq_getElem hj)
  obtain ⟨bx, ox, F, fcp, -, -, -, hin⟩ := hI.at (List.getElem?_eq_getElem hk)
  obtain ⟨sl, -, hn, h64⟩ := hin
  refine ⟨by have := h1.1; omega, by have := h1.2; omega, h64, fun n hm => (hn.in64 n hm).2⟩

structure PrWorld (w : World) : Prop where
  pow : Pow w
  rws : Rws w
  low : 2 < w.heap.size ∧ 0 < w.heap.size
theorem PrWorld.below {w w' : World} (h : PrWorld w) (hb : Below w.heap.size w w') : PrWorld w' :=
  ⟨h.pow.below hb h.low.1, h.rws.below hb h.low.2, Nat.lt_of_lt_of_le h.low.1 hb.size, Nat.lt_of_lt_of_le h.low.2 hb.size⟩

/-- What printing gives. -/
def PrPost (code : Bool) (c : Tx.Cd) (w : World) (e : Ending) (w' : World) : Prop := e = .returned (.tuple #[.string (Tx.mkB (Tx.pr code c)), .int .i64 (Tx.prE code c)]) ∧ Below w.heap.size w w'

section
variable {w : World} {g : Nat} {t : TypeId} {a b c d : Value}
theorem cells4 (h : Blk w g t #[a, b, c, d]) : w.cell? ⟨g, 0, none⟩ = some a ∧ w.cell? ⟨g, 1, none⟩ = some b ∧ w.cell? ⟨g, 2, none⟩ = some c ∧ w.cell? ⟨g, 3, none⟩ = some d := ⟨h.cell 0, h.cell 1, h.cell 2, h.cell 3⟩
end

set_option maxRecDepth 20000 in
set_option maxHeartbeats 1000000 in
theorem print_any (f : Ir.Fu) (bv : Value) (w : World) (hv : Blks w bv f.blocks) (hs : SmalR f.blocks) (hn : f.name.size ≤ 1048576) (hp : -9223372036854775808 ≤ f.params ∧ f.params ≤ 9223372036854775807) (hr : -9223372036854775808 ≤ f.regs ∧ f.regs ≤ 9223372036854775807) (hw : PrWorld w) :
    Calls Tryd.prog 14 #[FuV f bv] w (PrPost false (cdOf f) w) := by
  have hb1 : Below w.heap.size w (w.alloc (.cells #[.string f.name, .int .i64 f.params, .int .i64 f.regs, bv] 24)) := (Below.refl _ _).alloc (Nat.le_refl _) _
  have hbox := Blk.new w 24 #[.string f.name, .int .i64 f.params, .int .i64 f.regs, bv]
  obtain ⟨c0, c1, c2, c3⟩ := cells4 hbox
  have hw1 := hw.below hb1
  have HT := Lib.hid (show Calls Tryd.prog 26 #[.int .i64 1, .agg #[.string f.name, .int .i64 f.params, .int .i64 f.regs, .int .i64 0, bv]] _ _ from textof_any false (cdOf f) bv _ (hv.below hb1) ⟨hn, hp, hr, by show (-9223372036854775808 : Int) ≤ 0 ∧ (0 : Int) ≤ 9223372036854775807; omega⟩ hs.smal hw1.pow hw1.rws hw1.low.1 hw1.low.2)
  obtain ⟨A, cap, hbv⟩ := hv.form
  subst hbv
  have HB := Lib.hid hb1
  clear hb1 hbox hw1 hw hv hs hn hp hr
  go_enter Tryd.func14, Tryd.ntmps14
  go_wp2_with fail
  refine HT.out.mono ?_
  rintro e w2 ⟨rfl, hb2⟩
  go_wp2_with fail
  go_ret2
  exact ⟨rfl, HB.out.trans (hb2.mono HB.out.size)⟩

set_option maxRecDepth 20000 in
set_option maxHeartbeats 1000000 in
theorem printc_any (c : Tx.Cd) (bv : Value) (w : World) (hv : Blks w bv c.blocks) (hs : SmalR c.blocks) (h64 : In64c c) (hw : PrWorld w) :
    Calls Tryd.prog 16 #[CdV c bv] w (PrPost true c w) := by
  have hb1 : Below w.heap.size w (w.alloc (.cells (CdC c bv) 37)) := (Below.refl _ _).alloc (Nat.le_refl _) _
  have hbox := Blk.new w 37 (CdC c bv)
  obtain ⟨c0, c1, c2, c3, c4⟩ := cells5 hbox
  have hw1 := hw.below hb1
  have HT := Lib.hid (show Calls Tryd.prog 26 #[.int .i64 2, CdV c bv] _ _ from textof_any true c bv _ (hv.below hb1) h64 hs.smal hw1.pow hw1.rws hw1.low.1 hw1.low.2)
  obtain ⟨A, cap, hbv⟩ := hv.form
  subst hbv
  have HB := Lib.hid hb1
  clear hb1 hbox hw1 hw hv hs h64
  go_enter Tryd.func16, Tryd.ntmps16
  go_wp2_with fail
  refine HT.out.mono ?_
  rintro e w2 ⟨rfl, hb2⟩
  go_wp2_with fail
  go_ret2
  exact ⟨rfl, HB.out.trans (hb2.mono HB.out.size)⟩

/-! ### the document's -/
theorem head_false (c : Tx.Cd) : ptsOf true 0 c.name [c.params, c.regs] = Tx.headP false c := rfl
theorem head_true (c : Tx.Cd) : ptsOf true 0 c.name [c.params, c.regs, c.slots] = Tx.headP true c := rfl
theorem pr_head {code : Bool} {c : Tx.Cd} (h : Tx.check (Tx.headP code c) ≠ 0) : Tx.prE code c = Tx.check (Tx.headP code c) ∧ Tx.pr code c = [] := by
  have e : Tx.prE code c = Tx.check (Tx.headP code c) := by unfold Tx.prE; rw [if_neg h]
  exact ⟨e, by unfold Tx.pr; rw [e, if_neg h]⟩
theorem pr_body {code : Bool} {c : Tx.Cd} (h : Tx.check (Tx.headP code c) = 0) : Tx.prE code c = Tx.blksE code c.blocks ∧ Tx.pr code c = rprW code (Tx.lineW (Tx.first code) (Tx.headP code c)) c.blocks := by
  have e : Tx.prE code c = Tx.blksE code c.blocks := by unfold Tx.prE; rw [if_pos h]
  exact ⟨e, by unfold Tx.pr rprW; rw [e]; rfl⟩
theorem headW_len (code : Bool) {c : Tx.Cd} (h : Tx.check (Tx.headP code c) = 0) : (Tx.lineW (Tx.first code) (Tx.headP code c)).length ≤ 1000000000 := by
  have := pw_len (xs := Tx.headP code c) (fun y hy => check_ok h hy)
  have h2 : (Tx.headP code c).length ≤ 4 := by cases code <;> simp [Tx.headP]
  have h3 : (Tx.first code).length = 4 := by cases code <;> rfl
  rw [lineW_is]
  simp only [List.length_append, List.length_cons, List.length_nil]
  omega

set_option maxRecDepth 20000 in
set_option maxHeartbeats 2000000 in
theorem rPrint_any (f : Ir.Fu) (bv : Value) (w : World) (hv : Blks w bv f.blocks) (hs : SmalR f.blocks) (hn : f.name.size ≤ 1048576) (hp : -9223372036854775808 ≤ f.params ∧ f.params ≤ 9223372036854775807) (hr : -9223372036854775808 ≤ f.regs ∧ f.regs ≤ 9223372036854775807) :
    Calls Tryd.prog 10 #[FuV f bv] w (PrPost false (cdOf f) w) := by
  have hb1 : Below w.heap.size w ((w.alloc (.cells #[.string f.name, .int .i64 f.params, .int .i64 f.regs, bv] 24)).alloc (.cells #[.int .i64 f.params, .int .i64 f.regs] 3)) := ((Below.refl _ _).alloc (Nat.le_refl _) _).alloc (by simp) _
  have hbox := (Blk.new w 24 #[.string f.name, .int .i64 f.params, .int .i64 f.regs, bv])
  obtain ⟨c0, c1, c2, c3⟩ := cells4 hbox
  have hbox2 := hbox.alloc (.cells #[.int .i64 f.params, .int .i64 f.regs] 3)
  obtain ⟨k0, k1, k2, k3⟩ := cells4 hbox2
  have hnums := nums_two (w.alloc (.cells #[.string f.name, .int .i64 f.params, .int .i64 f.regs, bv] 24)) f.params f.regs (by intro n hm; simp at hm; rcases hm with rfl | rfl <;> assumption)
  have hz : (w.alloc (.cells #[.string f.name, .int .i64 f.params, .int .i64 f.regs, bv] 24)).heap.size = w.heap.size + 1 := by simp
  rw [hz] at hnums
  have hln := rline_any ⟨#[102, 117, 110, 99]⟩ f.name true 0 _ [f.params, f.regs] _ hnums (fun _ => Nat.zero_le _) (by simp) (by decide) hn
  have e1 : rlE (⟨#[102, 117, 110, 99]⟩ : ByteArray).data.toList true f.name [f.params, f.regs] = Tx.check (Tx.headP false (cdOf f)) := by rw [rlE_is _ _ 0, if_neg (by decide)]; rfl
  have e2 : rlW (⟨#[102, 117, 110, 99]⟩ : ByteArray).data.toList true 0 f.name [f.params, f.regs] = if Tx.check (Tx.headP false (cdOf f)) = 0 then Tx.lineW (Tx.first false) (Tx.headP false (cdOf f)) else [] := by unfold rlW; rw [e1]; rfl
  rw [e1, e2] at hln
  obtain ⟨A, cap, hbv⟩ := hv.form
  subst hbv
  by_cases h0 : Tx.check (Tx.headP false (cdOf f)) = 0
  · rw [h0, if_pos rfl] at hln
    have HLN := Lib.hid (show Calls Tryd.prog 21 #[.string ⟨#[102, 117, 110, 99]⟩, .string f.name, .bool true, .int .i64 0, .slice (some ⟨w.heap.size + 1, 0, none⟩) 2 2] _ _ from hln)
    obtain ⟨hE, hW⟩ := pr_body h0
    have HE := Lib.hid (And.intro hE hW)
    have HRP := Lib.hid (rprint_any false (Tx.lineW (Tx.first false) (Tx.headP false (cdOf f))) (.slice A f.blocks.length cap) f.blocks _ (hv.below hb1) hs (headW_len false h0))
    have HB := Lib.hid hb1
    clear hb1 hbox hbox2 hnums hz hln e1 e2 hE hW h0 hv hs hn hp hr
    go_enter Tryd.func10, Tryd.ntmps10
    go_wp2_with fail
    refine HLN.out.mono ?_
    rintro e w2 ⟨rfl, rfl⟩
    go_wp2_with fail
    refine HRP.out.mono ?_
    rintro e w3 ⟨rfl, hb3⟩
    go_wp2_with fail
    go_ret2
    exact ⟨by rw [HE.out.1, HE.out.2] <;> rfl, HB.out.trans (hb3.mono HB.out.size)⟩
  · rw [if_neg h0] at hln
    obtain ⟨c, hc⟩ : ∃ c, c = Tx.check (Tx.headP false (cdOf f)) := ⟨_, rfl⟩
    rw [← hc] at hln
    have HLN := Lib.hid (show Calls Tryd.prog 21 #[.string ⟨#[102, 117, 110, 99]⟩, .string f.name, .bool true, .int .i64 0, .slice (some ⟨w.heap.size + 1, 0, none⟩) 2 2] _ _ from hln)
    have hne : (c != 0) = true := by rw [hc]; simpa using h0
    obtain ⟨hE, hW⟩ := pr_head h0
    rw [← hc] at hE
    have HE := Lib.hid (And.intro hE hW)
    have HB := Lib.hid hb1
    clear hb1 hbox hbox2 hnums hz hln e1 e2 hE hW h0 hc hv hs hn hp hr
    go_enter Tryd.func10, Tryd.ntmps10
    go_wp2_with fail
    refine HLN.out.mono ?_
    rintro e w2 ⟨rfl, rfl⟩
    go_wp2_with fail
    go_ret2
    exact ⟨by rw [HE.out.1, HE.out.2] <;> rfl, HB.out⟩
end Go.Proofs.YtcoehmmiplffgaaDoor
