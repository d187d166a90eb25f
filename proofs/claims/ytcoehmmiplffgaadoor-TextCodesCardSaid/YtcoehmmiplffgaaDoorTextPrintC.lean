/- The document's PrintCode. -/
import Derived.Test.YtcoehmmiplffgaaDoorTextPrint
namespace Go.Proofs.YtcoehmmiplffgaaDoor
open Go.ChangeShapes Go.WideShapes Go.RowKit Go.Deep

set_option maxRecDepth 20000 in
set_option maxHeartbeats 2000000 in
theorem rPrintC_any (c : Tx.Cd) (bv : Value) (w : World) (hv : Blks w bv c.blocks) (hs : SmalR c.blocks) (h64 : In64c c) :
    Calls Tryd.prog 17 #[CdV c bv] w (PrPost true c w) := by
  obtain ⟨hn, hp, hr, hq⟩ := h64
  have hb1 : Below w.heap.size w ((w.alloc (.cells (CdC c bv) 37)).alloc (.cells #[.int .i64 c.params, .int .i64 c.regs, .int .i64 c.slots] 3)) := ((Below.refl _ _).alloc (Nat.le_refl _) _).alloc (by simp) _
  have hbox := (Blk.new w 37 (CdC c bv))
  obtain ⟨c0, c1, c2, c3, c4⟩ := cells5 hbox
  have hbox2 := hbox.alloc (.cells #[.int .i64 c.params, .int .i64 c.regs, .int .i64 c.slots] 3)
  obtain ⟨k0, k1, k2, k3, k4⟩ := cells5 hbox2
  have hnums := nums_three (w.alloc (.cells (CdC c bv) 37)) c.params c.regs c.slots (by intro n hm; simp at hm; rcases hm with rfl | rfl | rfl <;> assumption)
  have hz : (w.alloc (.cells (CdC c bv) 37)).heap.size = w.heap.size + 1 := by simp
  rw [hz] at hnums
  have hln := rline_any ⟨#[99, 111, 100, 101]⟩ c.name true 0 _ [c.params, c.regs, c.slots] _ hnums (fun _ => Nat.zero_le _) (by simp) (by decide) hn
  have e1 : rlE (⟨#[99, 111, 100, 101]⟩ : ByteArray).data.toList true c.name [c.params, c.regs, c.slots] = Tx.check (Tx.headP true c) := by rw [rlE_is _ _ 0, if_neg (by decide)]; rfl
  have e2 : rlW (⟨#[99, 111, 100, 101]⟩ : ByteArray).data.toList true 0 c.name [c.params, c.regs, c.slots] = if Tx.check (Tx.headP true c) = 0 then Tx.lineW (Tx.first true) (Tx.headP true c) else [] := by unfold rlW; rw [e1]; rfl
  rw [e1, e2] at hln
  obtain ⟨A, cap, hbv⟩ := hv.form
  subst hbv
  by_cases h0 : Tx.check (Tx.headP true c) = 0
  · rw [h0, if_pos rfl] at hln
    have HLN := Lib.hid (show Calls Tryd.prog 21 #[.string ⟨#[99, 111, 100, 101]⟩, .string c.name, .bool true, .int .i64 0, .slice (some ⟨w.heap.size + 1, 0, none⟩) 3 3] _ _ from hln)
    obtain ⟨hE, hW⟩ := pr_body h0
    have HE := Lib.hid (And.intro hE hW)
    have HRP := Lib.hid (rprint_any true (Tx.lineW (Tx.first true) (Tx.headP true c)) (.slice A c.blocks.length cap) c.blocks _ (hv.below hb1) hs (headW_len true h0))
    have HB := Lib.hid hb1
    clear hb1 hbox hbox2 hnums hz hln e1 e2 hE hW h0 hv hs hn hp hr hq
    go_enter Tryd.func17, Tryd.ntmps17
    go_wp2_with fail
    refine HLN.out.mono ?_
    rintro e w2 ⟨rfl, rfl⟩
    go_wp2_with fail
    refine HRP.out.mono ?_
    rintro e w3 ⟨rfl, hb3⟩
    go_wp2_with fail
    go_ret2
    exact ⟨by rw [HE.out.1, HE.out.2] <;> rfl, HB.out.trans (hb3.mono HB.out.size)⟩
  · rw [if_neg h0] at hln
    obtain ⟨q, hc⟩ : ∃ q, q = Tx.check (Tx.headP true c) := ⟨_, rfl⟩
    rw [← hc] at hln
    have HLN := Lib.hid (show Calls Tryd.prog 21 #[.string ⟨#[99, 111, 100, 101]⟩, .string c.name, .bool true, .int .i64 0, .slice (some ⟨w.heap.size + 1, 0, none⟩) 3 3] _ _ from hln)
    have hne : (q != 0) = true := by rw [hc]; simpa using h0
    obtain ⟨hE, hW⟩ := pr_head h0
    rw [← hc] at hE
    have HE := Lib.hid (And.intro hE hW)
    have HB := Lib.hid hb1
    clear hb1 hbox hbox2 hnums hz hln e1 e2 hE hW h0 hc hv hs hn hp hr hq
    go_enter Tryd.func17, Tryd.ntmps17
    go_wp2_with fail
    refine HLN.out.mono ?_
    rintro e w2 ⟨rfl, rfl⟩
    go_wp2_with fail
    go_ret2
    exact ⟨by rw [HE.out.1, HE.out.2] <;> rfl, HB.out⟩
end Go.Proofs.YtcoehmmiplffgaaDoor
