/- The walks of TextParses and TextReads: true of any text. -/
import Derived.Test.YtcoehmmiplffgaaDoorTkD
namespace Go.Proofs.YtcoehmmiplffgaaDoor
open Go.ChangeShapes Go.WideShapes Go.RowKit Go.Deep

theorem sized_of (code : Bool) (s : List UInt8) (hs : s.length ≤ 990000) : Sized (Tx.parse code s).2.2.blocks := by
  obtain ⟨h1, h2, h3⟩ := parse_small code s
  exact ⟨by omega, fun b hb => ⟨by have := h2 b hb; omega, fun x hx => by have := (h3 b hb x hx).1; omega⟩⟩

set_option maxRecDepth 20000 in
set_option maxHeartbeats 2000000 in
theorem parses_walk (s : ByteArray) (w : World) (_hs : s.size ≤ maxLen) (hr : Rdy w) :
    Calls Tryd.prog 6 #[.string s] w fun e w' => e = .returned (.bool true) ∧ Below w.heap.size w w' := by
  by_cases hb : 4096 < s.size
  · have hbi : (4096 : Int) < (s.size : Int) := by omega
    clear hb hr
    go_enter Tryd.func6, Tryd.ntmps6
    go_wp2_with fail
    go_ret
    exact ⟨rfl, Below.refl _ _⟩
  · have hbi : (s.size : Int) ≤ 4096 := by omega
    obtain ⟨f, n, E, hf, -, -, hp, hq⟩ := parses_two s (by omega)
    have HZ := Lib.hid (show Sized f.blocks by rw [hf]; exact sized_of false s.data.toList (by rw [bytes_length]; omega))
    have HP := Lib.hid (hp w hr)
    have HQ := Lib.hid hq
    clear hb hr hf hp hq
    go_enter Tryd.func6, Tryd.ntmps6
    go_wp2_with fail
    refine HP.out.mono ?_
    rintro e w2 ⟨hb2, gv, rfl, hF⟩
    obtain ⟨A, cap, rfl⟩ := hF.blks.form
    have hbA : Below w2.heap.size w2 (w2.alloc (.cells #[.string f.name, .int .i64 f.params, .int .i64 f.regs, .slice A f.blocks.length cap] 24)) := (Below.refl _ _).alloc (Nat.le_refl _) _
    have hx := Blk.new w2 24 #[.string f.name, .int .i64 f.params, .int .i64 f.regs, .slice A f.blocks.length cap]
    have HB := Lib.hid (And.intro hx (And.intro (hb2.trans (hbA.mono hb2.size)) (hF.blks.below hbA)))
    clear hx hbA hb2 hF
    go_upto_region 4 with fail
    generalize w2.alloc (.cells #[.string f.name, .int .i64 f.params, .int .i64 f.regs, .slice A f.blocks.length cap] 24) = w3 at *
    go_wp2_with fail
    refine (HQ.out w3).mono ?_
    rintro e w4 ⟨hb4, gv2, rfl, hF2⟩
    obtain ⟨B, cbp, rfl⟩ := hF2.blks.form
    have hbA : Below w4.heap.size w4 (w4.alloc (.cells #[.string f.name, .int .i64 f.params, .int .i64 f.regs, .slice B f.blocks.length cbp] 24)) := (Below.refl _ _).alloc (Nat.le_refl _) _
    have h35 := hb4.trans (hbA.mono hb4.size)
    have hx := Blk.new w4 24 #[.string f.name, .int .i64 f.params, .int .i64 f.regs, .slice B f.blocks.length cbp]
    obtain ⟨k0, k1, k2, k3⟩ := cells4 (HB.out.1.older h35 HB.out.1.lt)
    obtain ⟨m0, m1, m2, m3⟩ := cells4 hx
    have HS := Lib.hid (samefunc_any f (.slice A f.blocks.length cap) (.slice B f.blocks.length cbp) _ (HB.out.2.2.below h35) (hF2.blks.below hbA) HZ.out)
    have HB5 := Lib.hid (HB.out.2.1.trans (h35.mono HB.out.2.1.size))
    clear hx hbA hb4 hF2 h35
    go_upto_region 5 with fail
    generalize w4.alloc (.cells #[.string f.name, .int .i64 f.params, .int .i64 f.regs, .slice B f.blocks.length cbp] 24) = w5 at *
    have e1 : (n == n) = true := by simp
    have e2 : (E == E) = true := by simp
    have HS' := Lib.hid (show Calls Tryd.prog 13 #[.agg #[.string f.name, .int .i64 f.params, .int .i64 f.regs, .slice A f.blocks.length cap], .agg #[.string f.name, .int .i64 f.params, .int .i64 f.regs, .slice B f.blocks.length cbp]] w5 _ from HS.out)
    go_wp2_with (go_at_call 13; (with_reducible refine HS'.out.mono ?_); rintro e w6 ⟨rfl, hb6⟩; have HB6 := Lib.hid hb6; clear hb6)
    go_ret
    exact ⟨rfl, HB5.out.trans (HB6.out.mono HB5.out.size)⟩

set_option maxRecDepth 20000 in
set_option maxHeartbeats 2000000 in
theorem reads_walk (s : ByteArray) (w : World) (_hs : s.size ≤ maxLen) (hr : Rdy w) :
    Calls Tryd.prog 7 #[.string s] w fun e w' => e = .returned (.bool true) ∧ Below w.heap.size w w' := by
  by_cases hb : 4096 < s.size
  · have hbi : (4096 : Int) < (s.size : Int) := by omega
    clear hb hr
    go_enter Tryd.func7, Tryd.ntmps7
    go_wp2_with fail
    go_ret
    exact ⟨rfl, Below.refl _ _⟩
  · have hbi : (s.size : Int) ≤ 4096 := by omega
    have HZ := Lib.hid (sized_of true s.data.toList (by rw [bytes_length]; omega))
    have HP := Lib.hid (ParseCode_any s w (by omega) hr)
    have HQ := Lib.hid (fun W => rParseCode_any s W (by omega))
    obtain ⟨q, hq⟩ : ∃ q, q = Tx.parse true s.data.toList := ⟨_, rfl⟩
    rw [← hq] at HZ HP HQ
    clear hb hr hq
    go_enter Tryd.func7, Tryd.ntmps7
    go_wp2_with fail
    refine HP.out.mono ?_
    rintro e w2 ⟨hb2, gv, rfl, hF⟩
    obtain ⟨A, cap, rfl⟩ := hF.blks.form
    have hbA : Below w2.heap.size w2 (w2.alloc (.cells #[.string q.2.2.name, .int .i64 q.2.2.params, .int .i64 q.2.2.regs, .int .i64 q.2.2.slots, .slice A q.2.2.blocks.length cap] 37)) := (Below.refl _ _).alloc (Nat.le_refl _) _
    have hx := Blk.new w2 37 #[.string q.2.2.name, .int .i64 q.2.2.params, .int .i64 q.2.2.regs, .int .i64 q.2.2.slots, .slice A q.2.2.blocks.length cap]
    have HB := Lib.hid (And.intro hx (And.intro (hb2.trans (hbA.mono hb2.size)) (hF.blks.below hbA)))
    clear hx hbA hb2 hF
    go_upto_region 4 with fail
    generalize w2.alloc (.cells #[.string q.2.2.name, .int .i64 q.2.2.params, .int .i64 q.2.2.regs, .int .i64 q.2.2.slots, .slice A q.2.2.blocks.length cap] 37) = w3 at *
    go_wp2_with fail
    refine (HQ.out w3).mono ?_
    rintro e w4 ⟨hb4, gv2, rfl, hF2⟩
    obtain ⟨B, cbp, rfl⟩ := hF2.blks.form
    have hbA : Below w4.heap.size w4 (w4.alloc (.cells #[.string q.2.2.name, .int .i64 q.2.2.params, .int .i64 q.2.2.regs, .int .i64 q.2.2.slots, .slice B q.2.2.blocks.length cbp] 37)) := (Below.refl _ _).alloc (Nat.le_refl _) _
    have h35 := hb4.trans (hbA.mono hb4.size)
    have hx := Blk.new w4 37 #[.string q.2.2.name, .int .i64 q.2.2.params, .int .i64 q.2.2.regs, .int .i64 q.2.2.slots, .slice B q.2.2.blocks.length cbp]
    obtain ⟨k0, k1, k2, k3, k4⟩ := cells5 (HB.out.1.older h35 HB.out.1.lt)
    obtain ⟨m0, m1, m2, m3, m4⟩ := cells5 hx
    have HS := Lib.hid (samecode_any q.2.2 (.slice A q.2.2.blocks.length cap) (.slice B q.2.2.blocks.length cbp) _ (HB.out.2.2.below h35) (hF2.blks.below hbA) HZ.out)
    have HB5 := Lib.hid (HB.out.2.1.trans (h35.mono HB.out.2.1.size))
    clear hx hbA hb4 hF2 h35
    go_upto_region 5 with fail
    generalize w4.alloc (.cells #[.string q.2.2.name, .int .i64 q.2.2.params, .int .i64 q.2.2.regs, .int .i64 q.2.2.slots, .slice B q.2.2.blocks.length cbp] 37) = w5 at *
    have e1 : ((q.2.1 : Int) == (q.2.1 : Int)) = true := by simp
    have e2 : (q.1 == q.1) = true := by simp
    go_wp2_with (go_at_call 20; (with_reducible refine HS.out.mono ?_); rintro e w6 ⟨rfl, hb6⟩; have HB6 := Lib.hid hb6; clear hb6)
    go_ret
    exact ⟨rfl, HB5.out.trans (HB6.out.mono HB5.out.size)⟩
end Go.Proofs.YtcoehmmiplffgaaDoor
