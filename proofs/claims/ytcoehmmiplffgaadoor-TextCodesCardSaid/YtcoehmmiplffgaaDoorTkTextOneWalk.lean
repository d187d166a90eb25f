/- The walk of TextOne: true of any text. -/
import Derived.Test.YtcoehmmiplffgaaDoorTkTextParsesWalk
namespace Go.Proofs.YtcoehmmiplffgaaDoor
open Go.ChangeShapes Go.WideShapes Go.RowKit Go.Deep

/-- What was read is small enough for printing. -/
theorem smalR_of {bs : List (List Ir.In)} {w : World} {v : Value} (hc : bs.length + Ir.count bs ≤ 5000) (h : Small 5000 bs) (hv : Blks w v bs) : SmalR bs := by
  refine ⟨hc, fun b hb x hx => ?_⟩
  have h1 := h b hb x hx
  obtain ⟨j, hj, rfl⟩ := List.mem_iff_getElem.1 hb
  obtain ⟨k, hk, rfl⟩ := List.mem_iff_getElem.1 hx
  obtain ⟨A, cap, rfl⟩ := hv.form
  obtain ⟨bl, off, D, cbp, -, -, -, hI⟩ := hv.at (List.getElem?_eq_getElem hj)
  obtain ⟨bx, ox, F, fcp, -, -, -, hin⟩ := hI.at (List.getElem?_eq_getElem hk)
  obtain ⟨sl, -, hn, h64⟩ := hin
  exact ⟨h1.1, by omega, h64, fun n hm => (hn.in64 n hm).2⟩
theorem Rdy.prw {w : World} (h : Rdy w) : PrWorld w := ⟨h.pow, h.rws, h.lowP, h.lowR⟩
theorem parse_count {code : Bool} {s : List UInt8} (hs : s.length ≤ 4999) : (Tx.parse code s).2.2.blocks.length + Ir.count (Tx.parse code s).2.2.blocks ≤ 5000 := by
  by_cases h0 : (Tx.parse code s).1 = 0
  · obtain ⟨h1, h2, -, -⟩ := Tx.parse_ok h0
    have h3 := prW_count h1
    rw [h2] at h3
    have h4 : s.count 10 ≤ s.length := List.count_le_length
    omega
  · rw [parse_zero h0]
    exact Nat.zero_le _
theorem small_mono {N M : Nat} {bs : List (List Ir.In)} (h : Small N bs) (hm : N ≤ M) : Small M bs := fun b hb x hx => ⟨Nat.le_trans (h b hb x hx).1 hm, (h b hb x hx).2⟩

set_option maxRecDepth 20000 in
set_option maxHeartbeats 2000000 in
theorem one_walk (s : ByteArray) (w : World) (_hs : s.size ≤ maxLen) (hr : Rdy w) :
    Calls Tryd.prog 8 #[.string s] w fun e w' => e = .returned (.bool true) ∧ Below w.heap.size w w' := by
  by_cases hb : 4096 < s.size
  · have hbi : (4096 : Int) < (s.size : Int) := by omega
    clear hb hr
    go_enter Tryd.func8, Tryd.ntmps8
    go_wp2_with fail
    go_ret
    exact ⟨rfl, Below.refl _ _⟩
  · have hbi : (s.size : Int) ≤ 4096 := by omega
    obtain ⟨f, n, E, hf, -, hE, hp, hq⟩ := parses_two s (by omega)
    have HP := Lib.hid (hp w hr)
    have HQ := Lib.hid hq
    have hsl : s.data.toList.length ≤ 4096 := by rw [bytes_length]; omega
    have hhd := parse_head false s.data.toList
    have hsm := small_mono (parse_small false s.data.toList).2.2 (M := 5000) (by omega)
    have hct := parse_count (code := false) (s := s.data.toList) (by omega)
    have hprint : E = 0 → Tx.prE false (cdOf f) = 0 ∧ Tx.pr false (cdOf f) = s.data.toList := fun h0 => by
      rw [hE] at h0
      obtain ⟨h1, h2, -, h4⟩ := Tx.parse_ok h0
      have hcd : cdOf f = (Tx.parse false s.data.toList).2.2 := by
        rw [hf]
        have := h4 rfl
        show (⟨_, _, _, 0, _⟩ : Tx.Cd) = _
        rw [← this]
        rfl
      rw [hcd]
      exact ⟨h1, by unfold Tx.pr; rw [if_pos h1]; exact h2⟩
    have HF := Lib.hid (And.intro hprint (And.intro (show f.name.size ≤ 12 by rw [hf]; exact hhd.1) (And.intro (show 0 ≤ f.params ∧ f.params ≤ 2147483647 by rw [hf]; exact hhd.2.1) (And.intro (show 0 ≤ f.regs ∧ f.regs ≤ 2147483647 by rw [hf]; exact hhd.2.2.1) (And.intro (show Small 5000 f.blocks by rw [hf]; exact hsm) (show f.blocks.length + Ir.count f.blocks ≤ 5000 by rw [hf]; exact hct))))))
    have HR := Lib.hid hr
    clear hb hr hf hE hp hq hsl hhd hsm hct hprint
    go_enter Tryd.func8, Tryd.ntmps8
    go_wp2_with fail
    refine HP.out.mono ?_
    rintro e w2 ⟨hb2, gv, rfl, hF⟩
    obtain ⟨A, cap, rfl⟩ := hF.blks.form
    have hbA : Below w2.heap.size w2 (w2.alloc (.cells #[.string f.name, .int .i64 f.params, .int .i64 f.regs, .slice A f.blocks.length cap] 24)) := (Below.refl _ _).alloc (Nat.le_refl _) _
    have hx := Blk.new w2 24 #[.string f.name, .int .i64 f.params, .int .i64 f.regs, .slice A f.blocks.length cap]
    have HB := Lib.hid (And.intro hx (And.intro (hb2.trans (hbA.mono hb2.size)) (hF.blks.below hbA)))
    clear hx hbA hb2 hF
    go_upto_region 4 with fail
    generalize w2.alloc (.cells #[.string f.name, .int .i64 f.params, .int .i64 f.regs, .slice A f.blocks.length cap] 24) = w3 at *
    go_wp2_with fail
    refine (HQ.out w3).mono ?_
    rintro e w4 ⟨hb4, gv2, rfl, hF2⟩
    obtain ⟨B, cbp, rfl⟩ := hF2.blks.form
    have hbA : Below w4.heap.size w4 (w4.alloc (.cells #[.string f.name, .int .i64 f.params, .int .i64 f.regs, .slice B f.blocks.length cbp] 24)) := (Below.refl _ _).alloc (Nat.le_refl _) _
    have h35 := hb4.trans (hbA.mono hb4.size)
    obtain ⟨k0, k1, k2, k3⟩ := cells4 (HB.out.1.older h35 HB.out.1.lt)
    have hbl5 := HB.out.2.2.below h35
    have hB5 := HB.out.2.1.trans (h35.mono HB.out.2.1.size)
    have hPR := print_any f (.slice A f.blocks.length cap) _ hbl5 (smalR_of HF.out.2.2.2.2.2 HF.out.2.2.2.2.1 hbl5) (by have := HF.out.2.1; omega) (by have := HF.out.2.2.1; omega) (by have := HF.out.2.2.2.1; omega) (HR.out.below hB5).prw
    obtain ⟨e1, he1⟩ : ∃ e1, e1 = Tx.prE false (cdOf f) := ⟨_, rfl⟩
    obtain ⟨S, hS⟩ : ∃ S, S = Tx.mkB (Tx.pr false (cdOf f)) := ⟨_, rfl⟩
    have hPR2 : Calls Tryd.prog 14 #[FuV f (.slice A f.blocks.length cap)] (w4.alloc (.cells #[.string f.name, .int .i64 f.params, .int .i64 f.regs, .slice B f.blocks.length cbp] 24)) (fun e w' => e = .returned (.tuple #[.string S, .int .i64 e1]) ∧ Below (w4.alloc (.cells #[.string f.name, .int .i64 f.params, .int .i64 f.regs, .slice B f.blocks.length cbp] 24)).heap.size (w4.alloc (.cells #[.string f.name, .int .i64 f.params, .int .i64 f.regs, .slice B f.blocks.length cbp] 24)) w') := by rw [he1, hS]; exact hPR
    have HPR := Lib.hid hPR2
    have HB5 := Lib.hid hB5
    have HE := Lib.hid (show E = 0 → e1 = 0 ∧ S = s from fun h0 => by
      obtain ⟨h1, h2⟩ := HF.out.1 h0
      exact ⟨he1.trans h1, by rw [hS, h2, Tx.mkB_list]⟩)
    have hEE : (E != E) = false := by simp
    clear hbA hb4 hF2 h35 hbl5 hB5 hPR hPR2 he1 hS
    go_upto_region 5 with fail
    generalize w4.alloc (.cells #[.string f.name, .int .i64 f.params, .int .i64 f.regs, .slice B f.blocks.length cbp] 24) = w5 at *
    go_upto_region 7 with fail
    have HPR' := Lib.hid (show Calls Tryd.prog 14 #[.agg #[.string f.name, .int .i64 f.params, .int .i64 f.regs, .slice A f.blocks.length cap]] w5 _ from HPR.out)
    go_wp2_with fail
    refine HPR'.out.mono ?_
    rintro e w6 ⟨rfl, hb6⟩
    have HB6 := Lib.hid (HB5.out.trans (hb6.mono HB5.out.size))
    clear hb6 k0 k1 k2 k3
    by_cases h0 : E = 0
    · obtain ⟨rfl, rfl⟩ := HE.out h0
      subst h0
      go_wp2_with fail
      go_ret
      exact ⟨rfl, HB6.out⟩
    · have hne : (E != 0) = true := by simpa using h0
      clear h0
      go_wp2_with fail
      go_ret
      exact ⟨rfl, HB6.out⟩
end Go.Proofs.YtcoehmmiplffgaaDoor
