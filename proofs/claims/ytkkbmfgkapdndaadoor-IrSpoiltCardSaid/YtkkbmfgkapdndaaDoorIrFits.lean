/- fits, registers: which of an instruction's fields its Op has. -/
import Derived.Test.YtkkbmfgkapdndaaDoorIrRefUses
import Derived.Test.YtkkbmfgkapdndaaDoorIrBelow
namespace Go.Proofs.YtkkbmfgkapdndaaDoor
open Go.ChangeShapes Go.WideShapes Go.RowKit Go.Deep

set_option maxRecDepth 20000 in
set_option maxHeartbeats 800000 in
theorem fits_low (x : Ir.In) (sl : Value) (w : World) (ho : ¬ (1 ≤ x.op ∧ x.op ≤ 14)) :
    Calls Tryd.prog 31 #[InsV x sl, FlV x.op] w fun e w' => e = .returned (.bool false) ∧ Below w.heap.size w w' := by
  have HF := Lib.hid (show FlV x.op = .agg #[.int .i64 0, .int .i64 0, .int .i64 0, .bool false] by
    by_cases h : x.op < 1
    · exact FlV_low h
    · exact FlV_high (by omega))
  rw [HF.out]
  have HW := Lib.hid ((((Below.refl w.heap.size w).alloc (Nat.le_refl _) (.cells (InsC x sl) 32)).alloc (by simp) (.cells #[.int .i64 0, .int .i64 0, .int .i64 0, .bool false] 45)))
  go_enter Tryd.func31, Tryd.ntmps31
  go_wp2_with fail
  go_ret
  exact ⟨rfl, HW.out⟩

theorem field_ways {op : Int} (h : 1 ≤ op ∧ op ≤ 14) :
    (¬ Ir.fd op = 0 ∧ ¬ Ir.fa op = 0 ∧ Ir.fb op = 0 ∧ Ir.fc op = false) ∨ (¬ Ir.fd op = 0 ∧ ¬ Ir.fa op = 0 ∧ ¬ Ir.fb op = 0 ∧ Ir.fc op = false) ∨ (Ir.fd op = 0 ∧ ¬ Ir.fa op = 0 ∧ ¬ Ir.fb op = 0 ∧ Ir.fc op = false) ∨
    (Ir.fd op = 0 ∧ ¬ Ir.fa op = 0 ∧ Ir.fb op = 0 ∧ Ir.fc op = false) ∨ (¬ Ir.fd op = 0 ∧ Ir.fa op = 0 ∧ Ir.fb op = 0 ∧ Ir.fc op = true) := by
  rcases Ir.cases_op op h with rfl | rfl | rfl | rfl | rfl | rfl | rfl | rfl | rfl | rfl | rfl | rfl | rfl | rfl <;> decide

theorem nil_size (s : ByteArray) : s.toList = [] ↔ s.size = 0 := by
  rw [ByteArray.toList_eq]
  have : s.data.toList.length = s.size := by simp
  rw [← this]
  exact List.length_eq_zero_iff.symm

theorem args_zero (l : List Int) : ((l.length : Int) == 0) = decide (l = []) := by
  rw [Bool.eq_iff_iff]
  simp

set_option maxRecDepth 20000 in
set_option maxHeartbeats 1600000 in
theorem fits_in (x : Ir.In) (sl : Value) (w : World) (ho : 1 ≤ x.op ∧ x.op ≤ 14) (hx : InR w (InsC x sl).toList x) :
    Calls Tryd.prog 31 #[InsV x sl, FlV x.op] w fun e w' => e = .returned (.bool (Ir.fits x)) ∧ Below w.heap.size w w' := by
  obtain ⟨_, h1, ⟨A, cap, hsl, -⟩, -⟩ := hx
  simp at h1
  subst h1
  subst hsl
  have HO := Lib.hid ho
  rcases field_ways ho with ⟨h1, h2, h3, h4⟩ | ⟨h1, h2, h3, h4⟩ | ⟨h1, h2, h3, h4⟩ | ⟨h1, h2, h3, h4⟩ | ⟨h1, h2, h3, h4⟩
  · have E1 : (Ir.fd x.op == 0) = false := by simp [h1]
    have E2 : (Ir.fa x.op == 0) = false := by simp [h2]
    have E3 : (Ir.fb x.op == 0) = true := by simp [h3]
    have HK := Lib.hid (And.intro h1 (And.intro h2 (And.intro h3 h4)))
    clear ho h3
    go_enter Tryd.func31, Tryd.ntmps31
    go_wp2_with fail
    all_goals
      go_ret
      refine ⟨retb ?_, ((Below.refl _ _).alloc (Nat.le_refl _) _).alloc (by simp) _⟩
      obtain ⟨k1, k2, k3, k4⟩ := HK.out
      have ho := HO.out
      clear HK HO E1 E2 E3
      simp_all [Ir.fits, nil_size] <;> exact args_zero _
  · have E1 : (Ir.fd x.op == 0) = false := by simp [h1]
    have E2 : (Ir.fa x.op == 0) = false := by simp [h2]
    have E3 : (Ir.fb x.op == 0) = false := by simp [h3]
    have HK := Lib.hid (And.intro h1 (And.intro h2 (And.intro h3 h4)))
    clear ho
    go_enter Tryd.func31, Tryd.ntmps31
    go_wp2_with fail
    all_goals
      go_ret
      refine ⟨retb ?_, ((Below.refl _ _).alloc (Nat.le_refl _) _).alloc (by simp) _⟩
      obtain ⟨k1, k2, k3, k4⟩ := HK.out
      have ho := HO.out
      clear HK HO E1 E2 E3
      simp_all [Ir.fits, nil_size] <;> exact args_zero _
  · have E1 : (Ir.fd x.op == 0) = true := by simp [h1]
    have E2 : (Ir.fa x.op == 0) = false := by simp [h2]
    have E3 : (Ir.fb x.op == 0) = false := by simp [h3]
    have HK := Lib.hid (And.intro h1 (And.intro h2 (And.intro h3 h4)))
    clear ho h1
    go_enter Tryd.func31, Tryd.ntmps31
    go_wp2_with fail
    all_goals
      go_ret
      refine ⟨retb ?_, ((Below.refl _ _).alloc (Nat.le_refl _) _).alloc (by simp) _⟩
      obtain ⟨k1, k2, k3, k4⟩ := HK.out
      have ho := HO.out
      clear HK HO E1 E2 E3
      simp_all [Ir.fits, nil_size] <;> exact args_zero _
  · have E1 : (Ir.fd x.op == 0) = true := by simp [h1]
    have E2 : (Ir.fa x.op == 0) = false := by simp [h2]
    have E3 : (Ir.fb x.op == 0) = true := by simp [h3]
    have HK := Lib.hid (And.intro h1 (And.intro h2 (And.intro h3 h4)))
    clear ho h1 h3
    go_enter Tryd.func31, Tryd.ntmps31
    go_wp2_with fail
    all_goals
      go_ret
      refine ⟨retb ?_, ((Below.refl _ _).alloc (Nat.le_refl _) _).alloc (by simp) _⟩
      obtain ⟨k1, k2, k3, k4⟩ := HK.out
      have ho := HO.out
      clear HK HO E1 E2 E3
      simp_all [Ir.fits, nil_size] <;> exact args_zero _
  · have E1 : (Ir.fd x.op == 0) = false := by simp [h1]
    have E2 : (Ir.fa x.op == 0) = true := by simp [h2]
    have E3 : (Ir.fb x.op == 0) = true := by simp [h3]
    have HK := Lib.hid (And.intro h1 (And.intro h2 (And.intro h3 h4)))
    clear ho h2 h3
    go_enter Tryd.func31, Tryd.ntmps31
    go_wp2_with fail
    all_goals
      go_ret
      refine ⟨retb ?_, ((Below.refl _ _).alloc (Nat.le_refl _) _).alloc (by simp) _⟩
      obtain ⟨k1, k2, k3, k4⟩ := HK.out
      have ho := HO.out
      clear HK HO E1 E2 E3
      simp_all [Ir.fits]

theorem fits_any (x : Ir.In) (sl : Value) (w : World) (hx : InR w (InsC x sl).toList x) :
    Calls Tryd.prog 31 #[InsV x sl, FlV x.op] w fun e w' => e = .returned (.bool (Ir.fits x)) ∧ Below w.heap.size w w' := by
  by_cases ho : 1 ≤ x.op ∧ x.op ≤ 14
  · exact fits_in x sl w ho hx
  · have : Ir.fits x = false := by
      unfold Ir.fits
      rw [decide_eq_false (by omega)]
      rfl
    rw [this]
    exact fits_low x sl w ho

def Ir.regsB (x : Ir.In) (regs : Int) : Bool := !(decide (Ir.fd x.op = 1) && decide (x.d < 0 ∨ regs ≤ x.d)) && Ir.within (Ir.uses x) regs

theorem uses_len (x : Ir.In) (h : x.args.length ≤ 1048000) : (Ir.uses x).length ≤ 1048576 := by
  rcases uses_ways x with ⟨-, -, -, -, h'⟩ | ⟨-, -, -, -, h'⟩ | ⟨-, -, -, -, h'⟩ | ⟨-, -, -, -, h'⟩ <;> rw [h'] <;> first | omega | (simp; done)
theorem targets_len (x : Ir.In) : (Ir.targets x).length ≤ 1048576 := by
  rcases targets_ways x with ⟨-, -, -, -, h'⟩ | ⟨-, -, -, -, h'⟩ | ⟨-, -, -, -, h'⟩ <;> rw [h'] <;> simp

set_option maxRecDepth 20000 in
set_option maxHeartbeats 1600000 in
theorem registers_any (x : Ir.In) (sl : Value) (regs : Int) (w : World) (ht : Tbl w) (hx : InR w (InsC x sl).toList x) (hlen : x.args.length ≤ 1048000) :
    Calls Tryd.prog 32 #[InsV x sl, FlV x.op, .int .i64 regs] w fun e w' => e = .returned (.bool (Ir.regsB x regs)) ∧ Below w.heap.size w w' := by
  have hW := (((Below.refl w.heap.size w).alloc (Nat.le_refl _) (.cells (InsC x sl) 32)).alloc (by simp) (.cells (FlC x.op) 45))
  have hTW : Two ((w.alloc (.cells (InsC x sl) 32)).alloc (.cells (FlC x.op) 45)) w.heap.size (w.heap.size + 1) x sl := by
    have := Blk.new (w.alloc (.cells (InsC x sl) 32)) 45 (FlC x.op)
    rw [show (w.alloc (.cells (InsC x sl) 32)).heap.size = w.heap.size + 1 by simp] at this
    exact ⟨(Blk.new _ _ _).alloc _, this⟩
  have HX := Lib.hid (hx.below hW)
  have HT := Lib.hid (ht.below hW)
  have HW := Lib.hid hW
  have HTW := Lib.hid hTW
  have HL := Lib.hid hlen
  clear hW hTW hx ht hlen
  by_cases hd : Ir.fd x.op = 1 ∧ (x.d < 0 ∨ regs ≤ x.d)
  · have HR := Lib.hid (show Ir.regsB x regs = false by unfold Ir.regsB; rw [decide_eq_true hd.1, decide_eq_true hd.2]; rfl)
    have E1 : (Ir.fd x.op == 1) = true := by simp [hd.1]
    have hcase : x.d < 0 ∨ (0 ≤ x.d ∧ regs ≤ x.d) := by omega
    clear hd
    go_enter Tryd.func32, Tryd.ntmps32
    go_upto_region 1 with fail
    generalize (w.alloc (.cells (InsC x sl) 32)).alloc (.cells (FlC x.op) 45) = w3 at *
    obtain ⟨⟨d1, d2, d3, d5⟩, ⟨q0, q1, q2, q3⟩, l1, l2⟩ := two_cells HTW.out (Below.refl _ _)
    rcases hcase with h | ⟨h, h'⟩
    all_goals
      go_wp2_with fail
      go_ret
      exact ⟨retb HR.out.symm, HW.out⟩
  · have HR := Lib.hid (show Ir.regsB x regs = Ir.within (Ir.uses x) regs by
      unfold Ir.regsB
      by_cases h1 : Ir.fd x.op = 1
      · rw [decide_eq_false (p := x.d < 0 ∨ regs ≤ x.d) (fun h => hd ⟨h1, h⟩)]; simp
      · rw [decide_eq_false h1]; simp)
    have hcase : (Ir.fd x.op == 1) = false ∨ ((Ir.fd x.op == 1) = true ∧ 0 ≤ x.d ∧ x.d < regs) := by
      by_cases h1 : Ir.fd x.op = 1
      · exact .inr ⟨by simp [h1], by omega, by omega⟩
      · exact .inl (by simp [h1])
    clear hd
    rw [HR.out]
    go_enter Tryd.func32, Tryd.ntmps32
    go_upto_region 1 with fail
    generalize (w.alloc (.cells (InsC x sl) 32)).alloc (.cells (FlC x.op) 45) = w3 at *
    obtain ⟨⟨d0, d1, d2, d3, d4, d5⟩, l0⟩ := ins_cells_at HTW.out.1 (Below.refl _ _)
    obtain ⟨-, ⟨q0, q1, q2, q3⟩, l1, l2⟩ := two_cells HTW.out (Below.refl _ _)
    rcases hcase with h | ⟨h, h1, h2⟩
    all_goals
      go_wp2_with fail
      refine (uses_any x sl w3 HT.out HX.out HL.out).mono ?_
      rintro e w4 ⟨v, rfl, hr4, hb4⟩
      have HN4 := Lib.hid (hr4.nums (uses_in64 HX.out))
      have HB4 := Lib.hid hb4
      clear hr4 hb4
      go_wp2_with fail
      refine (below_any v (Ir.uses x) regs w4 HN4.out (uses_len x HL.out)).mono ?_
      rintro e w5 ⟨rfl, rfl⟩
      go_wp2_with fail
      go_ret
      exact ⟨rfl, HW.out.trans (HB4.out.mono HW.out.size)⟩
end Go.Proofs.YtkkbmfgkapdndaaDoor
