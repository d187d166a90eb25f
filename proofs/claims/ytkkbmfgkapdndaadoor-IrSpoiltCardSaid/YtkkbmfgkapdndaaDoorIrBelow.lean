/- Loops over rows of numbers: below, within, same, Equal. -/
import Derived.Test.YtkkbmfgkapdndaaDoorIrRow
namespace Go.Proofs.YtkkbmfgkapdndaaDoor
open Go.ChangeShapes Go.WideShapes Go.RowKit Go.Deep

theorem Nums.at {w : World} {A : Option Addr} {n cap : Nat} {l : List Int} (h : Nums w (.slice A n cap) l) {k : Nat} {x : Int} (hx : l[k]? = some x) : ∃ b off, A = some ⟨b, off, none⟩ ∧ b < w.heap.size ∧ w.cell? ⟨b, off + k, none⟩ = some (.int .i64 x) := by
  obtain ⟨A', cap', e, -, h3⟩ := h
  simp at e
  obtain ⟨rfl, rfl, rfl⟩ := e
  obtain ⟨b, off, cs, h4, h5, -, h7, h8⟩ := h3 k x hx
  have := h7 0 (.int .i64 x) (by rw [h8.1]; rfl)
  rw [Nat.mul_one, Nat.add_zero] at this
  exact ⟨b, off, h4, h5, this⟩

theorem within_up {l : List Int} {k : Nat} {x n : Int} (h : l[k]? = some x) (ht : Ir.within (l.take k) n = true) (hx : 0 ≤ x ∧ x < n) : Ir.within (l.take (k + 1)) n = true := by
  obtain ⟨h1, rfl⟩ := List.getElem?_eq_some_iff.1 h
  unfold Ir.within at *
  rw [List.take_succ_eq_append_getElem h1, List.all_append, ht]
  simp
  exact hx
theorem within_bad {l : List Int} {k : Nat} {x n : Int} (h : l[k]? = some x) (hx : ¬ (0 ≤ x ∧ x < n)) : Ir.within l n = false := by
  unfold Ir.within
  rw [List.all_eq_false]
  exact ⟨x, List.mem_of_getElem? h, by simpa using fun h0 => Int.not_lt.1 (fun h1 => hx ⟨h0, h1⟩)⟩

theorem retb {a b : Bool} (h : a = b) : Ending.returned (Value.bool a) = .returned (.bool b) := by rw [h]

set_option maxRecDepth 20000 in
set_option maxHeartbeats 800000 in
theorem below_any (v : Value) (l : List Int) (n : Int) (w : World) (hv : Nums w v l) (hl : l.length ≤ 1048576) :
    Calls Tryd.prog 33 #[v, .int .i64 n] w fun e w' => e = .returned (.bool (Ir.within l n)) ∧ w = w' := by
  obtain ⟨A, cap, rfl, -⟩ := id hv
  have HV := Lib.hid hv
  have hl' : (l.length : Int) ≤ 1048576 := by omega
  clear hv
  go_enter Tryd.func33, Tryd.ntmps33
  go_wp2_with fail
  go_loop [9] (fun i => ∃ k : Nat, k ≤ l.length ∧ i = .int .i64 (k : Int) ∧ Ir.within (l.take k) n = true) (fun i => l.length - (intOf i).toNat)
  case atStart => exact ⟨0, Nat.zero_le _, rfl, rfl⟩
  case round =>
    obtain ⟨k, hk, rfl, hall⟩ := hrel
    have HA := Lib.hid hall
    clear hall
    by_cases hlt : k < l.length
    · have hki : (k : Int) < (l.length : Int) := by omega
      obtain ⟨x, hx⟩ : ∃ x, l[k]? = some x := ⟨_, List.getElem?_eq_getElem hlt⟩
      obtain ⟨b, off, rfl, hb, hc⟩ := HV.out.at hx
      by_cases hr : 0 ≤ x ∧ x < n
      · have HU := Lib.hid (within_up hx HA.out hr)
        obtain ⟨hr1, hr2⟩ := hr
        clear hx
        go_wp2_with fail
        go_round
        case rel => exact ⟨k + 1, by omega, by go_num, HU.out⟩
        case measure => simp [intOf]; omega
      · have HU := Lib.hid (within_bad hx hr)
        have hcase : x < 0 ∨ (0 ≤ x ∧ n ≤ x) := by omega
        clear hx hr
        rcases hcase with h1 | ⟨h1, h2⟩
        all_goals
          go_wp2_with fail
          go_ret
          exact ⟨retb HU.out.symm, rfl⟩
    · have HU := Lib.hid (show Ir.within l n = true by have := HA.out; rwa [List.take_of_length_le (by omega)] at this)
      go_wp2_with fail
      go_ret
      exact ⟨retb HU.out.symm, rfl⟩

set_option maxRecDepth 20000 in
set_option maxHeartbeats 800000 in
theorem within_any (v : Value) (l : List Int) (n : Int) (w : World) (hv : Nums w v l) (hl : l.length ≤ 1048576) :
    Calls Tryd.prog 35 #[v, .int .i64 n] w fun e w' => e = .returned (.bool (Ir.within l n)) ∧ w = w' := by
  obtain ⟨A, cap, rfl, -⟩ := id hv
  have HV := Lib.hid hv
  have hl' : (l.length : Int) ≤ 1048576 := by omega
  clear hv
  go_enter Tryd.func35, Tryd.ntmps35
  go_wp2_with fail
  go_loop [5] (fun i => ∃ k : Nat, k ≤ l.length ∧ i = .int .i64 (k : Int) ∧ Ir.within (l.take k) n = true) (fun i => l.length - (intOf i).toNat)
  case atStart => exact ⟨0, Nat.zero_le _, rfl, rfl⟩
  case round =>
    obtain ⟨k, hk, rfl, hall⟩ := hrel
    have HA := Lib.hid hall
    clear hall
    by_cases hlt : k < l.length
    · have hki : (k : Int) < (l.length : Int) := by omega
      obtain ⟨x, hx⟩ : ∃ x, l[k]? = some x := ⟨_, List.getElem?_eq_getElem hlt⟩
      obtain ⟨b, off, rfl, hb, hc⟩ := HV.out.at hx
      by_cases hr : 0 ≤ x ∧ x < n
      · have HU := Lib.hid (within_up hx HA.out hr)
        obtain ⟨hr1, hr2⟩ := hr
        clear hx
        go_wp2_with fail
        go_round
        case rel => exact ⟨k + 1, by omega, by go_num, HU.out⟩
        case measure => simp [intOf]; omega
      · have HU := Lib.hid (within_bad hx hr)
        have hcase : x < 0 ∨ (0 ≤ x ∧ n ≤ x) := by omega
        clear hx hr
        rcases hcase with h1 | ⟨h1, h2⟩
        all_goals
          go_wp2_with fail
          go_ret
          exact ⟨retb HU.out.symm, rfl⟩
    · have HU := Lib.hid (show Ir.within l n = true by have := HA.out; rwa [List.take_of_length_le (by omega)] at this)
      go_wp2_with fail
      go_ret
      exact ⟨retb HU.out.symm, rfl⟩

theorem beq_bad {a b : List Int} {k : Nat} {x y : Int} (ha : a[k]? = some x) (hb : b[k]? = some y) (h : ¬ x = y) : (a == b) = false := by
  rw [beq_eq_false_iff_ne]
  rintro rfl
  rw [ha] at hb
  exact h (Option.some.inj hb)
theorem beq_len {a b : List Int} (h : ¬ a.length = b.length) : (a == b) = false := by
  rw [beq_eq_false_iff_ne]
  rintro rfl
  exact h rfl
theorem beq_all {a b : List Int} (hl : a.length = b.length) (h : a.take a.length = b.take a.length) : (a == b) = true := by
  rw [beq_iff_eq]
  rw [List.take_of_length_le (Nat.le_refl _), List.take_of_length_le (by omega)] at h
  exact h

set_option maxRecDepth 20000 in
set_option maxHeartbeats 800000 in
theorem same_nums (u v : Value) (a b : List Int) (w : World) (hu : Nums w u a) (hv : Nums w v b) (hla : a.length ≤ 1048576) (hlb : b.length ≤ 1048576) :
    Calls Tryd.prog 14 #[u, v] w fun e w' => e = .returned (.bool (a == b)) ∧ Quiet w w' := by
  obtain ⟨A, cap, rfl, -⟩ := id hu
  obtain ⟨B, cbp, rfl, -⟩ := id hv
  have HU := Lib.hid hu
  have HV := Lib.hid hv
  have hl1 : (a.length : Int) ≤ 1048576 := by omega
  have hl2 : (b.length : Int) ≤ 1048576 := by omega
  clear hu hv
  by_cases hlen : a.length = b.length
  · have HL := Lib.hid hlen
    obtain ⟨m, hm⟩ : ∃ m, m = b.length := ⟨_, rfl⟩
    rw [hm.symm.trans (by omega : m = a.length)] at *
    have HM := Lib.hid hm
    clear hlen hm
    go_enter Tryd.func14, Tryd.ntmps14
    go_wp2_with fail
    go_loopw [5] (fun i wr => ∃ k : Nat, k ≤ a.length ∧ i = .int .i64 (k : Int) ∧ a.take k = b.take k ∧ Quiet w wr) (fun i _ => a.length - (intOf i).toNat)
    case atStart => exact ⟨0, Nat.zero_le _, rfl, rfl, Quiet.refl _⟩
    case round =>
      obtain ⟨k, hk, rfl, hall, hq⟩ := hrel
      have HA := Lib.hid hall
      have HQ := Lib.hid hq
      clear hall hq
      by_cases hlt : k < a.length
      · have hki : (k : Int) < (a.length : Int) := by omega
        obtain ⟨x, hx⟩ : ∃ x, a[k]? = some x := ⟨_, List.getElem?_eq_getElem hlt⟩
        obtain ⟨y, hy⟩ : ∃ y, b[k]? = some y := ⟨_, List.getElem?_eq_getElem (by have := HL.out; omega)⟩
        obtain ⟨b1, o1, rfl, l1, c1⟩ := HU.out.at hx
        obtain ⟨b2, o2, rfl, l2, c2⟩ := HV.out.at hy
        have d1 := (HQ.out.below.cell (p := ⟨b1, o1 + k, none⟩) l1).trans c1
        have d2 := (HQ.out.below.cell (p := ⟨b2, o2 + k, none⟩) l2).trans c2
        clear c1 c2
        by_cases hr : x = y
        · have HN := Lib.hid (take_ext HA.out hx hy hr)
          clear hx hy
          subst hr
          have hne : (x != x) = false := by simp
          go_wp2_with fail
          go_quiet (fail)
          go_wp2_with fail
          go_roundw
          case rel => exact ⟨k + 1, by omega, by go_num, HN.out, HQ.out.trans (Quiet.drewN _ _)⟩
          case measure => simp [intOf]; omega
        · have HN := Lib.hid (beq_bad hx hy hr)
          have hne : (x != y) = true := by simp [hr]
          clear hx hy hr
          go_wp2_with fail
          go_quiet (fail)
          go_wp2_with fail
          go_ret
          exact ⟨retb HN.out.symm, HQ.out.trans (Quiet.drewN _ _)⟩
      · have hkl : k = a.length := by omega
        have HN := Lib.hid (beq_all HL.out (by rw [← hkl]; exact HA.out))
        clear hkl
        go_wp2_with fail
        go_ret
        exact ⟨retb HN.out.symm, HQ.out⟩
  · have HN := Lib.hid (beq_len hlen)
    have hne : ((a.length : Int) != (b.length : Int)) = true := by simp; omega
    clear hlen
    go_enter Tryd.func14, Tryd.ntmps14
    go_wp2_with fail
    go_ret
    exact ⟨retb HN.out.symm, Quiet.refl _⟩


set_option maxRecDepth 20000 in
set_option maxHeartbeats 800000 in
theorem equal_nums (u v : Value) (a b : List Int) (w : World) (hu : Nums w u a) (hv : Nums w v b) (hla : a.length ≤ 1048576) (hlb : b.length ≤ 1048576) :
    Calls Tryd.prog 28 #[u, v] w fun e w' => e = .returned (.bool (a == b)) ∧ Quiet w w' := by
  obtain ⟨A, cap, rfl, -⟩ := id hu
  obtain ⟨B, cbp, rfl, -⟩ := id hv
  have HU := Lib.hid hu
  have HV := Lib.hid hv
  have hl1 : (a.length : Int) ≤ 1048576 := by omega
  have hl2 : (b.length : Int) ≤ 1048576 := by omega
  clear hu hv
  by_cases hlen : a.length = b.length
  · have HL := Lib.hid hlen
    obtain ⟨m, hm⟩ : ∃ m, m = b.length := ⟨_, rfl⟩
    rw [hm.symm.trans (by omega : m = a.length)] at *
    have HM := Lib.hid hm
    clear hlen hm
    go_enter Tryd.func28, Tryd.ntmps28
    go_wp2_with fail
    go_loopw [13] (fun i wr => ∃ k : Nat, k ≤ a.length ∧ i = .int .i64 (k : Int) ∧ a.take k = b.take k ∧ Quiet w wr) (fun i _ => a.length - (intOf i).toNat)
    case atStart => exact ⟨0, Nat.zero_le _, rfl, rfl, Quiet.refl _⟩
    case round =>
      obtain ⟨k, hk, rfl, hall, hq⟩ := hrel
      have HA := Lib.hid hall
      have HQ := Lib.hid hq
      clear hall hq
      by_cases hlt : k < a.length
      · have hki : (k : Int) < (a.length : Int) := by omega
        obtain ⟨x, hx⟩ : ∃ x, a[k]? = some x := ⟨_, List.getElem?_eq_getElem hlt⟩
        obtain ⟨y, hy⟩ : ∃ y, b[k]? = some y := ⟨_, List.getElem?_eq_getElem (by have := HL.out; omega)⟩
        obtain ⟨b1, o1, rfl, l1, c1⟩ := HU.out.at hx
        obtain ⟨b2, o2, rfl, l2, c2⟩ := HV.out.at hy
        have d1 := (HQ.out.below.cell (p := ⟨b1, o1 + k, none⟩) l1).trans c1
        have d2 := (HQ.out.below.cell (p := ⟨b2, o2 + k, none⟩) l2).trans c2
        clear c1 c2
        by_cases hr : x = y
        · have HN := Lib.hid (take_ext HA.out hx hy hr)
          clear hx hy
          subst hr
          have hne : (x != x) = false := by simp
          go_wp2_with fail
          go_quiet (fail)
          go_wp2_with fail
          go_roundw
          case rel => exact ⟨k + 1, by omega, by go_num, HN.out, HQ.out.trans (Quiet.drewN _ _)⟩
          case measure => simp [intOf]; omega
        · have HN := Lib.hid (beq_bad hx hy hr)
          have hne : (x != y) = true := by simp [hr]
          clear hx hy hr
          go_wp2_with fail
          go_quiet (fail)
          go_wp2_with fail
          go_ret
          exact ⟨retb HN.out.symm, HQ.out.trans (Quiet.drewN _ _)⟩
      · have hkl : k = a.length := by omega
        have HN := Lib.hid (beq_all HL.out (by rw [← hkl]; exact HA.out))
        clear hkl
        go_wp2_with fail
        go_ret
        exact ⟨retb HN.out.symm, HQ.out⟩
  · have HN := Lib.hid (beq_len hlen)
    have hne : ((a.length : Int) != (b.length : Int)) = true := by simp; omega
    clear hlen
    go_enter Tryd.func28, Tryd.ntmps28
    go_wp2_with fail
    go_ret
    exact ⟨retb HN.out.symm, Quiet.refl _⟩

end Go.Proofs.YtkkbmfgkapdndaaDoor
