/- The law's has, same, heavy. -/
import Derived.Test.YtamadegodenobaaDoorFlowBase
namespace Go.Proofs.YtamadegodenobaaDoor
open Go.ChangeShapes Go.WideShapes Go.RowKit Go.Deep

set_option maxRecDepth 20000 in
set_option maxHeartbeats 800000 in
theorem lhas_any (v : Value) (l : List Int) (n : Int) (w : World) (hv : Nums w v l) :
    Calls Tryd.prog 11 #[v, .int .i64 n] w fun e w' => e = .returned (.bool (decide (n ∈ l))) ∧ w = w' := by
  have hlm := nums_lt hv
  obtain ⟨A, cap, rfl, -⟩ := id hv
  have HV := Lib.hid hv
  have HLM := Lib.hid hlm
  clear hv
  go_enter Tryd.func11, Tryd.ntmps11
  go_wp2_with fail
  go_loop [5] (fun i => ∃ k : Nat, k ≤ l.length ∧ i = .int .i64 (k : Int) ∧ n ∉ l.take k) (fun i => l.length - (intOf i).toNat)
  case atStart => exact ⟨0, Nat.zero_le _, rfl, by simp⟩
  case round =>
    obtain ⟨k, hk, rfl, hall⟩ := hrel
    have HA := Lib.hid hall
    clear hall
    by_cases hlt : k < l.length
    · have hki : (k : Int) < (l.length : Int) := by omega
      obtain ⟨x, hx⟩ : ∃ x, l[k]? = some x := ⟨_, List.getElem?_eq_getElem hlt⟩
      obtain ⟨b1, o1, rfl, l1, c1⟩ := HV.out.at hx
      by_cases hr : x = n
      · have HN := Lib.hid (show true = decide (n ∈ l) by rw [← hr]; simp [List.mem_of_getElem? hx])
        subst hr
        have hne : (x == x) = true := by simp
        clear hx
        go_wp2_with fail
        go_ret
        exact ⟨retb HN.out, rfl⟩
      · have HN := Lib.hid (notin_up hx HA.out hr)
        have hne : (x == n) = false := by simpa using hr
        clear hx hr
        go_wp2_with fail
        go_round
        case rel => exact ⟨k + 1, by omega, by go_num, HN.out⟩
        case measure => simp [intOf]; omega
    · have HN := Lib.hid (show false = decide (n ∈ l) by
        have := HA.out
        rw [List.take_of_length_le (by omega)] at this
        simp [this])
      obtain rfl : k = l.length := by omega
      clear hk
      go_wp2_with fail
      go_ret
      exact ⟨retb HN.out, rfl⟩

set_option maxRecDepth 20000 in
set_option maxHeartbeats 1600000 in
theorem fsame_any (u v : Value) (a b : List Int) (w : World) (hu : Nums w u a) (hv : Nums w v b) (hla : a.length ≤ 1048576) (hlb : b.length ≤ 1048576) :
    Calls Tryd.prog 16 #[u, v] w fun e w' => e = .returned (.bool (a == b)) ∧ Quiet w w' := by
  obtain ⟨A, cap, rfl, -⟩ := id hu
  obtain ⟨B, cbp, rfl, -⟩ := id hv
  have HU := Lib.hid hu
  have HV := Lib.hid hv
  have hl1 : (a.length : Int) ≤ 1048576 := by omega
  have hl2 : (b.length : Int) ≤ 1048576 := by omega
  clear hu hv
  by_cases hlen : a.length = b.length
  · have HL := Lib.hid hlen
    obtain ⟨m, hm⟩ : ∃ m, m = b.length := ⟨_, rfl⟩
    rw [hm.symm.trans (by omega : m = a.length)] at *
    have HM := Lib.hid hm
    clear hlen hm
    go_enter Tryd.func16, Tryd.ntmps16
    go_wp2_with fail
    go_loopw [5] (fun i wr => ∃ k : Nat, k ≤ a.length ∧ i = .int .i64 (k : Int) ∧ a.take k = b.take k ∧ Quiet w wr) (fun i _ => a.length - (intOf i).toNat)
    case atStart => exact ⟨0, Nat.zero_le _, rfl, rfl, Quiet.refl _⟩
    case round =>
      obtain ⟨k, hk, rfl, hall, hq⟩ := hrel
      have HA := Lib.hid hall
      have HQ := Lib.hid hq
      clear hall hq
      by_cases hlt : k < a.length
      · have hki : (k : Int) < (a.length : Int) := by omega
        obtain ⟨x, hx⟩ : ∃ x, a[k]? = some x := ⟨_, List.getElem?_eq_getElem hlt⟩
        obtain ⟨y, hy⟩ : ∃ y, b[k]? = some y := ⟨_, List.getElem?_eq_getElem (by have := HL.out; omega)⟩
        obtain ⟨b1, o1, rfl, l1, c1⟩ := HU.out.at hx
        obtain ⟨b2, o2, rfl, l2, c2⟩ := HV.out.at hy
        have d1 := (HQ.out.below.cell (p := ⟨b1, o1 + k, none⟩) l1).trans c1
        have d2 := (HQ.out.below.cell (p := ⟨b2, o2 + k, none⟩) l2).trans c2
        clear c1 c2
        by_cases hr : x = y
        · have HN := Lib.hid (take_ext HA.out hx hy hr)
          clear hx hy
          subst hr
          have hne : (x != x) = false := by simp
          go_wp2_with fail
          go_quiet (fail)
          go_wp2_with fail
          go_roundw
          case rel => exact ⟨k + 1, by omega, by go_num, HN.out, HQ.out.trans (Quiet.drewN _ _)⟩
          case measure => simp [intOf]; omega
        · have HN := Lib.hid (beq_bad hx hy hr)
          have hne : (x != y) = true := by simp [hr]
          clear hx hy hr
          go_wp2_with fail
          go_quiet (fail)
          go_wp2_with fail
          go_ret
          exact ⟨retb HN.out.symm, HQ.out.trans (Quiet.drewN _ _)⟩
      · have hkl : k = a.length := by omega
        have HN := Lib.hid (beq_all HL.out (by rw [← hkl]; exact HA.out))
        clear hkl
        go_wp2_with fail
        go_ret
        exact ⟨retb HN.out.symm, HQ.out⟩
  · have HN := Lib.hid (beq_len hlen)
    have hne : ((a.length : Int) != (b.length : Int)) = true := by simp; omega
    clear hlen
    go_enter Tryd.func16, Tryd.ntmps16
    go_wp2_with fail
    go_ret
    exact ⟨retb HN.out.symm, Quiet.refl _⟩



def HeavyF (bs : List (List Ir.In)) (w : World) (e : Ending) (w' : World) : Prop := ∃ h : Bool, e = .returned (.bool h) ∧ w = w' ∧ (h = false → bs.length ≤ 40)
set_option maxRecDepth 20000 in
set_option maxHeartbeats 1600000 in
theorem fheavy_any (v : Value) (bs : List (List Ir.In)) (w : World) (hv : Blks w v bs) :
    Calls Tryd.prog 9 #[v] w (HeavyF bs w) := by
  obtain ⟨A, cap, rfl⟩ := hv.form
  have HV := Lib.hid hv
  clear hv
  by_cases hbig : 40 < bs.length
  · have hb1 : (40 : Int) < (bs.length : Int) := by omega
    clear hbig
    go_enter Tryd.func9, Tryd.ntmps9
    go_wp2_with fail
    go_ret
    exact ⟨true, rfl, rfl, fun h => by cases h⟩
  · have hb1 : (bs.length : Int) ≤ 40 := by omega
    have HB := Lib.hid (show bs.length ≤ 40 by omega)
    clear hbig
    go_enter Tryd.func9, Tryd.ntmps9
    go_wp2_with fail
    go_loop [3] (fun i => ∃ k : Nat, k ≤ bs.length ∧ i = .int .i64 (k : Int)) (fun i => bs.length - (intOf i).toNat)
    case atStart => exact ⟨0, Nat.zero_le _, rfl⟩
    case round =>
      obtain ⟨k, hk, rfl⟩ := hrel
      by_cases hlt : k < bs.length
      · have hki : (k : Int) < (bs.length : Int) := by omega
        obtain ⟨b, hb⟩ : ∃ b, bs[k]? = some b := ⟨_, List.getElem?_eq_getElem hlt⟩
        obtain ⟨bl, off, B, cbp, rfl, l1, c1, hI⟩ := HV.out.at hb
        clear hI hb
        by_cases h100 : 100 < b.length
        · have h2 : (100 : Int) < (b.length : Int) := by omega
          clear h100
          go_wp2_with fail
          go_ret
          exact ⟨true, rfl, rfl, fun h => by cases h⟩
        · have h2 : (b.length : Int) ≤ 100 := by omega
          clear h100
          go_wp2_with fail
          go_round
          case rel => exact ⟨k + 1, by omega, by go_num⟩
          case measure => simp [intOf]; omega
      · obtain rfl : k = bs.length := by omega
        clear hk
        go_wp2_with fail
        go_ret
        exact ⟨false, rfl, rfl, fun _ => HB.out⟩
end Go.Proofs.YtamadegodenobaaDoor
