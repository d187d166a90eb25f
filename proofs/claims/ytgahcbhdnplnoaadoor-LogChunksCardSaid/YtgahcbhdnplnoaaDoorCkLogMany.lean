/- How many places texts take: the document's Many, the law's used; and begins. -/
import Derived.Test.YtgahcbhdnplnoaaDoorCkBase
import Derived.Test.YtgahcbhdnplnoaaDoorCkChunkRefCut
namespace Go.Proofs.YtgahcbhdnplnoaaDoor
open Go.RowKit

/-- A text as its bytes. -/
abbrev bl (s : ByteArray) : List UInt8 := s.data.toList
/-- Texts as their bytes. -/
def bls (l : List ByteArray) : List (List UInt8) := l.map bl
/-- Bytes as texts. -/
def mks (l : List (List UInt8)) : List ByteArray := l.map fun b => ⟨b.toArray⟩

theorem mks_bls (l : List ByteArray) : mks (bls l) = l := by
  unfold mks bls
  rw [List.map_map]
  conv => rhs; rw [← List.map_id l]
  apply List.map_congr_left
  intro s _
  show (⟨s.data.toList.toArray⟩ : ByteArray) = s
  simp
theorem bls_mks (l : List (List UInt8)) : bls (mks l) = l := by
  unfold mks bls
  rw [List.map_map]
  conv => rhs; rw [← List.map_id l]
  apply List.map_congr_left
  intro s _
  show (⟨s.toArray⟩ : ByteArray).data.toList = s
  simp
theorem bls_append (a b : List ByteArray) : bls (a ++ b) = bls a ++ bls b := by simp [bls]
theorem mks_append (a b : List (List UInt8)) : mks (a ++ b) = mks a ++ mks b := by simp [mks]

theorem cutB_plc (s : ByteArray) : (cutB s).length = Lg.plc (bl s) := by unfold cutB Lg.plc; rw [List.length_map]

/-- How many places texts take. -/
def manyB (l : List ByteArray) : Nat := Lg.many (bls l)

theorem many_take_up {l : List ByteArray} {k : Nat} {x : ByteArray} (h : l[k]? = some x) : manyB (l.take (k + 1)) = manyB (l.take k) + Lg.plc (bl x) := by
  obtain ⟨h1, rfl⟩ := List.getElem?_eq_some_iff.1 h
  unfold manyB
  rw [List.take_succ_eq_append_getElem h1, bls_append, Lg.many_append]
  rfl
theorem many_take (l : List ByteArray) (k : Nat) : manyB (l.take k) ≤ manyB l := by
  conv => rhs; rw [← List.take_append_drop k l]
  unfold manyB
  rw [bls_append, Lg.many_append]
  omega

theorem plc_eq (n : Nat) : ∀ (s : List UInt8), s.length ≤ n → Lg.plc s = if s.length = 0 then 1 else (s.length + 95) / 96 := by
  induction n using Nat.strongRecOn with
  | _ n ih =>
    intro s hs
    unfold Lg.plc
    by_cases h : 96 < s.length
    · have h1 := ih (n - 96) (by omega) (s.drop 96) (by rw [List.length_drop]; omega)
      unfold Lg.plc at h1
      rw [Cn.cut_long s h, List.length_cons, h1, List.length_drop]
      rw [if_neg (by omega), if_neg (by omega)]
      omega
    · rw [Cn.cut_short s (by omega)]
      show 1 = _
      split
      · rfl
      · omega

theorem plc_size (s : ByteArray) : Lg.plc (bl s) = if s.size = 0 then 1 else (s.size + 95) / 96 := by
  have e : (bl s).length = s.size := Array.length_toList
  rw [plc_eq _ (bl s) (Nat.le_refl _), e]

theorem plc_le (s : ByteArray) : Lg.plc (bl s) ≤ s.size + 1 := by
  rw [plc_size]
  split <;> omega

theorem many_le (l : List ByteArray) : manyB l ≤ size l := by
  induction l with
  | nil => exact Nat.le_refl _
  | cons s l ih =>
    have h := plc_le s
    have e : manyB (s :: l) = Lg.plc (bl s) + manyB l := rfl
    unfold size at ih ⊢
    rw [e, List.map_cons, List.sum_cons, List.length_cons]
    omega
theorem many_ge (l : List ByteArray) : l.length ≤ manyB l := by
  induction l with
  | nil => exact Nat.le_refl _
  | cons s l ih =>
    have h := Lg.plc_pos (bl s)
    have e : manyB (s :: l) = Lg.plc (bl s) + manyB l := rfl
    rw [e, List.length_cons]
    omega

theorem size_mem {l : List ByteArray} {s : ByteArray} {k : Nat} (h : l[k]? = some s) : s.size ≤ size l := by
  have h1 := List.mem_of_getElem? h
  unfold size
  have : s.size ≤ (l.map ByteArray.size).sum := by
    clear h
    induction l with
    | nil => cases h1
    | cons x l ih =>
      rw [List.map_cons, List.sum_cons]
      rcases List.mem_cons.1 h1 with rfl | h1
      · omega
      · have := ih h1; omega
  omega

/-! ### Many -/
def ManyPost (l : List ByteArray) (w : World) (e : Ending) (w' : World) : Prop :=
  ∃ n : Nat, e = .returned (.int .i64 (n : Int)) ∧ n ≤ 3000000 ∧ (n ≤ 127 → n = manyB l) ∧ (127 < n → 127 < manyB l) ∧ Below w.heap.size w w'

theorem many_end {l : List ByteArray} {k : Nat} (h : l.length ≤ k ∨ 127 < manyB (l.take k)) : (manyB (l.take k) ≤ 127 → manyB (l.take k) = manyB l) ∧ (127 < manyB (l.take k) → 127 < manyB l) := by
  have h1 := many_take l k
  refine ⟨fun hs => ?_, fun hs => by omega⟩
  rcases h with hk | hk
  · rw [List.take_of_length_le hk]
  · omega

set_option maxRecDepth 20000 in
set_option maxHeartbeats 800000 in
theorem refmany_any (va : Value) (l : List ByteArray) (w : World) (ha : Strs w va l) (hl : size l ≤ 1048576) :
    Calls Tryd.prog 13 #[va] w (ManyPost l w) := by
  obtain ⟨A, ca, rfl, hca, hA⟩ := ha
  have HA := Lib.hid hA
  have hlen : l.length ≤ 1048576 := by unfold size at hl; omega
  have HS := Lib.hid hl
  clear hA hl
  go_enter Tryd.func13, Tryd.ntmps13
  go_wp2_with fail
  go_loopw [3, 4] (fun n i wr => ∃ k : Nat, k ≤ l.length ∧ manyB (l.take k) ≤ 3000000 ∧ i = .int .i64 (k : Int) ∧ n = .int .i64 ((manyB (l.take k) : Nat) : Int) ∧ Below w.heap.size w wr) (fun _ i _ => l.length - (intOf i).toNat)
  case atStart => exact ⟨0, Nat.zero_le _, by simp [manyB, bls, Lg.many], rfl, rfl, Below.refl _ _⟩
  case round =>
    obtain ⟨k, hk, hsz, rfl, rfl, hb⟩ := hrel
    by_cases hn : manyB (l.take k) ≤ 127
    · by_cases hlt : k < l.length
      · obtain ⟨x, hx⟩ : ∃ x, l[k]? = some x := ⟨_, List.getElem?_eq_getElem hlt⟩
        obtain ⟨b1, o1, rfl, l1, c1⟩ := HA.out k x hx
        have d1 := (hb.cell (p := ⟨b1, o1 + k, none⟩) l1).trans c1
        have hup := Lib.hid (many_take_up hx)
        have hxs := size_mem hx
        have hpl := plc_le x
        have hS := HS.out
        have HC := Lib.hid (fun W : World => chunkcut_ref x W (by omega))
        rw [cutB_plc] at HC
        clear hx c1
        generalize Lg.plc (bl x) = q at *
        go_wp2_with fail
        refine (HC.out wr).mono ?_
        rintro e w2 ⟨v, rfl, hr, hb2⟩
        have hb3 := hb.trans (hb2.mono hb.size)
        have hv : ∃ A2 cap2, v = .slice A2 q cap2 := by
          rcases hr.2 with ⟨rfl, h0⟩ | ⟨g2, cap2, cur, rfl, _⟩
          · exact ⟨none, 0, by rw [h0]⟩
          · exact ⟨_, cap2, rfl⟩
        obtain ⟨A2, cap2, rfl⟩ := hv
        clear hr hb2 HC d1
        go_wp2_with fail
        go_roundw
        case rel => exact ⟨k + 1, by omega, by rw [hup.out]; omega, by go_num, congrArg (Value.int .i64) (by rw [hup.out]; omega), hb3⟩
        case measure => simp [intOf]; omega
      · have HE := Lib.hid (many_end (l := l) (k := k) (.inl (by omega)))
        go_wp2_with fail
        go_ret
        exact ⟨_, rfl, hsz, HE.out.1, HE.out.2, hb⟩
    · have HE := Lib.hid (many_end (l := l) (k := k) (.inr (by omega)))
      by_cases hlt : k < l.length
      · go_wp2_with fail
        go_ret
        exact ⟨_, rfl, hsz, HE.out.1, HE.out.2, hb⟩
      · go_wp2_with fail
        go_ret
        exact ⟨_, rfl, hsz, HE.out.1, HE.out.2, hb⟩

/-! ### begins -/
def BeginsPost (a b : List ByteArray) (w : World) (e : Ending) (w' : World) : Prop := e = .returned (.bool (decide (a.length ≤ b.length ∧ a = b.take a.length))) ∧ Quiet w w'

set_option maxRecDepth 20000 in
set_option maxHeartbeats 800000 in
theorem begins_any (va vb : Value) (a b : List ByteArray) (w : World) (ha : Strs w va a) (hb : Strs w vb b) (hla : a.length ≤ 1099511627776) :
    Calls Tryd.prog 28 #[va, vb] w (BeginsPost a b w) := by
  have ha0 := ha
  obtain ⟨A, ca, rfl, hca, hA⟩ := ha
  obtain ⟨B, cb, rfl, hcb, hB⟩ := hb
  by_cases hle : (a.length : Int) ≤ (b.length : Int)
  · have hlen : (b.take a.length).length = a.length := by rw [List.length_take]; omega
    have hS : Strs w (.slice B a.length cb) (b.take a.length) := by
      refine ⟨B, cb, by rw [hlen], ⟨by rw [hlen]; omega, hcb.2⟩, fun j s hj => ?_⟩
      have hlt := (List.getElem?_eq_some_iff.1 hj).1
      rw [hlen] at hlt
      exact hB j s (by rw [← hj, List.getElem?_take, if_pos hlt])
    have HS := Lib.hid hS
    have HL := Lib.hid (show a.length ≤ b.length by omega)
    have HA := Lib.hid ha0
    have hcc : (a.length : Int) ≤ (cb : Int) := by omega
    clear hS hlen hA hB ha0
    go_enter Tryd.func28, Tryd.ntmps28
    go_wp2_with fail
    refine (same_any _ _ a (b.take a.length) w HA.out HS.out hla).mono ?_
    rintro e w2 ⟨rfl, hq⟩
    go_wp2_with fail
    go_ret
    refine ⟨congrArg (fun z => Ending.returned (Value.bool z)) ?_, hq⟩
    by_cases hd : a = b.take a.length
    · rw [decide_eq_true hd, decide_eq_true ⟨HL.out, hd⟩]
    · rw [decide_eq_false hd, decide_eq_false (fun h => hd h.2)]
  · have hlt : ¬ (a.length ≤ b.length ∧ a = b.take a.length) := fun h => hle (by have := h.1; omega)
    have HD := Lib.hid hlt
    clear hA hB hlt ha0
    go_enter Tryd.func28, Tryd.ntmps28
    go_wp2_with fail
    go_ret
    exact ⟨said_false HD.out, Quiet.refl _⟩

/-! ### used -/
def UsedPost (l : List ByteArray) (w : World) (e : Ending) (w' : World) : Prop := e = .returned (.int .i64 ((manyB l : Nat) : Int)) ∧ w = w'

set_option maxRecDepth 20000 in
set_option maxHeartbeats 800000 in
theorem used_any (va : Value) (l : List ByteArray) (w : World) (ha : Strs w va l) (hl : size l ≤ 1048576) :
    Calls Tryd.prog 27 #[va] w (UsedPost l w) := by
  obtain ⟨A, ca, rfl, hca, hA⟩ := ha
  have HA := Lib.hid hA
  have hmm := many_le l
  have hgg := many_ge l
  clear hA
  have HS := Lib.hid hl
  go_enter Tryd.func27, Tryd.ntmps27
  go_wp2_with fail
  go_loop [3, 4] (fun n i => ∃ k : Nat, k ≤ l.length ∧ i = .int .i64 (k : Int) ∧ n = .int .i64 ((manyB (l.take k) : Nat) : Int)) (fun _ i => l.length - (intOf i).toNat)
  case atStart => exact ⟨0, Nat.zero_le _, rfl, rfl⟩
  case round =>
    obtain ⟨k, hk, rfl, rfl⟩ := hrel
    have htk := many_take l k
    by_cases hlt : k < l.length
    · obtain ⟨x, hx⟩ : ∃ x, l[k]? = some x := ⟨_, List.getElem?_eq_getElem hlt⟩
      obtain ⟨b1, o1, rfl, l1, c1⟩ := HA.out k x hx
      have hup := many_take_up hx
      rw [plc_size] at hup
      have hxs := size_mem hx
      clear hx
      by_cases hz : x.size = 0
      · rw [if_pos hz] at hup
        have HU := Lib.hid hup
        clear hup
        have hzi : (x.size : Int) = 0 := by omega
        go_wp2_with fail
        go_round
        case rel => exact ⟨k + 1, by omega, by go_num, congrArg (Value.int .i64) (by rw [HU.out]; omega)⟩
        case measure => simp [intOf]; omega
      · rw [if_neg hz] at hup
        have HU := Lib.hid hup
        clear hup
        have hzi : 0 < (x.size : Int) := by omega
        go_wp2_with fail
        · have hm : ((x.size : Int) % 96 == 0) = true := by assumption
          rw [beq_iff_eq] at hm
          go_round
          case rel => exact ⟨k + 1, by omega, by go_num, congrArg (Value.int .i64) (by rw [HU.out]; omega)⟩
          case measure => simp [intOf]; omega
        · have hm : ((x.size : Int) % 96 == 0) = false := by assumption
          rw [beq_eq_false_iff_ne] at hm
          go_round
          case rel => exact ⟨k + 1, by omega, by go_num, congrArg (Value.int .i64) (by rw [HU.out]; omega)⟩
          case measure => simp [intOf]; omega
    · rw [List.take_of_length_le (by omega)]
      go_wp2_with fail
      go_ret
      exact ⟨rfl, rfl⟩

end Go.Proofs.YtgahcbhdnplnoaaDoor
