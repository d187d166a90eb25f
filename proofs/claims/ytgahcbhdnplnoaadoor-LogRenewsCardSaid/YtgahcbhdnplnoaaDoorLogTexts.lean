/- Lists of texts in memory: what a []string reads as, whether it came in or was made by a call; long, same, begins, used of the laws of layer 5. -/
import Derived.Test.YtgahcbhdnplnoaaDoorMem
import Derived.LoopTactic
import Derived.Outline
import Derived.Deep.Slices
import Derived.Deep.Strs
import Derived.ProofKit
import Derived.Deep.QuietTactic
import Derived.BigQuiet
import Derived.LoopN
import Derived.Laws.OwnMore
import Derived.Maps.AppendAt
namespace Go.Proofs.YtgahcbhdnplnoaaDoor
open Go.ChangeShapes Go.WideShapes Go.RowKit Go.Deep

/-- In the world w the value v is a []string that reads as l. -/
def Strs (w : World) (v : Value) (l : List ByteArray) : Prop :=
  ∃ A cap, v = .slice A l.length cap ∧ (l.length ≤ cap ∧ (A = none → cap = 0)) ∧ ∀ j s, l[j]? = some s → ∃ b off, A = some ⟨b, off, none⟩ ∧ b < w.heap.size ∧ w.cell? ⟨b, off + j, none⟩ = some (.string s)

/-- Nothing but the tape's place has changed. -/
def Quiet (w w' : World) : Prop := Ch (fun _ => false) 0 w w'

theorem Quiet.refl (w : World) : Quiet w w := Ch.refl _ _ _
theorem Quiet.drewN (w : World) (n : Nat) : Quiet w (w.drewN n) := ⟨rfl, rfl, rfl, Nat.le_refl _, fun _ _ _ => rfl⟩
theorem Quiet.below {w w' : World} (h : Quiet w w') : Below w.heap.size w w' := ⟨h.os, h.tape, h.output, h.size, fun i hi => h.block i hi (fun _ _ _ => rfl)⟩

theorem Strs.below {w w' : World} {v : Value} {l : List ByteArray} (h : Strs w v l) (hb : Below w.heap.size w w') : Strs w' v l := by
  obtain ⟨A, cap, h1, h2, h3⟩ := h
  refine ⟨A, cap, h1, h2, fun j s hj => ?_⟩
  obtain ⟨b, off, h4, h5, h6⟩ := h3 j s hj
  exact ⟨b, off, h4, Nat.lt_of_lt_of_le h5 hb.size, (hb.cell (p := ⟨b, _, none⟩) h5).trans h6⟩

/-- What is made by a call. -/
theorem Strs.of_row {w : World} {base : Nat} {v : Value} {l : List ByteArray} (h : w.ownsRow base 9 1 v l.length (l.map Value.string)) : Strs w v l := by
  have h' := h
  rcases h.2 with ⟨rfl, h0⟩ | ⟨g, cap, cur, rfl, hb, hg, hn, _⟩
  · refine ⟨none, 0, by rw [h0], ⟨by omega, fun _ => rfl⟩, fun j s hj => ?_⟩
    have := (List.getElem?_eq_some_iff.1 hj).1
    omega
  · refine ⟨some ⟨g, 0, none⟩, cap, rfl, ⟨hn, fun h => by cases h⟩, fun j s hj => ⟨g, 0, rfl, (h'.lt g rfl).2, ?_⟩⟩
    have e := h'.cells (g := g) rfl j (.string s) (by simp [hj])
    rw [Addr.add_lit, Nat.zero_add] at e
    rw [Nat.zero_add]
    exact e

theorem str_cells : Tryd.prog.cellsOf 9 = 1 := by kernel_rfl

/-- A row of strings at a place, opened: what the cells read as. -/
theorem open_row {H : Type} {enc : TypeId × Value → H} {w : World} {fuel : Nat} {cs : List Value} {x : DataW H × List MemPlace} {B : Nat}
    (hf : DataW.trod enc Tryd.prog w 0 (fun _ => true) true fuel 22 cs = some x) (hlt : ∀ y ∈ x.2, y.block < B) :
    ∃ A len cap, cs = [.slice A len cap] ∧ ∃ l : List ByteArray, l.length = len ∧ (len ≤ cap ∧ (A = none → cap = 0)) ∧ ∀ j s, l[j]? = some s → ∃ b off, A = some ⟨b, off, none⟩ ∧ b < B ∧ w.cell? ⟨b, off + j, none⟩ = some (.string s) := by
  rcases open_slice Tryd.underlying22 hf with ⟨hcs, _⟩ | ⟨a, len', cap', m, n, D, Pl, hcs, _, hl, _, hm, hx, hi⟩
  · exact ⟨none, 0, 0, hcs, [], rfl, ⟨Nat.le_refl _, fun _ => rfl⟩, fun i it hi => by simp at hi⟩
  · refine ⟨some a, len', cap', hcs, ?_⟩
    simp only [if_true] at hm
    subst hm
    subst hx
    rw [str_cells] at hi hlt
    obtain ⟨f, hf'⟩ := choose_lt (α := ByteArray) (n := len') (p := fun i s => w.cell? (a.add i) = some (.string s)) (fun i hlen => by
      obtain ⟨cs', h1, h2⟩ := hi i (by omega)
      obtain ⟨s, rfl, _⟩ := DataW.trod_string Tryd.underlying9 h2
      obtain ⟨_, _, hat⟩ := World.cells?_some h1
      have := hat 0 (by decide)
      rw [Go.Deep.add_add] at this
      exact ⟨s, by simpa using this⟩)
    refine ⟨(List.range len').map f, by simp, ⟨by omega, fun h => by cases h⟩, fun i s hit => ?_⟩
    obtain ⟨hlen, rfl⟩ : ∃ h : i < len', f i = s := by
      have h1 := (List.getElem?_eq_some_iff.1 hit).1
      simp only [List.length_map, List.length_range] at h1
      refine ⟨h1, ?_⟩
      simpa [h1] using hit
    obtain ⟨b, off, spot⟩ := a
    have hspot : spot = none := by
      have := hf' 0 (by omega)
      simpa [Addr.add] using World.cell?_spot this
    subst hspot
    have hb : b < B := hlt (.cell b off) (List.mem_append_left _ (MemPlace.mem_row.2 ⟨0, by omega, by simp⟩))
    have c0 := hf' i hlen
    simp only [Addr.add_lit] at c0
    exact ⟨b, off, rfl, hb, c0⟩

/-- What came in. -/
theorem open_strs {H : Type} {enc : TypeId × Value → H} {w : World} {v : Value} {d : DataW H} {ps : List MemPlace}
    (h : DataW.Trod enc Tryd.prog w 0 (fun _ => true) true 22 v d ps) (hlt : ∀ y ∈ ps, y.block < w.heap.size) (hv : ∃ A len cap, v = .slice A len cap) : ∃ l : List ByteArray, Strs w v l := by
  obtain ⟨fuel, hf⟩ := h
  obtain ⟨A0, len0, cap0, rfl⟩ := hv
  obtain ⟨A, len, cap, hcs, l, hl, hc, hat⟩ := open_row hf hlt
  simp [Value.cells] at hcs
  obtain ⟨rfl, rfl, rfl⟩ := hcs
  exact ⟨l, A0, cap0, by rw [hl], ⟨by omega, hc.2⟩, hat⟩

/-! ### append of texts -/
theorem info_texts : (Tryd.prog.info? 9).map (fun i => (i.zero, i.size, i.bytes)) = some (some (.string ⟨#[]⟩), 1, 16) := by kernel_rfl

theorem one_texts (l : List ByteArray) : ∀ u ∈ l.map Value.string, u.oneCell' = true := by
  intro u hu
  simp only [List.mem_map] at hu
  obtain ⟨b, _, rfl⟩ := hu
  rfl

set_option maxRecDepth 20000 in
theorem run_append_texts {w : World} {base : Nat} {v1 v2 : Value} {l m : List ByteArray} (h : w.ownsRow base 9 1 v1 l.length (l.map Value.string)) (hm : Strs w v2 m) (hl : l.length + m.length ≤ 1048576) (hb : base ≤ w.heap.size) (ty : TypeId) :
    ∃ v3 w', (Builtin.append_ #[22, 22] ty #[v1, v2]).run Tryd.prog w = .ok v3 w' ∧ w'.ownsRow base 9 1 v3 (l ++ m).length ((l ++ m).map Value.string) ∧ w.grownBy w' v1.ownBlock := by
  obtain ⟨i0, hi, hz0, hz1, hz2⟩ := info_parts info_texts
  obtain ⟨A, cap, rfl, ⟨hcap, hnil⟩, hat⟩ := hm
  cases A with
  | none =>
    have hc := hnil rfl
    subst hc
    have hm0 : m = [] := List.eq_nil_of_length_eq_zero (by omega)
    subst hm0
    refine ⟨v1, w, run_append_owned_none w base 22 ty 9 i0 1 Tryd.underlying22 hi v1 l.length _ h, by simpa using h, gr_refl w _⟩
  | some a =>
    obtain ⟨v3, w', hr, h2, h3, _⟩ := run_append_own_at (P := Tryd.prog) w base 22 ty 9 i0 (.string ⟨#[]⟩) 1 16 Tryd.underlying22 hi hz0 hz1 hz2 rfl (by decide) v1 l.length _ h a m.length cap (m.map Value.string) (by simp) (fun j u hj => by
      rw [List.getElem?_map] at hj
      cases hmj : m[j]? with
      | none => rw [hmj] at hj; simp at hj
      | some s =>
        rw [hmj] at hj
        simp at hj
        obtain ⟨b, off, e, h5, h6⟩ := hat j s hmj
        injection e with e
        subst e
        rw [Addr.add_lit, h6, hj]) (one_texts m) (by unfold maxLen; omega) (by omega) hb
    exact ⟨v3, w', hr, by simpa using h2, h3⟩

theorem wpList_append_texts {ops : Array Oper} {rest : List Oper} {o : Oper} {a : Act} {w : World} {Q : Exit → Act → World → Prop} (hg : o.guard = none) (s x : Operand)
    (ho : o.op = .call { callee := .builtin .append, args := #[s, x], argTypes := #[22, 22] })
    {base : Nat} {v1 v2 : Value} {l m : List ByteArray} (h : w.ownsRow base 9 1 v1 l.length (l.map Value.string)) (hm : Strs w v2 m) (hl : l.length + m.length ≤ 1048576) (hb : base ≤ w.heap.size) (hs : a.eval s = v1) (hx : a.eval x = v2)
    (hK : ∀ v3 w', w'.ownsRow base 9 1 v3 (l ++ m).length ((l ++ m).map Value.string) → w.grownBy w' v1.ownBlock → wpList Tryd.prog ops Q rest (a.put o.dst v3) w') : wpList Tryd.prog ops Q (o :: rest) a w := by
  refine wpList_plain hg fun K' hK' => ?_
  obtain ⟨v3, w', hrun, r1, r2⟩ := run_append_texts h hm hl hb o.type
  unfold Oper.wp
  simp [execOp, ho, resolve, invoke, builtin, hs, hx, hrun, Result.andThen]
  exact hK' _ _ (hK v3 w' r1 r2)

/-! ### same -/
def SamePost (a b : List ByteArray) (w : World) (e : Ending) (w' : World) : Prop := e = .returned (.bool (decide (a = b))) ∧ Quiet w w'

theorem take_ext {α : Type} {a b : List α} {k : Nat} {x y : α} (h : a.take k = b.take k) (ha : a[k]? = some x) (hb : b[k]? = some y) (hxy : x = y) : a.take (k + 1) = b.take (k + 1) := by
  obtain ⟨h1, rfl⟩ := List.getElem?_eq_some_iff.1 ha
  obtain ⟨h2, rfl⟩ := List.getElem?_eq_some_iff.1 hb
  rw [List.take_succ_eq_append_getElem h1, List.take_succ_eq_append_getElem h2, h, hxy]

theorem bytes_neq {a b : ByteArray} (h : ¬ a = b) : (a.toList == b.toList) = false := by
  rw [beq_eq_false_iff_ne, ByteArray.toList_eq, ByteArray.toList_eq]
  intro e
  apply h
  have e1 : ∀ u : ByteArray, (⟨u.data.toList.toArray⟩ : ByteArray) = u := fun u => by simp
  rw [← e1 a, e, e1 b]

theorem said_true {p : Prop} [Decidable p] (h : p) : Ending.returned (Value.bool true) = .returned (.bool (decide p)) := by rw [decide_eq_true h]
theorem said_false {p : Prop} [Decidable p] (h : ¬ p) : Ending.returned (Value.bool false) = .returned (.bool (decide p)) := by rw [decide_eq_false h]

set_option maxRecDepth 20000 in
set_option maxHeartbeats 800000 in
theorem same_any (va vb : Value) (a b : List ByteArray) (w : World) (ha : Strs w va a) (hb : Strs w vb b) (hla : a.length ≤ 1099511627776) :
    Calls Tryd.prog 17 #[va, vb] w (SamePost a b w) := by
  obtain ⟨A, ca, rfl, hca, hA⟩ := ha
  obtain ⟨B, cb, rfl, hcb, hB⟩ := hb
  by_cases hne : (a.length : Int) = (b.length : Int)
  · have hlen : a.length = b.length := by omega
    have HA := Lib.hid hA; have HB := Lib.hid hB
    have HL := Lib.hid hlen
    have hnb : ((a.length : Int) != (b.length : Int)) = false := by rw [bne_eq_false_iff_eq]; exact hne
    clear hA hB hlen
    go_enter Tryd.func17, Tryd.ntmps17
    go_wp2_with fail
    go_loopw [5] (fun v wr => ∃ k : Nat, k ≤ a.length ∧ v = .int .i64 (k : Int) ∧ a.take k = b.take k ∧ Quiet w wr) (fun v _ => a.length - (intOf v).toNat)
    case atStart => exact ⟨0, Nat.zero_le _, rfl, rfl, Quiet.refl _⟩
    case round =>
      obtain ⟨k, hk, rfl, htk, hq⟩ := hrel
      by_cases hlt : k < a.length
      · obtain ⟨x, hx⟩ : ∃ x, a[k]? = some x := ⟨_, List.getElem?_eq_getElem hlt⟩
        obtain ⟨y, hy⟩ : ∃ y, b[k]? = some y := ⟨_, List.getElem?_eq_getElem (by rw [← HL.out]; exact hlt)⟩
        obtain ⟨b1, o1, rfl, l1, c1⟩ := HA.out k x hx
        obtain ⟨b2, o2, rfl, l2, c2⟩ := HB.out k y hy
        have d1 := (hq.below.cell (p := ⟨b1, o1 + k, none⟩) l1).trans c1
        have d2 := (hq.below.cell (p := ⟨b2, o2 + k, none⟩) l2).trans c2
        have hki : (k : Int) < (a.length : Int) := by omega
        have hkb : (k : Int) < (b.length : Int) := by omega
        have HQ := Lib.hid hq
        clear c1 c2 hq
        by_cases hxy : x = y
        · have HT := Lib.hid (take_ext htk hx hy hxy)
          clear htk hx hy
          subst hxy
          go_wp2_with fail
          go_quiet (fail)
          go_wp2_with fail
          go_roundw
          case rel => exact ⟨k + 1, by omega, by go_num, HT.out, HQ.out.trans (Quiet.drewN _ _)⟩
          case measure => simp [intOf]; omega
        · have hn := bytes_neq hxy
          have HD2 := Lib.hid (show ¬ a = b from fun e2 => by
            rw [e2, hy] at hx
            injection hx with hx
            exact hxy hx.symm)
          clear htk hx hy hxy
          go_wp2_with fail
          go_quiet (fail)
          go_wp2_with fail
          go_ret
          exact ⟨said_false HD2.out, HQ.out.trans (Quiet.drewN _ _)⟩
      · have hall : a = b := by
          rw [List.take_of_length_le (by omega), List.take_of_length_le (by rw [← HL.out]; omega)] at htk
          exact htk
        have HE := Lib.hid hall
        clear htk hall
        go_wp2_with fail
        go_ret
        exact ⟨said_true HE.out, hq⟩
  · have hd : ¬ a = b := fun e => hne (by rw [e])
    have HD := Lib.hid hd
    have hnb : ((a.length : Int) != (b.length : Int)) = true := by rw [bne_iff_ne]; exact hne
    clear hA hB hd
    go_enter Tryd.func17, Tryd.ntmps17
    go_wp2_with fail
    go_ret
    exact ⟨said_false HD.out, Quiet.refl _⟩

/-! ### long -/
/-- How many texts and bytes a list has. -/
def size (l : List ByteArray) : Nat := l.length + (l.map ByteArray.size).sum

def LongPost (l : List ByteArray) (w : World) (e : Ending) (w' : World) : Prop :=
  ∃ n : Nat, e = .returned (.int .i64 (n : Int)) ∧ n ≤ 3000000 ∧ (n ≤ 16384 → n = size l) ∧ (16384 < n → 16384 < size l) ∧ w = w'

/-- What long adds up. -/
def wsum (l : List ByteArray) : Nat := (l.map fun s => min s.size 1048576).sum
theorem wsum_up {l : List ByteArray} {k : Nat} {x : ByteArray} (h : l[k]? = some x) : wsum (l.take (k + 1)) = wsum (l.take k) + min x.size 1048576 := by
  obtain ⟨h1, rfl⟩ := List.getElem?_eq_some_iff.1 h
  unfold wsum
  rw [List.take_succ_eq_append_getElem h1, List.map_append, List.sum_append]
  simp
theorem wsum_le (l : List ByteArray) : wsum l ≤ (l.map ByteArray.size).sum := by
  induction l with
  | nil => exact Nat.le_refl _
  | cons s l ih =>
    have e : wsum (s :: l) = min s.size 1048576 + wsum l := rfl
    rw [e, List.map_cons, List.sum_cons]
    omega
theorem wsum_take (l : List ByteArray) (k : Nat) : wsum (l.take k) ≤ wsum l := by
  conv => rhs; rw [← List.take_append_drop k l]
  unfold wsum
  rw [List.map_append, List.sum_append]
  omega
theorem wsum_eq (l : List ByteArray) (h : wsum l ≤ 16384) : wsum l = (l.map ByteArray.size).sum := by
  induction l with
  | nil => rfl
  | cons s l ih =>
    have e : wsum (s :: l) = min s.size 1048576 + wsum l := rfl
    rw [e] at h ⊢
    rw [List.map_cons, List.sum_cons, ← ih (by omega)]
    omega

/-- What long's loop comes to. -/
theorem long_end {a : List ByteArray} {k : Nat} (h : a.length ≤ k ∨ 16384 < a.length + wsum (a.take k)) :
    (a.length + wsum (a.take k) ≤ 16384 → a.length + wsum (a.take k) = size a) ∧ (16384 < a.length + wsum (a.take k) → 16384 < size a) := by
  have h1 := wsum_take a k
  have h2 := wsum_le a
  unfold size
  refine ⟨fun hs => ?_, fun hs => by omega⟩
  rcases h with hk | hk
  · rw [List.take_of_length_le hk] at hs ⊢
    rw [wsum_eq a (by omega)]
  · omega

set_option maxRecDepth 20000 in
set_option maxHeartbeats 800000 in
theorem long_any (va : Value) (a : List ByteArray) (w : World) (ha : Strs w va a) :
    Calls Tryd.prog 9 #[va] w (LongPost a w) := by
  obtain ⟨A, ca, rfl, hca, hA⟩ := ha
  have HA := Lib.hid hA
  clear hA
  by_cases hbig : 1048576 < a.length
  · have hb1 : 1048576 < (a.length : Int) := by omega
    have HL := Lib.hid (show 16384 < size a by unfold size; omega)
    clear hca
    go_enter Tryd.func9, Tryd.ntmps9
    go_wp2_with fail
    refine wp_loop_rounds 1 ?_
    rw [rounds_succ]
    go_wp2_with fail
    go_ret
    exact ⟨1048576, rfl, by omega, fun h => by omega, fun _ => HL.out, rfl⟩
  · have hb1 : (a.length : Int) ≤ 1048576 := by omega
    go_enter Tryd.func9, Tryd.ntmps9
    go_wp2_with fail
    go_loop [3, 4] (fun n i => ∃ k : Nat, k ≤ a.length ∧ a.length + wsum (a.take k) ≤ 3000000 ∧ i = .int .i64 (k : Int) ∧ n = .int .i64 ((a.length + wsum (a.take k) : Nat) : Int)) (fun _ i => a.length - (intOf i).toNat)
    case atStart => exact ⟨0, Nat.zero_le _, by simp [wsum]; omega, rfl, by simp [wsum]⟩
    case round =>
      obtain ⟨k, hk, hsz, rfl, rfl⟩ := hrel
      by_cases hn : a.length + wsum (a.take k) ≤ 16384
      · by_cases hlt : k < a.length
        · obtain ⟨x, hx⟩ : ∃ x, a[k]? = some x := ⟨_, List.getElem?_eq_getElem hlt⟩
          obtain ⟨b1, o1, rfl, l1, c1⟩ := HA.out k x hx
          have hup := Lib.hid (wsum_up hx)
          clear hx
          go_wp2_with fail
          all_goals
            go_round
            case rel => exact ⟨k + 1, by omega, by rw [hup.out]; omega, by go_num, congrArg (Value.int .i64) (by rw [hup.out]; omega)⟩
            case measure => simp [intOf]; omega
        · obtain ⟨e1, e2⟩ := long_end (a := a) (k := k) (.inl (by omega))
          have HE := Lib.hid (And.intro e1 e2)
          clear e1 e2
          go_wp2_with fail
          go_ret
          exact ⟨_, rfl, hsz, HE.out.1, HE.out.2, rfl⟩
      · obtain ⟨e1, e2⟩ := long_end (a := a) (k := k) (.inr (by omega))
        have HE := Lib.hid (And.intro e1 e2)
        clear e1 e2
        by_cases hlt : k < a.length
        · go_wp2_with fail
          go_ret
          exact ⟨_, rfl, hsz, HE.out.1, HE.out.2, rfl⟩
        · go_wp2_with fail
          go_ret
          exact ⟨_, rfl, hsz, HE.out.1, HE.out.2, rfl⟩

end Go.Proofs.YtgahcbhdnplnoaaDoor
