/- The steps of a law's argument in memory, opened; and whether they are too many: heavy. -/
import Derived.Test.YtfflopmbbmpeoaaMem
import Derived.LoopTactic
import Derived.Outline
import Derived.Deep.Slices
import Derived.Deep.Strs
import Derived.Lib.SmallJoins
import Derived.ProofKit
namespace Go.Proofs.Ytfflopmbbmpeoaa
open Go.ChangeShapes Go.WideShapes Go.RowKit Go.Deep Go.Joins

/-- A step: kind, number, text, what is kept. -/
structure Sp where
  k : Int
  n : Int
  s : ByteArray
  keep : Nat

instance : Inhabited Sp := ⟨⟨0, 0, ByteArray.empty, 0⟩⟩

def Sp.wf (x : Sp) : Prop := (-9223372036854775808 ≤ x.n ∧ x.n ≤ 9223372036854775807) ∧ x.keep < 18446744073709551616

/-- The slice at A reads as l, and lies below block B. -/
def Steps (w : World) (B : Nat) (A : Option Addr) (l : List Sp) : Prop :=
  ∀ i x, l[i]? = some x → x.wf ∧ ∃ b off, A = some ⟨b, off, none⟩ ∧ b < B ∧ w.cell? ⟨b, off + i * 4, none⟩ = some (.int .i64 x.k) ∧ w.cell? ⟨b, off + i * 4 + 1, none⟩ = some (.int .i64 x.n) ∧ w.cell? ⟨b, off + i * 4 + 2, none⟩ = some (.string x.s) ∧ w.cell? ⟨b, off + i * 4 + 3, none⟩ = some (.int .u64 (x.keep : Int))

theorem Steps.below {w w' : World} {B : Nat} {A : Option Addr} {l : List Sp} (h : Steps w B A l) (hb : Below B w w') : Steps w' B A l := by
  intro i x hi
  obtain ⟨hw, b, off, hA, hlt, h0, h1, h2, h3⟩ := h i x hi
  exact ⟨hw, b, off, hA, hlt, (hb.cell (p := ⟨b, _, none⟩) hlt).trans h0, (hb.cell (p := ⟨b, _, none⟩) hlt).trans h1, (hb.cell (p := ⟨b, _, none⟩) hlt).trans h2, (hb.cell (p := ⟨b, _, none⟩) hlt).trans h3⟩

theorem step_cells : Try.prog.cellsOf 37 = 4 := by kernel_rfl
theorem int_cells : Try.prog.cellsOf 3 = 1 := by kernel_rfl
theorem string_cells : Try.prog.cellsOf 9 = 1 := by kernel_rfl
theorem uint64_cells : Try.prog.cellsOf 22 = 1 := by kernel_rfl

/-- One step's four cells. -/
theorem open_step {H : Type} {enc : TypeId × Value → H} {w : World} {base n : Nat} {spare : Nat → Bool} {held : Bool} {cs : List Value} {x : DataW H × List MemPlace}
    (h : DataW.trod enc Try.prog w base spare held n 37 cs = some x) : ∃ it : Sp, it.wf ∧ cs = [.int .i64 it.k, .int .i64 it.n, .string it.s, .int .u64 (it.keep : Int)] := by
  obtain ⟨y0, y1, y2, y3, m, _, hl, t0, t1, t2, t3⟩ := trod_struct4 Try.underlying37 h
  rw [step_cells] at hl
  match cs, hl with
  | [c0, c1, c2, c3], _ =>
    simp only [int_cells, string_cells, uint64_cells] at t0 t1 t2 t3
    obtain ⟨a, e0, _, _⟩ := DataW.trod_int Try.underlying3 t0
    obtain ⟨b, e1, _, w1⟩ := DataW.trod_int Try.underlying3 t1
    obtain ⟨s, e2, _⟩ := DataW.trod_string Try.underlying9 t2
    obtain ⟨k, e3, _, w3⟩ := DataW.trod_int Try.underlying22 t3
    simp at e0 e1 e2 e3
    have n1 : -9223372036854775808 ≤ b ∧ b ≤ 9223372036854775807 := by simpa [Lit.wf, IntKind.min, IntKind.max, IntKind.bits, IntKind.signed] using w1
    have n3 : 0 ≤ k ∧ k ≤ 18446744073709551615 := by simpa [Lit.wf, IntKind.min, IntKind.max, IntKind.bits, IntKind.signed] using w3
    refine ⟨⟨a, b, s, k.toNat⟩, ⟨n1, by show k.toNat < _; omega⟩, ?_⟩
    have : ((k.toNat : Nat) : Int) = k := Int.toNat_of_nonneg n3.1
    simp [e0, e1, e2, e3, this]

theorem open_steps {H : Type} {enc : TypeId × Value → H} {w : World} {a0 : Option Addr} {len cap B : Nat} {d : DataW H} {ps : List MemPlace}
    (h : DataW.Trod enc Try.prog w 0 (fun _ => true) true 34 (.slice a0 len cap) d ps) (hlt : ∀ y ∈ ps, y.block < B) : ∃ l : List Sp, l.length = len ∧ Steps w B a0 l := by
  obtain ⟨fuel, hf⟩ := h
  rcases open_slice Try.underlying34 hf with ⟨hcs, _⟩ | ⟨a, len', cap', m, n, D, Pl, hcs, _, hl, _, hm, hx, hi⟩
  · simp [Value.cells] at hcs
    obtain ⟨rfl, rfl, rfl⟩ := hcs
    exact ⟨[], rfl, fun i it hi => by simp at hi⟩
  · simp [Value.cells] at hcs
    obtain ⟨rfl, rfl, rfl⟩ := hcs
    simp only [if_true] at hm
    subst hm
    simp only [Prod.mk.injEq] at hx
    obtain ⟨_, rfl⟩ := hx
    rw [step_cells] at hi hlt
    obtain ⟨f, hf'⟩ := choose_lt (α := Sp) (n := len) (p := fun i it => it.wf ∧ ∀ j u, [Value.int .i64 it.k, .int .i64 it.n, .string it.s, .int .u64 (it.keep : Int)][j]? = some u → w.cell? (a.add (i * 4 + j)) = some u) (fun i hlen => by
      obtain ⟨cs', h1, h2⟩ := hi i (by omega)
      obtain ⟨it, hwf, rfl⟩ := open_step h2
      obtain ⟨_, _, hat⟩ := World.cells?_some h1
      refine ⟨it, hwf, fun j u hj => ?_⟩
      have hj3 : j < 4 := by
        have := (List.getElem?_eq_some_iff.1 hj).1
        simpa using this
      rw [← Go.Deep.add_add, hat j hj3]
      exact hj)
    refine ⟨(List.range len).map f, by simp, fun i it hit => ?_⟩
    obtain ⟨hlen, rfl⟩ : ∃ h : i < len, f i = it := by
      have h1 := (List.getElem?_eq_some_iff.1 hit).1
      simp only [List.length_map, List.length_range] at h1
      refine ⟨h1, ?_⟩
      simpa [h1] using hit
    obtain ⟨b, off, spot⟩ := a
    have hspot : spot = none := by
      have := (hf' 0 (by omega)).2 0 _ rfl
      simpa [Addr.add] using World.cell?_spot this
    subst hspot
    have hb : b < B := hlt (.cell b off) (List.mem_append_left _ (MemPlace.mem_row.2 ⟨0, by omega, by simp⟩))
    have c0 := (hf' i hlen).2 0 _ rfl
    have c1 := (hf' i hlen).2 1 _ rfl
    have c2 := (hf' i hlen).2 2 _ rfl
    have c3 := (hf' i hlen).2 3 _ rfl
    simp only [Addr.add_lit] at c0 c1 c2 c3
    exact ⟨(hf' i hlen).1, b, off, rfl, hb, c0, c1, c2, c3⟩

/-- What is too much. -/
def weight (l : List Sp) : Nat := (l.map fun it => min it.s.size 1048576).sum
def heavyB (l : List Sp) : Bool := decide (4096 < l.length + weight l ∨ 200 < l.length)

theorem weight_append (a b : List Sp) : weight (a ++ b) = weight a + weight b := by simp [weight]
theorem take_one {α : Type} {l : List α} {k : Nat} {x : α} (h : l[k]? = some x) : l.take (k + 1) = l.take k ++ [x] := by
  obtain ⟨hk, rfl⟩ := List.getElem?_eq_some_iff.1 h
  exact List.take_succ_eq_append_getElem hk
theorem weight_up {l : List Sp} {k : Nat} {x : Sp} (h : l[k]? = some x) : weight (l.take (k + 1)) = weight (l.take k) + min x.s.size 1048576 := by
  rw [take_one h, weight_append]
  simp [weight]
theorem weight_take (l : List Sp) (k : Nat) : weight (l.take k) ≤ weight l := by
  conv => rhs; rw [← List.take_append_drop k l]
  rw [weight_append]
  omega
theorem weight_take_le (l : List Sp) (k : Nat) : weight (l.take k) ≤ k * 1048576 := by
  induction k with
  | zero => simp [weight]
  | succ k ih =>
    cases h : l[k]? with
    | none =>
      rw [List.take_of_length_le (by have := List.getElem?_eq_none_iff.1 h; omega)]
      rw [List.take_of_length_le (by have := List.getElem?_eq_none_iff.1 h; omega)] at ih
      exact Nat.le_trans ih (Nat.mul_le_mul_right _ (Nat.le_succ k))
    | some x =>
      rw [weight_up h, Nat.add_mul, Nat.one_mul]
      exact Nat.add_le_add ih (Nat.min_le_right _ _)

/-- What heavy's loop knows, and what it comes to. -/
theorem heavy_end {l : List Sp} {k : Nat} (h : k = l.length ∨ 4096 < l.length + weight (l.take k)) :
    (decide (4096 < (l.length : Int) + (weight (l.take k) : Int)) || decide (200 < (l.length : Int))) = heavyB l := by
  have e : heavyB l = (decide (4096 < l.length + weight l) || decide (200 < l.length)) := by
    unfold heavyB
    rw [Bool.decide_or]
  have e2 : decide (200 < (l.length : Int)) = decide (200 < l.length) := by
    by_cases h : 200 < l.length
    · rw [decide_eq_true h, decide_eq_true (by omega)]
    · rw [decide_eq_false h, decide_eq_false (by omega)]
  have e3 : decide (4096 < (l.length : Int) + (weight (l.take k) : Int)) = decide (4096 < l.length + weight l) := by
    have hw := weight_take l k
    rcases h with rfl | h
    · rw [List.take_length]
      by_cases h : 4096 < l.length + weight l
      · rw [decide_eq_true h, decide_eq_true (by omega)]
      · rw [decide_eq_false h, decide_eq_false (by omega)]
    · rw [decide_eq_true (by omega), decide_eq_true (by omega)]
  rw [e, e2, e3]

theorem light_small {l : List Sp} (h : heavyB l = false) : l.length ≤ 200 := by
  have h' := of_decide_eq_false h
  omega

def HeavyPost (l : List Sp) (w : World) (e : Ending) (w' : World) : Prop := e = .returned (.bool (heavyB l)) ∧ w = w'

set_option maxRecDepth 20000 in
set_option maxHeartbeats 400000 in
theorem heavy_any (A : Option Addr) (cap B : Nat) (l : List Sp) (w : World) (h : Steps w B A l) :
    Calls Try.prog 20 #[.slice A l.length cap] w (HeavyPost l w) := by
  have HI := Lib.hid h; clear h
  go_enter Try.func20, Try.ntmps20
  go_wp2_with fail
  go_loop [3, 4] (fun n i => ∃ k : Nat, k ≤ l.length ∧ i = .int .i64 (k : Int) ∧ n = .int .i64 ((l.length + weight (l.take k) : Nat) : Int)) (fun _ i => l.length - (intOf i).toNat)
  case atStart => exact ⟨0, Nat.zero_le _, rfl, by simp [weight]⟩
  case round =>
    obtain ⟨k, hk, rfl, rfl⟩ := hrel
    have hwt := weight_take_le l k
    have HE := Lib.hid (fun h => heavy_end (l := l) (k := k) h)
    by_cases hn : l.length + weight (l.take k) ≤ 4096
    · by_cases hlt : k < l.length
      · obtain ⟨x, hit⟩ : ∃ x, l[k]? = some x := ⟨_, List.getElem?_eq_getElem hlt⟩
        obtain ⟨-, bl, off, rfl, hb, c0, c1, c2, c3⟩ := HI.out k _ hit
        have hup := Lib.hid (weight_up hit)
        clear hit
        go_wp2_with fail
        go_round
        case rel => exact ⟨k + 1, by omega, by go_num, congrArg (Value.int .i64) (by rw [hup.out]; omega)⟩
        case measure => simp [intOf]; omega
      · have hr := HE.out (.inl (by omega))
        have HR := Lib.hid hr; clear hr
        go_wp2_with fail
        go_ret
        exact ⟨congrArg (fun x => Ending.returned (Value.bool x)) HR.out, rfl⟩
    · have hr : true = heavyB l := by
        rw [← HE.out (.inr (by omega)), decide_eq_true (by omega)]
        rfl
      have HR := Lib.hid hr; clear hr
      by_cases hlt : k < l.length
      · go_wp2_with fail
        go_ret
        exact ⟨congrArg (fun x => Ending.returned (Value.bool x)) HR.out, rfl⟩
      · go_wp2_with fail
        go_ret
        exact ⟨congrArg (fun x => Ending.returned (Value.bool x)) HR.out, rfl⟩

end Go.Proofs.Ytfflopmbbmpeoaa
