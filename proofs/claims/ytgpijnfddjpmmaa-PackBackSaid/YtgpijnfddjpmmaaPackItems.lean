/- The items of a law's argument in memory, their bytes, and whether they are too many: heavy. -/
import Derived.Test.YtgpijnfddjpmmaaPackBytes
import Derived.LoopTactic
import Derived.Outline
namespace Go.Proofs.Ytgpijnfddjpmmaa
open Go.RowKit

/-- An item: kind, number, text. -/
abbrev It := Int × Int × ByteArray

/-- The slice at A reads as l, and lies below block B. -/
def Items (w : World) (B : Nat) (A : Option Addr) (l : List It) : Prop :=
  ∀ i it, l[i]? = some it → ∃ b off, A = some ⟨b, off, none⟩ ∧ b < B ∧ w.cell? ⟨b, off + i * 3, none⟩ = some (.int .i64 it.1) ∧ w.cell? ⟨b, off + i * 3 + 1, none⟩ = some (.int .i64 it.2.1) ∧ w.cell? ⟨b, off + i * 3 + 2, none⟩ = some (.string it.2.2)

theorem Items.below {w w' : World} {B : Nat} {A : Option Addr} {l : List It} (h : Items w B A l) (hb : Below B w w') : Items w' B A l := by
  intro i it hi
  obtain ⟨b, off, hA, hlt, h0, h1, h2⟩ := h i it hi
  exact ⟨b, off, hA, hlt, (hb.cell (p := ⟨b, _, none⟩) hlt).trans h0, (hb.cell (p := ⟨b, _, none⟩) hlt).trans h1, (hb.cell (p := ⟨b, _, none⟩) hlt).trans h2⟩

theorem Items.cells {w : World} {B b off : Nat} {l : List It} (h : Items w B (some ⟨b, off, none⟩) l) {i : Nat} {k n : Int} {s : ByteArray} (hi : l[i]? = some (k, n, s)) :
    w.cell? ⟨b, off + i * 3, none⟩ = some (.int .i64 k) ∧ w.cell? ⟨b, off + i * 3 + 1, none⟩ = some (.int .i64 n) ∧ w.cell? ⟨b, off + i * 3 + 2, none⟩ = some (.string s) := by
  obtain ⟨b', off', hA, _, h0, h1, h2⟩ := h i _ hi
  injection hA with hA
  injection hA with e1 e2
  subst e1 e2
  exact ⟨h0, h1, h2⟩

/-- An item's bytes, and those of many. -/
def itemB (it : It) : List UInt8 := if it.1 = 1 then Pk.texted it.2.2.data.toList else Pk.code (Pk.cl it.2.1)
def itemsB (l : List It) : List UInt8 := l.flatMap itemB

theorem itemsB_snoc (l : List It) (it : It) : itemsB (l ++ [it]) = itemsB l ++ itemB it := by simp [itemsB]

/-- What is too much. -/
def weight (l : List It) : Nat := (l.map fun it => min it.2.2.size 1048576).sum
def heavyB (l : List It) : Bool := decide (2048 < l.length + weight l)

theorem weight_append (a b : List It) : weight (a ++ b) = weight a + weight b := by simp [weight]

theorem take_one {α : Type} {l : List α} {k : Nat} {x : α} (h : l[k]? = some x) : l.take (k + 1) = l.take k ++ [x] := by
  obtain ⟨hk, rfl⟩ := List.getElem?_eq_some_iff.1 h
  exact List.take_succ_eq_append_getElem hk

theorem weight_up {l : List It} {k : Nat} {a b : Int} {s : ByteArray} (h : l[k]? = some (a, b, s)) : weight (l.take (k + 1)) = weight (l.take k) + min s.size 1048576 := by
  rw [take_one h, weight_append]
  simp [weight]

theorem weight_take (l : List It) (k : Nat) : weight (l.take k) ≤ weight l := by
  conv => rhs; rw [← List.take_append_drop k l]
  rw [weight_append]
  omega

theorem weight_take_le (l : List It) (k : Nat) : weight (l.take k) ≤ k * 1048576 := by
  induction k with
  | zero => simp [weight]
  | succ k ih =>
    cases h : l[k]? with
    | none =>
      rw [List.take_of_length_le (by have := List.getElem?_eq_none_iff.1 h; omega)]
      rw [List.take_of_length_le (by have := List.getElem?_eq_none_iff.1 h; omega)] at ih
      exact Nat.le_trans ih (Nat.mul_le_mul_right _ (Nat.le_succ k))
    | some it =>
      obtain ⟨a, b, s⟩ := it
      rw [weight_up h, Nat.add_mul, Nat.one_mul]
      exact Nat.add_le_add ih (Nat.min_le_right _ _)

/-- Of what is not too much each text is short, and all bytes together are few. -/
theorem itemB_len (it : It) (h : it.2.2.size < 1048576) : (itemB it).length ≤ 8 + min it.2.2.size 1048576 := by
  unfold itemB
  split
  · have := Pk.code_len8 it.2.2.data.toList.length (by simp; omega)
    simp only [Pk.texted, List.length_append, toList_len]
    rw [toList_len] at this
    omega
  · have := Pk.code_len8 _ (Pk.cl_le it.2.1)
    omega

theorem weight_mem {l : List It} {it : It} (h : it ∈ l) : min it.2.2.size 1048576 ≤ weight l := by
  induction l with
  | nil => cases h
  | cons a l ih =>
    have e : weight (a :: l) = min a.2.2.size 1048576 + weight l := by simp [weight]
    rw [e]
    rcases List.mem_cons.1 h with rfl | h
    · omega
    · have := ih h; omega

theorem itemsB_len (l : List It) (h : ∀ it ∈ l, it.2.2.size < 1048576) : (itemsB l).length ≤ 8 * l.length + weight l := by
  induction l with
  | nil => simp [itemsB, weight]
  | cons a l ih =>
    have e : weight (a :: l) = min a.2.2.size 1048576 + weight l := by simp [weight]
    have e2 : itemsB (a :: l) = itemB a ++ itemsB l := by simp [itemsB]
    have h1 := itemB_len a (h a (List.mem_cons_self ..))
    have h2 := ih (fun it hi => h it (List.mem_cons_of_mem _ hi))
    rw [e, e2, List.length_append, List.length_cons]
    omega

theorem light_small {l : List It} (h : heavyB l = false) : l.length ≤ 2048 ∧ (∀ it ∈ l, it.2.2.size ≤ 2048) ∧ ∀ k, (itemsB (l.take k)).length ≤ 65536 := by
  have h' : l.length + weight l ≤ 2048 := by simpa [heavyB] using h
  have hs : ∀ it ∈ l, it.2.2.size ≤ 2048 := fun it hi => by
    have := weight_mem hi
    omega
  refine ⟨by omega, hs, fun k => ?_⟩
  have h1 := itemsB_len (l.take k) (fun it hi => by have := hs it (List.mem_of_mem_take hi); omega)
  have h2 := weight_take l k
  have h3 : (l.take k).length ≤ l.length := by simp; omega
  omega

/-- What heavy's loop knows, and what it comes to. -/
theorem heavy_end {l : List It} {k : Nat} (hk : k ≤ l.length) (h : k = l.length ∨ 2048 < l.length + weight (l.take k)) :
    decide (2048 < ((l.length + weight (l.take k) : Nat) : Int)) = heavyB l := by
  unfold heavyB
  rcases h with rfl | h
  · rw [List.take_length]
    by_cases h1 : 2048 < l.length + weight l
    · rw [decide_eq_true h1, decide_eq_true (by omega)]
    · rw [decide_eq_false h1, decide_eq_false (by omega)]
  · have := weight_take l k
    rw [decide_eq_true (by omega), decide_eq_true (by omega)]

set_option maxRecDepth 20000 in
set_option maxHeartbeats 400000 in
theorem heavy_any (A : Option Addr) (cap B : Nat) (l : List It) (w : World) (h : Items w B A l) :
    Calls Try.prog 12 #[.slice A l.length cap] w fun e w' => e = .returned (.bool (heavyB l)) ∧ w = w' := by
  have HI := Lib.hid h; clear h
  go_enter Try.func12, Try.ntmps12
  go_wp2_with fail
  go_loop [3, 4] (fun n i => ∃ k : Nat, k ≤ l.length ∧ i = .int .i64 (k : Int) ∧ n = .int .i64 ((l.length + weight (l.take k) : Nat) : Int)) (fun _ i => l.length - (intOf i).toNat)
  case atStart => exact ⟨0, Nat.zero_le _, rfl, by simp [weight]⟩
  case round =>
    obtain ⟨k, hk, rfl, rfl⟩ := hrel
    have hwt := weight_take_le l k
    by_cases hlt : k < l.length
    · by_cases hn : l.length + weight (l.take k) ≤ 2048
      · have hit : ∃ a b s, l[k]? = some (a, b, s) := ⟨_, _, _, List.getElem?_eq_getElem hlt⟩
        obtain ⟨a, b, s, hit⟩ := hit
        obtain ⟨bl, off, rfl, hb, c0, c1, c2⟩ := HI.out k _ hit
        simp at c0 c1 c2
        have hup := Lib.hid (weight_up hit)
        clear hit
        go_wp2_with fail
        go_round
        case rel => exact ⟨k + 1, by omega, by go_num, congrArg (Value.int .i64) (by rw [hup.out]; omega)⟩
        case measure => simp [intOf]; omega
      · go_wp2_with fail
        go_ret
        exact ⟨congrArg (fun x => Ending.returned (Value.bool x)) ((decide_eq_true (by omega)).symm.trans (heavy_end hk (.inr (by omega)))), rfl⟩
    · go_wp2_with fail
      go_ret
      exact ⟨congrArg (fun x => Ending.returned (Value.bool x)) (heavy_end hk (.inl (by omega))), rfl⟩

end Go.Proofs.Ytgpijnfddjpmmaa
