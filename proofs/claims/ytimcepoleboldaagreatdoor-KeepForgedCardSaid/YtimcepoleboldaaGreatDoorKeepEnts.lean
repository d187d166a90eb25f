/- Rows of a map's entries in memory; the document's Size. -/
import Derived.Test.YtimcepoleboldaaGreatDoorStrs
import Derived.Test.YtimcepoleboldaaGreatDoorKeepPlain
namespace Go.Proofs.YtimcepoleboldaaGreatDoor
open Go.ChangeShapes Go.WideShapes Go.RowKit Go.Deep

/-- The cells of entries. -/
def flatE (m : Kp.Mp) : List Value := (m.map fun e => [Value.string e.1, Value.string e.2]).flatten

/-- In the world w the value v is a slice of entries that reads as m. -/
def Ents (w : World) (v : Value) (m : Kp.Mp) : Prop :=
  ∃ A cap, v = .slice A m.length cap ∧ ∀ (j : Nat) (e : ByteArray × ByteArray), m[j]? = some e → ∃ b off, A = some ⟨b, off, none⟩ ∧ b < w.heap.size ∧
    w.cell? ⟨b, off + j * 2, none⟩ = some (.string e.1) ∧ w.cell? ⟨b, off + j * 2 + 1, none⟩ = some (.string e.2)

theorem Ents.below {w w' : World} {v : Value} {m : Kp.Mp} (h : Ents w v m) (hb : Below w.heap.size w w') : Ents w' v m := by
  obtain ⟨A, cap, rfl, hat⟩ := h
  refine ⟨A, cap, rfl, fun j e hj => ?_⟩
  obtain ⟨b, off, hA, hlt, h0, h1⟩ := hat j e hj
  exact ⟨b, off, hA, Nat.lt_of_lt_of_le hlt hb.size, (hb.cell (p := ⟨b, _, none⟩) hlt).trans h0, (hb.cell (p := ⟨b, _, none⟩) hlt).trans h1⟩

theorem flatE_length : ∀ m : Kp.Mp, (flatE m).length = m.length * 2
  | [] => rfl
  | e :: m => by
    show (Value.string e.1 :: Value.string e.2 :: flatE m).length = (m.length + 1) * 2
    simp only [List.length_cons, flatE_length m]
    omega
theorem flatE_append (m n : Kp.Mp) : flatE (m ++ n) = flatE m ++ flatE n := by unfold flatE; rw [List.map_append, List.flatten_append]
theorem flatE_at : ∀ {m : Kp.Mp} {j : Nat} {e : ByteArray × ByteArray}, m[j]? = some e → (flatE m)[j * 2]? = some (.string e.1) ∧ (flatE m)[j * 2 + 1]? = some (.string e.2)
  | [], j, e, h => by simp at h
  | f :: m, 0, e, h => by
    simp at h
    subst h
    exact ⟨rfl, rfl⟩
  | f :: m, j + 1, e, h => by
    have h1 : m[j]? = some e := by simpa using h
    have h2 := flatE_at h1
    have e1 : (j + 1) * 2 = j * 2 + 1 + 1 := by omega
    rw [e1]
    exact h2
theorem flatE_one (m : Kp.Mp) : ∀ u ∈ flatE m, u.oneCell' = true := by
  intro u hu
  unfold flatE at hu
  simp only [List.mem_flatten, List.mem_map] at hu
  obtain ⟨l, ⟨e, _, rfl⟩, hu⟩ := hu
  simp at hu
  rcases hu with rfl | rfl <;> rfl

/-- A row of entries of one's own. -/
def RowE (w : World) (base : Nat) (v : Value) (m : Kp.Mp) : Prop := w.ownsRow base 65 2 v m.length (flatE m)

theorem RowE.ents {w : World} {base : Nat} {v : Value} {m : Kp.Mp} (h : RowE w base v m) : Ents w v m := by
  rcases h.2 with ⟨rfl, h0⟩ | ⟨g, cap, cur, rfl, _, hg, _⟩
  · have : m = [] := List.length_eq_zero_iff.mp h0
    subst this
    exact ⟨none, 0, rfl, fun j e hj => by simp at hj⟩
  · refine ⟨some ⟨g, 0, none⟩, cap, rfl, fun j e hj => ?_⟩
    obtain ⟨h1, h2⟩ := flatE_at hj
    have c1 := World.ownsRow.cells h (g := g) rfl _ _ h1
    have c2 := World.ownsRow.cells h (g := g) rfl _ _ h2
    have hadd : ∀ k, (⟨g, 0, none⟩ : Addr).add k = ⟨g, 0 + k, none⟩ := fun k => by unfold Addr.add; split <;> simp_all
    rw [hadd] at c1 c2
    exact ⟨g, 0, rfl, (Array.getElem?_eq_some_iff.1 hg).1, c1, c2⟩

theorem size_up {m : Kp.Mp} {k : Nat} {x : ByteArray × ByteArray} (h : m[k]? = some x) : Kp.size (m.take (k + 1)) = Kp.size (m.take k) + x.1.size + x.2.size := by
  obtain ⟨h1, rfl⟩ := List.getElem?_eq_some_iff.1 h
  rw [List.take_succ_eq_append_getElem h1, Kp.size_append]
  show _ + (_ + _ + 0) = _
  omega
theorem size_take_le (m : Kp.Mp) (k : Nat) : Kp.size (m.take k) ≤ Kp.size m := by
  conv => rhs; rw [← List.take_append_drop k m, Kp.size_append]
  omega

def ESizePost (m : Kp.Mp) (w : World) (e : Ending) (w' : World) : Prop := e = .returned (.int .i64 ((Kp.size m : Nat) : Int)) ∧ Quiet w w'

set_option maxRecDepth 20000 in
set_option maxHeartbeats 800000 in
theorem esize_any (va : Value) (m : Kp.Mp) (w : World) (ha : Ents w va m) (hm : m.length ≤ 1000000) (hs : Kp.size m ≤ 1000000000) :
    Calls Tryz.prog 38 #[va] w (ESizePost m w) := by
  obtain ⟨A, ca, rfl, hA⟩ := ha
  have HA := Lib.hid hA
  have HS := Lib.hid hs
  have hm1 : (m.length : Int) ≤ 1000000 := by omega
  clear hA hs
  go_enter Tryz.func38, Tryz.ntmps38
  go_wp2_with fail
  go_loopw [3, 4] (fun n i wr => ∃ k : Nat, k ≤ m.length ∧ i = .int .i64 (k : Int) ∧ n = .int .i64 ((Kp.size (m.take k) : Nat) : Int) ∧ Quiet w wr) (fun _ i _ => m.length - (intOf i).toNat)
  case atStart => exact ⟨0, Nat.zero_le _, rfl, rfl, Quiet.refl _⟩
  case round =>
    obtain ⟨k, hk, rfl, rfl, hq⟩ := hrel
    by_cases hlt : k < m.length
    · obtain ⟨x, hx⟩ : ∃ x, m[k]? = some x := ⟨_, List.getElem?_eq_getElem hlt⟩
      obtain ⟨b1, o1, rfl, l1, c1, c2⟩ := HA.out k x hx
      have d1 := (hq.below.cell (p := ⟨b1, o1 + k * 2, none⟩) l1).trans c1
      have d2 := (hq.below.cell (p := ⟨b1, o1 + k * 2 + 1, none⟩) l1).trans c2
      have hup := Lib.hid (size_up hx)
      have hle := size_take_le m (k + 1)
      have hb := HS.out
      rw [hup.out] at hle
      obtain ⟨n0, hn0⟩ : ∃ n0, n0 = Kp.size (m.take k) := ⟨_, rfl⟩
      have HN := Lib.hid hn0
      rw [← hn0] at hle ⊢
      have hki : (k : Int) < (m.length : Int) := by omega
      have z1 : (x.1.size : Int) ≤ 1000000000 := by omega
      have z2 : (n0 : Int) + (x.1.size : Int) + (x.2.size : Int) ≤ 1000000000 := by omega
      have HQ := Lib.hid hq
      clear c1 c2 hq hx hn0 hb hle
      go_wp2_with fail
      go_quiet (fail)
      go_wp2_with fail
      go_roundw
      case rel => exact ⟨k + 1, by omega, by go_num, congrArg (Value.int .i64) (by rw [hup.out, ← HN.out]; omega), HQ.out.trans (Quiet.drewN _ _)⟩
      case measure => simp [intOf]; omega
    · have he : m.take k = m := List.take_of_length_le (by omega)
      rw [he]
      go_wp2_with fail
      go_ret
      exact ⟨rfl, hq⟩
end Go.Proofs.YtimcepoleboldaaGreatDoor
