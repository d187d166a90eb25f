/- long of the law of layer 6. -/
import Derived.Test.YtimcepoleboldaaGreatDoorKeepRecs
namespace Go.Proofs.YtimcepoleboldaaGreatDoor
open Go.ChangeShapes Go.WideShapes Go.RowKit Go.Deep

/-- How many records and bytes a list has. -/
def rsize (l : List Kp.Rc) : Nat := l.length + Kp.heavy l

def LongsPost (l : List Kp.Rc) (w : World) (e : Ending) (w' : World) : Prop :=
  ∃ n : Nat, e = .returned (.int .i64 (n : Int)) ∧ n ≤ 4000000 ∧ (n ≤ 8192 → n = rsize l) ∧ (8192 < n → 8192 < rsize l) ∧ Quiet w w'

/-- What long adds up. -/
def rsum : List Kp.Rc → Nat
  | [] => 0
  | x :: l => min x.key.size 1048576 + min x.val.size 1048576 + rsum l
theorem rsum_append : ∀ a b : List Kp.Rc, rsum (a ++ b) = rsum a + rsum b
  | [], b => by simp [rsum]
  | x :: a, b => by
    show _ + _ + rsum (a ++ b) = _ + _ + rsum a + rsum b
    rw [rsum_append a b]
    omega
theorem rsum_up {l : List Kp.Rc} {k : Nat} {x : Kp.Rc} (h : l[k]? = some x) : rsum (l.take (k + 1)) = rsum (l.take k) + min x.key.size 1048576 + min x.val.size 1048576 := by
  obtain ⟨h1, rfl⟩ := List.getElem?_eq_some_iff.1 h
  rw [List.take_succ_eq_append_getElem h1, rsum_append]
  show _ + (_ + _ + 0) = _
  omega
theorem rsum_le : ∀ l : List Kp.Rc, rsum l ≤ Kp.heavy l
  | [] => Nat.le_refl _
  | x :: l => by
    have := rsum_le l
    show _ + _ + rsum l ≤ x.key.size + x.val.size + Kp.heavy l
    omega
theorem rsum_take (l : List Kp.Rc) (k : Nat) : rsum (l.take k) ≤ rsum l := by
  conv => rhs; rw [← List.take_append_drop k l, rsum_append]
  omega
theorem rsum_eq : ∀ l : List Kp.Rc, rsum l ≤ 8192 → rsum l = Kp.heavy l
  | [], _ => rfl
  | x :: l, h => by
    change min x.key.size 1048576 + min x.val.size 1048576 + rsum l ≤ 8192 at h
    have := rsum_eq l (by omega)
    show min x.key.size 1048576 + min x.val.size 1048576 + rsum l = x.key.size + x.val.size + Kp.heavy l
    omega
theorem longs_end {a : List Kp.Rc} {k : Nat} (h : a.length ≤ k ∨ 8192 < a.length + rsum (a.take k)) :
    (a.length + rsum (a.take k) ≤ 8192 → a.length + rsum (a.take k) = rsize a) ∧ (8192 < a.length + rsum (a.take k) → 8192 < rsize a) := by
  have h1 := rsum_take a k
  have h2 := rsum_le a
  unfold rsize
  refine ⟨fun hs => ?_, fun hs => by omega⟩
  rcases h with hk | hk
  · rw [List.take_of_length_le hk] at hs ⊢
    rw [rsum_eq a (by omega)]
  · omega

set_option maxRecDepth 20000 in
set_option maxHeartbeats 800000 in
theorem longs_any (va : Value) (a : List Kp.Rc) (w : World) (ha : Recs w va a) : Calls Tryz.prog 24 #[va] w (LongsPost a w) := by
  obtain ⟨A, ca, rfl, hA⟩ := ha
  have HA := Lib.hid hA
  clear hA
  by_cases hbig : 1048576 < a.length
  · have hb1 : 1048576 < (a.length : Int) := by omega
    have HL := Lib.hid (show 8192 < rsize a by unfold rsize; omega)
    go_enter Tryz.func24, Tryz.ntmps24
    go_wp2_with fail
    refine wp_loop_rounds 1 ?_
    rw [rounds_succ]
    go_wp2_with fail
    go_ret
    exact ⟨1048576, by first | rfl | exact congrArg (fun z => Ending.returned (Value.int .i64 z)) (Int.min_eq_right (Int.le_of_lt hb1)), by omega, fun h => by omega, fun _ => HL.out, Quiet.refl _⟩
  · have hb1 : (a.length : Int) ≤ 1048576 := by omega
    go_enter Tryz.func24, Tryz.ntmps24
    go_wp2_with fail
    go_loopw [3, 4] (fun n i wr => ∃ k : Nat, k ≤ a.length ∧ a.length + rsum (a.take k) ≤ 4000000 ∧ i = .int .i64 (k : Int) ∧ n = .int .i64 ((a.length + rsum (a.take k) : Nat) : Int) ∧ Quiet w wr) (fun _ i _ => a.length - (intOf i).toNat)
    case atStart => exact ⟨0, Nat.zero_le _, by simp [rsum]; omega, rfl, by first | (simp [rsum]; done) | (simp [rsum]; omega), Quiet.refl _⟩
    case round =>
      obtain ⟨k, hk, hsz, rfl, rfl, hq⟩ := hrel
      by_cases hn : a.length + rsum (a.take k) ≤ 8192
      · by_cases hlt : k < a.length
        · obtain ⟨x, hx⟩ : ∃ x, a[k]? = some x := ⟨_, List.getElem?_eq_getElem hlt⟩
          obtain ⟨-, b1, o1, rfl, l1, -, c1, c2⟩ := HA.out k x hx
          have d1 := (hq.below.cell (p := ⟨b1, o1 + k * 3 + 1, none⟩) l1).trans c1
          have d2 := (hq.below.cell (p := ⟨b1, o1 + k * 3 + 2, none⟩) l1).trans c2
          have hup := Lib.hid (rsum_up hx)
          have HQ := Lib.hid hq
          clear hx c1 c2 hq
          go_wp2_with fail
          all_goals
            go_quiet (fail)
            go_wp2_with fail
            go_roundw
            case rel => exact ⟨k + 1, by omega, by rw [hup.out]; omega, by go_num, congrArg (Value.int .i64) (by rw [hup.out]; omega), HQ.out.trans (Quiet.drewN _ _)⟩
            case measure => simp [intOf]; omega
        · obtain ⟨e1, e2⟩ := longs_end (a := a) (k := k) (.inl (by omega))
          have HE := Lib.hid (And.intro e1 e2)
          clear e1 e2
          go_wp2_with fail
          go_ret
          exact ⟨_, rfl, hsz, HE.out.1, HE.out.2, hq⟩
      · obtain ⟨e1, e2⟩ := longs_end (a := a) (k := k) (.inr (by omega))
        have HE := Lib.hid (And.intro e1 e2)
        clear e1 e2
        by_cases hlt : k < a.length
        · go_wp2_with fail
          go_ret
          exact ⟨_, rfl, hsz, HE.out.1, HE.out.2, hq⟩
        · go_wp2_with fail
          go_ret
          exact ⟨_, rfl, hsz, HE.out.1, HE.out.2, hq⟩
end Go.Proofs.YtimcepoleboldaaGreatDoor
