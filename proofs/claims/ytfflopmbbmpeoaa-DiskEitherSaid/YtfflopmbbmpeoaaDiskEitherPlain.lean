/- Plainly: texts that are written to a disk, one to every other sector; which of them are there when the power went. -/
import Derived.Test.YtfflopmbbmpeoaaDiskAgainPlain
namespace Go.Proofs.Ytfflopmbbmpeoaa
namespace Dk

/-- The disk when the first i texts were written. -/
def ts (t : Nat → ByteArray) : Nat → St
  | 0 => St.new
  | i + 1 => (ts t i).write (2 * (i : Int)) (t i)
/-- Its loose sectors. -/
def els (t : Nat → ByteArray) : Nat → List (Nat × ByteArray)
  | 0 => []
  | i + 1 => if (t i).size ≤ 128 then els t i ++ [(2 * i, ByteArray.empty)] else els t i

theorem els_keys (t : Nat → ByteArray) (i : Nat) : ∀ p ∈ els t i, p.1 < 2 * i := by
  induction i with
  | zero => intro p hp; simp [els] at hp
  | succ i ih =>
    intro p hp
    change p ∈ (if (t i).size ≤ 128 then els t i ++ [(2 * i, ByteArray.empty)] else els t i) at hp
    split at hp
    · rcases List.mem_append.1 hp with hp | hp
      · have := ih p hp; omega
      · simp at hp; subst hp; show 2 * i < _; omega
    · have := ih p hp; omega
theorem els_was (t : Nat → ByteArray) (i : Nat) : was (els t i) (2 * i) = none :=
  was_none.2 (fun h => by
    obtain ⟨p, hp, e⟩ := List.mem_map.1 h
    have := els_keys t i p hp
    omega)
theorem els_nodup (t : Nat → ByteArray) (i : Nat) : ((els t i).map (·.1)).Nodup := by
  induction i with
  | zero => exact List.nodup_nil
  | succ i ih =>
    show ((if (t i).size ≤ 128 then els t i ++ [(2 * i, ByteArray.empty)] else els t i).map (·.1)).Nodup
    split
    · rw [List.map_append, List.nodup_append]
      refine ⟨ih, by simp, ?_⟩
      intro a ha b hb e
      obtain ⟨p, hp, rfl⟩ := List.mem_map.1 ha
      simp at hb
      have := els_keys t i p hp
      omega
    · exact ih
/-- How many of the first i are short: the place of the next one among the loose ones. -/
def cnt (t : Nat → ByteArray) (i : Nat) : Nat := (els t i).length
theorem cnt_short {t : Nat → ByteArray} {i : Nat} (h : (t i).size ≤ 128) : cnt t (i + 1) = cnt t i + 1 := by
  show (if (t i).size ≤ 128 then els t i ++ [(2 * i, ByteArray.empty)] else els t i).length = _
  rw [if_pos h, List.length_append]
  rfl
theorem cnt_long {t : Nat → ByteArray} {i : Nat} (h : ¬ (t i).size ≤ 128) : cnt t (i + 1) = cnt t i := by
  show (if (t i).size ≤ 128 then els t i ++ [(2 * i, ByteArray.empty)] else els t i).length = _
  rw [if_neg h]
  rfl
theorem cnt_le (t : Nat → ByteArray) (i : Nat) : cnt t i ≤ i := by
  induction i with
  | zero => exact Nat.le_refl _
  | succ i ih =>
    by_cases h : (t i).size ≤ 128
    · rw [cnt_short h]; omega
    · rw [cnt_long h]; omega
theorem els_at {t : Nat → ByteArray} {j n : Nat} (h : j < n) (hs : (t j).size ≤ 128) : (els t n)[cnt t j]? = some (2 * j, ByteArray.empty) ∧ cnt t j < cnt t n := by
  induction n with
  | zero => omega
  | succ n ih =>
    by_cases e : j = n
    · subst e
      refine ⟨?_, by rw [cnt_short hs]; omega⟩
      show (if (t j).size ≤ 128 then els t j ++ [(2 * j, ByteArray.empty)] else els t j)[cnt t j]? = _
      rw [if_pos hs]
      unfold cnt
      simp
    · obtain ⟨h1, h2⟩ := ih (by omega)
      by_cases hn : (t n).size ≤ 128
      · refine ⟨?_, by rw [cnt_short hn]; omega⟩
        show (if (t n).size ≤ 128 then els t n ++ [(2 * n, ByteArray.empty)] else els t n)[cnt t j]? = _
        rw [if_pos hn, List.getElem?_append_left h2]
        exact h1
      · refine ⟨?_, by rw [cnt_long hn]; exact h2⟩
        show (if (t n).size ≤ 128 then els t n ++ [(2 * n, ByteArray.empty)] else els t n)[cnt t j]? = _
        rw [if_neg hn]
        exact h1

theorem ts_at (t : Nat → ByteArray) (i : Nat) (hi : i ≤ 128) :
    Calm (ts t i) ∧ (ts t i).loose = els t i ∧ (∀ j, j < i → (t j).size ≤ 128 → (ts t i).is (2 * j) = t j) ∧ (∀ j, 2 * i ≤ j → (ts t i).is j = ByteArray.empty) ∧ (ts t i).many ≤ i := by
  induction i with
  | zero => exact ⟨Calm.new, rfl, fun _ h => by omega, fun _ _ => rfl, Nat.le_refl _⟩
  | succ i ih =>
    obtain ⟨h1, h2, h3, h4, h5⟩ := ih (by omega)
    have hm := many_write (ts t i) (2 * (i : Int)) (t i)
    refine ⟨h1.write _ _, ?_, ?_, ?_, by show ((ts t i).write (2 * (i : Int)) (t i)).many ≤ _; omega⟩
    · show ((ts t i).write (2 * (i : Int)) (t i)).loose = if (t i).size ≤ 128 then els t i ++ [(2 * i, ByteArray.empty)] else els t i
      by_cases hs : (t i).size ≤ 128
      · rw [if_pos hs, (h1.writes (bars_mk h1.on (by omega) (by omega) hs)).2]
        show (if was (ts t i).loose (2 * (i : Int)).toNat = none then (ts t i).loose ++ [((2 * (i : Int)).toNat, (ts t i).is (2 * (i : Int)).toNat)] else (ts t i).loose) = _
        rw [show (2 * (i : Int)).toNat = 2 * i by omega, h2, if_pos (els_was t i), h4 _ (Nat.le_refl _)]
      · rw [if_neg hs, (write_bars (by unfold St.bars; rw [reach_mk h1.on (by omega) (by omega), if_neg (by simp), if_pos (by omega)]; decide)).2]
        exact h2
    · intro j hj hs
      show ((ts t i).write (2 * (i : Int)) (t i)).is (2 * j) = t j
      by_cases hsi : (t i).size ≤ 128
      · rw [(h1.writes (bars_mk h1.on (by omega) (by omega) hsi)).2]
        show up (ts t i).is (2 * (i : Int)).toNat (t i) (2 * j) = t j
        rw [show (2 * (i : Int)).toNat = 2 * i by omega]
        by_cases e : j = i
        · subst e; exact up_same _ _ _
        · rw [up_other _ (by omega)]; exact h3 j (by omega) hs
      · rw [(write_bars (by unfold St.bars; rw [reach_mk h1.on (by omega) (by omega), if_neg (by simp), if_pos (by omega)]; decide)).2]
        exact h3 j (by rcases Nat.lt_or_ge j i with h | h; exact h; exact absurd (show (t i).size ≤ 128 by rw [show i = j by omega]; exact hs) hsi) hs
    · intro j hj
      show ((ts t i).write (2 * (i : Int)) (t i)).is j = _
      by_cases hsi : (t i).size ≤ 128
      · rw [(h1.writes (bars_mk h1.on (by omega) (by omega) hsi)).2]
        show up (ts t i).is (2 * (i : Int)).toNat (t i) j = _
        rw [show (2 * (i : Int)).toNat = 2 * i by omega, up_other _ (by omega)]
        exact h4 j (by omega)
      · rw [(write_bars (by unfold St.bars; rw [reach_mk h1.on (by omega) (by omega), if_neg (by simp), if_pos (by omega)]; decide)).2]
        exact h4 j (by omega)

/-- What a write answers. -/
theorem ts_says (t : Nat → ByteArray) {i : Nat} (hi : i < 128) : (ts t i).writeE (2 * (i : Int)) (t i) = if (t i).size ≤ 128 then 0 else 31 := by
  obtain ⟨h1, _⟩ := ts_at t i (by omega)
  by_cases hs : (t i).size ≤ 128
  · rw [if_pos hs]
    exact (h1.writes (bars_mk h1.on (by omega) (by omega) hs)).1
  · rw [if_neg hs]
    have hb : (ts t i).bars (2 * (i : Int)) (t i) = 31 := by unfold St.bars; rw [reach_mk h1.on (by omega) (by omega), if_neg (by simp), if_pos (by omega)]
    rw [(write_bars (by rw [hb]; decide)).1, hb]

/-- What is read behind it. -/
theorem ts_read (t : Nat → ByteArray) (keep : Nat) {n j : Nat} (hn : n ≤ 100) (hj : j < n) (hs : (t j).size ≤ 128) :
    ((ts t n).back keep).read (2 * (j : Int)) = (if bit keep (cnt t j) then t j else ByteArray.empty) ∧ ((ts t n).back keep).reach (2 * (j : Int)) = 0 := by
  obtain ⟨h1, h2, h3, _, _⟩ := ts_at t n (by omega)
  have hc := back_calm h1 keep
  have hr : ((ts t n).back keep).reach (2 * (j : Int)) = 0 := reach_mk hc.on (by omega) (by omega)
  refine ⟨?_, hr⟩
  unfold St.read
  rw [if_pos hr, show (2 * (j : Int)).toNat = 2 * j by omega, back_eq h1]
  show dieTo (ts t n).is keep (ts t n).loose (ts t n).loose.length (2 * j) = _
  obtain ⟨e1, e2⟩ := els_at hj hs
  have e3 := dieTo_at (ts t n).is keep (els_nodup t n) e1 (els t n).length
  rw [h2, e3, if_neg (by show ¬ (els t n).length ≤ cnt t j; unfold cnt at e2 ⊢; omega), h3 j hj hs]
theorem ts_end (t : Nat → ByteArray) (keep : Nat) {n : Nat} (hn : n ≤ 100) : ((ts t n).back keep).barrierE = 0 := (back_calm (ts_at t n (by omega)).1 keep).barrier.1

end Dk
end Go.Proofs.Ytfflopmbbmpeoaa
