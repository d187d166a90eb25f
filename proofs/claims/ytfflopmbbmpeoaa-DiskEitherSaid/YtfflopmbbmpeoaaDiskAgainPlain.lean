/- Plainly: a disk whose power came back is as one on which what is there was written, and lasts. -/
import Derived.Test.YtfflopmbbmpeoaaDiskLastsPlain
namespace Go.Proofs.Ytfflopmbbmpeoaa
namespace Dk

/-- There is nothing beyond the last sector. -/
def Far (st : St) : Prop := ∀ j, 256 ≤ j → st.is j = ByteArray.empty
theorem Far.new : Far St.new := fun _ _ => rfl
theorem Far.write {st : St} (h : Far st) (hc : Calm st) (i : Int) (s : ByteArray) : Far (st.write i s) := by
  by_cases hb : st.bars i s = 0
  · obtain ⟨_, h0, h1, _⟩ := bars_ok hb
    rw [(hc.writes hb).2]
    intro j hj
    show up st.is i.toNat s j = _
    rw [up_other _ (by omega)]
    exact h j hj
  · rw [(write_bars hb).2]; exact h
theorem Far.puts {st : St} (h : Far st) (hc : Calm st) (l : List Sp) : Far (st.puts l) := by
  induction l generalizing st with
  | nil => exact h
  | cons x l ih =>
    refine ih ?_ (hc.putStep x)
    unfold St.putStep
    split
    · exact h.write hc _ _
    · exact h

/-- Behind a power that went with a barrier, and came back. -/
def St.back (st : St) (keep : Nat) : St := (st.cut 1 keep).barrier.power
theorem back_eq {st : St} (h : Calm st) (keep : Nat) : st.back keep = { (st.cut 1 keep).tick.die with off := false, cuts := 0, fails := 0 } := by
  unfold St.back
  rw [(cut_barrier h keep).2]
  rfl
theorem back_far {st : St} (h : Calm st) (hi : Inv st) (hf : Far st) (keep : Nat) : Far (st.back keep) := by
  rw [back_eq h]
  intro j hj
  show dieTo st.is keep st.loose st.loose.length j = _
  rw [dieTo_other]
  · exact hf j hj
  · intro hm
    obtain ⟨p, hp, e⟩ := List.mem_map.1 hm
    have := (hi.keys p hp).1
    omega
theorem back_calm {st : St} (h : Calm st) (keep : Nat) : Calm (st.back keep) := by
  rw [back_eq h]
  exact ⟨rfl, rfl, rfl⟩
theorem back_many {st : St} (h : Calm st) (keep : Nat) : (st.back keep).many = st.many + 1 := by
  rw [back_eq h]
  rfl
theorem back_inv {st : St} (hi : Inv st) (keep : Nat) : Inv (st.back keep) := (hi.cut 1 keep).barrier.power

/-- A disk to which the texts f are written, one by one. -/
def again (f : Nat → ByteArray) : Nat → St
  | 0 => St.new
  | i + 1 => (again f i).write (i : Int) (f i)
theorem again_at {f : Nat → ByteArray} (hf : ∀ j, (f j).size ≤ 128) (i : Nat) (hi : i ≤ 256) :
    Calm (again f i) ∧ (∀ j, (again f i).is j = if j < i then f j else ByteArray.empty) ∧ (again f i).many = i := by
  induction i with
  | zero => exact ⟨Calm.new, fun j => by rw [if_neg (by omega)]; rfl, rfl⟩
  | succ i ih =>
    obtain ⟨h1, h2, h3⟩ := ih (by omega)
    have hb : (again f i).bars (i : Int) (f i) = 0 := bars_mk h1.on (by omega) (by omega) (hf i)
    have e : again f (i + 1) = (again f i).tick.put i (f i) := (h1.writes hb).2
    rw [e]
    refine ⟨h1.tick.put _ _, ?_, by show (again f i).many + 1 = i + 1; rw [h3]⟩
    intro j
    show up (again f i).is i (f i) j = _
    by_cases hj : j = i
    · subst hj
      rw [up_same, if_pos (by omega)]
    · rw [up_other _ hj, h2]
      by_cases h : j < i
      · rw [if_pos h, if_pos (by omega)]
      · rw [if_neg h, if_neg (by omega)]
theorem again_says {f : Nat → ByteArray} (hf : ∀ j, (f j).size ≤ 128) {i : Nat} (hi : i < 256) : (again f i).writeE (i : Int) (f i) = 0 := by
  obtain ⟨h1, _, _⟩ := again_at hf i (by omega)
  exact (h1.writes (bars_mk h1.on (by omega) (by omega) (hf i))).1

/-- The second disk, with as many calls as the first one. -/
def St.counted (st : St) (m : Nat) : St := { st with many := m }
theorem alike_again {st : St} (h : Calm st) (hi : Inv st) (hf : Far st) (keep : Nat) : Alike (st.back keep) ((again (st.back keep).is 256).barrier.counted (st.back keep).many) := by
  have hs : ∀ j, ((st.back keep).is j).size ≤ 128 := (back_inv hi keep).texts
  obtain ⟨h1, h2, h3⟩ := again_at hs 256 (Nat.le_refl _)
  have hc := back_calm h keep
  have hfar := back_far h hi hf keep
  generalize again (st.back keep).is 256 = sa at *
  rw [h1.barrier.2]
  refine ⟨?_, ?_, ?_, ?_, ?_, rfl, fun hn => absurd hc.cuts hn⟩
  · funext j
    show (st.back keep).is j = sa.is j
    rw [h2]
    by_cases hj : j < 256
    · rw [if_pos hj]
    · rw [if_neg hj]
      exact hfar j (by omega)
  · rw [back_eq h]; rfl
  · show (st.back keep).off = sa.off
    rw [hc.on, h1.on]
  · show (st.back keep).cuts = sa.cuts - 1
    rw [hc.cuts, h1.cuts]
  · show (st.back keep).fails = sa.fails - 1
    rw [hc.fails, h1.fails]

end Dk
end Go.Proofs.Ytfflopmbbmpeoaa
