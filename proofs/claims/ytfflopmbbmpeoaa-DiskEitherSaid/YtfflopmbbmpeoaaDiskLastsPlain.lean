/- Plainly: a disk on which nothing is to go wrong is written to; what was not written behind a barrier stays. -/
import Derived.Test.YtfflopmbbmpeoaaDiskScriptWalk
namespace Go.Proofs.Ytfflopmbbmpeoaa
namespace Dk

/-- Only what is written. -/
def St.putStep (st : St) (x : Sp) : St := if x.k = 0 then st.write x.n x.s else st
def St.puts (st : St) (l : List Sp) : St := l.foldl St.putStep st
theorem puts_up (st : St) {l : List Sp} {k : Nat} {x : Sp} (h : l[k]? = some x) : st.puts (l.take (k + 1)) = (st.puts (l.take k)).putStep x := by
  unfold St.puts
  rw [take_one h, List.foldl_append]
  rfl
theorem many_putStep (st : St) (x : Sp) : (st.putStep x).many ≤ st.many + 1 := by
  unfold St.putStep
  split
  · exact many_write _ _ _
  · exact Nat.le_succ _
theorem puts_many (st : St) (l : List Sp) : (st.puts l).many ≤ st.many + l.length := by
  induction l generalizing st with
  | nil => exact Nat.le_refl _
  | cons x l ih =>
    have h1 := ih (st.putStep x)
    have h2 := many_putStep st x
    show ((st.putStep x).puts l).many ≤ st.many + (l.length + 1)
    omega
theorem puts_few (st : St) {l : List Sp} (hl : l.length ≤ 200) (hs : st.many ≤ 1000) (k : Nat) : (st.puts (l.take k)).many ≤ 1000000 ∧ (st.puts (l.take k)).many ≤ 2000 := by
  have h1 := puts_many st (l.take k)
  have h2 : (l.take k).length ≤ l.length := by rw [List.length_take]; omega
  omega
theorem putStep_zero {st : St} {x : Sp} (h : x.k = 0) : st.putStep x = st.write x.n x.s := if_pos h
theorem putStep_else {st : St} {x : Sp} (h : ¬ x.k = 0) : st.putStep x = st := if_neg h

/-- The power is on, and nothing is to go wrong. -/
structure Calm (st : St) : Prop where
  on : st.off = false
  cuts : st.cuts = 0
  fails : st.fails = 0
theorem Calm.due {st : St} (h : Calm st) : st.due = 0 := by
  unfold St.due
  rw [if_neg (by rw [h.cuts]; decide), if_neg (by rw [h.fails]; decide)]
theorem Calm.new : Calm St.new := ⟨rfl, rfl, rfl⟩
theorem Calm.tick {st : St} (h : Calm st) : Calm st.tick := ⟨h.on, by show st.cuts - 1 = 0; rw [h.cuts], by show st.fails - 1 = 0; rw [h.fails]⟩
theorem Calm.put {st : St} (h : Calm st) (i : Nat) (s : ByteArray) : Calm (st.put i s) := ⟨h.on, h.cuts, h.fails⟩
theorem Calm.fasten {st : St} (h : Calm st) : Calm st.fasten := ⟨h.on, h.cuts, h.fails⟩
theorem Calm.writes {st : St} (h : Calm st) {i : Int} {s : ByteArray} (hb : st.bars i s = 0) : st.writeE i s = 0 ∧ st.write i s = st.tick.put i.toNat s := write_ok hb h.due
theorem Calm.write {st : St} (h : Calm st) (i : Int) (s : ByteArray) : Calm (st.write i s) := by
  by_cases hb : st.bars i s = 0
  · rw [(h.writes hb).2]; exact h.tick.put _ _
  · rw [(write_bars hb).2]; exact h
theorem Calm.barrier {st : St} (h : Calm st) : st.barrierE = 0 ∧ st.barrier = st.tick.fasten := barrier_ok h.on h.due
theorem Calm.putStep {st : St} (h : Calm st) (x : Sp) : Calm (st.putStep x) := by
  unfold St.putStep
  split
  · exact h.write _ _
  · exact h
theorem Calm.puts {st : St} (h : Calm st) (l : List Sp) : Calm (st.puts l) := by
  induction l generalizing st with
  | nil => exact h
  | cons x l ih => exact ih (h.putStep x)

/-- Which sectors were written behind the barrier: what is loose is among them, all else is as f says. -/
structure Held (f : Nat → ByteArray) (ch : Nat → Bool) (st : St) : Prop where
  calm : Calm st
  loose : ∀ p ∈ st.loose, ch p.1 = true
  rest : ∀ j, ch j = false → st.is j = f j

def mark (ch : Nat → Bool) (i : Nat) : Nat → Bool := fun j => if j = i then true else ch j
theorem mark_false {ch : Nat → Bool} {i j : Nat} (h : mark ch i j = false) : j ≠ i ∧ ch j = false := by
  unfold mark at h
  split at h
  · cases h
  · exact ⟨by assumption, h⟩
theorem mark_true {ch : Nat → Bool} {i j : Nat} (h : ch j = true) : mark ch i j = true := by
  unfold mark
  split
  · rfl
  · exact h

theorem Held.start {st : St} (h : Calm st) : Held st.is (fun _ => false) st.barrier := by
  rw [h.barrier.2]
  exact ⟨h.tick.fasten, fun p hp => by simp [St.fasten] at hp, fun _ _ => rfl⟩
theorem Held.write {f : Nat → ByteArray} {ch : Nat → Bool} {st : St} (h : Held f ch st) {i : Int} {s : ByteArray} (hb : st.bars i s = 0) : Held f (mark ch i.toNat) (st.write i s) := by
  rw [(h.calm.writes hb).2]
  refine ⟨h.calm.tick.put _ _, ?_, ?_⟩
  · intro p hp
    change p ∈ (if was st.loose i.toNat = none then st.loose ++ [(i.toNat, st.is i.toNat)] else st.loose) at hp
    split at hp
    · rcases List.mem_append.1 hp with hp | hp
      · exact mark_true (h.loose p hp)
      · simp at hp
        subst hp
        unfold mark
        exact if_pos rfl
    · exact mark_true (h.loose p hp)
  · intro j hj
    obtain ⟨h1, h2⟩ := mark_false hj
    show up st.is i.toNat s j = f j
    rw [up_other _ h1]
    exact h.rest j h2
/-- The power goes with the next barrier, and comes back. -/
theorem cut_barrier {st : St} (h : Calm st) (keep : Nat) : (st.cut 1 keep).barrierE = 33 ∧ (st.cut 1 keep).barrier = (st.cut 1 keep).tick.die := barrier_cut h.on rfl
theorem Held.ends {f : Nat → ByteArray} {ch : Nat → Bool} {st : St} (h : Held f ch st) (keep : Nat) {j : Nat} (hj : ch j = false) (h256 : j < 256) :
    ((st.cut 1 keep).barrier.power).read (j : Int) = f j := by
  have e : (st.cut 1 keep).barrier.power = { (st.cut 1 keep).tick.die with off := false, cuts := 0, fails := 0 } := by
    rw [(cut_barrier h.calm keep).2]
    rfl
  rw [e]
  unfold St.read
  rw [reach_mk rfl (by omega) (by omega), if_pos rfl]
  show dieTo st.is keep st.loose st.loose.length (j : Int).toNat = f j
  rw [Int.toNat_natCast, dieTo_other]
  · exact h.rest j hj
  · intro hm
    obtain ⟨p, hp, e2⟩ := List.mem_map.1 hm
    have := h.loose p hp
    rw [e2, hj] at this
    cases this

end Dk
end Go.Proofs.Ytfflopmbbmpeoaa
