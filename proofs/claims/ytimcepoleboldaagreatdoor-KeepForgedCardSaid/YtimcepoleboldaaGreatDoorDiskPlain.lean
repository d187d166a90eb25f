/- A disk, plainly: its sectors, the loose ones with what lasts of them, when the power goes, when a call fails. Nothing here speaks of a program. -/
namespace Go.Proofs.YtimcepoleboldaaGreatDoor
namespace Dk

/-- A disk. -/
structure St where
  is : Nat → ByteArray
  loose : List (Nat × ByteArray)
  off : Bool
  cuts : Nat
  keep : Nat
  fails : Nat
  many : Nat

def up (f : Nat → ByteArray) (i : Nat) (s : ByteArray) : Nat → ByteArray := fun j => if j = i then s else f j

theorem up_same (f : Nat → ByteArray) (i : Nat) (s : ByteArray) : up f i s i = s := if_pos rfl
theorem up_other (f : Nat → ByteArray) {i j : Nat} (h : j ≠ i) (s : ByteArray) : up f i s j = f j := if_neg h

/-- What lasts of a loose sector. -/
def was : List (Nat × ByteArray) → Nat → Option ByteArray
  | [], _ => none
  | p :: l, i => if p.1 = i then some p.2 else was l i

theorem was_none {l : List (Nat × ByteArray)} {i : Nat} : was l i = none ↔ i ∉ l.map (·.1) := by
  induction l with
  | nil => simp [was]
  | cons p l ih =>
    unfold was
    by_cases h : p.1 = i
    · simp [h]
    · simp only [if_neg h, ih, List.map_cons, List.mem_cons, not_or]
      exact ⟨fun k => ⟨fun e => h e.symm, k⟩, fun k => k.2⟩

theorem was_append {l : List (Nat × ByteArray)} {i : Nat} {s : ByteArray} (h : was l i = none) (j : Nat) : was (l ++ [(i, s)]) j = if i = j then some s else was l j := by
  induction l with
  | nil => simp [was]
  | cons p l ih =>
    unfold was at h
    by_cases hp : p.1 = i
    · rw [if_pos hp] at h; cases h
    · rw [if_neg hp] at h
      show (if p.1 = j then some p.2 else was (l ++ [(i, s)]) j) = if i = j then some s else if p.1 = j then some p.2 else was l j
      rw [ih h]
      by_cases h1 : p.1 = j
      · rw [if_pos h1, if_neg (by omega), if_pos h1]
      · rw [if_neg h1, if_neg h1]

theorem was_at {l : List (Nat × ByteArray)} (h : (l.map (·.1)).Nodup) {k : Nat} {p : Nat × ByteArray} (hk : l[k]? = some p) : was l p.1 = some p.2 := by
  induction l generalizing k with
  | nil => simp at hk
  | cons q l ih =>
    rw [List.map_cons, List.nodup_cons] at h
    cases k with
    | zero =>
      simp at hk
      subst hk
      exact if_pos rfl
    | succ k =>
      simp at hk
      have hm : p.1 ∈ l.map (·.1) := List.mem_map.2 ⟨p, List.mem_of_getElem? hk, rfl⟩
      unfold was
      rw [if_neg (fun e : q.1 = p.1 => h.1 (by rw [e]; exact hm))]
      exact ih h.2 hk

/-- What is left of the loose ones behind k that were fastened. -/
theorem was_drop {l : List (Nat × ByteArray)} (h : (l.map (·.1)).Nodup) {k : Nat} {p : Nat × ByteArray} (hk : l[k]? = some p) (j : Nat) : was (l.drop (k + 1)) j = if p.1 = j then none else was (l.drop k) j := by
  induction l generalizing k with
  | nil => simp at hk
  | cons q l ih =>
    rw [List.map_cons, List.nodup_cons] at h
    cases k with
    | zero =>
      simp at hk
      subst hk
      by_cases e : q.1 = j
      · rw [if_pos e]
        exact was_none.2 (by simpa [e] using h.1)
      · rw [if_neg e]
        show was l j = was (q :: l) j
        exact (if_neg e).symm
    | succ k =>
      simp at hk
      simpa using ih h.2 hk

/-- Is the k-th loose sector kept? -/
def bit (keep k : Nat) : Bool := decide (keep / 2 ^ (k % 64) % 2 = 1)

/-- The sectors, when the first k loose ones have been gone through. -/
def dieTo (is : Nat → ByteArray) (keep : Nat) (l : List (Nat × ByteArray)) : Nat → Nat → ByteArray
  | 0 => is
  | k + 1 => match l[k]? with
    | some p => if bit keep k then dieTo is keep l k else up (dieTo is keep l k) p.1 p.2
    | none => dieTo is keep l k

theorem dieTo_keep {is : Nat → ByteArray} {keep k : Nat} {l : List (Nat × ByteArray)} (h : bit keep k = true) : dieTo is keep l (k + 1) = dieTo is keep l k := by
  show (match l[k]? with | some p => if bit keep k then dieTo is keep l k else up (dieTo is keep l k) p.1 p.2 | none => dieTo is keep l k) = _
  rw [h]
  split <;> simp
theorem dieTo_back {is : Nat → ByteArray} {keep k : Nat} {l : List (Nat × ByteArray)} {p : Nat × ByteArray} (hk : l[k]? = some p) (h : bit keep k = false) : dieTo is keep l (k + 1) = up (dieTo is keep l k) p.1 p.2 := by
  show (match l[k]? with | some p => if bit keep k then dieTo is keep l k else up (dieTo is keep l k) p.1 p.2 | none => dieTo is keep l k) = _
  rw [hk, h]
  simp

/-- What is not loose stays. -/
theorem dieTo_other (is : Nat → ByteArray) (keep : Nat) (l : List (Nat × ByteArray)) {j : Nat} (h : j ∉ l.map (·.1)) (k : Nat) : dieTo is keep l k j = is j := by
  induction k with
  | zero => rfl
  | succ k ih =>
    cases hk : l[k]? with
    | none =>
      show (match l[k]? with | some p => if bit keep k then dieTo is keep l k else up (dieTo is keep l k) p.1 p.2 | none => dieTo is keep l k) j = _
      rw [hk]; exact ih
    | some p =>
      have hne : j ≠ p.1 := fun e : j = p.1 => h (by rw [e]; exact List.mem_map.2 ⟨p, List.mem_of_getElem? hk, rfl⟩)
      cases hb : bit keep k with
      | true => rw [dieTo_keep hb]; exact ih
      | false => rw [dieTo_back hk hb, up_other _ hne]; exact ih

/-- What comes of the k-th loose sector. -/
theorem dieTo_at (is : Nat → ByteArray) (keep : Nat) {l : List (Nat × ByteArray)} (hl : (l.map (·.1)).Nodup) {k : Nat} {p : Nat × ByteArray} (hk : l[k]? = some p) (n : Nat) :
    dieTo is keep l n p.1 = if n ≤ k then is p.1 else if bit keep k then is p.1 else p.2 := by
  induction n with
  | zero => rw [if_pos (Nat.zero_le _)]; rfl
  | succ n ih =>
    by_cases hn : n = k
    · subst hn
      rw [if_pos (Nat.le_refl _)] at ih
      rw [if_neg (by omega)]
      cases hb : bit keep n with
      | true => rw [dieTo_keep hb, ih]; simp
      | false => rw [dieTo_back hk hb, up_same]; simp
    · have e : (if n + 1 ≤ k then is p.1 else if bit keep k then is p.1 else p.2) = if n ≤ k then is p.1 else if bit keep k then is p.1 else p.2 := by
        by_cases h1 : n ≤ k
        · rw [if_pos h1, if_pos (by omega)]
        · rw [if_neg h1, if_neg (by omega)]
      rw [e, ← ih]
      cases hq : l[n]? with
      | none =>
        show (match l[n]? with | some p => if bit keep n then dieTo is keep l n else up (dieTo is keep l n) p.1 p.2 | none => dieTo is keep l n) p.1 = _
        rw [hq]
      | some q =>
        have hne : p.1 ≠ q.1 := by
          intro e
          apply hn
          have h1 : (l.map (·.1))[n]? = some p.1 := by simp [hq, e]
          have h2 : (l.map (·.1))[k]? = some p.1 := by simp [hk]
          have hlt : n < (l.map (·.1)).length := (List.getElem?_eq_some_iff.1 h1).1
          exact (List.getElem?_inj hlt hl).1 (h1.trans h2.symm)
        cases hb : bit keep n with
        | true => rw [dieTo_keep hb]
        | false => rw [dieTo_back hq hb, up_other _ hne]

/-! ### The calls -/

def St.new : St := ⟨fun _ => ByteArray.empty, [], false, 0, 0, 0, 0⟩
def St.tick (st : St) : St := { st with cuts := st.cuts - 1, fails := st.fails - 1, many := st.many + 1 }
def St.put (st : St) (i : Nat) (s : ByteArray) : St := { st with is := up st.is i s, loose := if was st.loose i = none then st.loose ++ [(i, st.is i)] else st.loose }
def St.die (st : St) : St := { st with is := dieTo st.is st.keep st.loose st.loose.length, loose := [], off := true }
def St.fasten (st : St) : St := { st with loose := [] }
def St.cut (st : St) (n : Int) (keep : Nat) : St := { st with cuts := n.toNat, keep := keep }
def St.fail (st : St) (n : Int) : St := { st with fails := n.toNat }
def St.power (st : St) : St := if st.off then { st with off := false, cuts := 0, fails := 0 } else st
/-- What a call comes to: 33 the power goes, 32 it fails. -/
def St.due (st : St) : Int := if st.cuts = 1 then 33 else if st.fails = 1 then 32 else 0
def St.reach (st : St) (i : Int) : Int := if st.off then 33 else if i < 0 ∨ 256 ≤ i then 30 else 0
/-- Write's error ahead of its call. -/
def St.bars (st : St) (i : Int) (s : ByteArray) : Int := if st.reach i ≠ 0 then st.reach i else if 128 < s.size then 31 else 0
def St.write (st : St) (i : Int) (s : ByteArray) : St :=
  if st.bars i s ≠ 0 then st else if st.due = 33 then (st.tick.put i.toNat s).die else if st.due = 32 then st.tick else st.tick.put i.toNat s
def St.writeE (st : St) (i : Int) (s : ByteArray) : Int := if st.bars i s ≠ 0 then st.bars i s else st.due
def St.barrier (st : St) : St := if st.off then st else if st.due = 33 then st.tick.die else if st.due = 32 then st.tick else st.tick.fasten
def St.barrierE (st : St) : Int := if st.off then 33 else st.due
def St.read (st : St) (i : Int) : ByteArray := if st.reach i = 0 then st.is i.toNat else ByteArray.empty

/-- What holds of each disk. -/
structure Inv (st : St) : Prop where
  nodup : (st.loose.map (·.1)).Nodup
  keys : ∀ p ∈ st.loose, p.1 < 256 ∧ p.2.size ≤ 128
  texts : ∀ i, (st.is i).size ≤ 128
  few : st.loose.length ≤ st.many

theorem Inv.new : Inv St.new := ⟨List.nodup_nil, fun _ h => by simp [St.new] at h, fun _ => by simp [St.new], Nat.zero_le _⟩
theorem Inv.tick {st : St} (h : Inv st) : Inv st.tick := ⟨h.nodup, h.keys, h.texts, Nat.le_succ_of_le h.few⟩
theorem Inv.cut {st : St} (h : Inv st) (n : Int) (k : Nat) : Inv (st.cut n k) := ⟨h.nodup, h.keys, h.texts, h.few⟩
theorem Inv.fail {st : St} (h : Inv st) (n : Int) : Inv (st.fail n) := ⟨h.nodup, h.keys, h.texts, h.few⟩
theorem Inv.power {st : St} (h : Inv st) : Inv st.power := by
  unfold St.power
  split
  · exact ⟨h.nodup, h.keys, h.texts, h.few⟩
  · exact h
theorem Inv.fasten {st : St} (h : Inv st) : Inv st.fasten := ⟨List.nodup_nil, fun _ h => by simp [St.fasten] at h, h.texts, Nat.zero_le _⟩
theorem Inv.put {st : St} (h : Inv st) (hf : st.loose.length < st.many) {i : Nat} (hi : i < 256) {s : ByteArray} (hs : s.size ≤ 128) : Inv (st.put i s) := by
  refine ⟨?_, ?_, ?_, ?_⟩
  · show ((if was st.loose i = none then st.loose ++ [(i, st.is i)] else st.loose).map (·.1)).Nodup
    split
    · rename_i hw
      have hn := was_none.1 hw
      rw [List.map_append, List.nodup_append]
      refine ⟨h.nodup, by simp, ?_⟩
      intro a ha b hb e
      simp at hb
      exact hn (by rw [← hb, ← e]; exact ha)
    · exact h.nodup
  · intro p hp
    change p ∈ (if was st.loose i = none then st.loose ++ [(i, st.is i)] else st.loose) at hp
    split at hp
    · rcases List.mem_append.1 hp with hp | hp
      · exact h.keys p hp
      · simp at hp
        subst hp
        exact ⟨hi, h.texts i⟩
    · exact h.keys p hp
  · intro j
    show (up st.is i s j).size ≤ 128
    unfold up
    split
    · exact hs
    · exact h.texts j
  · show (if was st.loose i = none then st.loose ++ [(i, st.is i)] else st.loose).length ≤ st.many
    split
    · rw [List.length_append]; exact hf
    · exact Nat.le_of_lt hf
theorem dieTo_size {st : St} (h : Inv st) (k j : Nat) : (dieTo st.is st.keep st.loose k j).size ≤ 128 := by
  induction k generalizing j with
  | zero => exact h.texts j
  | succ k ih =>
    cases hk : st.loose[k]? with
    | none =>
      show ((match st.loose[k]? with | some p => if bit st.keep k then dieTo st.is st.keep st.loose k else up (dieTo st.is st.keep st.loose k) p.1 p.2 | none => dieTo st.is st.keep st.loose k) j).size ≤ 128
      rw [hk]; exact ih j
    | some p =>
      cases hb : bit st.keep k with
      | true => rw [dieTo_keep hb]; exact ih j
      | false =>
        rw [dieTo_back hk hb]
        unfold up
        split
        · exact (h.keys p (List.mem_of_getElem? hk)).2
        · exact ih j
theorem Inv.die {st : St} (h : Inv st) : Inv st.die := ⟨List.nodup_nil, fun _ h => by simp [St.die] at h, fun j => dieTo_size h _ j, Nat.zero_le _⟩

theorem reach_ok {st : St} {i : Int} (h : st.reach i = 0) : st.off = false ∧ 0 ≤ i ∧ i < 256 := by
  unfold St.reach at h
  split at h
  · cases h
  · split at h
    · cases h
    · rename_i h1 h2
      exact ⟨by simpa using h1, by omega, by omega⟩
theorem reach_mk {st : St} {i : Int} (h : st.off = false) (h0 : 0 ≤ i) (h1 : i < 256) : st.reach i = 0 := by
  unfold St.reach
  rw [if_neg (by simp [h]), if_neg (by omega)]
theorem bars_ok {st : St} {i : Int} {s : ByteArray} (h : st.bars i s = 0) : st.off = false ∧ 0 ≤ i ∧ i < 256 ∧ s.size ≤ 128 := by
  unfold St.bars at h
  split at h
  · rename_i h1; exact absurd h h1
  · rename_i h1
    split at h
    · cases h
    · have := reach_ok (st := st) (i := i) (by simpa using h1)
      exact ⟨this.1, this.2.1, this.2.2, by omega⟩
theorem bars_mk {st : St} {i : Int} {s : ByteArray} (h : st.off = false) (h0 : 0 ≤ i) (h1 : i < 256) (h2 : s.size ≤ 128) : st.bars i s = 0 := by
  unfold St.bars
  rw [reach_mk h h0 h1, if_neg (by simp), if_neg (by omega)]

theorem Inv.write {st : St} (h : Inv st) (i : Int) (s : ByteArray) : Inv (st.write i s) := by
  unfold St.write
  split
  · exact h
  · rename_i hb
    obtain ⟨_, h0, h1, h2⟩ := bars_ok (st := st) (i := i) (s := s) (by simpa using hb)
    have hp : Inv (st.tick.put i.toNat s) := h.tick.put (by show st.loose.length < st.many + 1; have := h.few; omega) (by omega) h2
    split
    · exact hp.die
    · split
      · exact h.tick
      · exact hp
theorem Inv.barrier {st : St} (h : Inv st) : Inv st.barrier := by
  unfold St.barrier
  split
  · exact h
  · split
    · exact h.tick.die
    · split
      · exact h.tick
      · exact h.tick.fasten

theorem many_write (st : St) (i : Int) (s : ByteArray) : (st.write i s).many ≤ st.many + 1 := by
  unfold St.write
  split
  · omega
  · split
    · exact Nat.le_refl _
    · split <;> exact Nat.le_refl _
theorem many_barrier (st : St) : st.barrier.many ≤ st.many + 1 := by
  unfold St.barrier
  split
  · omega
  · split
    · exact Nat.le_refl _
    · split <;> exact Nat.le_refl _
theorem many_power (st : St) : st.power.many = st.many := by
  unfold St.power
  split <;> rfl

/-! ### Disks that tell the same: what the next Cut will set anew does not matter -/
structure Alike (a b : St) : Prop where
  is : a.is = b.is
  loose : a.loose = b.loose
  off : a.off = b.off
  cuts : a.cuts = b.cuts
  fails : a.fails = b.fails
  many : a.many = b.many
  keep : a.cuts ≠ 0 → a.keep = b.keep

theorem Alike.refl (a : St) : Alike a a := ⟨rfl, rfl, rfl, rfl, rfl, rfl, fun _ => rfl⟩
theorem Alike.tick {a b : St} (h : Alike a b) : Alike a.tick b.tick :=
  ⟨h.is, h.loose, h.off, by show a.cuts - 1 = b.cuts - 1; rw [h.cuts], by show a.fails - 1 = b.fails - 1; rw [h.fails], by show a.many + 1 = b.many + 1; rw [h.many], fun hc => h.keep (fun e => hc (by show a.cuts - 1 = 0; rw [e]))⟩
theorem Alike.put {a b : St} (h : Alike a b) (i : Nat) (s : ByteArray) : Alike (a.put i s) (b.put i s) :=
  ⟨by show up a.is i s = up b.is i s; rw [h.is], by show (if was a.loose i = none then a.loose ++ [(i, a.is i)] else a.loose) = (if was b.loose i = none then b.loose ++ [(i, b.is i)] else b.loose); rw [h.loose, h.is], h.off, h.cuts, h.fails, h.many, h.keep⟩
theorem Alike.die {a b : St} (h : Alike a b) (hk : a.keep = b.keep) : Alike a.die b.die :=
  ⟨by show dieTo a.is a.keep a.loose a.loose.length = dieTo b.is b.keep b.loose b.loose.length; rw [h.is, hk, h.loose], rfl, rfl, h.cuts, h.fails, h.many, fun _ => hk⟩
theorem Alike.fasten {a b : St} (h : Alike a b) : Alike a.fasten b.fasten := ⟨h.is, rfl, h.off, h.cuts, h.fails, h.many, h.keep⟩
theorem Alike.cut {a b : St} (h : Alike a b) (n : Int) (k : Nat) : Alike (a.cut n k) (b.cut n k) := ⟨h.is, h.loose, h.off, rfl, h.fails, h.many, fun _ => rfl⟩
theorem Alike.fail {a b : St} (h : Alike a b) (n : Int) : Alike (a.fail n) (b.fail n) := ⟨h.is, h.loose, h.off, h.cuts, rfl, h.many, h.keep⟩
theorem Alike.power {a b : St} (h : Alike a b) : Alike a.power b.power := by
  unfold St.power
  rw [← h.off]
  split
  · exact ⟨h.is, h.loose, rfl, rfl, rfl, h.many, fun hc => absurd rfl hc⟩
  · exact h
theorem Alike.due {a b : St} (h : Alike a b) : a.due = b.due := by unfold St.due; rw [h.cuts, h.fails]
theorem Alike.reach {a b : St} (h : Alike a b) (i : Int) : a.reach i = b.reach i := by unfold St.reach; rw [h.off]
theorem Alike.bars {a b : St} (h : Alike a b) (i : Int) (s : ByteArray) : a.bars i s = b.bars i s := by unfold St.bars; rw [h.reach]
theorem due_cut {st : St} (h : st.due = 33) : st.cuts = 1 := by
  unfold St.due at h
  split at h
  · assumption
  · split at h <;> cases h
theorem due_fail {st : St} (h : st.due = 32) : st.cuts ≠ 1 ∧ st.fails = 1 := by
  unfold St.due at h
  split at h
  · cases h
  · split at h
    · exact ⟨by assumption, by assumption⟩
    · cases h
theorem due_ok {st : St} (h1 : st.due ≠ 33) (h2 : st.due ≠ 32) : st.due = 0 ∧ st.cuts ≠ 1 ∧ st.fails ≠ 1 := by
  unfold St.due at *
  split at h1
  · exact absurd rfl h1
  · rename_i hc
    rw [if_neg hc] at h2
    split at h2
    · exact absurd rfl h2
    · rename_i hf
      exact ⟨by rw [if_neg hc, if_neg hf], hc, hf⟩
theorem Alike.write {a b : St} (h : Alike a b) (i : Int) (s : ByteArray) : Alike (a.write i s) (b.write i s) := by
  unfold St.write
  rw [h.bars, h.due]
  split
  · exact h
  · split
    · rename_i hd
      exact (h.tick.put _ _).die (h.keep (by rw [h.cuts, due_cut hd]; decide))
    · split
      · exact h.tick
      · exact h.tick.put _ _
theorem Alike.barrier {a b : St} (h : Alike a b) : Alike a.barrier b.barrier := by
  unfold St.barrier
  rw [h.off, h.due]
  split
  · exact h
  · split
    · rename_i hd
      exact h.tick.die (h.keep (by rw [h.cuts, due_cut hd]; decide))
    · split
      · exact h.tick
      · exact h.tick.fasten
theorem Alike.writeE {a b : St} (h : Alike a b) (i : Int) (s : ByteArray) : a.writeE i s = b.writeE i s := by unfold St.writeE; rw [h.bars, h.due]
theorem Alike.barrierE {a b : St} (h : Alike a b) : a.barrierE = b.barrierE := by unfold St.barrierE; rw [h.off, h.due]
theorem Alike.read {a b : St} (h : Alike a b) (i : Int) : a.read i = b.read i := by unfold St.read; rw [h.reach, h.is]

end Dk
end Go.Proofs.YtimcepoleboldaaGreatDoor
