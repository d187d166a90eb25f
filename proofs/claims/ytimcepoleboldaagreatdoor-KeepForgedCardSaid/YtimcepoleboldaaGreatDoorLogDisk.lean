/- Plain mathematics of layer 5, third part: what opening, appending and renewing do to a disk, call by call, and what is told then. It speaks of no program. -/
import Derived.Test.YtimcepoleboldaaGreatDoorLogGood
namespace Go.Proofs.YtimcepoleboldaaGreatDoor.Lg
open Cn Dk

/-! ### Writes, one behind the other -/

/-- The first error ends them. -/
def wr : St → List (Nat × ByteArray) → Int × St
  | st, [] => (0, st)
  | st, p :: l => if st.writeE (p.1 : Int) p.2 = 0 then wr (st.write (p.1 : Int) p.2) l else (st.writeE (p.1 : Int) p.2, st.write (p.1 : Int) p.2)

/-- Writes, and a barrier behind them. -/
def wrb (st : St) (l : List (Nat × ByteArray)) : Int × St := if (wr st l).1 = 0 then ((wr st l).2.barrierE, (wr st l).2.barrier) else wr st l

def fold (f : Nat → ByteArray) (l : List (Nat × ByteArray)) : Nat → ByteArray := l.foldl (fun g p => up g p.1 p.2) f

theorem fold_cons (f : Nat → ByteArray) (p : Nat × ByteArray) (l : List (Nat × ByteArray)) : fold f (p :: l) = fold (up f p.1 p.2) l := rfl

theorem fold_out : ∀ (l : List (Nat × ByteArray)) (f : Nat → ByteArray) (j : Nat), j ∉ l.map (·.1) → fold f l j = f j := by
  intro l
  induction l with
  | nil => intro f j _; rfl
  | cons p l ih =>
    intro f j h
    rw [List.map_cons, List.mem_cons, not_or] at h
    rw [fold_cons, ih _ j h.2, up_other _ h.1]

theorem fold_in : ∀ (l : List (Nat × ByteArray)) (f : Nat → ByteArray), (l.map (·.1)).Nodup → ∀ p ∈ l, fold f l p.1 = p.2 := by
  intro l
  induction l with
  | nil => intro f _ p hp; cases hp
  | cons q l ih =>
    intro f hn p hp
    rw [List.map_cons, List.nodup_cons] at hn
    rw [fold_cons]
    rcases List.mem_cons.1 hp with rfl | hp
    · rw [fold_out l _ _ hn.1, up_same]
    · exact ih _ hn.2 p hp

/-- The power is on; what is loose was as in f, and is as l says. -/
structure Track (f : Nat → ByteArray) (l : List (Nat × ByteArray)) (st : St) : Prop where
  on : st.off = false
  calm : st.fails = 0
  nodup : (st.loose.map (·.1)).Nodup
  firm : ∀ j, was st.loose j = none → st.is j = f j
  loose : ∀ j v, was st.loose j = some v → v = f j ∧ ∃ s, (j, s) ∈ l ∧ st.is j = s

/-- The power is off; each sector is as in f, or as l says. -/
structure Gone (f : Nat → ByteArray) (l : List (Nat × ByteArray)) (st : St) : Prop where
  off : st.off = true
  calm : st.fails = 0
  loose : st.loose = []
  mix : ∀ j, st.is j = f j ∨ ∃ s, (j, s) ∈ l ∧ st.is j = s

theorem Track.tick {f : Nat → ByteArray} {l : List (Nat × ByteArray)} {st : St} (h : Track f l st) : Track f l st.tick :=
  ⟨h.on, by show st.fails - 1 = 0; rw [h.calm], h.nodup, h.firm, h.loose⟩

theorem Track.put {f : Nat → ByteArray} {l : List (Nat × ByteArray)} {st : St} (h : Track f l st) (i : Nat) (s : ByteArray) : Track f (l ++ [(i, s)]) (st.put i s) := by
  refine ⟨h.on, h.calm, ?_, fun j hj => ?_, fun j v hj => ?_⟩
  · show ((if was st.loose i = none then st.loose ++ [(i, st.is i)] else st.loose).map (·.1)).Nodup
    split
    · rename_i hw
      have hn := was_none.1 hw
      rw [List.map_append, List.nodup_append]
      refine ⟨h.nodup, by simp, ?_⟩
      intro a ha b hb e
      simp at hb
      exact hn (by rw [← hb, ← e]; exact ha)
    · exact h.nodup
  · change was (if was st.loose i = none then st.loose ++ [(i, st.is i)] else st.loose) j = none at hj
    show up st.is i s j = f j
    by_cases hw : was st.loose i = none
    · rw [if_pos hw, was_append hw] at hj
      by_cases e : i = j
      · rw [if_pos e] at hj; cases hj
      · rw [if_neg e] at hj
        rw [up_other _ (fun e2 => e e2.symm)]
        exact h.firm j hj
    · rw [if_neg hw] at hj
      have hne : j ≠ i := fun e => hw (by rw [← e]; exact hj)
      rw [up_other _ hne]
      exact h.firm j hj
  · change was (if was st.loose i = none then st.loose ++ [(i, st.is i)] else st.loose) j = some v at hj
    show v = f j ∧ ∃ u, (j, u) ∈ l ++ [(i, s)] ∧ up st.is i s j = u
    by_cases hw : was st.loose i = none
    · rw [if_pos hw, was_append hw] at hj
      by_cases e : i = j
      · rw [if_pos e] at hj
        injection hj with hj
        subst e
        exact ⟨by rw [← hj]; exact h.firm i hw, s, by simp, up_same _ _ _⟩
      · rw [if_neg e] at hj
        obtain ⟨h1, u, h2, h3⟩ := h.loose j v hj
        exact ⟨h1, u, List.mem_append_left _ h2, by rw [up_other _ (fun e2 => e e2.symm)]; exact h3⟩
    · rw [if_neg hw] at hj
      obtain ⟨h1, u, h2, h3⟩ := h.loose j v hj
      by_cases e : j = i
      · subst e
        exact ⟨h1, s, by simp, up_same _ _ _⟩
      · exact ⟨h1, u, List.mem_append_left _ h2, by rw [up_other _ e]; exact h3⟩

theorem Track.more {f : Nat → ByteArray} {l m : List (Nat × ByteArray)} {st : St} (h : Track f l st) (hm : ∀ p ∈ l, p ∈ m) : Track f m st :=
  ⟨h.on, h.calm, h.nodup, h.firm, fun j v hj => by obtain ⟨h1, s, h2, h3⟩ := h.loose j v hj; exact ⟨h1, s, hm _ h2, h3⟩⟩
theorem Gone.more {f : Nat → ByteArray} {l m : List (Nat × ByteArray)} {st : St} (h : Gone f l st) (hm : ∀ p ∈ l, p ∈ m) : Gone f m st :=
  ⟨h.off, h.calm, h.loose, fun j => (h.mix j).imp id fun ⟨s, h2, h3⟩ => ⟨s, hm _ h2, h3⟩⟩

theorem was_mem {l : List (Nat × ByteArray)} {j : Nat} (h : j ∈ l.map (·.1)) : ∃ (k : Nat) (v : ByteArray), l[k]? = some (j, v) := by
  obtain ⟨p, hp, rfl⟩ := List.mem_map.1 h
  obtain ⟨k, hk, e⟩ := List.getElem_of_mem hp
  exact ⟨k, p.2, by rw [List.getElem?_eq_getElem hk, e]⟩

theorem Track.die {f : Nat → ByteArray} {l : List (Nat × ByteArray)} {st : St} (h : Track f l st) : Gone f l st.die := by
  refine ⟨rfl, h.calm, rfl, fun j => ?_⟩
  show dieTo st.is st.keep st.loose st.loose.length j = f j ∨ ∃ s, (j, s) ∈ l ∧ dieTo st.is st.keep st.loose st.loose.length j = s
  by_cases hj : j ∈ st.loose.map (·.1)
  · obtain ⟨k, v, hk⟩ := was_mem hj
    have hw := was_at h.nodup hk
    obtain ⟨h1, s, h2, h3⟩ := h.loose j v hw
    have hd := dieTo_at st.is st.keep h.nodup hk st.loose.length
    rw [hd]
    split
    · exact .inr ⟨s, h2, h3⟩
    · split
      · exact .inr ⟨s, h2, h3⟩
      · exact .inl h1
  · rw [dieTo_other _ _ _ hj]
    exact .inl (h.firm j (was_none.2 hj))

/-- One write. -/
theorem Track.write {f : Nat → ByteArray} {l : List (Nat × ByteArray)} {st : St} (h : Track f l st) {i : Nat} {s : ByteArray} (hi : i < 256) (hs : s.size ≤ 128) :
    (st.writeE (i : Int) s = 0 ∧ st.cuts ≠ 1 ∧ Track f (l ++ [(i, s)]) (st.write (i : Int) s) ∧ (st.write (i : Int) s).is = up st.is i s ∧ (st.write (i : Int) s).cuts = st.cuts - 1) ∨
    (st.writeE (i : Int) s = 33 ∧ st.cuts = 1 ∧ Gone f (l ++ [(i, s)]) (st.write (i : Int) s)) := by
  have hb := bars_mk (st := st) (i := (i : Int)) (s := s) h.on (by omega) (by omega) hs
  unfold St.writeE St.write
  rw [hb]
  simp only [ne_eq, not_true_eq_false, if_false]
  by_cases hc : st.cuts = 1
  · have hd : st.due = 33 := by unfold St.due; rw [if_pos hc]
    rw [hd]
    exact .inr ⟨rfl, hc, by simpa using (h.tick.put i s).die⟩
  · have hd : st.due = 0 := by unfold St.due; rw [if_neg hc, if_neg (by rw [h.calm]; decide)]
    rw [hd]
    refine .inl ⟨rfl, hc, ?_, ?_, ?_⟩
    · simpa using h.tick.put i s
    · simp [St.put, St.tick]
    · simp [St.put, St.tick]

/-- Writes. -/
theorem Track.writes {f : Nat → ByteArray} : ∀ (m : List (Nat × ByteArray)) (l : List (Nat × ByteArray)) (st : St), Track f l st → (∀ p ∈ m, p.1 < 256 ∧ p.2.size ≤ 128) →
    ((wr st m).1 = 0 ∧ (st.cuts = 0 ∨ m.length < st.cuts) ∧ Track f (l ++ m) (wr st m).2 ∧ (wr st m).2.is = fold st.is m ∧ (wr st m).2.cuts = st.cuts - m.length) ∨
    ((wr st m).1 = 33 ∧ 0 < st.cuts ∧ st.cuts ≤ m.length ∧ Gone f (l ++ m) (wr st m).2) := by
  intro m
  induction m with
  | nil =>
    intro l st h _
    refine .inl ⟨rfl, by show st.cuts = 0 ∨ 0 < st.cuts; omega, by rw [List.append_nil]; exact h, rfl, rfl⟩
  | cons p m ih =>
    intro l st h hm
    obtain ⟨hp1, hp2⟩ := hm p (List.mem_cons_self ..)
    rcases h.write hp1 hp2 with ⟨hE, hc, ht, his, hcu⟩ | ⟨hE, hc, hg⟩
    · have e : wr st (p :: m) = wr (st.write (p.1 : Int) p.2) m := by
        show (if st.writeE (p.1 : Int) p.2 = 0 then wr (st.write (p.1 : Int) p.2) m else _) = _
        rw [if_pos hE]
      rw [e]
      have e2 : l ++ p :: m = l ++ [(p.1, p.2)] ++ m := by simp
      rw [e2]
      rcases ih (l ++ [(p.1, p.2)]) _ ht (fun q hq => hm q (List.mem_cons_of_mem _ hq)) with ⟨h1, h2, h3, h4, h5⟩ | ⟨h1, h2, h3, h4⟩
      · refine .inl ⟨h1, ?_, h3, by rw [h4, his]; rfl, by rw [h5, hcu]; simp only [List.length_cons]; omega⟩
        rw [hcu] at h2
        simp only [List.length_cons]
        omega
      · rw [hcu] at h2 h3
        exact .inr ⟨h1, by omega, by simp only [List.length_cons]; omega, h4⟩
    · have e : wr st (p :: m) = (33, st.write (p.1 : Int) p.2) := by
        show (if st.writeE (p.1 : Int) p.2 = 0 then _ else (st.writeE (p.1 : Int) p.2, st.write (p.1 : Int) p.2)) = _
        rw [if_neg (by rw [hE]; decide), hE]
      rw [e]
      refine .inr ⟨rfl, by omega, by simp only [List.length_cons]; omega, hg.more (fun q hq => ?_)⟩
      simp only [List.mem_append, List.mem_cons] at hq ⊢
      rcases hq with hq | rfl | hq
      · exact .inl hq
      · exact .inr (.inl rfl)
      · cases hq

/-- The power is on, nothing is loose, nothing is to fail. -/
structure Still (st : St) : Prop where
  on : st.off = false
  calm : st.fails = 0
  loose : st.loose = []

/-- The power is off. -/
structure Off (st : St) : Prop where
  off : st.off = true
  calm : st.fails = 0
  loose : st.loose = []

theorem Gone.gone {f : Nat → ByteArray} {l : List (Nat × ByteArray)} {st : St} (h : Gone f l st) : Off st := ⟨h.off, h.calm, h.loose⟩

theorem Still.track {st : St} (h : Still st) : Track st.is [] st :=
  ⟨h.on, h.calm, by rw [h.loose]; exact List.nodup_nil, fun _ _ => rfl, fun j v hj => by rw [h.loose] at hj; cases hj⟩

theorem Still.new : Still St.new := ⟨rfl, rfl, rfl⟩
theorem Still.cut {st : St} (h : Still st) (n : Int) (k : Nat) : Still (st.cut n k) := ⟨h.on, h.calm, h.loose⟩
theorem Off.cut {st : St} (h : Off st) (n : Int) (k : Nat) : Off (st.cut n k) := ⟨h.off, h.calm, h.loose⟩

theorem Off.power {st : St} (h : Off st) : Still st.power ∧ st.power.is = st.is ∧ st.power.cuts = 0 := by
  unfold St.power
  rw [if_pos h.off]
  exact ⟨⟨rfl, rfl, h.loose⟩, rfl, rfl⟩
theorem Still.power {st : St} (h : Still st) : st.power = st := by
  unfold St.power
  rw [if_neg (by rw [h.on]; decide)]

/-- A barrier. -/
theorem Track.barrier {f : Nat → ByteArray} {l : List (Nat × ByteArray)} {st : St} (h : Track f l st) :
    (st.barrierE = 0 ∧ st.cuts ≠ 1 ∧ Still st.barrier ∧ st.barrier.is = st.is ∧ st.barrier.cuts = st.cuts - 1) ∨ (st.barrierE = 33 ∧ st.cuts = 1 ∧ Gone f l st.barrier) := by
  unfold St.barrierE St.barrier
  rw [h.on]
  simp only [Bool.false_eq_true, if_false]
  by_cases hc : st.cuts = 1
  · have hd : st.due = 33 := by unfold St.due; rw [if_pos hc]
    rw [hd]
    exact .inr ⟨rfl, hc, by simpa using h.tick.die⟩
  · have hd : st.due = 0 := by unfold St.due; rw [if_neg hc, if_neg (by rw [h.calm]; decide)]
    rw [hd]
    refine .inl ⟨rfl, hc, ⟨h.on, by show (if (0 : Int) = 33 then _ else if (0 : Int) = 32 then _ else st.tick.fasten).fails = 0; simp [St.fasten, St.tick, h.calm], by simp [St.fasten]⟩, by simp [St.fasten, St.tick], by simp [St.fasten, St.tick]⟩

/-- A cut at the barrier, with nothing loose, takes nothing. -/
theorem Still.dies {st : St} (h : Still st) (hc : st.cuts = 1) : Off st.barrier ∧ st.barrier.is = st.is ∧ st.barrierE = 33 := by
  rcases h.track.barrier with ⟨_, h2, _⟩ | ⟨h1, _, h3⟩
  · exact absurd hc h2
  · refine ⟨h3.gone, funext fun j => ?_, h1⟩
    rcases h3.mix j with h4 | ⟨s, h4, _⟩
    · exact h4
    · cases h4
theorem Off.barrier {st : St} (h : Off st) : st.barrier = st ∧ st.barrierE = 33 := by
  unfold St.barrier St.barrierE
  rw [if_pos h.off, if_pos h.off]
  exact ⟨rfl, rfl⟩

/-- Writes and their barrier, over a disk that is still. -/
theorem Still.writes {st : St} (h : Still st) (m : List (Nat × ByteArray)) (hm : ∀ p ∈ m, p.1 < 256 ∧ p.2.size ≤ 128) :
    ((wrb st m).1 = 0 ∧ (st.cuts = 0 ∨ m.length + 1 < st.cuts) ∧ Still (wrb st m).2 ∧ (wrb st m).2.is = fold st.is m ∧ (wrb st m).2.cuts = st.cuts - (m.length + 1)) ∨
    ((wrb st m).1 = 33 ∧ 0 < st.cuts ∧ st.cuts ≤ m.length + 1 ∧ Gone st.is m (wrb st m).2) := by
  unfold wrb
  rcases h.track.writes m [] st hm with ⟨h1, h2, h3, h4, h5⟩ | ⟨h1, h2, h3, h4⟩
  · rw [if_pos h1]
    rw [List.nil_append] at h3
    rcases h3.barrier with ⟨g1, g2, g3, g4, g5⟩ | ⟨g1, g2, g3⟩
    · refine .inl ⟨g1, ?_, g3, by show (wr st m).2.barrier.is = _; rw [g4, h4], by show (wr st m).2.barrier.cuts = _; rw [g5, h5]; omega⟩
      rw [h5] at g2
      omega
    · rw [h5] at g2
      exact .inr ⟨g1, by omega, by omega, g3⟩
  · rw [if_neg (by rw [h1]; decide)]
    rw [List.nil_append] at h4
    exact .inr ⟨h1, h2, by omega, h4⟩

/-! ### The log's calls -/

/-- A log that is open. -/
structure Lo where
  t : Top
  next : Nat
  wrong : Int

/-- Chunks of a half as writes. -/
def puts (h : Nat) (cs : List Chu) : List (Nat × ByteArray) := cs.map fun c => (sec h c.q.toNat, encs c)

def openTop (st : St) : Top := ⟨(top st.is).e + 1, (top st.is).b, (top st.is).h⟩
/-- Open: its error, and the disk behind it. -/
def openR (st : St) : Int × St :=
  if st.off then (33, st) else if (top st.is).e = 1099511627776 then (50, st) else wrb st [(hsec (openTop st).e, encs (hd (openTop st)))]
def openLog (st : St) : Lo := ⟨openTop st, (scan st.is (top st.is)).2, 0⟩
def openRecs (st : St) : List (List UInt8) := (scan st.is (top st.is)).1

/-- Append. -/
def appendR (lo : Lo) (st : St) (rs : List (List UInt8)) : Int × St × Lo :=
  if lo.wrong ≠ 0 then (lo.wrong, st, lo)
  else if 127 - lo.next < many rs then (50, st, lo)
  else ((wrb st (puts lo.t.h (cksAll lo.t.e lo.next rs))).1, (wrb st (puts lo.t.h (cksAll lo.t.e lo.next rs))).2,
    if (wrb st (puts lo.t.h (cksAll lo.t.e lo.next rs))).1 = 0 then { lo with next := lo.next + many rs } else { lo with wrong := (wrb st (puts lo.t.h (cksAll lo.t.e lo.next rs))).1 })

def newTop (t : Top) : Top := ⟨t.e + 1, t.e + 1, 1 - t.h⟩
/-- Renew: the chunks; and the head behind them. -/
def renew1 (lo : Lo) (st : St) (rs : List (List UInt8)) : Int × St := wrb st (puts (1 - lo.t.h) (cksAll (lo.t.e + 1) 0 rs))
def renew2 (lo : Lo) (st : St) (rs : List (List UInt8)) : Int × St := if (renew1 lo st rs).1 = 0 then wrb (renew1 lo st rs).2 [(hsec (lo.t.e + 1), encs (hd (newTop lo.t)))] else renew1 lo st rs
def renewR (lo : Lo) (st : St) (rs : List (List UInt8)) : Int × St × Lo :=
  if lo.wrong ≠ 0 then (lo.wrong, st, lo)
  else if 127 < many rs ∨ lo.t.e = 1099511627776 then (50, st, lo)
  else ((renew2 lo st rs).1, (renew2 lo st rs).2, if (renew2 lo st rs).1 = 0 then ⟨newTop lo.t, many rs, 0⟩ else { lo with wrong := (renew2 lo st rs).1 })

/-! ### What they come to -/

/-! how many calls are made -/
theorem many_wr : ∀ (l : List (Nat × ByteArray)) (st : St), (wr st l).2.many ≤ st.many + l.length := by
  intro l
  induction l with
  | nil => intro st; exact Nat.le_refl _
  | cons p l ih =>
    intro st
    have h1 := many_write st (p.1 : Int) p.2
    show (if st.writeE (p.1 : Int) p.2 = 0 then wr (st.write (p.1 : Int) p.2) l else (st.writeE (p.1 : Int) p.2, st.write (p.1 : Int) p.2)).2.many ≤ _
    split
    · have := ih (st.write (p.1 : Int) p.2)
      simp only [List.length_cons]
      omega
    · simp only [List.length_cons]
      show (st.write (p.1 : Int) p.2).many ≤ _
      omega
theorem many_wrb (st : St) (l : List (Nat × ByteArray)) : (wrb st l).2.many ≤ st.many + l.length + 1 := by
  have h := many_wr l st
  unfold wrb
  split
  · have := many_barrier (wr st l).2
    show (wr st l).2.barrier.many ≤ _
    omega
  · omega
theorem many_open (st : St) : (openR st).2.many ≤ st.many + 2 := by
  unfold openR
  split
  · show st.many ≤ _; omega
  · split
    · show st.many ≤ _; omega
    · exact many_wrb st _
theorem many_puts (h : Nat) (e : Int) (p : Nat) (rs : List (List UInt8)) : (puts h (cksAll e p rs)).length = many rs := by unfold puts; rw [List.length_map, cksAll_length]
theorem many_appendR (lo : Lo) (st : St) (rs : List (List UInt8)) : (appendR lo st rs).2.1.many ≤ st.many + 128 := by
  unfold appendR
  split
  · show st.many ≤ _; omega
  · split
    · show st.many ≤ _; omega
    · have := many_wrb st (puts lo.t.h (cksAll lo.t.e lo.next rs))
      rw [many_puts] at this
      show (wrb st _).2.many ≤ _
      omega
theorem many_renewR (lo : Lo) (st : St) (rs : List (List UInt8)) : (renewR lo st rs).2.1.many ≤ st.many + 130 := by
  unfold renewR
  split
  · show st.many ≤ _; omega
  · split
    · show st.many ≤ _; omega
    · rename_i hm
      have h1 := many_wrb st (puts (1 - lo.t.h) (cksAll (lo.t.e + 1) 0 rs))
      rw [many_puts] at h1
      have h0 : (renew1 lo st rs) = wrb st (puts (1 - lo.t.h) (cksAll (lo.t.e + 1) 0 rs)) := rfl
      show (renew2 lo st rs).2.many ≤ _
      unfold renew2
      split
      · have h2 := many_wrb (renew1 lo st rs).2 [(hsec (lo.t.e + 1), encs (hd (newTop lo.t)))]
        rw [h0] at h2 ⊢
        simp only [List.length_cons, List.length_nil] at h2
        omega
      · rw [h0]; omega

variable {st : St} {t : Top} {L : List (Int × List UInt8)} {N : Nat} {ep : Int}

/-- Opening a disk that holds a log. -/
theorem open_run (hs : Still st) (h : Good st.is t L N ep) (he : t.e < 1099511627776) :
    openLog st = ⟨⟨t.e + 1, t.b, t.h⟩, N, 0⟩ ∧ openRecs st = L.map (·.2) ∧
    (((openR st).1 = 0 ∧ (st.cuts = 0 ∨ 2 < st.cuts) ∧ Still (openR st).2 ∧ Live (openR st).2.is ⟨t.e + 1, t.b, t.h⟩ L N ep ∧ (openR st).2.cuts = st.cuts - 2) ∨
     ((openR st).1 = 33 ∧ 0 < st.cuts ∧ st.cuts ≤ 2 ∧ Off (openR st).2 ∧ (Good (openR st).2.is t L N ep ∨ Good (openR st).2.is ⟨t.e + 1, t.b, t.h⟩ L N ep))) := by
  have htop : openTop st = ⟨t.e + 1, t.b, t.h⟩ := by unfold openTop; rw [h.top]
  have hr : openR st = wrb st [(hsec (t.e + 1), encs (hd ⟨t.e + 1, t.b, t.h⟩))] := by
    unfold openR
    rw [if_neg (by rw [hs.on]; decide), h.top, if_neg (by omega), htop]
  refine ⟨by unfold openLog; rw [htop, h.top, h.scan], by unfold openRecs; rw [h.top, h.scan], ?_⟩
  rw [hr]
  have b0 := h.b0
  have be := h.be
  have hok := hd_ok ⟨t.e + 1, t.b, t.h⟩ b0 (by show t.b ≤ t.e + 1; omega) (by show t.e + 1 ≤ 1099511627776; omega)
  rcases hs.writes [(hsec (t.e + 1), encs (hd ⟨t.e + 1, t.b, t.h⟩))] (fun p hp => by
    simp at hp; subst hp; exact ⟨by have := hsec_lt (t.e + 1); show hsec (t.e + 1) < 256; omega, encs_size _ hok⟩) with ⟨h1, h2, h3, h4, h5⟩ | ⟨h1, h2, h3, h4⟩
  · refine .inl ⟨h1, h2, h3, ?_, h5⟩
    rw [h4]
    exact h.opened he (up_same _ _ _) (fun i hi => up_other _ hi _)
  · refine .inr ⟨h1, h2, h3, h4.gone, ?_⟩
    have hother : ∀ i, i ≠ hsec (t.e + 1) → (wrb st [(hsec (t.e + 1), encs (hd ⟨t.e + 1, t.b, t.h⟩))]).2.is i = st.is i := by
      intro i hi
      rcases h4.mix i with h6 | ⟨s, h6, _⟩
      · exact h6
      · simp at h6; exact absurd h6.1 hi
    rcases h4.mix (hsec (t.e + 1)) with h6 | ⟨s, h6, h7⟩
    · left
      refine h.congr (fun i => ?_)
      by_cases hi : i = hsec (t.e + 1)
      · rw [hi]; exact h6
      · exact hother i hi
    · right
      simp at h6
      exact (h.opened he (by rw [h7]; exact h6) hother).good

/-! chunks as writes -/
theorem puts_mem {h : Nat} {e : Int} {p : Nat} {rs : List (List UInt8)} {j : Nat} {s : ByteArray} (hm : (j, s) ∈ puts h (cksAll e p rs)) : ∃ i c, (cksAll e p rs)[i]? = some c ∧ j = sec h (p + i) ∧ s = encs c := by
  obtain ⟨c, hc, e1⟩ := List.mem_map.1 hm
  obtain ⟨i, hi, hg⟩ := List.getElem_of_mem hc
  have hg' : (cksAll e p rs)[i]? = some c := by rw [List.getElem?_eq_getElem hi, hg]
  have hq := (cksAll_at e rs p i c hg').2.1
  injection e1 with e1 e2
  refine ⟨i, c, hg', ?_, e2.symm⟩
  rw [← e1, hq]
  rfl
theorem mem_puts {h : Nat} {e : Int} {p : Nat} {rs : List (List UInt8)} {i : Nat} {c : Chu} (hc : (cksAll e p rs)[i]? = some c) : (sec h (p + i), encs c) ∈ puts h (cksAll e p rs) := by
  have hq := (cksAll_at e rs p i c hc).2.1
  refine List.mem_map.2 ⟨c, List.mem_of_getElem? hc, ?_⟩
  rw [hq]
  rfl

theorem puts_keys (h : Nat) (e : Int) (p : Nat) (rs : List (List UInt8)) : (puts h (cksAll e p rs)).map (·.1) = (List.range (many rs)).map fun i => sec h (p + i) := by
  apply List.ext_getElem?
  intro i
  unfold puts
  simp only [List.map_map, List.getElem?_map]
  by_cases hi : i < many rs
  · obtain ⟨c, hc⟩ : ∃ c, (cksAll e p rs)[i]? = some c := ⟨_, List.getElem?_eq_getElem (by rw [cksAll_length]; exact hi)⟩
    have hq := (cksAll_at e rs p i c hc).2.1
    rw [hc, List.getElem?_range hi]
    simp only [Option.map_some, Function.comp]
    rw [hq]
    rfl
  · rw [List.getElem?_eq_none (by rw [cksAll_length]; omega), List.getElem?_eq_none (by rw [List.length_range]; omega)]
    rfl

theorem puts_nodup (h : Nat) (e : Int) (p : Nat) (rs : List (List UInt8)) : ((puts h (cksAll e p rs)).map (·.1)).Nodup := by
  rw [puts_keys]
  refine List.Pairwise.map _ (fun a b hab => ?_) (List.nodup_range (n := many rs))
  intro he
  have := sec_inj he
  exact hab (by omega)

theorem puts_fit {h : Nat} {e : Int} {p : Nat} {rs : List (List UInt8)} (hh : h ≤ 1) (h0 : 0 ≤ e) (h1 : e ≤ 1099511627776) (hfit : p + many rs ≤ 127) : ∀ q ∈ puts h (cksAll e p rs), q.1 < 256 ∧ q.2.size ≤ 128 := by
  intro q hq
  obtain ⟨i, c, hc, e1, e2⟩ := puts_mem (j := q.1) (s := q.2) hq
  have hi := (List.getElem?_eq_some_iff.1 hc).1
  rw [cksAll_length] at hi
  exact ⟨by rw [e1]; exact sec_lt hh (by omega), by rw [e2]; exact encs_size c (cksAll_ok h0 h1 hfit hc)⟩

theorem fold_puts (f : Nat → ByteArray) {h : Nat} {e : Int} {p : Nat} {rs : List (List UInt8)} :
    (∀ i c, (cksAll e p rs)[i]? = some c → fold f (puts h (cksAll e p rs)) (sec h (p + i)) = encs c) ∧ (∀ j, (∀ i, i < many rs → j ≠ sec h (p + i)) → fold f (puts h (cksAll e p rs)) j = f j) := by
  refine ⟨fun i c hc => fold_in _ f (puts_nodup h e p rs) _ (mem_puts hc), fun j hj => fold_out _ f j ?_⟩
  rw [puts_keys]
  intro hm
  obtain ⟨i, hi, e1⟩ := List.mem_map.1 hm
  exact hj i (List.mem_range.1 hi) e1.symm

/-- Appending. -/
theorem append_run (hs : Still st) (h : Live st.is t L N ep) (he : t.e ≤ 1099511627776) (rs : List (List UInt8)) :
    (127 - N < many rs ∧ appendR ⟨t, N, 0⟩ st rs = (50, st, ⟨t, N, 0⟩)) ∨
    (many rs ≤ 127 - N ∧ (appendR ⟨t, N, 0⟩ st rs).1 = 0 ∧ (st.cuts = 0 ∨ many rs + 1 < st.cuts) ∧ Still (appendR ⟨t, N, 0⟩ st rs).2.1 ∧ (appendR ⟨t, N, 0⟩ st rs).2.2 = ⟨t, N + many rs, 0⟩ ∧
      (appendR ⟨t, N, 0⟩ st rs).2.1.cuts = st.cuts - (many rs + 1) ∧ ∃ ep', Live (appendR ⟨t, N, 0⟩ st rs).2.1.is t (L ++ rs.map fun r => (t.e, r)) (N + many rs) ep') ∨
    (many rs ≤ 127 - N ∧ (appendR ⟨t, N, 0⟩ st rs).1 = 33 ∧ 0 < st.cuts ∧ Off (appendR ⟨t, N, 0⟩ st rs).2.1 ∧ (appendR ⟨t, N, 0⟩ st rs).2.2 = ⟨t, N, 33⟩ ∧
      ∃ j N' ep', j ≤ rs.length ∧ Good (appendR ⟨t, N, 0⟩ st rs).2.1.is t (L ++ (rs.take j).map fun r => (t.e, r)) N' ep') := by
  have hN := h.good.fit
  have b0 := h.good.b0
  have be := h.good.be
  by_cases hm : 127 - N < many rs
  · left
    refine ⟨hm, ?_⟩
    unfold appendR
    rw [if_neg (fun h => h rfl), if_pos hm]
  · have e : appendR ⟨t, N, 0⟩ st rs = ((wrb st (puts t.h (cksAll t.e N rs))).1, (wrb st (puts t.h (cksAll t.e N rs))).2, if (wrb st (puts t.h (cksAll t.e N rs))).1 = 0 then ⟨t, N + many rs, 0⟩ else ⟨t, N, (wrb st (puts t.h (cksAll t.e N rs))).1⟩) := by
      unfold appendR
      rw [if_neg (fun h => h rfl), if_neg hm]
    rw [e]
    have hfit : N + many rs ≤ 127 := by omega
    have hlen : (puts t.h (cksAll t.e N rs)).length = many rs := by unfold puts; rw [List.length_map, cksAll_length]
    rcases hs.writes (puts t.h (cksAll t.e N rs)) (puts_fit h.good.h1 (by omega) he hfit) with ⟨h1, h2, h3, h4, h5⟩ | ⟨h1, h2, h3, h4⟩
    · rw [hlen] at h2 h5
      obtain ⟨hp1, hp2⟩ := fold_puts st.is (h := t.h) (e := t.e) (p := N) (rs := rs)
      refine .inr (.inl ⟨by omega, h1, h2, h3, if_pos h1, h5, ?_⟩)
      show ∃ ep', Live (wrb st (puts t.h (cksAll t.e N rs))).2.is t (L ++ rs.map fun r => (t.e, r)) (N + many rs) ep'
      rw [h4]
      exact h.append he rs hfit hp1 hp2
    · refine .inr (.inr ⟨by omega, h1, h2, h4.gone, by show (if _ then _ else _ : Lo) = _; rw [if_neg (by rw [h1]; decide), h1], ?_⟩)
      refine h.broken he rs hfit (fun j => ?_)
      rcases h4.mix j with h6 | ⟨s, h6, h7⟩
      · exact .inl h6
      · obtain ⟨i, c, hc, e1, e2⟩ := puts_mem h6
        exact .inr ⟨i, c, hc, e1, by rw [h7, e2]⟩

/-- Renewing. -/
theorem renew_run (hs : Still st) (h : Live st.is t L N ep) (he : t.e < 1099511627776) (rs : List (List UInt8)) :
    (127 < many rs ∧ renewR ⟨t, N, 0⟩ st rs = (50, st, ⟨t, N, 0⟩)) ∨
    (many rs ≤ 127 ∧ (renewR ⟨t, N, 0⟩ st rs).1 = 0 ∧ (st.cuts = 0 ∨ many rs + 3 < st.cuts) ∧ Still (renewR ⟨t, N, 0⟩ st rs).2.1 ∧ (renewR ⟨t, N, 0⟩ st rs).2.2 = ⟨newTop t, many rs, 0⟩ ∧
      (renewR ⟨t, N, 0⟩ st rs).2.1.cuts = st.cuts - (many rs + 3) ∧ Live (renewR ⟨t, N, 0⟩ st rs).2.1.is (newTop t) (rs.map fun r => (t.e + 1, r)) (many rs) (t.e + 1)) ∨
    (many rs ≤ 127 ∧ (renewR ⟨t, N, 0⟩ st rs).1 = 33 ∧ 0 < st.cuts ∧ Off (renewR ⟨t, N, 0⟩ st rs).2.1 ∧ (renewR ⟨t, N, 0⟩ st rs).2.2 = ⟨t, N, 33⟩ ∧
      (Good (renewR ⟨t, N, 0⟩ st rs).2.1.is t L N ep ∨ Good (renewR ⟨t, N, 0⟩ st rs).2.1.is (newTop t) (rs.map fun r => (t.e + 1, r)) (many rs) (t.e + 1))) := by
  have b0 := h.good.b0
  have be := h.good.be
  have hh := h.good.h1
  by_cases hm : 127 < many rs
  · left
    refine ⟨hm, ?_⟩
    unfold renewR
    rw [if_neg (fun h => h rfl), if_pos (.inl hm)]
  · have e : renewR ⟨t, N, 0⟩ st rs = ((renew2 ⟨t, N, 0⟩ st rs).1, (renew2 ⟨t, N, 0⟩ st rs).2, if (renew2 ⟨t, N, 0⟩ st rs).1 = 0 then ⟨newTop t, many rs, 0⟩ else ⟨t, N, (renew2 ⟨t, N, 0⟩ st rs).1⟩) := by
      unfold renewR
      rw [if_neg (fun h => h rfl), if_neg (by show ¬ (127 < many rs ∨ t.e = 1099511627776); omega)]
    rw [e]
    have hfit : 0 + many rs ≤ 127 := by omega
    have hlen : (puts (1 - t.h) (cksAll (t.e + 1) 0 rs)).length = many rs := by unfold puts; rw [List.length_map, cksAll_length]
    have h0 : (renew1 ⟨t, N, 0⟩ st rs) = wrb st (puts (1 - t.h) (cksAll (t.e + 1) 0 rs)) := rfl
    have hok := hd_ok (newTop t) (by show 0 ≤ t.e + 1; omega) (Int.le_refl _) (by show t.e + 1 ≤ 1099511627776; omega)
    rcases hs.writes (puts (1 - t.h) (cksAll (t.e + 1) 0 rs)) (puts_fit (by omega) (by omega) (by omega) hfit) with ⟨h1, h2, h3, h4, h5⟩ | ⟨h1, h2, h3, h4⟩
    · have e2 : renew2 ⟨t, N, 0⟩ st rs = wrb (wrb st (puts (1 - t.h) (cksAll (t.e + 1) 0 rs))).2 [(hsec (t.e + 1), encs (hd (newTop t)))] := by
        unfold renew2
        rw [h0, if_pos h1]
      rw [e2]
      rw [hlen] at h2 h5
      obtain ⟨hp1, hp2⟩ := fold_puts st.is (h := 1 - t.h) (e := t.e + 1) (p := 0) (rs := rs)
      generalize (wrb st (puts (1 - t.h) (cksAll (t.e + 1) 0 rs))).2 = st1 at *
      rw [← h4] at hp1 hp2
      have hren : ∀ g : Nat → ByteArray, g (hsec (t.e + 1)) = encs (hd (newTop t)) → (∀ i, i ≠ hsec (t.e + 1) → g i = st1.is i) → Live g (newTop t) (rs.map fun r => (t.e + 1, r)) (many rs) (t.e + 1) := by
        intro g hg1 hg2
        refine h.renewed he rs (by omega) (fun i c hc => ?_) hg1 (fun j hj1 hj2 => ?_)
        · rw [hg2 _ (sec_ne_hsec _ _ _)]; exact hp1 i c hc
        · rw [hg2 j hj1]; exact hp2 j hj2
      rcases h3.writes [(hsec (t.e + 1), encs (hd (newTop t)))] (fun p hp => by
        simp at hp; subst hp; exact ⟨by have := hsec_lt (t.e + 1); show hsec (t.e + 1) < 256; omega, encs_size _ hok⟩) with ⟨g1, g2, g3, g4, g5⟩ | ⟨g1, g2, g3, g4⟩
      · rw [h5] at g2 g5
        have g2' : st.cuts - (many rs + 1) = 0 ∨ 2 < st.cuts - (many rs + 1) := g2
        have g5' : (wrb st1 [(hsec (t.e + 1), encs (hd (newTop t)))]).2.cuts = st.cuts - (many rs + 1) - 2 := g5
        refine .inr (.inl ⟨by omega, g1, by omega, g3, if_pos g1, by show (wrb st1 [(hsec (t.e + 1), encs (hd (newTop t)))]).2.cuts = _; rw [g5']; omega, ?_⟩)
        show Live (wrb st1 [(hsec (t.e + 1), encs (hd (newTop t)))]).2.is _ _ _ _
        rw [g4]
        exact hren _ (up_same _ _ _) (fun i hi => up_other _ hi _)
      · refine .inr (.inr ⟨by omega, g1, by rw [h5] at g2; omega, g4.gone, by show (if _ then _ else _ : Lo) = _; rw [if_neg (by rw [g1]; decide), g1], ?_⟩)
        have hother : ∀ i, i ≠ hsec (t.e + 1) → (wrb st1 [(hsec (t.e + 1), encs (hd (newTop t)))]).2.is i = st1.is i := by
          intro i hi
          rcases g4.mix i with h6 | ⟨s, h6, _⟩
          · exact h6
          · simp at h6; exact absurd h6.1 hi
        rcases g4.mix (hsec (t.e + 1)) with h6 | ⟨s, h6, h7⟩
        · left
          have hall : ∀ i, (wrb st1 [(hsec (t.e + 1), encs (hd (newTop t)))]).2.is i = st1.is i := fun i => by
            by_cases hi : i = hsec (t.e + 1)
            · rw [hi]; exact h6
            · exact hother i hi
          refine h.renewing he rs (by omega) (fun j => ?_)
          show (wrb st1 [(hsec (t.e + 1), encs (hd (newTop t)))]).2.is j = _ ∨ _
          rw [hall j]
          by_cases hj : ∃ i, i < many rs ∧ j = sec (1 - t.h) (0 + i)
          · obtain ⟨i, hi, rfl⟩ := hj
            obtain ⟨c, hc⟩ : ∃ c, (cksAll (t.e + 1) 0 rs)[i]? = some c := ⟨_, List.getElem?_eq_getElem (by rw [cksAll_length]; exact hi)⟩
            exact .inr ⟨i, c, hc, rfl, hp1 i c hc⟩
          · exact .inl (hp2 j (fun i hi e => hj ⟨i, hi, e⟩))
        · right
          simp at h6
          exact (hren _ (by show (wrb st1 _).2.is _ = _; rw [h7]; exact h6) hother).good
    · have e2 : renew2 ⟨t, N, 0⟩ st rs = wrb st (puts (1 - t.h) (cksAll (t.e + 1) 0 rs)) := by
        unfold renew2
        rw [h0, if_neg (by rw [h1]; decide)]
      rw [e2]
      refine .inr (.inr ⟨by omega, h1, h2, h4.gone, by show (if _ then _ else _ : Lo) = _; rw [if_neg (by rw [h1]; decide), h1], .inl ?_⟩)
      refine h.renewing he rs (by omega) (fun j => ?_)
      rcases h4.mix j with h6 | ⟨s, h6, h7⟩
      · exact .inl h6
      · obtain ⟨i, c, hc, e1, e3⟩ := puts_mem h6
        exact .inr ⟨i, c, hc, e1, by show (wrb st _).2.is j = _; rw [h7, e3]⟩

end Go.Proofs.YtimcepoleboldaaGreatDoor.Lg
