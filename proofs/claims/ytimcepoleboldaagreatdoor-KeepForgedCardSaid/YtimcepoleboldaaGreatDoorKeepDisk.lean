/- Plain mathematics of layer 6, second part: a store over a log: Open, Put; what is there when the power goes. It speaks of no program. -/
import Derived.Test.YtimcepoleboldaaGreatDoorKeepPlain
import Derived.Test.YtimcepoleboldaaGreatDoorLogDisk
namespace Go.Proofs.YtimcepoleboldaaGreatDoor.Kp
open Lg Dk

/-- A store: its log, its room, its map. -/
structure Ks where
  lo : Lo
  room : Int
  m : Mp

/-- Is a record neither Put nor Del? -/
def odd (l : List Rc) : Prop := ∃ x ∈ l, x.k ≠ 1 ∧ x.k ≠ 2
instance (l : List Rc) : Decidable (odd l) := by unfold odd; infer_instance

/-- What a Put does that is to be written: the answer, the disk, the store. -/
def writeK (s : Ks) (st : St) (l : List Rc) : Int × St × Ks :=
  let a := appendR s.lo st [batch l]
  if a.1 = 50 then
    let r := renewR a.2.2 a.2.1 [batch (puts (all s.m l))]
    (r.1, r.2.1, ⟨r.2.2, s.room, if r.1 = 0 then all s.m l else s.m⟩)
  else (a.1, a.2.1, ⟨a.2.2, s.room, if a.1 = 0 then all s.m l else s.m⟩)

def putK (s : Ks) (st : St) (l : List Rc) : Int × St × Ks :=
  if s.lo.wrong ≠ 0 then (s.lo.wrong, st, s)
  else if odd l then (1, st, s)
  else if all s.m l = s.m then (0, st, s)
  else if s.room < (size (all s.m l) : Int) ∧ size s.m < size (all s.m l) then (50, st, s)
  else writeK s st l

/-- Open: the answer, the disk; the store that it gives. -/
def openK (st : St) (room : Int) : Int × St := if room < 0 ∨ 1048576 < room then (1, st) else openR st
def openS (st : St) (room : Int) : Ks := ⟨openLog st, room, mapOf (openRecs st)⟩

theorem fit_of {l : List Rc} (h : ¬ odd l) (hs : heavy l ≤ 1000000) : ∀ x ∈ l, Fit x := by
  intro x hx
  have hw : x.key.size + x.val.size ≤ heavy l := by
    clear h hs
    induction l with
    | nil => simp at hx
    | cons y l ih =>
      show _ ≤ y.key.size + y.val.size + heavy l
      rcases List.mem_cons.mp hx with rfl | hx
      · omega
      · have := ih hx; omega
  refine ⟨?_, by omega, by omega⟩
  by_cases h1 : x.k = 1
  · exact .inl h1
  · by_cases h2 : x.k = 2
    · exact .inr h2
    · exact absurd ⟨x, hx, h1, h2⟩ h
theorem fit_puts {m : Mp} (hs : size m ≤ 1000000) : ∀ x ∈ puts m, Fit x := by
  intro x hx
  unfold puts at hx
  obtain ⟨e, he, rfl⟩ := List.mem_map.mp hx
  have hw : e.1.size + e.2.size ≤ size m := by
    clear hs hx
    induction m with
    | nil => simp at he
    | cons y m ih =>
      show _ ≤ y.1.size + y.2.size + size m
      rcases List.mem_cons.mp he with rfl | he
      · omega
      · have := ih he; omega
  exact ⟨.inl rfl, by show e.1.size ≤ _; omega, by show e.2.size ≤ _; omega⟩

theorem map_more (L : List (Int × List UInt8)) (e : Int) {l : List Rc} (h : ∀ x ∈ l, Fit x) (hl : l.length ≤ 1048576) :
    mapOf ((L ++ [batch l].map fun r => (e, r)).map (·.2)) = all (mapOf (L.map (·.2))) l := by
  rw [List.map_append]
  show mapOf (L.map (·.2) ++ [batch l]) = _
  rw [mapOf_one, all_batch h hl]
theorem map_new (e : Int) {m : Mp} (hu : Up m) (hs : size m ≤ 1000000) (hl : m.length ≤ 1048576) : mapOf (([batch (puts m)].map fun r => (e, r)).map (·.2)) = m := by
  show mapOf ([] ++ [batch (puts m)]) = m
  rw [mapOf_one, all_batch (fit_puts hs) (by unfold puts; rw [List.length_map]; exact hl)]
  exact all_puts_nil hu

variable {st : St} {t : Top} {L : List (Int × List UInt8)} {N : Nat} {ep : Int}

/-- What a Put comes to that is written. -/
def Wrote (s : Ks) (st : St) (t : Top) (m' : Mp) (E : Int) (st' : St) (s' : Ks) : Prop :=
  (E = 50 ∧ st' = st ∧ s' = s) ∨
  (E = 0 ∧ Still st' ∧ ∃ t' L' N' ep', s' = ⟨⟨t', N', 0⟩, s.room, m'⟩ ∧ Live st'.is t' L' N' ep' ∧ mapOf (L'.map (·.2)) = m' ∧ t.e ≤ t'.e ∧ t'.e ≤ t.e + 1) ∨
  (E = 33 ∧ 0 < st.cuts ∧ Off st' ∧ s'.lo.wrong = 33 ∧ s'.m = s.m ∧ ∃ t' L' N' ep', Good st'.is t' L' N' ep' ∧ (mapOf (L'.map (·.2)) = s.m ∨ mapOf (L'.map (·.2)) = m') ∧ t.e ≤ t'.e ∧ t'.e ≤ t.e + 1)

theorem write_run (hs : Still st) (h : Live st.is t L N ep) (he : t.e < 1099511627776) (room : Int) {m : Mp} (hm : mapOf (L.map (·.2)) = m) (hu : Up m) {l : List Rc} (hl : ∀ x ∈ l, Fit x)
    (hz : size m + heavy l ≤ 1000000) (hn : m.length + l.length ≤ 1000000) :
    Wrote ⟨⟨t, N, 0⟩, room, m⟩ st t (all m l) (writeK ⟨⟨t, N, 0⟩, room, m⟩ st l).1 (writeK ⟨⟨t, N, 0⟩, room, m⟩ st l).2.1 (writeK ⟨⟨t, N, 0⟩, room, m⟩ st l).2.2 := by
  have hz' : size (all m l) ≤ 1000000 := Nat.le_trans (size_all_le l m) hz
  have hn' : (all m l).length ≤ 1048576 := by have := length_all_le l m; omega
  unfold writeK
  rcases append_run hs h (Int.le_of_lt he) [batch l] with ⟨_, h2⟩ | ⟨_, h2, _, h4, h5, _, ep', h7⟩ | ⟨_, h2, h3, h4, h5, j, N', ep', h6, h7⟩
  · simp only [h2, if_true]
    rcases renew_run hs h he [batch (puts (all m l))] with ⟨_, r2⟩ | ⟨_, r2, _, r4, r5, _, r7⟩ | ⟨_, r2, r3, r4, r5, r6⟩
    · simp only [r2]
      exact .inl ⟨rfl, rfl, by simp⟩
    · simp only [r2, if_true]
      refine .inr (.inl ⟨rfl, r4, newTop t, _, _, _, by rw [r5], r7, map_new _ (up_all l hu) hz' hn', ?_, ?_⟩)
      · show t.e ≤ t.e + 1; omega
      · show t.e + 1 ≤ t.e + 1; omega
    · simp only [r2]
      refine .inr (.inr ⟨rfl, r3, r4, by rw [r5], by simp, ?_⟩)
      rcases r6 with r6 | r6
      · exact ⟨t, L, N, ep, r6, .inl hm, Int.le_refl _, by omega⟩
      · refine ⟨newTop t, _, _, _, r6, .inr (map_new _ (up_all l hu) hz' hn'), ?_, ?_⟩
        · show t.e ≤ t.e + 1; omega
        · show t.e + 1 ≤ t.e + 1; omega
  · simp only [h2]
    refine .inr (.inl ⟨by simp, by simpa using h4, t, _, _, ep', ?_, by simpa using h7, ?_, Int.le_refl _, by omega⟩)
    · simp [h5]
    · have := map_more L t.e hl (by omega)
      rw [hm] at this
      simpa using this
  · simp only [h2]
    refine .inr (.inr ⟨by simp, h3, by simpa using h4, by simp [h5], by simp, t, _, N', ep', by simpa using h7, ?_, Int.le_refl _, by omega⟩)
    match j, h6 with
    | 0, _ =>
      refine .inl ?_
      rw [← hm]
      simp
    | 1, _ =>
      refine .inr ?_
      have := map_more L t.e hl (by omega)
      rw [hm] at this
      simpa using this
    | j + 2, h6 => simp at h6

/-- What a Put comes to: it is refused, or there is nothing to do; or it is written. -/
theorem put_run (hs : Still st) (h : Live st.is t L N ep) (he : t.e < 1099511627776) (room : Int) {m : Mp} (hm : mapOf (L.map (·.2)) = m) {l : List Rc}
    (hz : size m + heavy l ≤ 1000000) (hn : m.length + l.length ≤ 1000000) {s : Ks} (hks : s = ⟨⟨t, N, 0⟩, room, m⟩) :
    (odd l ∧ putK s st l = (1, st, s)) ∨ (¬ odd l ∧ all m l = m ∧ putK s st l = (0, st, s)) ∨
    (¬ odd l ∧ all m l ≠ m ∧ room < (size (all m l) : Int) ∧ size m < size (all m l) ∧ putK s st l = (50, st, s)) ∨
    (¬ odd l ∧ all m l ≠ m ∧ ((size (all m l) : Int) ≤ room ∨ size (all m l) ≤ size m) ∧ Wrote s st t (all m l) (putK s st l).1 (putK s st l).2.1 (putK s st l).2.2) := by
  subst hks
  have hu : Up m := hm ▸ up_mapOf _
  unfold putK
  by_cases h1 : odd l
  · exact .inl ⟨h1, by simp [h1]⟩
  · by_cases h2 : all m l = m
    · exact .inr (.inl ⟨h1, h2, by simp [h1, h2]⟩)
    · by_cases h3 : room < (size (all m l) : Int) ∧ size m < size (all m l)
      · exact .inr (.inr (.inl ⟨h1, h2, h3.1, h3.2, by simp [h1, h2, h3.1, h3.2]⟩))
      · refine .inr (.inr (.inr ⟨h1, h2, by omega, ?_⟩))
        have := write_run hs h he room hm hu (fit_of h1 (by omega)) hz hn
        rw [if_neg (by simp), if_neg h1, if_neg h2, if_neg h3]
        exact this

/-- The store that an opening gives. -/
theorem openS_run (hs : Still st) (h : Good st.is t L N ep) (he : t.e < 1099511627776) (room : Int) : openS st room = ⟨⟨⟨t.e + 1, t.b, t.h⟩, N, 0⟩, room, mapOf (L.map (·.2))⟩ := by
  obtain ⟨h1, h2, _⟩ := open_run hs h he
  unfold openS
  rw [h1, h2]
theorem openK_in {st : St} {room : Int} (h0 : 0 ≤ room) (h1 : room ≤ 1048576) : openK st room = openR st := by
  unfold openK
  rw [if_neg (by omega)]

/-- A Put of one record that is Put: how much it makes. -/
theorem size_one (k v v' : ByteArray) : all [(k, v)] [⟨1, k, v'⟩] = [(k, v')] := by
  show ins [(k, v)] k v' = [(k, v')]
  unfold ins
  rw [if_neg (by rw [lt_irrefl]; decide), if_pos rfl]
theorem all_one (k v : ByteArray) : all [] [⟨1, k, v⟩] = [(k, v)] := rfl
/-- Nothing is on a new disk: an opened log has no records. -/
theorem mapOf_nil : mapOf [] = [] := rfl
end Go.Proofs.YtimcepoleboldaaGreatDoor.Kp
