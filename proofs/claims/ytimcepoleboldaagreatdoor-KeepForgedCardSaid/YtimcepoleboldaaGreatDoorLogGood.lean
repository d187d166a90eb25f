/- Plain mathematics of layer 5, second part: sectors that hold a log; what opening, appending, renewing make of them, whole or cut short. It speaks of no program. -/
import Derived.Test.YtimcepoleboldaaGreatDoorLogScan
namespace Go.Proofs.YtimcepoleboldaaGreatDoor.Lg
open Cn

/-- The sectors f hold a log: the head t counts, the records of L (each with its epoch) lie in its half up to the place N; nothing whole is behind them. -/
structure Good (f : Nat → ByteArray) (t : Top) (L : List (Int × List UInt8)) (N : Nat) (ep : Int) : Prop where
  top : top f = t
  h1 : t.h ≤ 1
  b0 : 0 ≤ t.b
  be : t.b ≤ t.e
  mine : ∀ p c, p < 127 → half f t.h p = some c → c.e ≤ t.e
  other : ∀ p c, p < 127 → half f (1 - t.h) p = some c → c.e ≤ t.e + 1
  laid : Laid (half f t.h) 0 t.b L N ep
  le : ep ≤ t.e
  fit : N ≤ 127
  stuck : Stuck (half f t.h) t.e N ep

/-- And it is open: what is behind its records, and in the other half, is elder. -/
structure Live (f : Nat → ByteArray) (t : Top) (L : List (Int × List UInt8)) (N : Nat) (ep : Int) : Prop where
  good : Good f t L N ep
  fresh : ∀ p c, N ≤ p → p < 127 → half f t.h p = some c → c.e < t.e
  old : ∀ p c, p < 127 → half f (1 - t.h) p = some c → c.e ≤ t.e

variable {f f' : Nat → ByteArray} {t : Top} {L : List (Int × List UInt8)} {N : Nat} {ep : Int}

theorem Good.scan (h : Good f t L N ep) : scan f t = (L.map (·.2), N) := scan_whole h.laid h.le h.fit h.stuck

theorem Good.num (h : Good f t L N ep) : N = many (L.map (·.2)) := by have := h.laid.num; omega

/-- Sectors that hold nothing. -/
theorem Good.zero : Good (fun _ => ByteArray.empty) ⟨0, 0, 0⟩ [] 0 0 where
  top := by unfold Lg.top head; rw [chk_empty]
  h1 := by decide
  b0 := by decide
  be := by decide
  mine := fun p c _ h => by unfold half at h; rw [chk_empty] at h; cases h
  other := fun p c _ h => by unfold half at h; rw [chk_empty] at h; cases h
  laid := ⟨rfl, rfl⟩
  le := by decide
  fit := by decide
  stuck := stuck_old (fun c _ h => by unfold half at h; rw [chk_empty] at h; cases h)

theorem Good.congr (h : Good f t L N ep) (hf : ∀ i, f' i = f i) : Good f' t L N ep := by
  have : f' = f := funext hf
  rw [this]; exact h
theorem Live.congr (h : Live f t L N ep) (hf : ∀ i, f' i = f i) : Live f' t L N ep := by
  have : f' = f := funext hf
  rw [this]; exact h

theorem sec_ne_hsec (h p : Nat) (e : Int) : sec h p ≠ hsec e := by have := sec_ge h p; have := hsec_lt e; omega

/-- Opening: a head of the next epoch. -/
theorem Good.opened (h : Good f t L N ep) (he : t.e < 1099511627776) (hw : f' (hsec (t.e + 1)) = encs (hd ⟨t.e + 1, t.b, t.h⟩)) (hs : ∀ i, i ≠ hsec (t.e + 1) → f' i = f i) : Live f' ⟨t.e + 1, t.b, t.h⟩ L N ep := by
  have h1 := h.h1
  have b0 := h.b0
  have be := h.be
  have hhalf : ∀ k, half f' k = half f k := fun k => funext fun p => by unfold half; rw [hs _ (sec_ne_hsec k p _)]
  refine ⟨⟨?_, h1, b0, by show t.b ≤ t.e + 1; omega, ?_, ?_, ?_, by show ep ≤ t.e + 1; have := h.le; omega, h.fit, ?_⟩, ?_, ?_⟩
  · exact top_up f f' ⟨t.e + 1, t.b, t.h⟩ h1 b0 (by show t.b ≤ t.e + 1; omega) (by show t.e + 1 ≤ 1099511627776; omega) (by rw [h.top]; show t.e < t.e + 1; omega) hw (fun i _ hi => hs i hi)
  · intro p c hp hc
    rw [hhalf] at hc
    have := h.mine p c hp hc
    show c.e ≤ t.e + 1
    omega
  · intro p c hp hc
    rw [hhalf] at hc
    have := h.other p c hp hc
    show c.e ≤ t.e + 1 + 1
    omega
  · rw [hhalf]; exact h.laid
  · rw [hhalf]
    exact h.stuck.epoch (fun i c _ hi hc => by have := h.mine i c hi hc; show c.e ≤ t.e ↔ c.e ≤ t.e + 1; omega)
  · intro p c _ hp hc
    rw [hhalf] at hc
    have := h.mine p c hp hc
    show c.e < t.e + 1
    omega
  · intro p c hp hc
    rw [hhalf] at hc
    exact h.other p c hp hc

/-! ### Appending -/

/-- Chunks that are written are chunks. -/
theorem cksAll_ok {e : Int} (h0 : 0 ≤ e) (h1 : e ≤ 1099511627776) {rs : List (List UInt8)} {p : Nat} (hfit : p + many rs ≤ 127) {i : Nat} {c : Chu} (h : (cksAll e p rs)[i]? = some c) : ok c := by
  obtain ⟨a, b, d⟩ := cksAll_at e rs p i c h
  have hi := (List.getElem?_eq_some_iff.1 h).1
  rw [cksAll_length] at hi
  exact ⟨by omega, by omega, by omega, by omega, d⟩

/-- The records of the epoch e lie whole where their chunks are. -/
theorem laid_all {g : Nat → Option Chu} {e : Int} : ∀ (rs : List (List UInt8)) (p : Nat) (ep : Int), ep ≤ e → (∀ i c, (cksAll e p rs)[i]? = some c → g (p + i) = some c) →
    Laid g p ep (rs.map fun r => (e, r)) (p + many rs) (if rs = [] then ep else e) := by
  intro rs
  induction rs with
  | nil => intro p ep _ _; exact ⟨rfl, rfl⟩
  | cons r rs ih =>
    intro p ep hep hg
    have hpl := plc_pos r
    refine ⟨hep, fun i c hi => ?_, ?_⟩
    · have hlt : i < plc r := by rw [← cks_length e p r]; exact (List.getElem?_eq_some_iff.1 hi).1
      exact hg i c (by rw [cksAll_head e p r rs hlt]; exact hi)
    · have h2 := ih (p + plc r) e (Int.le_refl _) (fun i c hi => by
        have := hg (plc r + i) c (by rw [cksAll_tail e p r rs (by omega)]; rw [← hi]; congr 1; omega)
        rw [← this]; congr 1; omega)
      have e1 : (if rs = [] then e else e) = e := by split <;> rfl
      rw [e1] at h2
      rw [if_neg (by simp)]
      have e2 : p + many (r :: rs) = p + plc r + many rs := by simp only [many]; omega
      rw [e2]
      exact h2

theorem half_put {h : Nat} {c : Chu} {p : Nat} (hok : ok c) (hf : f' (sec h p) = encs c) : half f' h p = some c := by unfold half; rw [hf, chk_encs c hok]
theorem half_same {h p : Nat} (hf : f' (sec h p) = f (sec h p)) : half f' h p = half f h p := by unfold half; rw [hf]

/-- An Append that went well. -/
theorem Live.append (h : Live f t L N ep) (he : t.e ≤ 1099511627776) (rs : List (List UInt8)) (hfit : N + many rs ≤ 127)
    (hput : ∀ i c, (cksAll t.e N rs)[i]? = some c → f' (sec t.h (N + i)) = encs c) (hsame : ∀ j, (∀ i, i < many rs → j ≠ sec t.h (N + i)) → f' j = f j) :
    ∃ ep', Live f' t (L ++ rs.map fun r => (t.e, r)) (N + many rs) ep' := by
  have h1 := h.good.h1
  have b0 := h.good.b0
  have be := h.good.be
  have hle := h.good.le
  have hlow : ∀ p, p < N → half f' t.h p = half f t.h p := fun p hp => half_same (hsame _ (fun i _ e => by have := sec_inj e; omega))
  have hhigh : ∀ p, N + many rs ≤ p → half f' t.h p = half f t.h p := fun p hp => half_same (hsame _ (fun i hi e => by have := sec_inj e; omega))
  have hmid : ∀ i c, (cksAll t.e N rs)[i]? = some c → half f' t.h (N + i) = some c := fun i c hi => half_put (cksAll_ok (by omega) he hfit hi) (hput i c hi)
  have hoth : ∀ p, p < 127 → half f' (1 - t.h) p = half f (1 - t.h) p := fun p hp => half_same (hsame _ (fun i hi e => sec_apart (h := 1 - t.h) (k := t.h) hp (by omega) (by omega) e))
  have hmine : ∀ p c, p < 127 → half f' t.h p = some c → c.e ≤ t.e ∧ (N + many rs ≤ p → c.e < t.e) := by
    intro p c hp hc
    by_cases hl : p < N
    · rw [hlow p hl] at hc
      exact ⟨h.good.mine p c hp hc, fun hx => by omega⟩
    · by_cases hh : N + many rs ≤ p
      · rw [hhigh p hh] at hc
        have := h.fresh p c (by omega) hp hc
        exact ⟨by omega, fun _ => this⟩
      · obtain ⟨c', hc'⟩ : ∃ c', (cksAll t.e N rs)[p - N]? = some c' := ⟨_, List.getElem?_eq_getElem (by rw [cksAll_length]; omega)⟩
        have h2 := hmid _ c' hc'
        have e1 : N + (p - N) = p := by omega
        rw [e1, hc] at h2
        injection h2 with h2
        have h3 := (cksAll_at t.e rs N _ c' hc').1
        rw [h2]
        exact ⟨by omega, fun hx => by omega⟩
  have hl1 : Laid (half f' t.h) 0 t.b L N ep := h.good.laid.congr (fun i _ hi => hlow i hi)
  have hl2 := laid_all (g := half f' t.h) (e := t.e) rs N ep hle hmid
  have hle2 : (if rs = [] then ep else t.e) ≤ t.e := by split <;> omega
  refine ⟨_, ⟨?_, h1, b0, be, fun p c hp hc => (hmine p c hp hc).1, fun p c hp hc => ?_, hl1.append hl2, hle2, hfit, ?_⟩, fun p c h2 hp hc => (hmine p c hp hc).2 h2, fun p c hp hc => ?_⟩
  · rw [top_congr (f := f) (g := f') (fun i hi => hsame i (fun k _ e => by have := sec_ge t.h (N + k); omega))]
    exact h.good.top
  · rw [hoth p hp] at hc
    exact h.good.other p c hp hc
  · by_cases hr : rs = []
    · subst hr
      rw [if_pos rfl]
      exact h.good.stuck.congr (fun i h2 h3 => hhigh i (by simp only [many]; omega))
    · rw [if_neg hr]
      exact stuck_old (fun c h2 h3 => (hmine _ c h2 h3).2 (Nat.le_refl _))
  · rw [hoth p hp] at hc
    exact h.old p c hp hc

/-- An Append that the power cut short. -/
theorem Live.broken (h : Live f t L N ep) (he : t.e ≤ 1099511627776) (rs : List (List UInt8)) (hfit : N + many rs ≤ 127)
    (hmix : ∀ j, f' j = f j ∨ ∃ i c, (cksAll t.e N rs)[i]? = some c ∧ j = sec t.h (N + i) ∧ f' j = encs c) :
    ∃ j N' ep', j ≤ rs.length ∧ Good f' t (L ++ (rs.take j).map fun r => (t.e, r)) N' ep' := by
  have h1 := h.good.h1
  have b0 := h.good.b0
  have be := h.good.be
  have hmixp : ∀ p, p < 127 → half f' t.h p = half f t.h p ∨ ∃ i c, (cksAll t.e N rs)[i]? = some c ∧ p = N + i ∧ half f' t.h p = some c := by
    intro p hp
    rcases hmix (sec t.h p) with hs | ⟨i, c, hi, hj, hs⟩
    · exact .inl (half_same hs)
    · exact .inr ⟨i, c, hi, sec_inj hj, half_put (cksAll_ok (by omega) he hfit hi) hs⟩
  have hlow : ∀ p, p < 127 → p < N → half f' t.h p = half f t.h p := fun p hp hl => by
    rcases hmixp p hp with hs | ⟨i, c, _, hj, _⟩
    · exact hs
    · omega
  have hoth : ∀ p, p < 127 → half f' (1 - t.h) p = half f (1 - t.h) p := fun p hp => by
    rcases hmix (sec (1 - t.h) p) with hs | ⟨i, c, hi, hj, _⟩
    · exact half_same hs
    · have hlt := (List.getElem?_eq_some_iff.1 hi).1
      rw [cksAll_length] at hlt
      exact absurd hj (sec_apart hp (by omega) (by omega))
  have htop : top f' = t := by
    rw [top_congr (f := f) (g := f') (fun i hi => ?_)]
    · exact h.good.top
    · rcases hmix i with hs | ⟨k, c, _, hj, _⟩
      · exact hs
      · have := sec_ge t.h (N + k); omega
  obtain ⟨j, N', ep', hj, hl2, hst, hle, hN⟩ := crash (g := half f t.h) (g' := half f' t.h) (e := t.e) rs N ep h.good.stuck h.good.le hfit (fun i c h2 h3 h4 => h.fresh i c h2 h3 h4) (fun i h2 h3 => by
    rcases hmixp i h3 with hs | ⟨k, c, hk, hi, hs⟩
    · exact .inl hs
    · refine .inr ⟨c, ?_, hs⟩
      rw [← hk]; congr 1; omega)
  have hl1 : Laid (half f' t.h) 0 t.b L N ep := h.good.laid.congr (fun i _ hi => hlow i (by have := h.good.fit; omega) hi)
  refine ⟨j, N', ep', hj, htop, h1, b0, be, fun p c hp hc => ?_, fun p c hp hc => ?_, hl1.append hl2, hle, hN, hst⟩
  · rcases hmixp p hp with hs | ⟨i, c', hi, _, hs⟩
    · rw [hs] at hc; exact h.good.mine p c hp hc
    · rw [hs] at hc
      injection hc with hc
      rw [← hc]
      exact Int.le_of_eq (cksAll_at t.e rs N _ c' hi).1
  · rw [hoth p hp] at hc
    exact h.good.other p c hp hc

/-! ### Renewing -/

/-- A Renew that the power cut short ahead of its head: what was told is told. -/
theorem Live.renewing (h : Live f t L N ep) (he : t.e < 1099511627776) (rs : List (List UInt8)) (hfit : many rs ≤ 127)
    (hmix : ∀ j, f' j = f j ∨ ∃ i c, (cksAll (t.e + 1) 0 rs)[i]? = some c ∧ j = sec (1 - t.h) (0 + i) ∧ f' j = encs c) : Good f' t L N ep := by
  have h1 := h.good.h1
  have b0 := h.good.b0
  have be := h.good.be
  have hmy : ∀ p, p < 127 → half f' t.h p = half f t.h p := fun p hp => by
    rcases hmix (sec t.h p) with hs | ⟨i, c, hi, hj, _⟩
    · exact half_same hs
    · have hlt := (List.getElem?_eq_some_iff.1 hi).1
      rw [cksAll_length] at hlt
      exact absurd hj (sec_apart hp (by omega) (by omega))
  refine ⟨?_, h1, b0, be, fun p c hp hc => ?_, fun p c hp hc => ?_, h.good.laid.congr (fun i _ hi => hmy i (by have := h.good.fit; omega)), h.good.le, h.good.fit, h.good.stuck.congr (fun i _ hi => hmy i hi)⟩
  · rw [top_congr (f := f) (g := f') (fun i hi => ?_)]
    · exact h.good.top
    · rcases hmix i with hs | ⟨k, c, _, hj, _⟩
      · exact hs
      · have := sec_ge (1 - t.h) (0 + k); omega
  · rw [hmy p hp] at hc; exact h.good.mine p c hp hc
  · rcases hmix (sec (1 - t.h) p) with hs | ⟨i, c', hi, hj, hs⟩
    · rw [half_same hs] at hc
      have := h.old p c hp hc
      omega
    · rw [half_put (cksAll_ok (by omega) (by omega) (by omega) hi) hs] at hc
      injection hc with hc
      rw [← hc]
      exact Int.le_of_eq (cksAll_at _ rs 0 _ c' hi).1

/-- A Renew whose head stands. -/
theorem Live.renewed (h : Live f t L N ep) (he : t.e < 1099511627776) (rs : List (List UInt8)) (hfit : many rs ≤ 127)
    (hput : ∀ i c, (cksAll (t.e + 1) 0 rs)[i]? = some c → f' (sec (1 - t.h) (0 + i)) = encs c) (hw : f' (hsec (t.e + 1)) = encs (hd ⟨t.e + 1, t.e + 1, 1 - t.h⟩))
    (hsame : ∀ j, j ≠ hsec (t.e + 1) → (∀ i, i < many rs → j ≠ sec (1 - t.h) (0 + i)) → f' j = f j) :
    Live f' ⟨t.e + 1, t.e + 1, 1 - t.h⟩ (rs.map fun r => (t.e + 1, r)) (many rs) (t.e + 1) := by
  have h1 := h.good.h1
  have b0 := h.good.b0
  have be := h.good.be
  have hmy : ∀ p, p < 127 → half f' t.h p = half f t.h p := fun p hp => half_same (hsame _ (sec_ne_hsec _ _ _) (fun i hi => sec_apart hp (by omega) (by omega)))
  have hmid : ∀ i c, (cksAll (t.e + 1) 0 rs)[i]? = some c → half f' (1 - t.h) (0 + i) = some c := fun i c hi => half_put (cksAll_ok (by omega) (by omega) (by omega) hi) (hput i c hi)
  have hhigh : ∀ p, many rs ≤ p → half f' (1 - t.h) p = half f (1 - t.h) p := fun p hp => half_same (hsame _ (sec_ne_hsec _ _ _) (fun i hi e => by have := sec_inj e; omega))
  have hnew : ∀ p c, p < 127 → half f' (1 - t.h) p = some c → c.e ≤ t.e + 1 ∧ (many rs ≤ p → c.e < t.e + 1) := by
    intro p c hp hc
    by_cases hh : many rs ≤ p
    · rw [hhigh p hh] at hc
      have := h.old p c hp hc
      exact ⟨by omega, fun _ => by omega⟩
    · obtain ⟨c', hc'⟩ : ∃ c', (cksAll (t.e + 1) 0 rs)[p]? = some c' := ⟨_, List.getElem?_eq_getElem (by rw [cksAll_length]; omega)⟩
      have h2 := hmid _ c' hc'
      have e1 : 0 + p = p := by omega
      rw [e1, hc] at h2
      injection h2 with h2
      have h3 := (cksAll_at _ rs 0 _ c' hc').1
      rw [h2]
      exact ⟨by omega, fun hx => absurd hx hh⟩
  have hl := laid_all (g := half f' (1 - t.h)) (e := t.e + 1) rs 0 (t.e + 1) (Int.le_refl _) hmid
  have e1 : (if rs = [] then t.e + 1 else t.e + 1) = t.e + 1 := by split <;> rfl
  rw [e1, Nat.zero_add] at hl
  refine ⟨⟨?_, by show 1 - t.h ≤ 1; omega, by show 0 ≤ t.e + 1; omega, Int.le_refl _, fun p c hp hc => (hnew p c hp hc).1, fun p c hp hc => ?_, hl, Int.le_refl _, by omega, stuck_old (fun c hp hc => (hnew _ c hp hc).2 (Nat.le_refl _))⟩, fun p c h2 hp hc => (hnew p c hp hc).2 h2, fun p c hp hc => ?_⟩
  · exact top_up f f' ⟨t.e + 1, t.e + 1, 1 - t.h⟩ (by show 1 - t.h ≤ 1; omega) (by show 0 ≤ t.e + 1; omega) (Int.le_refl _) (by show t.e + 1 ≤ 1099511627776; omega) (by rw [h.good.top]; show t.e < t.e + 1; omega) hw
      (fun i hi hne => hsame i hne (fun k _ e => by have := sec_ge (1 - t.h) (0 + k); omega))
  · have e2 : 1 - (1 - t.h) = t.h := by omega
    change half f' (1 - (1 - t.h)) p = some c at hc
    rw [e2, hmy p hp] at hc
    have := h.good.mine p c hp hc
    show c.e ≤ t.e + 1 + 1
    omega
  · have e2 : 1 - (1 - t.h) = t.h := by omega
    change half f' (1 - (1 - t.h)) p = some c at hc
    rw [e2, hmy p hp] at hc
    have := h.good.mine p c hp hc
    show c.e ≤ t.e + 1
    omega

end Go.Proofs.YtimcepoleboldaaGreatDoor.Lg
