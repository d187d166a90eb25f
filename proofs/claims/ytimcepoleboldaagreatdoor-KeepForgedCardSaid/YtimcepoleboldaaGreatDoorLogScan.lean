/- Plain mathematics of layer 5, first part: what sectors hold, heads, the scan; records that lie whole, and where the scan stops. It speaks of no program. -/
import Derived.Test.YtimcepoleboldaaGreatDoorDiskPlain
import Derived.Test.YtimcepoleboldaaGreatDoorChunkPlain
namespace Go.Proofs.YtimcepoleboldaaGreatDoor.Lg
open Cn

/-! ### What a sector holds -/

/-- The chunk whose bytes a sector holds. -/
def chk (s : ByteArray) : Option Chu := if isC s.data.toList then some (got s.data.toList) else none

/-- A chunk's bytes. -/
def encs (c : Chu) : ByteArray := ⟨(encB c).toArray⟩

theorem chk_encs (c : Chu) (h : ok c) : chk (encs c) = some c := by
  unfold chk encs
  rw [encB_of_ok h]
  have e : (⟨(sealed (body c)).toArray⟩ : ByteArray).data.toList = sealed (body c) := by simp
  rw [e, if_pos (dec_enc c h).1, (dec_enc c h).2]

theorem encs_size (c : Chu) (h : ok c) : (encs c).size ≤ 128 := by
  unfold encs
  rw [encB_of_ok h]
  have e : (⟨(sealed (body c)).toArray⟩ : ByteArray).size = (sealed (body c)).length := by simp [ByteArray.size]
  rw [e]
  exact sealed_le c h

theorem chk_empty : chk ByteArray.empty = none := by
  unfold chk
  rw [if_neg]
  intro h
  have := (ref_got _ h).1
  simp at this

theorem chk_ok {s : ByteArray} {c : Chu} (h : chk s = some c) : ok c := by
  unfold chk at h
  split at h
  · rename_i hi
    injection h with h
    rw [← h]
    exact (encE_ok _).1 hi.1
  · cases h

/-- Place p of the half h. -/
def sec (h p : Nat) : Nat := 2 + 127 * h + p

theorem sec_lt {h p : Nat} (hh : h ≤ 1) (hp : p < 127) : sec h p < 256 := by unfold sec; omega
theorem sec_ge (h p : Nat) : 2 ≤ sec h p := by unfold sec; omega
theorem sec_inj {h p q : Nat} (e : sec h p = sec h q) : p = q := by unfold sec at e; omega
theorem sec_apart {h k p q : Nat} (hp : p < 127) (hq : q < 127) (hne : h ≠ k) : sec h p ≠ sec k q := by unfold sec; omega

/-! ### Heads -/

/-- Which half counts since when, and the epoch. -/
@[ext] structure Top where
  e : Int
  b : Int
  h : Nat

/-- May c be the head in the sector i? -/
def isHead (c : Chu) (i : Nat) : Prop := c.f = true ∧ c.l = true ∧ (c.d = [48] ∨ c.d = [49]) ∧ c.q ≤ c.e ∧ c.e % 2 = (i : Int)
instance (c : Chu) (i : Nat) : Decidable (isHead c i) := by unfold isHead; infer_instance

def head (f : Nat → ByteArray) (i : Nat) : Option Chu :=
  match chk (f i) with
  | some c => if isHead c i then some c else none
  | none => none

def topOf (c : Chu) : Top := ⟨c.e, c.q, if c.d = [49] then 1 else 0⟩

/-- The head that counts. -/
def top (f : Nat → ByteArray) : Top :=
  match head f 0 with
  | some a => match head f 1 with
    | some b => if a.e < b.e then topOf b else topOf a
    | none => topOf a
  | none => match head f 1 with
    | some b => topOf b
    | none => ⟨0, 0, 0⟩

/-- A head as a chunk. -/
def hd (t : Top) : Chu := ⟨t.e, t.b, true, true, if t.h = 1 then [49] else [48]⟩

theorem hd_ok (t : Top) (h0 : 0 ≤ t.b) (h1 : t.b ≤ t.e) (h2 : t.e ≤ 1099511627776) : ok (hd t) := by
  refine ⟨by show 0 ≤ t.e; omega, h2, h0, by show t.b ≤ 1099511627776; omega, ?_⟩
  show (if t.h = 1 then [49] else [48] : List UInt8).length ≤ 96
  split <;> simp

theorem topOf_hd (t : Top) (h : t.h ≤ 1) : topOf (hd t) = t := by
  unfold topOf hd
  ext
  · rfl
  · rfl
  · show (if (if t.h = 1 then [49] else [48] : List UInt8) = [49] then 1 else 0) = t.h
    rcases (show t.h = 0 ∨ t.h = 1 by omega) with e | e <;> rw [e] <;> rfl

/-- The sector of the head of an epoch. -/
def hsec (e : Int) : Nat := (e % 2).toNat

theorem hsec_lt (e : Int) : hsec e < 2 := by unfold hsec; omega

theorem head_le (f : Nat → ByteArray) (i : Nat) (hi : i < 2) (c : Chu) (h : head f i = some c) : c.e ≤ (top f).e := by
  unfold top
  rcases (show i = 0 ∨ i = 1 by omega) with rfl | rfl
  · rw [h]
    show c.e ≤ (match head f 1 with | some b => if c.e < b.e then topOf b else topOf c | none => topOf c).e
    cases h1 : head f 1 with
    | none => exact Int.le_refl _
    | some b =>
      show c.e ≤ (if c.e < b.e then topOf b else topOf c).e
      split
      · rename_i hlt; exact Int.le_of_lt hlt
      · exact Int.le_refl _
  · cases h0 : head f 0 with
    | none => rw [h]; exact Int.le_refl _
    | some a =>
      rw [h]
      show c.e ≤ (if a.e < c.e then topOf c else topOf a).e
      split
      · exact Int.le_refl _
      · rename_i hlt; show c.e ≤ a.e; omega

theorem head_hd (f : Nat → ByteArray) (t : Top) (h0 : 0 ≤ t.b) (h1 : t.b ≤ t.e) (h2 : t.e ≤ 1099511627776) (hf : f (hsec t.e) = encs (hd t)) : head f (hsec t.e) = some (hd t) := by
  unfold head
  rw [hf, chk_encs _ (hd_ok t h0 h1 h2)]
  show (if isHead (hd t) (hsec t.e) then some (hd t) else none) = some (hd t)
  rw [if_pos]
  refine ⟨rfl, rfl, ?_, h1, ?_⟩
  · show (if t.h = 1 then [49] else [48] : List UInt8) = [48] ∨ (if t.h = 1 then [49] else [48] : List UInt8) = [49]
    split
    · exact .inr rfl
    · exact .inl rfl
  · show t.e % 2 = ((t.e % 2).toNat : Int)
    omega

/-- A head of a greater epoch, written in its sector, is the one that counts. -/
theorem top_up (f g : Nat → ByteArray) (t : Top) (hh : t.h ≤ 1) (h0 : 0 ≤ t.b) (h1 : t.b ≤ t.e) (h2 : t.e ≤ 1099511627776) (hlt : (top f).e < t.e)
    (hg : g (hsec t.e) = encs (hd t)) (hfg : ∀ i, i < 2 → i ≠ hsec t.e → g i = f i) : top g = t := by
  have hhd := head_hd g t h0 h1 h2 hg
  have hother : ∀ i, i < 2 → i ≠ hsec t.e → ∀ c, head g i = some c → c.e < t.e := by
    intro i hi hne c hc
    have e : head g i = head f i := by unfold head; rw [hfg i hi hne]
    rw [e] at hc
    exact Int.lt_of_le_of_lt (head_le f i hi c hc) hlt
  have hs := hsec_lt t.e
  rcases (show hsec t.e = 0 ∨ hsec t.e = 1 by omega) with e | e
  · rw [e] at hhd
    unfold top
    rw [hhd]
    show (match head g 1 with | some b => if (hd t).e < b.e then topOf b else topOf (hd t) | none => topOf (hd t)) = t
    cases hb : head g 1 with
    | none => exact topOf_hd t hh
    | some b =>
      have := hother 1 (by omega) (by omega) b hb
      show (if t.e < b.e then topOf b else topOf (hd t)) = t
      rw [if_neg (by omega)]
      exact topOf_hd t hh
  · rw [e] at hhd
    unfold top
    cases ha : head g 0 with
    | none =>
      rw [hhd]
      exact topOf_hd t hh
    | some a =>
      have := hother 0 (by omega) (by omega) a ha
      rw [hhd]
      show (if a.e < t.e then topOf (hd t) else topOf a) = t
      rw [if_pos this]
      exact topOf_hd t hh

theorem top_congr {f g : Nat → ByteArray} (h : ∀ i, i < 2 → g i = f i) : top g = top f := by
  have e : ∀ i, i < 2 → head g i = head f i := fun i hi => by unfold head; rw [h i hi]
  unfold top
  rw [e 0 (by omega), e 1 (by omega)]

/-! ### The scan -/

/-- From the place p on, n places: the records, and the place behind the last chunk of the last one (nx so far). op: the record that is open. -/
def scanGo (g : Nat → Option Chu) (E : Int) : Nat → Nat → Int → Option (List UInt8) → Nat → List (List UInt8) × Nat
  | 0, _, _, _, nx => ([], nx)
  | n + 1, p, ep, op, nx =>
    match g p with
    | some c =>
      if c.q = (p : Int) ∧ ep ≤ c.e ∧ c.e ≤ E ∧ c.f = op.isNone ∧ (op.isSome = true → c.e = ep) then
        if c.l then ((op.getD [] ++ c.d) :: (scanGo g E n (p + 1) c.e none (p + 1)).1, (scanGo g E n (p + 1) c.e none (p + 1)).2)
        else scanGo g E n (p + 1) c.e (some (op.getD [] ++ c.d)) nx
      else ([], nx)
    | none => ([], nx)

/-- What the half that counts holds. -/
def half (f : Nat → ByteArray) (h : Nat) : Nat → Option Chu := fun p => chk (f (sec h p))

/-- The scan of the half that counts. -/
def scan (f : Nat → ByteArray) (t : Top) : List (List UInt8) × Nat := scanGo (half f t.h) t.e 127 0 t.b none 0

theorem scan_none {g : Nat → Option Chu} {E : Int} {n p : Nat} {ep : Int} {op : Option (List UInt8)} {nx : Nat} (h : g p = none) : scanGo g E (n + 1) p ep op nx = ([], nx) := by
  rw [scanGo, h]
theorem scan_bad {g : Nat → Option Chu} {E : Int} {n p : Nat} {ep : Int} {op : Option (List UInt8)} {nx : Nat} {c : Chu} (h : g p = some c) (hb : ¬ (c.q = (p : Int) ∧ ep ≤ c.e ∧ c.e ≤ E ∧ c.f = op.isNone ∧ (op.isSome = true → c.e = ep))) : scanGo g E (n + 1) p ep op nx = ([], nx) := by
  rw [scanGo, h]
  exact if_neg hb
theorem scan_last {g : Nat → Option Chu} {E : Int} {n p : Nat} {ep : Int} {op : Option (List UInt8)} {nx : Nat} {c : Chu} (h : g p = some c) (hb : c.q = (p : Int) ∧ ep ≤ c.e ∧ c.e ≤ E ∧ c.f = op.isNone ∧ (op.isSome = true → c.e = ep)) (hl : c.l = true) :
    scanGo g E (n + 1) p ep op nx = ((op.getD [] ++ c.d) :: (scanGo g E n (p + 1) c.e none (p + 1)).1, (scanGo g E n (p + 1) c.e none (p + 1)).2) := by
  rw [scanGo, h]
  show (if _ then if c.l = true then _ else _ else _) = _
  rw [if_pos hb, if_pos hl]
theorem scan_more {g : Nat → Option Chu} {E : Int} {n p : Nat} {ep : Int} {op : Option (List UInt8)} {nx : Nat} {c : Chu} (h : g p = some c) (hb : c.q = (p : Int) ∧ ep ≤ c.e ∧ c.e ≤ E ∧ c.f = op.isNone ∧ (op.isSome = true → c.e = ep)) (hl : c.l = false) :
    scanGo g E (n + 1) p ep op nx = scanGo g E n (p + 1) c.e (some (op.getD [] ++ c.d)) nx := by
  rw [scanGo, h]
  show (if _ then if c.l = true then _ else _ else _) = _
  rw [if_pos hb, if_neg (by rw [hl]; exact Bool.false_ne_true)]

/-- The scan looks at its own places alone. -/
theorem scan_congr {g g' : Nat → Option Chu} (E : Int) : ∀ (n p : Nat) (ep : Int) (op : Option (List UInt8)) (nx : Nat), (∀ i, p ≤ i → i < p + n → g' i = g i) → scanGo g' E n p ep op nx = scanGo g E n p ep op nx := by
  intro n
  induction n with
  | zero => intro p ep op nx _; rfl
  | succ n ih =>
    intro p ep op nx h
    have h0 := h p (Nat.le_refl _) (by omega)
    have hn : ∀ i, p + 1 ≤ i → i < p + 1 + n → g' i = g i := fun i hi hj => h i (by omega) (by omega)
    cases hg : g p with
    | none => rw [scan_none hg, scan_none (by rw [h0, hg])]
    | some c =>
      have hg' : g' p = some c := by rw [h0, hg]
      by_cases hb : c.q = (p : Int) ∧ ep ≤ c.e ∧ c.e ≤ E ∧ c.f = op.isNone ∧ (op.isSome = true → c.e = ep)
      · cases hl : c.l with
        | true => rw [scan_last hg hb hl, scan_last hg' hb hl, ih _ _ _ _ hn]
        | false => rw [scan_more hg hb hl, scan_more hg' hb hl, ih _ _ _ _ hn]
      · rw [scan_bad hg hb, scan_bad hg' hb]

/-- Nor at epochs that no chunk has. -/
theorem scan_epoch {g : Nat → Option Chu} (E E' : Int) : ∀ (n p : Nat) (ep : Int) (op : Option (List UInt8)) (nx : Nat), (∀ i c, p ≤ i → i < p + n → g i = some c → (c.e ≤ E ↔ c.e ≤ E')) → scanGo g E n p ep op nx = scanGo g E' n p ep op nx := by
  intro n
  induction n with
  | zero => intro p ep op nx _; rfl
  | succ n ih =>
    intro p ep op nx h
    have hn : ∀ i c, p + 1 ≤ i → i < p + 1 + n → g i = some c → (c.e ≤ E ↔ c.e ≤ E') := fun i c hi hj => h i c (by omega) (by omega)
    cases hg : g p with
    | none => rw [scan_none hg, scan_none hg]
    | some c =>
      have h0 := h p c (Nat.le_refl _) (by omega) hg
      by_cases hb : c.q = (p : Int) ∧ ep ≤ c.e ∧ c.e ≤ E ∧ c.f = op.isNone ∧ (op.isSome = true → c.e = ep)
      · have hb' : c.q = (p : Int) ∧ ep ≤ c.e ∧ c.e ≤ E' ∧ c.f = op.isNone ∧ (op.isSome = true → c.e = ep) := ⟨hb.1, hb.2.1, h0.1 hb.2.2.1, hb.2.2.2⟩
        cases hl : c.l with
        | true => rw [scan_last hg hb hl, scan_last hg hb' hl, ih _ _ _ _ hn]
        | false => rw [scan_more hg hb hl, scan_more hg hb' hl, ih _ _ _ _ hn]
      · have hb' : ¬ (c.q = (p : Int) ∧ ep ≤ c.e ∧ c.e ≤ E' ∧ c.f = op.isNone ∧ (op.isSome = true → c.e = ep)) := fun h => hb ⟨h.1, h.2.1, h0.2 h.2.2.1, h.2.2.2⟩
        rw [scan_bad hg hb, scan_bad hg hb']

/-! ### Records as chunks -/

/-- Pieces as chunks, from the place p on; fst: is the first one the record's first? -/
def cksGo (e : Int) : Nat → Bool → List (List UInt8) → List Chu
  | _, _, [] => []
  | p, fst, d :: ds => ⟨e, (p : Int), fst, ds.isEmpty, d⟩ :: cksGo e (p + 1) false ds

/-- How many places a record takes. -/
def plc (r : List UInt8) : Nat := (cut r).length

theorem plc_pos (r : List UInt8) : 0 < plc r := cut_pos r

/-- A record as chunks. -/
def cks (e : Int) (p : Nat) (r : List UInt8) : List Chu := cksGo e p true (cut r)

/-- Records as chunks, one behind the other. -/
def cksAll (e : Int) : Nat → List (List UInt8) → List Chu
  | _, [] => []
  | p, r :: rs => cks e p r ++ cksAll e (p + plc r) rs

/-- How many places records take. -/
def many : List (List UInt8) → Nat
  | [] => 0
  | r :: rs => plc r + many rs

theorem many_append (a b : List (List UInt8)) : many (a ++ b) = many a + many b := by
  induction a with
  | nil => simp [many]
  | cons r a ih => simp only [List.cons_append, many, ih]; omega

theorem cksGo_length (e : Int) : ∀ (ds : List (List UInt8)) (p : Nat) (fst : Bool), (cksGo e p fst ds).length = ds.length := by
  intro ds
  induction ds with
  | nil => intro p fst; rfl
  | cons d ds ih => intro p fst; simp [cksGo, ih]

theorem cks_length (e : Int) (p : Nat) (r : List UInt8) : (cks e p r).length = plc r := cksGo_length e _ p true

theorem cksAll_length (e : Int) : ∀ (rs : List (List UInt8)) (p : Nat), (cksAll e p rs).length = many rs := by
  intro rs
  induction rs with
  | nil => intro p; rfl
  | cons r rs ih => intro p; simp only [cksAll, List.length_append, cks_length, ih, many]

theorem cksGo_at (e : Int) : ∀ (ds : List (List UInt8)) (p : Nat) (fst : Bool) (i : Nat) (c : Chu), (cksGo e p fst ds)[i]? = some c → c.e = e ∧ c.q = ((p + i : Nat) : Int) ∧ c.d ∈ ds := by
  intro ds
  induction ds with
  | nil => intro p fst i c h; simp [cksGo] at h
  | cons d ds ih =>
    intro p fst i c h
    cases i with
    | zero =>
      simp only [cksGo, List.getElem?_cons_zero, Option.some.injEq] at h
      subst h
      exact ⟨rfl, rfl, List.mem_cons_self ..⟩
    | succ i =>
      simp only [cksGo, List.getElem?_cons_succ] at h
      obtain ⟨h1, h2, h3⟩ := ih (p + 1) false i c h
      exact ⟨h1, by rw [h2]; omega, List.mem_cons_of_mem _ h3⟩

theorem cut_le (n : Nat) : ∀ (s : List UInt8), s.length ≤ n → ∀ d ∈ cut s, d.length ≤ 96 := by
  induction n using Nat.strongRecOn with
  | _ n ih =>
    intro s hs d hd
    by_cases h : 96 < s.length
    · rw [cut_long s h] at hd
      rcases List.mem_cons.1 hd with rfl | hd
      · rw [List.length_take]; omega
      · exact ih (n - 96) (by omega) (s.drop 96) (by rw [List.length_drop]; omega) d hd
    · rw [cut_short s (by omega)] at hd
      simp at hd
      subst hd
      omega

theorem cut_join (n : Nat) : ∀ (s : List UInt8), s.length ≤ n → (cut s).flatten = s := by
  induction n using Nat.strongRecOn with
  | _ n ih =>
    intro s hs
    by_cases h : 96 < s.length
    · rw [cut_long s h, List.flatten_cons, ih (n - 96) (by omega) (s.drop 96) (by rw [List.length_drop]; omega), List.take_append_drop]
    · rw [cut_short s (by omega)]
      simp

theorem cks_at (e : Int) (p : Nat) (r : List UInt8) (i : Nat) (c : Chu) (h : (cks e p r)[i]? = some c) : c.e = e ∧ c.q = ((p + i : Nat) : Int) ∧ c.d.length ≤ 96 := by
  obtain ⟨h1, h2, h3⟩ := cksGo_at e _ p true i c h
  exact ⟨h1, h2, cut_le _ r (Nat.le_refl _) _ h3⟩

theorem cksAll_at (e : Int) : ∀ (rs : List (List UInt8)) (p i : Nat) (c : Chu), (cksAll e p rs)[i]? = some c → c.e = e ∧ c.q = ((p + i : Nat) : Int) ∧ c.d.length ≤ 96 := by
  intro rs
  induction rs with
  | nil => intro p i c h; simp [cksAll] at h
  | cons r rs ih =>
    intro p i c h
    simp only [cksAll] at h
    by_cases hi : i < plc r
    · rw [List.getElem?_append_left (by rw [cks_length]; exact hi)] at h
      exact cks_at e p r i c h
    · rw [List.getElem?_append_right (by rw [cks_length]; omega), cks_length] at h
      obtain ⟨h1, h2, h3⟩ := ih (p + plc r) (i - plc r) c h
      exact ⟨h1, by rw [h2]; omega, h3⟩

/-! ### Records that lie whole -/

/-- From the place p on, behind the epoch ep, the records of L lie one behind the other, each with its epoch; behind them is the place N, and the epoch ep'. -/
def Laid (g : Nat → Option Chu) : Nat → Int → List (Int × List UInt8) → Nat → Int → Prop
  | p, ep, [], N, ep' => N = p ∧ ep' = ep
  | p, ep, (a, r) :: L, N, ep' => ep ≤ a ∧ (∀ i c, (cks a p r)[i]? = some c → g (p + i) = some c) ∧ Laid g (p + plc r) a L N ep'

/-- From the place p on no record is whole. -/
def Stuck (g : Nat → Option Chu) (E : Int) (p : Nat) (ep : Int) : Prop := ∀ n nx, p + n ≤ 127 → scanGo g E n p ep none nx = ([], nx)

theorem Laid.le {g : Nat → Option Chu} : ∀ {L : List (Int × List UInt8)} {p : Nat} {ep : Int} {N : Nat} {ep' : Int}, Laid g p ep L N ep' → p ≤ N ∧ ep ≤ ep'
  | [], _, _, _, _, h => ⟨Nat.le_of_eq h.1.symm, Int.le_of_eq h.2.symm⟩
  | (a, r) :: L, p, ep, N, ep', h => by
    have := Laid.le h.2.2
    have h1 := h.1
    omega

theorem Laid.num {g : Nat → Option Chu} : ∀ {L : List (Int × List UInt8)} {p : Nat} {ep : Int} {N : Nat} {ep' : Int}, Laid g p ep L N ep' → N = p + many (L.map (·.2))
  | [], _, _, _, _, h => by rw [h.1]; rfl
  | (a, r) :: L, p, ep, N, ep', h => by
    have := Laid.num h.2.2
    simp only [List.map_cons, many]
    omega

theorem Laid.congr {g g' : Nat → Option Chu} : ∀ {L : List (Int × List UInt8)} {p : Nat} {ep : Int} {N : Nat} {ep' : Int}, Laid g p ep L N ep' → (∀ i, p ≤ i → i < N → g' i = g i) → Laid g' p ep L N ep'
  | [], _, _, _, _, h, _ => h
  | (a, r) :: L, p, ep, N, ep', h, hc => by
    have hN := (Laid.le h.2.2).1
    refine ⟨h.1, fun i c hi => ?_, Laid.congr h.2.2 (fun i h1 h2 => hc i (by have := plc_pos r; omega) h2)⟩
    have hlt : i < (cks a p r).length := (List.getElem?_eq_some_iff.1 hi).1
    rw [cks_length] at hlt
    rw [hc (p + i) (by omega) (by omega)]
    exact h.2.1 i c hi

theorem Laid.append {g : Nat → Option Chu} : ∀ {L M : List (Int × List UInt8)} {p : Nat} {ep : Int} {N : Nat} {ep' : Int} {N2 : Nat} {ep2 : Int}, Laid g p ep L N ep' → Laid g N ep' M N2 ep2 → Laid g p ep (L ++ M) N2 ep2
  | [], _, _, _, _, _, _, _, h, k => by obtain ⟨rfl, rfl⟩ := h; exact k
  | (_, _) :: _, _, _, _, _, _, _, _, h, k => ⟨h.1, h.2.1, Laid.append h.2.2 k⟩

/-- Pieces of an open record. -/
theorem scan_pieces {g : Nat → Option Chu} {E e : Int} (hE : e ≤ E) : ∀ (ds : List (List UInt8)) (p n : Nat) (t : List UInt8) (nx : Nat), ds ≠ [] → ds.length ≤ n →
    (∀ i c, (cksGo e p false ds)[i]? = some c → g (p + i) = some c) →
    scanGo g E n p e (some t) nx = ((t ++ ds.flatten) :: (scanGo g E (n - ds.length) (p + ds.length) e none (p + ds.length)).1, (scanGo g E (n - ds.length) (p + ds.length) e none (p + ds.length)).2) := by
  intro ds
  induction ds with
  | nil => intro p n t nx h; exact absurd rfl h
  | cons d ds ih =>
    intro p n t nx _ hn hg
    obtain ⟨m, rfl⟩ : ∃ m, n = m + 1 := ⟨n - 1, by simp only [List.length_cons] at hn; omega⟩
    have h0 : g p = some (⟨e, (p : Int), false, ds.isEmpty, d⟩ : Chu) := hg 0 _ rfl
    have hb : ((⟨e, (p : Int), false, ds.isEmpty, d⟩ : Chu).q = (p : Int) ∧ e ≤ (⟨e, (p : Int), false, ds.isEmpty, d⟩ : Chu).e ∧ (⟨e, (p : Int), false, ds.isEmpty, d⟩ : Chu).e ≤ E ∧ (⟨e, (p : Int), false, ds.isEmpty, d⟩ : Chu).f = (some t).isNone ∧ ((some t).isSome = true → (⟨e, (p : Int), false, ds.isEmpty, d⟩ : Chu).e = e)) :=
      ⟨rfl, Int.le_refl _, hE, rfl, fun _ => rfl⟩
    cases ds with
    | nil =>
      rw [scan_last h0 hb rfl]
      simp
    | cons d2 ds =>
      rw [scan_more h0 hb rfl]
      have hrec := ih (p + 1) m (t ++ d) nx (by simp) (by simp only [List.length_cons] at hn ⊢; omega) (fun i c hi => by
        have := hg (i + 1) c (by simp only [cksGo, List.getElem?_cons_succ] at hi ⊢; exact hi)
        rw [← this]; congr 1; omega)
      show scanGo g E m (p + 1) e (some (t ++ d)) nx = _
      rw [hrec]
      have e1 : m - (d2 :: ds).length = m + 1 - (d :: d2 :: ds).length := by simp only [List.length_cons]; omega
      have e2 : p + 1 + (d2 :: ds).length = p + (d :: d2 :: ds).length := by simp only [List.length_cons]; omega
      rw [e1, e2, List.flatten_cons, List.append_assoc]
      rfl

/-- A record that lies whole is read. -/
theorem scan_rec {g : Nat → Option Chu} {E a ep : Int} {p n nx : Nat} {r : List UInt8} (hE : a ≤ E) (hep : ep ≤ a) (hn : plc r ≤ n) (hg : ∀ i c, (cks a p r)[i]? = some c → g (p + i) = some c) :
    scanGo g E n p ep none nx = (r :: (scanGo g E (n - plc r) (p + plc r) a none (p + plc r)).1, (scanGo g E (n - plc r) (p + plc r) a none (p + plc r)).2) := by
  have hpos := plc_pos r
  have hj := cut_join _ r (Nat.le_refl _)
  unfold plc at *
  unfold cks at hg
  generalize cut r = ds at *
  cases ds with
  | nil => simp at hpos
  | cons d ds =>
    obtain ⟨m, rfl⟩ : ∃ m, n = m + 1 := ⟨n - 1, by omega⟩
    have h0 : g p = some (⟨a, (p : Int), true, ds.isEmpty, d⟩ : Chu) := hg 0 _ rfl
    have hb : ((⟨a, (p : Int), true, ds.isEmpty, d⟩ : Chu).q = (p : Int) ∧ ep ≤ (⟨a, (p : Int), true, ds.isEmpty, d⟩ : Chu).e ∧ (⟨a, (p : Int), true, ds.isEmpty, d⟩ : Chu).e ≤ E ∧ (⟨a, (p : Int), true, ds.isEmpty, d⟩ : Chu).f = (none : Option (List UInt8)).isNone ∧ ((none : Option (List UInt8)).isSome = true → (⟨a, (p : Int), true, ds.isEmpty, d⟩ : Chu).e = ep)) :=
      ⟨rfl, hep, hE, rfl, fun h => by cases h⟩
    cases ds with
    | nil =>
      rw [scan_last h0 hb rfl]
      simp at hj
      simp [hj]
    | cons d2 ds =>
      rw [scan_more h0 hb rfl]
      have hrec := scan_pieces (g := g) hE (d2 :: ds) (p + 1) m d nx (by simp) (by simp only [List.length_cons] at hn ⊢; omega) (fun i c hi => by
        have := hg (i + 1) c (by simp only [cksGo, List.getElem?_cons_succ] at hi ⊢; exact hi)
        rw [← this]; congr 1; omega)
      show scanGo g E m (p + 1) a (some ([] ++ d)) nx = _
      rw [List.nil_append, hrec]
      have e1 : m - (d2 :: ds).length = m + 1 - (d :: d2 :: ds).length := by simp only [List.length_cons]; omega
      have e2 : p + 1 + (d2 :: ds).length = p + (d :: d2 :: ds).length := by simp only [List.length_cons]; omega
      have e3 : d ++ (d2 :: ds).flatten = r := hj
      rw [e1, e2, e3]

/-- Records that lie whole are read, one behind the other. -/
theorem scan_laid {g : Nat → Option Chu} {E : Int} : ∀ {L : List (Int × List UInt8)} {p n : Nat} {ep : Int} {N : Nat} {ep' : Int}, Laid g p ep L N ep' → ep' ≤ E → N ≤ p + n →
    scanGo g E n p ep none p = (L.map (·.2) ++ (scanGo g E (n - (N - p)) N ep' none N).1, (scanGo g E (n - (N - p)) N ep' none N).2)
  | [], p, n, ep, N, ep', h, _, _ => by
    obtain ⟨rfl, rfl⟩ := h
    simp
  | (a, r) :: L, p, n, ep, N, ep', h, hE, hN => by
    have hle := Laid.le h.2.2
    rw [scan_rec (a := a) (r := r) (by omega) h.1 (by omega) h.2.1]
    rw [scan_laid h.2.2 hE (by omega)]
    have e1 : n - plc r - (N - (p + plc r)) = n - (N - p) := by omega
    rw [e1]
    rfl

/-- The scan of records that lie whole, with nothing whole behind them. -/
theorem scan_whole {g : Nat → Option Chu} {E : Int} {L : List (Int × List UInt8)} {b : Int} {N : Nat} {ep' : Int} (h : Laid g 0 b L N ep') (hE : ep' ≤ E) (hN : N ≤ 127) (hs : Stuck g E N ep') :
    scanGo g E 127 0 b none 0 = (L.map (·.2), N) := by
  rw [scan_laid h hE (by omega), hs (127 - (N - 0)) N (by omega)]
  simp

/-! ### Where the scan stops -/

theorem Stuck.congr {g g' : Nat → Option Chu} {E : Int} {p : Nat} {ep : Int} (h : Stuck g E p ep) (hc : ∀ i, p ≤ i → i < 127 → g' i = g i) : Stuck g' E p ep := by
  intro n nx hn
  rw [scan_congr E n p ep none nx (fun i h1 h2 => hc i h1 (by omega))]
  exact h n nx hn

theorem Stuck.epoch {g : Nat → Option Chu} {E E' : Int} {p : Nat} {ep : Int} (h : Stuck g E p ep) (hc : ∀ i c, p ≤ i → i < 127 → g i = some c → (c.e ≤ E ↔ c.e ≤ E')) : Stuck g E' p ep := by
  intro n nx hn
  rw [← scan_epoch E E' n p ep none nx (fun i c h1 h2 => hc i c h1 (by omega))]
  exact h n nx hn

/-- Chunks of elder epochs stop it. -/
theorem stuck_old {g : Nat → Option Chu} {E : Int} {p : Nat} {ep : Int} (h : ∀ c, p < 127 → g p = some c → c.e < ep) : Stuck g E p ep := by
  intro n nx hn
  cases n with
  | zero => rfl
  | succ n =>
    cases hg : g p with
    | none => exact scan_none hg
    | some c =>
      have := h c (by omega) hg
      exact scan_bad hg (fun hb => by have := hb.2.1; omega)

/-- While a record of an elder epoch is open, chunks of the epoch e close none. -/
theorem open_mix {g g' : Nat → Option Chu} {E e : Int} {lo : Nat} (hnew : ∀ i c, lo ≤ i → i < 127 → g' i = some c → g' i = g i ∨ c.e = e) :
    ∀ (n q : Nat) (a : Int) (t : List UInt8) (nx : Nat), lo ≤ q → q + n ≤ 127 → a < e → scanGo g E n q a (some t) nx = ([], nx) → scanGo g' E n q a (some t) nx = ([], nx) := by
  intro n
  induction n with
  | zero => intro q a t nx _ _ _ _; rfl
  | succ n ih =>
    intro q a t nx hlo hq ha h
    cases hg' : g' q with
    | none => exact scan_none hg'
    | some c =>
      rcases hnew q c hlo (by omega) hg' with hs | hs
      · have hg : g q = some c := by rw [← hs, hg']
        by_cases hb : c.q = (q : Int) ∧ a ≤ c.e ∧ c.e ≤ E ∧ c.f = (some t).isNone ∧ ((some t).isSome = true → c.e = a)
        · cases hl : c.l with
          | true =>
            rw [scan_last hg hb hl] at h
            exact absurd (congrArg Prod.fst h) (by simp)
          | false =>
            rw [scan_more hg hb hl] at h
            rw [scan_more hg' hb hl]
            have := hb.2.2.2.2 rfl
            exact ih (q + 1) c.e _ nx (by omega) (by omega) (by omega) h
        · exact scan_bad hg' hb
      · exact scan_bad hg' (fun hb => by have := hb.2.2.2.2 rfl; omega)

/-- Where the place itself is as it was, chunks of a later epoch behind it complete nothing. -/
theorem stuck_mix {g g' : Nat → Option Chu} {E e : Int} {p : Nat} {ep : Int} (h : Stuck g E p ep) (hold : ∀ c, p < 127 → g p = some c → c.e < e) (hp : g' p = g p)
    (hnew : ∀ i c, p ≤ i → i < 127 → g' i = some c → g' i = g i ∨ c.e = e) : Stuck g' E p ep := by
  intro n nx hn
  cases n with
  | zero => rfl
  | succ n =>
    have h0 := h (n + 1) nx hn
    cases hg : g p with
    | none => exact scan_none (by rw [hp, hg])
    | some c =>
      have hg' : g' p = some c := by rw [hp, hg]
      by_cases hb : c.q = (p : Int) ∧ ep ≤ c.e ∧ c.e ≤ E ∧ c.f = (none : Option (List UInt8)).isNone ∧ ((none : Option (List UInt8)).isSome = true → c.e = ep)
      · cases hl : c.l with
        | true =>
          rw [scan_last hg hb hl] at h0
          exact absurd (congrArg Prod.fst h0) (by simp)
        | false =>
          rw [scan_more hg hb hl] at h0
          rw [scan_more hg' hb hl]
          exact open_mix hnew n (p + 1) c.e _ nx (by omega) (by omega) (hold c (by omega) hg) h0
      · exact scan_bad hg' hb

/-- A record of which the first k pieces lie there, and then an elder chunk, or none, is not read. -/
theorem stop_pieces {g : Nat → Option Chu} {e : Int} : ∀ (k : Nat) (ds : List (List UInt8)) (q n : Nat) (t : List UInt8) (nx : Nat), k < ds.length → q + n ≤ 127 →
    (∀ i c, i < k → (cksGo e q false ds)[i]? = some c → g (q + i) = some c) → (∀ c, g (q + k) = some c → c.e < e) → scanGo g e n q e (some t) nx = ([], nx) := by
  intro k
  induction k with
  | zero =>
    intro ds q n t nx _ _ _ hk
    cases n with
    | zero => rfl
    | succ n =>
      cases hg : g q with
      | none => exact scan_none hg
      | some c =>
        have := hk c hg
        exact scan_bad hg (fun hb => by have := hb.2.1; omega)
  | succ k ih =>
    intro ds q n t nx hk hq hg hstop
    cases n with
    | zero => rfl
    | succ n =>
      cases ds with
      | nil => simp at hk
      | cons d ds =>
        have h0 : g q = some (⟨e, (q : Int), false, ds.isEmpty, d⟩ : Chu) := hg 0 _ (by omega) rfl
        have hne : ds.isEmpty = false := by
          cases ds with
          | nil => simp at hk
          | cons _ _ => rfl
        have hb : ((⟨e, (q : Int), false, ds.isEmpty, d⟩ : Chu).q = (q : Int) ∧ e ≤ (⟨e, (q : Int), false, ds.isEmpty, d⟩ : Chu).e ∧ (⟨e, (q : Int), false, ds.isEmpty, d⟩ : Chu).e ≤ e ∧ (⟨e, (q : Int), false, ds.isEmpty, d⟩ : Chu).f = (some t).isNone ∧ ((some t).isSome = true → (⟨e, (q : Int), false, ds.isEmpty, d⟩ : Chu).e = e)) :=
          ⟨rfl, Int.le_refl _, Int.le_refl _, rfl, fun _ => rfl⟩
        rw [scan_more h0 hb hne]
        refine ih ds (q + 1) n (t ++ d) nx (by simpa using hk) (by omega) (fun i c hi h => ?_) (fun c h => ?_)
        · have := hg (i + 1) c (by omega) (by simp only [cksGo, List.getElem?_cons_succ]; exact h)
          rw [← this]; congr 1; omega
        · refine hstop c ?_
          rw [← h]; congr 1; omega

/-- The same, from a record's first piece on. -/
theorem stop_rec {g : Nat → Option Chu} {e ep : Int} {p : Nat} {r : List UInt8} {k : Nat} (hep : ep ≤ e) (hk0 : 0 < k) (hk : k < plc r) (hg : ∀ i c, i < k → (cks e p r)[i]? = some c → g (p + i) = some c) (hstop : ∀ c, g (p + k) = some c → c.e < e) :
    Stuck g e p ep := by
  intro n nx hn
  unfold plc at hk
  unfold cks at hg
  generalize cut r = ds at *
  cases n with
  | zero => rfl
  | succ n =>
    obtain ⟨m, rfl⟩ : ∃ m, k = m + 1 := ⟨k - 1, by omega⟩
    cases ds with
    | nil => simp at hk
    | cons d ds =>
      have h0 : g p = some (⟨e, (p : Int), true, ds.isEmpty, d⟩ : Chu) := hg 0 _ (by omega) rfl
      have hne : ds.isEmpty = false := by
        cases ds with
        | nil => simp at hk
        | cons _ _ => rfl
      have hb : ((⟨e, (p : Int), true, ds.isEmpty, d⟩ : Chu).q = (p : Int) ∧ ep ≤ (⟨e, (p : Int), true, ds.isEmpty, d⟩ : Chu).e ∧ (⟨e, (p : Int), true, ds.isEmpty, d⟩ : Chu).e ≤ e ∧ (⟨e, (p : Int), true, ds.isEmpty, d⟩ : Chu).f = (none : Option (List UInt8)).isNone ∧ ((none : Option (List UInt8)).isSome = true → (⟨e, (p : Int), true, ds.isEmpty, d⟩ : Chu).e = ep)) :=
        ⟨rfl, hep, Int.le_refl _, rfl, fun h => by cases h⟩
      rw [scan_more h0 hb hne]
      refine stop_pieces m ds (p + 1) n _ nx (by simpa using hk) (by omega) (fun i c hi h => ?_) (fun c h => ?_)
      · have := hg (i + 1) c (by omega) (by simp only [cksGo, List.getElem?_cons_succ]; exact h)
        rw [← this]; congr 1; omega
      · refine hstop c ?_
        rw [← h]; congr 1; omega

theorem cksAll_head (e : Int) (p : Nat) (r : List UInt8) (rs : List (List UInt8)) {i : Nat} (hi : i < plc r) : (cksAll e p (r :: rs))[i]? = (cks e p r)[i]? := by
  simp only [cksAll]
  rw [List.getElem?_append_left (by rw [cks_length]; exact hi)]
theorem cksAll_tail (e : Int) (p : Nat) (r : List UInt8) (rs : List (List UInt8)) {i : Nat} (hi : plc r ≤ i) : (cksAll e p (r :: rs))[i]? = (cksAll e (p + plc r) rs)[i - plc r]? := by
  simp only [cksAll]
  rw [List.getElem?_append_right (by rw [cks_length]; exact hi), cks_length]

theorem least {P : Nat → Prop} (n : Nat) (h : P n) : ∃ k, P k ∧ ∀ i, i < k → ¬ P i := by
  induction n using Nat.strongRecOn with
  | _ n ih =>
    by_cases hs : ∃ m, m < n ∧ P m
    · obtain ⟨m, hm, hp⟩ := hs
      exact ih m hm hp
    · exact ⟨n, h, fun i hi hp => hs ⟨i, hi, hp⟩⟩

/-- Records of the epoch e, each chunk of which is there or is not: the first few are read, each whole. -/
theorem crash {g g' : Nat → Option Chu} {e : Int} : ∀ (rs : List (List UInt8)) (p : Nat) (ep : Int), Stuck g e p ep → ep ≤ e → p + many rs ≤ 127 →
    (∀ i c, p ≤ i → i < 127 → g i = some c → c.e < e) → (∀ i, p ≤ i → i < 127 → g' i = g i ∨ ∃ c, (cksAll e p rs)[i - p]? = some c ∧ g' i = some c) →
    ∃ j N' ep', j ≤ rs.length ∧ Laid g' p ep ((rs.take j).map fun r => (e, r)) N' ep' ∧ Stuck g' e N' ep' ∧ ep' ≤ e ∧ N' ≤ 127 := by
  intro rs
  induction rs with
  | nil =>
    intro p ep hs hep hfit hold hmix
    refine ⟨0, p, ep, Nat.le_refl _, ⟨rfl, rfl⟩, hs.congr (fun i h1 h2 => ?_), hep, by simp only [many] at hfit; omega⟩
    rcases hmix i h1 h2 with h | ⟨c, hc, _⟩
    · exact h
    · simp [cksAll] at hc
  | cons r rs ih =>
    intro p ep hs hep hfit hold hmix
    simp only [many] at hfit
    by_cases hall : ∀ i c, (cks e p r)[i]? = some c → g' (p + i) = some c
    · obtain ⟨j, N', ep', h1, h2, h3, h4, h5⟩ := ih (p + plc r) e (stuck_old (fun c h1 h2 => hold _ c (by omega) h1 h2)) (Int.le_refl _) (by omega)
        (fun i c h1 h2 h3 => hold i c (by omega) h2 h3) (fun i h1 h2 => by
          rcases hmix i (by omega) h2 with h | ⟨c, hc, h⟩
          · exact .inl h
          · rw [cksAll_tail e p r rs (by omega)] at hc
            refine .inr ⟨c, ?_, h⟩
            rw [← hc]; congr 1; omega)
      exact ⟨j + 1, N', ep', by simp only [List.length_cons]; omega, ⟨hep, hall, h2⟩, h3, h4, h5⟩
    · refine ⟨0, p, ep, Nat.zero_le _, ⟨rfl, rfl⟩, ?_, hep, by omega⟩
      obtain ⟨i0, hi0⟩ : ∃ i, ∃ c, (cks e p r)[i]? = some c ∧ g' (p + i) ≠ some c := by
        apply Classical.byContradiction
        intro hn
        exact hall (fun i c hc => Classical.byContradiction fun h => hn ⟨i, c, hc, h⟩)
      obtain ⟨k, ⟨c, hc, hne⟩, hmin⟩ := least (P := fun i => ∃ c, (cks e p r)[i]? = some c ∧ g' (p + i) ≠ some c) i0 hi0
      have hk : k < plc r := by rw [← cks_length e p r]; exact (List.getElem?_eq_some_iff.1 hc).1
      have holdk : g' (p + k) = g (p + k) := by
        rcases hmix (p + k) (by omega) (by omega) with h | ⟨c', hc', h⟩
        · exact h
        · have e1 : p + k - p = k := by omega
          rw [e1, cksAll_head e p r rs hk, hc] at hc'
          injection hc' with hc'
          rw [← hc'] at h
          exact absurd h hne
      have hlow : ∀ i c, i < k → (cks e p r)[i]? = some c → g' (p + i) = some c := fun i c hi hc => Classical.byContradiction fun h => hmin i hi ⟨c, hc, h⟩
      by_cases hk0 : k = 0
      · subst hk0
        refine stuck_mix hs (fun c h1 h2 => hold p c (Nat.le_refl _) h1 h2) holdk (fun i c h1 h2 h3 => ?_)
        rcases hmix i h1 h2 with h | ⟨c', hc', h⟩
        · exact .inl h
        · right
          rw [h3] at h
          injection h with h
          rw [h]
          exact (cksAll_at e _ p _ c' hc').1
      · exact stop_rec hep (by omega) hk hlow (fun c h => hold (p + k) c (by omega) (by omega) (by rw [← holdk]; exact h))

end Go.Proofs.YtimcepoleboldaaGreatDoor.Lg
