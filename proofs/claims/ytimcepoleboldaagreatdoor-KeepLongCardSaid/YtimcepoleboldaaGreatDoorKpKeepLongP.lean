/- Plain mathematics of KeepLong: seven keys, put over and over. It speaks of no program. -/
import Derived.Test.YtimcepoleboldaaGreatDoorKpD
namespace Go.Proofs.YtimcepoleboldaaGreatDoor.Kp

theorem ins_new : ∀ {m : Mp} {k v : ByteArray}, Up m → look m k = none → (ins m k v).length = m.length + 1 ∧ size (ins m k v) = size m + k.size + v.size
  | [], k, v, _, _ => by
    constructor
    · rfl
    · show k.size + v.size + 0 = 0 + k.size + v.size
      omega
  | e :: m, k, v, h, hl => by
    have hne : e.1 ≠ k := by
      intro he
      have : look (e :: m) k = some e.2 := by show (if e.1 = k then _ else _) = _; rw [if_pos he]
      rw [this] at hl
      cases hl
    have hl2 : look m k = none := by
      have : look (e :: m) k = look m k := by show (if e.1 = k then _ else _) = _; rw [if_neg hne]
      rw [← this]
      exact hl
    obtain ⟨i1, i2⟩ := ins_new (m := m) (k := k) (v := v) h.2 hl2
    have hs : size (e :: m) = e.1.size + e.2.size + size m := rfl
    unfold ins
    split
    · constructor
      · show (ins m k v).length + 1 = m.length + 1 + 1
        omega
      · show e.1.size + e.2.size + size (ins m k v) = _
        omega
    · constructor
      · rfl
      · show k.size + v.size + (e.1.size + e.2.size + size m) = _
        omega
theorem ins_old : ∀ {m : Mp} {k v u : ByteArray}, Up m → look m k = some u → (ins m k v).length = m.length ∧ size (ins m k v) + u.size = size m + v.size
  | [], k, v, u, _, hl => by cases hl
  | e :: m, k, v, u, h, hl => by
    have hs : size (e :: m) = e.1.size + e.2.size + size m := rfl
    change (if e.1 = k then some e.2 else look m k) = some u at hl
    unfold ins
    by_cases he : e.1 = k
    · rw [if_pos he] at hl
      injection hl with hl
      rw [if_neg (by rw [he, lt_irrefl]; decide), if_pos he]
      constructor
      · rfl
      · show k.size + v.size + size m + u.size = _
        rw [hs, he, hl]
        omega
    · rw [if_neg he] at hl
      have hlt : lt e.1 k = true := h.1 (k, u) (look_some hl)
      obtain ⟨i1, i2⟩ := ins_old (m := m) (k := k) (v := v) h.2 hl
      rw [if_pos hlt]
      constructor
      · show (ins m k v).length + 1 = m.length + 1
        omega
      · show e.1.size + e.2.size + size (ins m k v) + u.size = _
        omega

/-- The keys, and the values. -/
def lk (j : Nat) : ByteArray := ⟨#[UInt8.ofNat (97 + j)]⟩
def lval (sz i : Nat) : ByteArray := ⟨(List.replicate sz (UInt8.ofNat i)).toArray⟩
theorem lk_size (j : Nat) : (lk j).size = 1 := rfl
theorem lval_size (sz i : Nat) : (lval sz i).size = sz := by simp [lval, ByteArray.size]
theorem lk_inj {a b : Nat} (ha : a < 7) (hb : b < 7) (h : lk a = lk b) : a = b := by
  unfold lk at h
  injection h with h
  have h1 := congrArg (fun x : Array UInt8 => x[0]?) h
  simp at h1
  have h2 := congrArg UInt8.toNat h1
  rw [UInt8.toNat_ofNat', UInt8.toNat_ofNat'] at h2
  omega

structure LInv (sz i : Nat) (m : Mp) : Prop where
  up : Up m
  len : m.length = min i 7
  size : size m = min i 7 * (1 + sz)
  has : ∀ j, j < 7 → (look m (lk j)).isSome = decide (j < i)
  vals : ∀ q v, look m q = some v → v.size = sz
  last : 0 < i → look m (lk ((i - 1) % 7)) = some (lval sz (i - 1))

theorem LInv.zero (sz : Nat) : LInv sz 0 [] := ⟨trivial, rfl, by simp [Kp.size], fun j _ => by simp [look], fun q v h => (by cases h), fun h => by omega⟩
theorem all_put (m : Mp) (k v : ByteArray) : all m [⟨1, k, v⟩] = ins m k v := by
  show taken m ⟨1, k, v⟩ = ins m k v
  unfold taken
  rw [if_pos (show (1 : Int) = 1 from rfl)]
theorem LInv.next {sz i : Nat} {m : Mp} (h : LInv sz i m) : LInv sz (i + 1) (all m [⟨1, lk (i % 7), lval sz i⟩]) := by
  rw [all_put]
  have hmod : i % 7 < 7 := Nat.mod_lt _ (by decide)
  have hhas := h.has (i % 7) hmod
  have hlk := lk_size (i % 7)
  have hlv := lval_size sz i
  have hkey : ∀ j, j < 7 → ((look (ins m (lk (i % 7)) (lval sz i)) (lk j)).isSome = decide (j < i + 1)) := by
    intro j hj
    rw [look_ins]
    by_cases e : lk j = lk (i % 7)
    · rw [if_pos e]
      have := lk_inj hj hmod e
      simp
      omega
    · rw [if_neg e, h.has j hj]
      have : j ≠ i % 7 := fun e' => e (by rw [e'])
      congr 1
      apply propext
      omega
  have hvals : ∀ q v, look (ins m (lk (i % 7)) (lval sz i)) q = some v → v.size = sz := by
    intro q v hq
    rw [look_ins] at hq
    split at hq
    · injection hq with hq
      rw [← hq, hlv]
    · exact h.vals q v hq
  have hlast : 0 < i + 1 → look (ins m (lk (i % 7)) (lval sz i)) (lk ((i + 1 - 1) % 7)) = some (lval sz (i + 1 - 1)) := by
    intro _
    rw [Nat.add_sub_cancel, look_ins, if_pos rfl]
  by_cases hi : i < 7
  · have e : i % 7 = i := Nat.mod_eq_of_lt hi
    have hn : look m (lk (i % 7)) = none := by
      rw [e] at hhas ⊢
      cases hl : look m (lk i) with
      | none => rfl
      | some u => rw [hl] at hhas; simp at hhas
    obtain ⟨i1, i2⟩ := ins_new (v := lval sz i) h.up hn
    refine ⟨up_ins _ _ h.up, by rw [i1, h.len]; omega, ?_, hkey, hvals, hlast⟩
    rw [i2, h.size, hlk, hlv, Nat.min_eq_left (by omega : i ≤ 7), Nat.min_eq_left (by omega : i + 1 ≤ 7), Nat.add_mul]
    omega
  · have hs : ∃ u, look m (lk (i % 7)) = some u := by
      rw [Option.isSome_iff_exists.symm, hhas]
      simp
      omega
    obtain ⟨u, hu⟩ := hs
    obtain ⟨i1, i2⟩ := ins_old (v := lval sz i) h.up hu
    have hus := h.vals _ _ hu
    refine ⟨up_ins _ _ h.up, by rw [i1, h.len]; omega, ?_, hkey, hvals, hlast⟩
    have h1 := h.size
    rw [Nat.min_eq_right (by omega : 7 ≤ i)] at h1
    rw [Nat.min_eq_right (by omega : 7 ≤ i + 1)]
    omega
theorem LInv.fits {sz i : Nat} {m : Mp} (h : LInv sz i m) (hs : sz ≤ 255) : Kp.size m ≤ 1792 ∧ m.length ≤ 7 := by
  have h1 := h.size
  have h2 : min i 7 * (1 + sz) ≤ 7 * 256 := Nat.mul_le_mul (Nat.min_le_right _ _) (by omega)
  exact ⟨by omega, by rw [h.len]; exact Nat.min_le_right _ _⟩
end Go.Proofs.YtimcepoleboldaaGreatDoor.Kp
