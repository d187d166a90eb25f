/- What it says of a function that it may be; the rest of a number. -/
import Derived.Test.YtkkbmfgkapdndaaDoorIrRefCheck
namespace Go.Proofs.YtkkbmfgkapdndaaDoor
open Go.ChangeShapes Go.WideShapes Go.RowKit Go.Deep

theorem chkB_zero {r n : Int} : ∀ {b : List Ir.In}, Ir.chkB r n b = 0 → ∀ (k : Nat) (x : Ir.In), b[k]? = some x → Ir.one r n x (decide (b.length - (k + 1) = 0)) = 0
  | [], _, k, x, h => by simp at h
  | y :: l, h, k, x, hx => by
    have h' : (if Ir.one r n y (decide (l.length = 0)) = 0 then Ir.chkB r n l else Ir.one r n y (decide (l.length = 0))) = 0 := h
    by_cases h0 : Ir.one r n y (decide (l.length = 0)) = 0
    · rw [if_pos h0] at h'
      cases k with
      | zero =>
        simp at hx
        subst hx
        simpa using h0
      | succ k =>
        simp at hx
        have := chkB_zero h' k x hx
        simpa using this
    · rw [if_neg h0] at h'
      exact absurd h' h0
theorem chkBs_zero {r n : Int} : ∀ {bs : List (List Ir.In)}, Ir.chkBs r n bs = 0 → ∀ b, b ∈ bs → Ir.chkB r n b = 0
  | [], _, b, h => by simp at h
  | c :: l, h, b, hb => by
    have h' : (if Ir.chkB r n c = 0 then Ir.chkBs r n l else Ir.chkB r n c) = 0 := h
    by_cases h0 : Ir.chkB r n c = 0
    · rw [if_pos h0] at h'
      rcases List.mem_cons.1 hb with rfl | hb
      · exact h0
      · exact chkBs_zero h' b hb
    · rw [if_neg h0] at h'
      exact absurd h' h0

/-- An instruction with which nothing is wrong. -/
theorem one_zero {r n : Int} {x : Ir.In} {l : Bool} (h : Ir.one r n x l = 0) :
    Ir.fits x = true ∧ Ir.last x.op = l ∧ (Ir.fd x.op = 1 → 0 ≤ x.d ∧ x.d < r) ∧ Ir.within (Ir.uses x) r = true ∧ Ir.within (Ir.targets x) n = true := by
  unfold Ir.one at h
  split at h
  · simp at h
  rename_i h1
  split at h
  · simp at h
  rename_i h2
  split at h
  · simp at h
  split at h
  · simp at h
  rename_i h4
  simp only [Bool.or_eq_true, not_or, Bool.not_eq_true', bne_iff_ne, ne_eq, Decidable.not_not, Bool.and_eq_true, decide_eq_true_eq, not_and] at h1 h2 h4
  refine ⟨by simpa using h1.1, h1.2, fun hd => ?_, by simpa using h2.2, by simpa using h4⟩
  have := h2.1 hd
  omega

/-- A function that may be. -/
structure May (f : Ir.Fu) : Prop where
  name : Ir.nm f.name = true
  shape : Ir.shape f.params f.regs f.blocks = true
  ins : ∀ (b : List Ir.In), b ∈ f.blocks → ∀ (k : Nat) (x : Ir.In), b[k]? = some x → Ir.one f.regs (f.blocks.length : Int) x (decide (b.length - (k + 1) = 0)) = 0
theorem may_of {f : Ir.Fu} (h : Ir.check f = 0) : May f := by
  unfold Ir.check at h
  split at h
  · simp at h
  rename_i h1
  split at h
  · simp at h
  rename_i h2
  exact ⟨by simpa using h1, by simpa using h2, fun b hb => chkB_zero (chkBs_zero h b hb)⟩
theorem May.nums {f : Ir.Fu} (h : May f) : (0 ≤ f.params ∧ f.params ≤ 4 ∧ f.params ≤ f.regs ∧ f.regs ≤ 64 ∧ 1 ≤ f.blocks.length ∧ f.blocks.length ≤ 32) ∧ (∀ b, b ∈ f.blocks → 1 ≤ b.length) ∧ Ir.count f.blocks ≤ 200 := by
  have := h.shape
  unfold Ir.shape at this
  simp only [Bool.and_eq_true, decide_eq_true_eq, List.all_eq_true] at this
  exact ⟨this.1.1, this.1.2, this.2⟩

theorem within_at {l : List Int} {n : Int} (h : Ir.within l n = true) {k : Nat} {v : Int} (hv : l[k]? = some v) : 0 ≤ v ∧ v < n := by
  unfold Ir.within at h
  have := List.all_eq_true.1 h v (List.mem_of_getElem? hv)
  simpa using this

/-- The rest of a byte by a length. -/
theorem rest_in (a : Int) (n : Nat) (ha : 0 ≤ a) (hn : 0 < n) : ∃ k : Nat, k < n ∧ a.tmod (n : Int) = (k : Int) := by
  have h1 : 0 ≤ a.tmod (n : Int) := Int.tmod_nonneg _ ha
  have h2 := Int.tmod_lt_of_pos a (show (0 : Int) < (n : Int) by omega)
  exact ⟨(a.tmod (n : Int)).toNat, by omega, by omega⟩

theorem wrap_byte {a : Int} (h : 0 ≤ a ∧ a ≤ 255) : IntKind.i64.wrap a = a := by
  obtain ⟨n, rfl⟩ := Int.eq_ofNat_of_zero_le h.1
  have : n ≤ 255 := by omega
  clear h
  revert this
  revert n
  decide +kernel
end Go.Proofs.YtkkbmfgkapdndaaDoor
