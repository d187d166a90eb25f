/- How many lines a text has. No model. -/
import Derived.Test.YtbmajjeiggfngaaDoorTextPrint
import Derived.Test.YtbmajjeiggfngaaDoorTextNums
namespace Go.Proofs.YtbmajjeiggfngaaDoor
open Go.ChangeShapes Go.WideShapes Go.RowKit Go.Deep

theorem nm_clean {s : ByteArray} (h : Ir.nm s = true) (c : UInt8) (hc : c ∈ s.data.toList) : Ir.dg c = true ∨ Ir.lt c = true := by
  by_cases h0 : 0 < s.size
  · rw [nm_is h0] at h
    simp only [Bool.and_eq_true, List.all_eq_true, Bool.or_eq_true] at h
    exact h.2 c hc
  · rw [nm_empty (by omega)] at h
    cases h
theorem dg_ne {c : UInt8} (h : Ir.dg c = true ∨ Ir.lt c = true) : c ≠ 10 ∧ c ≠ 32 := by
  have h1 : (48 ≤ c.toNat ∧ c.toNat ≤ 57) ∨ (97 ≤ c.toNat ∧ c.toNat ≤ 122) := h.elim (fun h => .inl (of_decide_eq_true h)) (fun h => .inr (of_decide_eq_true h))
  constructor
  · rintro rfl
    revert h1
    decide
  · rintro rfl
    revert h1
    decide
theorem w_clean {x : Tx.Pt} (h : x.ok = true) : (10 : UInt8) ∉ x.w ∧ (32 : UInt8) ∉ x.w := by
  have key : ∀ c ∈ x.w, Ir.dg c = true ∨ Ir.lt c = true := by
    intro c hc
    cases x with
    | nm s => exact nm_clean h c hc
    | num n => exact .inl (Tx.dec_all n.toNat c hc)
  exact ⟨fun hc => (dg_ne (key _ hc)).1 rfl, fun hc => (dg_ne (key _ hc)).2 rfl⟩
theorem count_no {l : List UInt8} (h : (10 : UInt8) ∉ l) : l.count 10 = 0 := List.count_eq_zero.2 h
theorem pw_count : ∀ {xs : List Tx.Pt}, (∀ x ∈ xs, x.ok = true) → (pw xs).count 10 = 0
  | [], _ => rfl
  | x :: xs, h => by
    have h1 := count_no (w_clean (h x (List.mem_cons_self ..))).1
    have h2 := pw_count (xs := xs) (fun y hy => h y (List.mem_cons_of_mem _ hy))
    have e : pw (x :: xs) = 32 :: x.w ++ pw xs := by simp [pw]
    rw [e, List.count_append, List.count_cons, h1, h2]
    rfl
theorem lineW_count {wd : List UInt8} {xs : List Tx.Pt} (hw : wd.count 10 = 0) (h : Tx.check xs = 0) : (Tx.lineW wd xs).count 10 = 1 := by
  rw [lineW_is, List.count_append, List.count_append, hw, pw_count (fun x hx => check_ok h hx)]
  rfl
theorem word_count (op : Int) (code : Bool) : (Tx.word op code).count 10 = 0 := by
  have key : ∀ {c : Prop} [Decidable c] {a b : List UInt8}, a.count 10 = 0 → b.count 10 = 0 → (if c then a else b).count 10 = 0 := fun {c} _ {a b} ha hb => by split <;> assumption
  unfold Tx.word
  repeat' first | refine key ?_ ?_ | decide
theorem ins_ok {code : Bool} {x : Ir.In} (h : Tx.insE code x = 0) : Tx.word x.op code ≠ [] ∧ Tx.check (Tx.parts (Tx.shp x.op code) x) = 0 := by
  unfold Tx.insE at h
  by_cases h1 : Tx.word x.op code = []
  · rw [if_pos h1] at h; exact absurd h (by decide)
  · rw [if_neg h1] at h; exact ⟨h1, h⟩
theorem insW_count {code : Bool} {x : Ir.In} (h : Tx.insE code x = 0) : (Tx.insW code x).count 10 = 1 := lineW_count (word_count _ _) (ins_ok h).2
theorem blkE_ok {code : Bool} : ∀ {b : List Ir.In}, Tx.blkE code b = 0 → ∀ x ∈ b, Tx.insE code x = 0
  | [], _, x, hx => by cases hx
  | y :: b, h, x, hx => by
    rw [Tx.blkE] at h
    by_cases h1 : Tx.insE code y = 0
    · rw [if_pos h1] at h
      rcases List.mem_cons.1 hx with rfl | hx
      · exact h1
      · exact blkE_ok h x hx
    · rw [if_neg h1] at h; exact absurd h h1
theorem blksE_ok {code : Bool} : ∀ {bs : List (List Ir.In)}, Tx.blksE code bs = 0 → ∀ b ∈ bs, Tx.blkE code b = 0
  | [], _, b, hb => by cases hb
  | c :: bs, h, b, hb => by
    rw [Tx.blksE] at h
    by_cases h1 : Tx.blkE code c = 0
    · rw [if_pos h1] at h
      rcases List.mem_cons.1 hb with rfl | hb
      · exact h1
      · exact blksE_ok h b hb
    · rw [if_neg h1] at h; exact absurd h h1
theorem pr_ok {code : Bool} {c : Tx.Cd} (h : Tx.prE code c = 0) : Tx.check (Tx.headP code c) = 0 ∧ Tx.blksE code c.blocks = 0 := by
  unfold Tx.prE at h
  by_cases h1 : Tx.check (Tx.headP code c) = 0
  · rw [if_pos h1] at h; exact ⟨h1, h⟩
  · rw [if_neg h1] at h; exact absurd h h1
theorem flat_count {code : Bool} : ∀ {b : List Ir.In}, (∀ x ∈ b, Tx.insE code x = 0) → (b.flatMap (Tx.insW code)).count 10 = b.length
  | [], _ => rfl
  | x :: b, h => by
    rw [List.flatMap_cons, List.count_append, insW_count (h x (List.mem_cons_self ..)), flat_count (fun y hy => h y (List.mem_cons_of_mem _ hy)), List.length_cons]
    omega
theorem blksW_count {code : Bool} : ∀ {bs : List (List Ir.In)}, (∀ b ∈ bs, ∀ x ∈ b, Tx.insE code x = 0) → (Tx.blksW code bs).count 10 = bs.length + Ir.count bs
  | [], _ => rfl
  | b :: bs, h => by
    have h1 := flat_count (code := code) (h b (List.mem_cons_self ..))
    have h2 := blksW_count (code := code) (bs := bs) (fun c hc => h c (List.mem_cons_of_mem _ hc))
    have e : Ir.count (b :: bs) = b.length + Ir.count bs := rfl
    have e0 : (Tx.blockW ++ [10]).count 10 = 1 := by decide
    unfold Tx.blksW at h2 ⊢
    rw [List.flatMap_cons, List.count_append, h2, Tx.blkW, List.count_append, e0, h1, e, List.length_cons]
    omega
theorem prW_count {code : Bool} {c : Tx.Cd} (h : Tx.prE code c = 0) : (Tx.prW code c).count 10 = 1 + c.blocks.length + Ir.count c.blocks := by
  obtain ⟨h1, h2⟩ := pr_ok h
  unfold Tx.prW
  rw [List.count_append, lineW_count (by cases code <;> decide) h1, blksW_count (fun b hb => blkE_ok (blksE_ok h2 b hb))]
  omega
theorem prW_first (c : Tx.Cd) : (Tx.prW false c).take 5 = [102, 117, 110, 99, 32] := by
  unfold Tx.prW
  rw [lineW_is]
  have e : pw (Tx.headP false c) = 32 :: (Tx.Pt.nm c.name).w ++ pw [.num c.params, .num c.regs] := by simp [pw, Tx.headP]
  rw [e]
  rfl
theorem pr_len {code : Bool} {c : Tx.Cd} (h : SmalR c.blocks) : (Tx.pr code c).length ≤ 40000000000000 := by
  unfold Tx.pr
  by_cases h0 : Tx.prE code c = 0
  · rw [if_pos h0]
    unfold Tx.prW
    have h1 := headW_len code (pr_ok h0).1
    have h2 := blksW_len (code := code) h.ins
    have h3 := h.count
    rw [List.length_append]
    omega
  · rw [if_neg h0]
    simp
end Go.Proofs.YtbmajjeiggfngaaDoor
