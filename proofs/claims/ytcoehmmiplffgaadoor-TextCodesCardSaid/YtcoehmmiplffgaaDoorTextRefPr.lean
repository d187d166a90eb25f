/- The document's text is the plain one: lines, errors, lengths. -/
import Derived.Test.YtcoehmmiplffgaaDoorTextRline
import Derived.Test.YtcoehmmiplffgaaDoorTextOf
namespace Go.Proofs.YtcoehmmiplffgaaDoor
open Go.ChangeShapes Go.WideShapes Go.RowKit Go.Deep

theorem badN_map (l : List Int) : (l.map Tx.Pt.num).any badN = false := by
  rw [List.any_eq_false]
  intro x hx
  obtain ⟨n, _, rfl⟩ := List.mem_map.1 hx
  simp [badN_num]
theorem badM_map (l : List Int) : (l.map Tx.Pt.num).any badM = l.any fun n => !Tx.okN n := by
  rw [List.any_map]
  rfl
theorem check_pts (named : Bool) (b : Nat) (name : ByteArray) (l : List Int) : Tx.check (ptsOf named b name l) = if named = true ∧ Ir.nm name = false then 80 else if l.any (fun n => !Tx.okN n) then 81 else 0 := by
  rw [check_is]
  cases named with
  | false =>
    have e : ptsOf false b name l = l.map Tx.Pt.num := rfl
    rw [e, badN_map, badM_map, if_neg (by decide)]
    simp
  | true =>
    have e0 : ptsOf true b name l = (l.take b).map Tx.Pt.num ++ .nm name :: (l.drop b).map Tx.Pt.num := rfl
    rw [e0, List.any_append, List.any_append, List.any_cons, List.any_cons, badN_map, badN_map, badM_map, badM_map, badN_nm, badM_nm]
    have e : (l.any fun n => !Tx.okN n) = ((l.take b).any (fun n => !Tx.okN n) || (l.drop b).any fun n => !Tx.okN n) := by
      conv => lhs; rw [← List.take_append_drop b l, List.any_append]
    rw [e]
    cases h : Ir.nm name with
    | true => simp
    | false => simp
theorem rlE_is (wd : List UInt8) (named : Bool) (b : Nat) (name : ByteArray) (l : List Int) : rlE wd named name l = if wd = [] then 80 else Tx.check (ptsOf named b name l) := by
  unfold rlE
  rw [check_pts]
  by_cases h : wd = []
  · rw [if_pos h, if_pos (.inl h)]
  · rw [if_neg h]
    by_cases h2 : named = true ∧ Ir.nm name = false
    · rw [if_pos h2, if_pos (.inr h2)]
    · rw [if_neg h2, if_neg (fun h3 => h3.elim h h2)]

theorem word_other {op : Int} {code : Bool} (h : op ≠ 3 ∧ op ≠ 4 ∧ op ≠ 5 ∧ op ≠ 6 ∧ op ≠ 7 ∧ op ≠ 9 ∧ op ≠ 10 ∧ op ≠ 12 ∧ op ≠ 14 ∧ op ≠ 13 ∧ op ≠ 11) (hw : Tx.word op code ≠ []) : Tx.shp op code = 1 := by
  by_cases h1 : op = 1 ∨ op = 2 ∨ op = 8
  · unfold Tx.shp
    rw [if_pos h1]
  · by_cases h2 : op = 21 ∨ op = 22
    · cases code with
      | true => rcases h2 with rfl | rfl <;> rfl
      | false => rcases h2 with rfl | rfl <;> exact absurd rfl hw
    · exfalso
      apply hw
      unfold Tx.word
      rw [if_neg (by omega), if_neg (by omega), if_neg (by omega), if_neg (by omega), if_neg (by omega), if_neg (by omega), if_neg (by omega), if_neg (by omega), if_neg (by omega), if_neg (by omega), if_neg (by omega), if_neg (by omega), if_neg (by omega), if_neg (by omega), if_neg (by omega), if_neg (by omega)]

theorem shp_2 {op : Int} (code : Bool) (h : op = 3 ∨ op = 4 ∨ op = 5 ∨ op = 6 ∨ op = 7) : Tx.shp op code = 2 := by rcases h with rfl | rfl | rfl | rfl | rfl <;> rfl
theorem shp_4 {op : Int} (code : Bool) (h : op = 10 ∨ op = 12 ∨ op = 14) : Tx.shp op code = 4 := by rcases h with rfl | rfl | rfl <;> rfl
theorem pts_parts {code : Bool} {x : Ir.In} (hw : Tx.word x.op code ≠ []) : ptsOf (x.op == 11) 1 x.name (numsOf code x) = Tx.parts (Tx.shp x.op code) x := by
  rcases numsOf_ways code x with ⟨ho, hu⟩ | ⟨ho, hu⟩ | ⟨ho, hu⟩ | ⟨ho, hu⟩ | ⟨ho, hcode, hu⟩ | ⟨ho, hcode, hu⟩ | ⟨ho, hu⟩
  · rw [hu, shp_2 code ho, show (x.op == 11) = false by simp; omega]
    rfl
  · rw [hu, ho]
    rfl
  · rw [hu, shp_4 code ho, show (x.op == 11) = false by simp; omega]
    rfl
  · rw [hu, ho]
    rfl
  · subst hcode
    rw [hu, ho]
    rfl
  · subst hcode
    rw [hu, ho]
    rfl
  · rw [hu, word_other ho hw, show (x.op == 11) = false by simp; omega]
    rfl
theorem rl_ins (code : Bool) (x : Ir.In) : rlE (Tx.word x.op code) (x.op == 11) x.name (numsOf code x) = Tx.insE code x := by
  rw [rlE_is _ _ 1]
  unfold Tx.insE
  by_cases h : Tx.word x.op code = []
  · rw [if_pos h, if_pos h]
  · rw [if_neg h, if_neg h, pts_parts h]
theorem rl_insW {code : Bool} {x : Ir.In} (h0 : Tx.insE code x = 0) : rlW (Tx.word x.op code) (x.op == 11) 1 x.name (numsOf code x) = Tx.insW code x := by
  have hw : Tx.word x.op code ≠ [] := fun h => by unfold Tx.insE at h0; rw [if_pos h] at h0; exact absurd h0 (by decide)
  unfold rlW
  rw [rl_ins, if_pos h0, pts_parts hw]
  rfl
theorem rl_insW0 {code : Bool} {x : Ir.In} (h0 : Tx.insE code x ≠ 0) : rlW (Tx.word x.op code) (x.op == 11) 1 x.name (numsOf code x) = [] := by
  unfold rlW
  rw [rl_ins, if_neg h0]

theorem blkE_at {code : Bool} {b : List Ir.In} {k : Nat} {x : Ir.In} (h : b[k]? = some x) : Tx.blkE code (b.drop k) = if Tx.insE code x = 0 then Tx.blkE code (b.drop (k + 1)) else Tx.insE code x := by
  rw [Ir.drop_cons h]
  rfl
theorem blksE_at {code : Bool} {bs : List (List Ir.In)} {k : Nat} {b : List Ir.In} (h : bs[k]? = some b) : Tx.blksE code (bs.drop k) = if Tx.blkE code b = 0 then Tx.blksE code (bs.drop (k + 1)) else Tx.blkE code b := by
  rw [Ir.drop_cons h]
  rfl
theorem flat_up {α : Type} {l : List α} {f : α → List UInt8} {k : Nat} {x : α} (h : l[k]? = some x) : (l.take (k + 1)).flatMap f = (l.take k).flatMap f ++ f x := by
  obtain ⟨h1, rfl⟩ := List.getElem?_eq_some_iff.1 h
  rw [List.take_succ_eq_append_getElem h1, List.flatMap_append]
  simp

/-! ### how long at most -/
def Sm (x : Ir.In) : Prop := x.args.length ≤ 5000 ∧ x.name.size ≤ 1048576 ∧ In64x x ∧ ∀ n ∈ x.args, n ≤ 9223372036854775807
theorem w_any {x : Tx.Pt} (h : match x with | .nm s => s.size ≤ 1048576 | .num n => n ≤ 9223372036854775807) : x.w.length ≤ 1048600 := by
  cases x with
  | nm s =>
    show s.data.toList.length ≤ _
    have : s.size ≤ 1048576 := h
    simp
    omega
  | num n =>
    have h1 : n ≤ 9223372036854775807 := h
    have := Tx.dec_len' 20 n.toNat (by omega) (by omega)
    show (Lib.decDigits n.toNat).length ≤ _
    omega
theorem pw_any : ∀ {xs : List Tx.Pt}, (∀ x ∈ xs, x.w.length ≤ 1048600) → (pw xs).length ≤ 1048601 * xs.length
  | [], _ => by simp [pw]
  | x :: xs, h => by
    have h1 := h x (List.mem_cons_self ..)
    have h2 := pw_any (xs := xs) (fun y hy => h y (List.mem_cons_of_mem _ hy))
    unfold pw at h2 ⊢
    rw [List.flatMap_cons, List.length_append]
    simp only [List.length_cons]
    omega
theorem parts_any {k : Nat} {x : Ir.In} (h : Sm x) : ∀ p ∈ Tx.parts k x, p.w.length ≤ 1048600 := by
  obtain ⟨_, hn, ⟨_, hd, ha, hb⟩, hargs⟩ := h
  have pd : (Tx.Pt.num x.d).w.length ≤ 1048600 := w_any hd.2
  have pa : (Tx.Pt.num x.a).w.length ≤ 1048600 := w_any ha.2
  have pb : (Tx.Pt.num x.b).w.length ≤ 1048600 := w_any hb.2
  have pn : (Tx.Pt.nm x.name).w.length ≤ 1048600 := w_any hn
  intro p hp
  unfold Tx.parts at hp
  split at hp <;> simp only [List.mem_cons, List.mem_nil_iff, or_false, List.mem_map] at hp
  · rcases hp with rfl | rfl <;> assumption
  · rcases hp with rfl | rfl | rfl <;> assumption
  · rcases hp with rfl | rfl <;> assumption
  · subst hp; assumption
  · rcases hp with rfl | rfl | ⟨n, h1, rfl⟩
    · assumption
    · assumption
    · exact w_any (hargs n h1)
  · rcases hp with rfl | rfl | rfl <;> assumption
  · rcases hp with rfl | rfl | rfl <;> assumption
theorem insW_len {code : Bool} {x : Ir.In} (h : Sm x) : (Tx.insW code x).length ≤ 6000000000 := by
  unfold Tx.insW
  rw [lineW_is]
  have h1 := word_len x.op code
  have h2 := pw_any (parts_any (k := Tx.shp x.op code) h)
  have h3 := parts_len (Tx.shp x.op code) x
  have h4 := h.1
  simp only [List.length_append, List.length_cons, List.length_nil]
  omega
theorem blkW_len {code : Bool} : ∀ {b : List Ir.In}, (∀ x ∈ b, Sm x) → (b.flatMap (Tx.insW code)).length ≤ 6000000000 * b.length
  | [], _ => by simp
  | x :: b, h => by
    have h1 := insW_len (code := code) (h x (List.mem_cons_self ..))
    have h2 := blkW_len (code := code) (b := b) (fun y hy => h y (List.mem_cons_of_mem _ hy))
    rw [List.flatMap_cons, List.length_append, List.length_cons]
    omega
theorem blksW_len {code : Bool} : ∀ {bs : List (List Ir.In)}, (∀ b ∈ bs, ∀ x ∈ b, Sm x) → (Tx.blksW code bs).length ≤ 6 * bs.length + 6000000000 * Ir.count bs
  | [], _ => by simp [Tx.blksW]
  | b :: bs, h => by
    have h1 := blkW_len (code := code) (h b (List.mem_cons_self ..))
    have h2 := blksW_len (code := code) (bs := bs) (fun c hc => h c (List.mem_cons_of_mem _ hc))
    have e : Ir.count (b :: bs) = b.length + Ir.count bs := rfl
    unfold Tx.blksW at h2 ⊢
    rw [List.flatMap_cons, List.length_append, List.length_cons, e]
    have e2 : (Tx.blkW code b).length = 6 + (b.flatMap (Tx.insW code)).length := by simp [Tx.blkW, Tx.blockW]; omega
    omega
end Go.Proofs.YtcoehmmiplffgaaDoor
