/- Several texts in one: TextCount, TextBack, TextRinsP, TextRinAt, TextRiP, TextBld, TextRi. -/
import Derived.Test.YtcoehmmiplffgaaDoorTextPrint
import Derived.Test.YtcoehmmiplffgaaDoorTextNums
import Derived.Test.YtcoehmmiplffgaaDoorTextRread
import Derived.Test.YtcoehmmiplffgaaDoorTextTake
import Derived.Test.YtcoehmmiplffgaaDoorTextRowParts
import Derived.Test.YtcoehmmiplffgaaDoorIrRow
import Derived.Test.YtcoehmmiplffgaaDoorIrAt
import Derived.Laws.OwnMore
/- How many lines a text has. No model. -/
namespace Go.Proofs.YtcoehmmiplffgaaDoor
open Go.ChangeShapes Go.WideShapes Go.RowKit Go.Deep

theorem nm_clean {s : ByteArray} (h : Ir.nm s = true) (c : UInt8) (hc : c ∈ s.data.toList) : Ir.dg c = true ∨ Ir.lt c = true := by
  by_cases h0 : 0 < s.size
  · rw [nm_is h0] at h
    simp only [Bool.and_eq_true, List.all_eq_true, Bool.or_eq_true] at h
    exact h.2 c hc
  · rw [nm_empty (by omega)] at h
    cases h
theorem dg_ne {c : UInt8} (h : Ir.dg c = true ∨ Ir.lt c = true) : c ≠ 10 ∧ c ≠ 32 := by
  have h1 : (48 ≤ c.toNat ∧ c.toNat ≤ 57) ∨ (97 ≤ c.toNat ∧ c.toNat ≤ 122) := h.elim (fun h => .inl (of_decide_eq_true h)) (fun h => .inr (of_decide_eq_true h))
  constructor
  · rintro rfl
    revert h1
    decide
  · rintro rfl
    revert h1
    decide
theorem w_clean {x : Tx.Pt} (h : x.ok = true) : (10 : UInt8) ∉ x.w ∧ (32 : UInt8) ∉ x.w := by
  have key : ∀ c ∈ x.w, Ir.dg c = true ∨ Ir.lt c = true := by
    intro c hc
    cases x with
    | nm s => exact nm_clean h c hc
    | num n => exact .inl (Tx.dec_all n.toNat c hc)
  exact ⟨fun hc => (dg_ne (key _ hc)).1 rfl, fun hc => (dg_ne (key _ hc)).2 rfl⟩
theorem count_no {l : List UInt8} (h : (10 : UInt8) ∉ l) : l.count 10 = 0 := List.count_eq_zero.2 h
theorem pw_count : ∀ {xs : List Tx.Pt}, (∀ x ∈ xs, x.ok = true) → (pw xs).count 10 = 0
  | [], _ => rfl
  | x :: xs, h => by
    have h1 := count_no (w_clean (h x (List.mem_cons_self ..))).1
    have h2 := pw_count (xs := xs) (fun y hy => h y (List.mem_cons_of_mem _ hy))
    have e : pw (x :: xs) = 32 :: x.w ++ pw xs := by simp [pw]
    rw [e, List.count_append, List.count_cons, h1, h2]
    rfl
theorem lineW_count {wd : List UInt8} {xs : List Tx.Pt} (hw : wd.count 10 = 0) (h : Tx.check xs = 0) : (Tx.lineW wd xs).count 10 = 1 := by
  rw [lineW_is, List.count_append, List.count_append, hw, pw_count (fun x hx => check_ok h hx)]
  rfl
theorem word_count (op : Int) (code : Bool) : (Tx.word op code).count 10 = 0 := by
  have key : ∀ {c : Prop} [Decidable c] {a b : List UInt8}, a.count 10 = 0 → b.count 10 = 0 → (if c then a else b).count 10 = 0 := fun {c} _ {a b} ha hb => by split <;> assumption
  unfold Tx.word
  repeat' first | refine key ?_ ?_ | decide
theorem ins_ok {code : Bool} {x : Ir.In} (h : Tx.insE code x = 0) : Tx.word x.op code ≠ [] ∧ Tx.check (Tx.parts (Tx.shp x.op code) x) = 0 := by
  unfold Tx.insE at h
  by_cases h1 : Tx.word x.op code = []
  · rw [if_pos h1] at h; exact absurd h (by decide)
  · rw [if_neg h1] at h; exact ⟨h1, h⟩
theorem insW_count {code : Bool} {x : Ir.In} (h : Tx.insE code x = 0) : (Tx.insW code x).count 10 = 1 := lineW_count (word_count _ _) (ins_ok h).2
theorem blkE_ok {code : Bool} : ∀ {b : List Ir.In}, Tx.blkE code b = 0 → ∀ x ∈ b, Tx.insE code x = 0
  | [], _, x, hx => by cases hx
  | y :: b, h, x, hx => by
    rw [Tx.blkE] at h
    by_cases h1 : Tx.insE code y = 0
    · rw [if_pos h1] at h
      rcases List.mem_cons.1 hx with rfl | hx
      · exact h1
      · exact blkE_ok h x hx
    · rw [if_neg h1] at h; exact absurd h h1
theorem blksE_ok {code : Bool} : ∀ {bs : List (List Ir.In)}, Tx.blksE code bs = 0 → ∀ b ∈ bs, Tx.blkE code b = 0
  | [], _, b, hb => by cases hb
  | c :: bs, h, b, hb => by
    rw [Tx.blksE] at h
    by_cases h1 : Tx.blkE code c = 0
    · rw [if_pos h1] at h
      rcases List.mem_cons.1 hb with rfl | hb
      · exact h1
      · exact blksE_ok h b hb
    · rw [if_neg h1] at h; exact absurd h h1
theorem pr_ok {code : Bool} {c : Tx.Cd} (h : Tx.prE code c = 0) : Tx.check (Tx.headP code c) = 0 ∧ Tx.blksE code c.blocks = 0 := by
  unfold Tx.prE at h
  by_cases h1 : Tx.check (Tx.headP code c) = 0
  · rw [if_pos h1] at h; exact ⟨h1, h⟩
  · rw [if_neg h1] at h; exact absurd h h1
theorem flat_count {code : Bool} : ∀ {b : List Ir.In}, (∀ x ∈ b, Tx.insE code x = 0) → (b.flatMap (Tx.insW code)).count 10 = b.length
  | [], _ => rfl
  | x :: b, h => by
    rw [List.flatMap_cons, List.count_append, insW_count (h x (List.mem_cons_self ..)), flat_count (fun y hy => h y (List.mem_cons_of_mem _ hy)), List.length_cons]
    omega
theorem blksW_count {code : Bool} : ∀ {bs : List (List Ir.In)}, (∀ b ∈ bs, ∀ x ∈ b, Tx.insE code x = 0) → (Tx.blksW code bs).count 10 = bs.length + Ir.count bs
  | [], _ => rfl
  | b :: bs, h => by
    have h1 := flat_count (code := code) (h b (List.mem_cons_self ..))
    have h2 := blksW_count (code := code) (bs := bs) (fun c hc => h c (List.mem_cons_of_mem _ hc))
    have e : Ir.count (b :: bs) = b.length + Ir.count bs := rfl
    have e0 : (Tx.blockW ++ [10]).count 10 = 1 := by decide
    unfold Tx.blksW at h2 ⊢
    rw [List.flatMap_cons, List.count_append, h2, Tx.blkW, List.count_append, e0, h1, e, List.length_cons]
    omega
theorem prW_count {code : Bool} {c : Tx.Cd} (h : Tx.prE code c = 0) : (Tx.prW code c).count 10 = 1 + c.blocks.length + Ir.count c.blocks := by
  obtain ⟨h1, h2⟩ := pr_ok h
  unfold Tx.prW
  rw [List.count_append, lineW_count (by cases code <;> decide) h1, blksW_count (fun b hb => blkE_ok (blksE_ok h2 b hb))]
  omega
theorem prW_first (c : Tx.Cd) : (Tx.prW false c).take 5 = [102, 117, 110, 99, 32] := by
  unfold Tx.prW
  rw [lineW_is]
  have e : pw (Tx.headP false c) = 32 :: (Tx.Pt.nm c.name).w ++ pw [.num c.params, .num c.regs] := by simp [pw, Tx.headP]
  rw [e]
  rfl
theorem pr_len {code : Bool} {c : Tx.Cd} (h : SmalR c.blocks) : (Tx.pr code c).length ≤ 40000000000000 := by
  unfold Tx.pr
  by_cases h0 : Tx.prE code c = 0
  · rw [if_pos h0]
    unfold Tx.prW
    have h1 := headW_len code (pr_ok h0).1
    have h2 := blksW_len (code := code) h.ins
    have h3 := h.count
    rw [List.length_append]
    omega
  · rw [if_neg h0]
    simp
end Go.Proofs.YtcoehmmiplffgaaDoor

/- What is printed is read back; what is read prints as the text that it was read from. No model. -/
namespace Go.Proofs.YtcoehmmiplffgaaDoor.Tx
open Ir (In)

theorem isN_num {p : Pt} (h : p.isN = false) : ∃ n, p = .num n := by
  cases p with
  | nm s => cases h
  | num n => exact ⟨n, rfl⟩
theorem isN_nm {p : Pt} (h : p.isN = true) : ∃ s, p = .nm s := by
  cases p with
  | nm s => exact ⟨s, rfl⟩
  | num n => cases h

theorem check_all {ps : List Pt} (h : ∀ p ∈ ps, p.ok = true) : check ps = 0 := by
  unfold check
  rw [if_neg, if_neg]
  · intro h2
    obtain ⟨p, hp, h3⟩ := List.any_eq_true.1 h2
    rw [h p hp] at h3
    simp at h3
  · intro h2
    obtain ⟨p, hp, h3⟩ := List.any_eq_true.1 h2
    rw [h p hp] at h3
    simp at h3

/-! ### words to parts, and back -/
theorem takeL_ok : ∀ {ks : List Bool} {ws : List (List UInt8)}, ws.length = ks.length → (takeL ks ws).1 = 0 → (takeL ks ws).2.map Pt.w = ws ∧ (∀ p ∈ (takeL ks ws).2, p.ok = true) ∧ (takeL ks ws).2.map Pt.isN = ks
  | [], [], _, _ => by simp [takeL]
  | true :: ks, w :: ws, hl, h => by
    rw [takeL] at h ⊢
    by_cases hn : Ir.nm (mkB w) = true
    · rw [if_pos hn] at h ⊢
      obtain ⟨h1, h2, h3⟩ := takeL_ok (ks := ks) (ws := ws) (by simpa using hl) h
      refine ⟨?_, ?_, ?_⟩
      · simp only [List.map_cons, h1]
        show (mkB w).data.toList :: ws = _
        rw [list_mkB]
      · intro p hp
        rcases List.mem_cons.1 hp with rfl | hp
        · exact hn
        · exact h2 p hp
      · simp only [List.map_cons, h3]
        rfl
    · rw [if_neg hn] at h
      exact absurd h (by decide)
  | false :: ks, w :: ws, hl, h => by
    rw [takeL] at h ⊢
    cases hn : number w with
    | some n =>
      simp only [hn] at h ⊢
      obtain ⟨h1, h2, h3⟩ := takeL_ok (ks := ks) (ws := ws) (by simpa using hl) h
      obtain ⟨n1, n2, n3⟩ := number_some hn
      refine ⟨?_, ?_, ?_⟩
      · simp only [List.map_cons, h1]
        show Lib.decDigits n.toNat :: ws = _
        rw [← n3]
      · intro p hp
        rcases List.mem_cons.1 hp with rfl | hp
        · exact decide_eq_true ⟨n1, n2⟩
        · exact h2 p hp
      · simp only [List.map_cons, h3]
        rfl
    | none =>
      simp only [hn] at h
      exact absurd h (by decide)
  | true :: ks, [], hl, _ => by simp at hl
  | false :: ks, [], hl, _ => by simp at hl
  | [], w :: ws, hl, _ => by simp at hl
theorem take_ok {ks : List Bool} {ws : List (List UInt8)} (h : (take ks ws).1 = 0) : (take ks ws).2.map Pt.w = ws ∧ (∀ p ∈ (take ks ws).2, p.ok = true) ∧ (take ks ws).2.map Pt.isN = ks ∧ ws.length = ks.length := by
  unfold take at h ⊢
  by_cases hl : ws.length = ks.length
  · rw [if_pos hl] at h ⊢
    obtain ⟨h1, h2, h3⟩ := takeL_ok hl h
    exact ⟨h1, h2, h3, hl⟩
  · rw [if_neg hl] at h
    exact absurd h (by decide)
theorem takeL_back : ∀ {ps : List Pt}, (∀ p ∈ ps, p.ok = true) → takeL (ps.map Pt.isN) (ps.map Pt.w) = (0, ps)
  | [], _ => rfl
  | .nm s :: ps, h => by
    have ih := takeL_back (ps := ps) (fun q hq => h q (List.mem_cons_of_mem _ hq))
    have h0 : Ir.nm s = true := h _ (List.mem_cons_self ..)
    show takeL (true :: ps.map Pt.isN) (s.data.toList :: ps.map Pt.w) = _
    rw [takeL, mkB_list, if_pos h0, ih]
  | .num n :: ps, h => by
    have ih := takeL_back (ps := ps) (fun q hq => h q (List.mem_cons_of_mem _ hq))
    have h0 : 0 ≤ n ∧ n ≤ 2147483647 := of_decide_eq_true (h _ (List.mem_cons_self ..))
    have hn : number (Lib.decDigits n.toNat) = some n := by
      rw [number_dec (by omega)]
      congr 1
      omega
    show takeL (false :: ps.map Pt.isN) (Lib.decDigits n.toNat :: ps.map Pt.w) = _
    rw [takeL, hn, ih]
theorem take_back {ps : List Pt} (h : ∀ p ∈ ps, p.ok = true) : take (ps.map Pt.isN) (ps.map Pt.w) = (0, ps) := by
  unfold take
  rw [if_pos (by simp), takeL_back h]

/-! ### parts to instructions, and back -/
theorem nums_back : ∀ {l : List Pt} {m : Nat}, l.map Pt.isN = List.replicate m false → (l.map Pt.n).map Pt.num = l
  | [], _, _ => rfl
  | p :: l, 0, h => by simp at h
  | p :: l, m + 1, h => by
    rw [List.map_cons, List.replicate_succ] at h
    injection h with h1 h2
    obtain ⟨n, rfl⟩ := isN_num h1
    have ih := nums_back h2
    rw [List.map_cons, List.map_cons, ih]
    rfl
theorem map1 {vs : List Pt} {a : Bool} (h : vs.map Pt.isN = [a]) : ∃ p, vs = [p] ∧ p.isN = a := by
  cases vs with
  | nil => cases h
  | cons p l =>
    rw [List.map_cons] at h
    injection h with h1 h2
    cases l with
    | nil => exact ⟨p, rfl, h1⟩
    | cons q l => cases h2
theorem mapC {vs : List Pt} {a : Bool} {t : List Bool} (h : vs.map Pt.isN = a :: t) : ∃ p l, vs = p :: l ∧ p.isN = a ∧ l.map Pt.isN = t := by
  cases vs with
  | nil => cases h
  | cons p l =>
    rw [List.map_cons] at h
    injection h with h1 h2
    exact ⟨p, l, rfl, h1, h2⟩
theorem parts_mk {k : Nat} {op : Int} {vs : List Pt} {m : Nat} (hk : k ≠ 0 ∧ k ≤ 7) (h : vs.map Pt.isN = kinds k m) : parts k (mk k op vs) = vs := by
  rcases (by omega : k = 1 ∨ k = 2 ∨ k = 3 ∨ k = 4 ∨ k = 5 ∨ k = 6 ∨ k = 7) with rfl | rfl | rfl | rfl | rfl | rfl | rfl
  · obtain ⟨p, l, rfl, hp, h⟩ := mapC h
    obtain ⟨q, rfl, hq⟩ := map1 h
    obtain ⟨a, rfl⟩ := isN_num hp
    obtain ⟨b, rfl⟩ := isN_num hq
    rfl
  · obtain ⟨p, l, rfl, hp, h⟩ := mapC h
    obtain ⟨q, l, rfl, hq, h⟩ := mapC h
    obtain ⟨r, rfl, hr⟩ := map1 h
    obtain ⟨a, rfl⟩ := isN_num hp
    obtain ⟨b, rfl⟩ := isN_num hq
    obtain ⟨c, rfl⟩ := isN_num hr
    rfl
  · obtain ⟨p, l, rfl, hp, h⟩ := mapC h
    obtain ⟨q, rfl, hq⟩ := map1 h
    obtain ⟨a, rfl⟩ := isN_num hp
    obtain ⟨b, rfl⟩ := isN_num hq
    rfl
  · obtain ⟨p, rfl, hp⟩ := map1 h
    obtain ⟨a, rfl⟩ := isN_num hp
    rfl
  · obtain ⟨p, l, rfl, hp, h2⟩ := mapC h
    obtain ⟨q, l, rfl, hq, h3⟩ := mapC h2
    obtain ⟨a, rfl⟩ := isN_num hp
    obtain ⟨b, rfl⟩ := isN_nm hq
    show Pt.num a :: Pt.nm b :: (l.map Pt.n).map Pt.num = _
    rw [nums_back h3]
  · obtain ⟨p, l, rfl, hp, h⟩ := mapC h
    obtain ⟨q, l, rfl, hq, h⟩ := mapC h
    obtain ⟨r, rfl, hr⟩ := map1 h
    obtain ⟨a, rfl⟩ := isN_num hp
    obtain ⟨b, rfl⟩ := isN_nm hq
    obtain ⟨c, rfl⟩ := isN_num hr
    rfl
  · obtain ⟨p, l, rfl, hp, h⟩ := mapC h
    obtain ⟨q, l, rfl, hq, h⟩ := mapC h
    obtain ⟨r, rfl, hr⟩ := map1 h
    obtain ⟨a, rfl⟩ := isN_num hp
    obtain ⟨b, rfl⟩ := isN_num hq
    obtain ⟨c, rfl⟩ := isN_num hr
    rfl
theorem mk_op (k : Nat) (op : Int) (vs : List Pt) : (mk k op vs).op = op := by
  unfold mk
  split <;> rfl
theorem kinds_parts {k : Nat} (x : In) (hk : k ≤ 7) : (parts k x).map Pt.isN = kinds k (parts k x).length := by
  rcases (by omega : k = 0 ∨ k = 1 ∨ k = 2 ∨ k = 3 ∨ k = 4 ∨ k = 5 ∨ k = 6 ∨ k = 7) with rfl | rfl | rfl | rfl | rfl | rfl | rfl | rfl
  all_goals first | rfl | skip
  simp only [parts, kinds, List.map_cons, List.length_cons, List.length_map, List.map_map]
  have e : x.args.length + 1 + 1 - 2 = x.args.length := by omega
  rw [e]
  show false :: true :: x.args.map (fun _ => false) = _
  rw [List.map_const']

/-! ### words and Ops -/
theorem opOf_some {code : Bool} {w : List UInt8} {op : Int} (h : opOf code w = some op) : word op code = w ∧ w ≠ [] := by
  have := List.find?_some h
  have h2 : word op code ≠ [] ∧ word op code = w := by simpa using this
  exact ⟨h2.2, h2.2 ▸ h2.1⟩
theorem ops_of {op : Int} {code : Bool} (h : word op code ≠ []) : op ∈ ops := by
  by_cases h1 : op ∈ ops
  · exact h1
  · exfalso
    apply h
    simp only [ops, List.mem_cons, List.mem_nil_iff, or_false, not_or] at h1
    unfold word
    rw [if_neg h1.1, if_neg h1.2.1, if_neg h1.2.2.1, if_neg h1.2.2.2.1, if_neg h1.2.2.2.2.1, if_neg h1.2.2.2.2.2.1, if_neg h1.2.2.2.2.2.2.1, if_neg h1.2.2.2.2.2.2.2.1, if_neg h1.2.2.2.2.2.2.2.2.1, if_neg h1.2.2.2.2.2.2.2.2.2.1, if_neg h1.2.2.2.2.2.2.2.2.2.2.1, if_neg h1.2.2.2.2.2.2.2.2.2.2.2.1, if_neg h1.2.2.2.2.2.2.2.2.2.2.2.2.1, if_neg h1.2.2.2.2.2.2.2.2.2.2.2.2.2.1, if_neg h1.2.2.2.2.2.2.2.2.2.2.2.2.2.2.1, if_neg h1.2.2.2.2.2.2.2.2.2.2.2.2.2.2.2]
set_option maxRecDepth 20000 in
theorem opOf_word {op : Int} {code : Bool} (h : word op code ≠ []) : opOf code (word op code) = some op := by
  have h1 := ops_of h
  simp only [ops, List.mem_cons, List.mem_nil_iff, or_false] at h1
  rcases h1 with rfl | rfl | rfl | rfl | rfl | rfl | rfl | rfl | rfl | rfl | rfl | rfl | rfl | rfl | rfl | rfl <;> cases code <;> first | rfl | exact absurd rfl h
theorem word_block {op : Int} {code : Bool} : word op code ≠ blockW := by
  intro h
  have h0 : word op code ≠ [] := by rw [h]; decide
  have h1 := ops_of h0
  simp only [ops, List.mem_cons, List.mem_nil_iff, or_false] at h1
  rcases h1 with rfl | rfl | rfl | rfl | rfl | rfl | rfl | rfl | rfl | rfl | rfl | rfl | rfl | rfl | rfl | rfl <;> cases code <;> revert h <;> decide
theorem word_clean {op : Int} {code : Bool} : (32 : UInt8) ∉ word op code := by
  by_cases h : word op code = []
  · rw [h]; simp
  · have h1 := ops_of h
    simp only [ops, List.mem_cons, List.mem_nil_iff, or_false] at h1
    rcases h1 with rfl | rfl | rfl | rfl | rfl | rfl | rfl | rfl | rfl | rfl | rfl | rfl | rfl | rfl | rfl | rfl <;> cases code <;> decide
theorem shp_pos {op : Int} {code : Bool} (h : word op code ≠ []) : shp op code ≠ 0 := by
  have h1 := ops_of h
  simp only [ops, List.mem_cons, List.mem_nil_iff, or_false] at h1
  rcases h1 with rfl | rfl | rfl | rfl | rfl | rfl | rfl | rfl | rfl | rfl | rfl | rfl | rfl | rfl | rfl | rfl <;> cases code <;> first | decide | exact absurd rfl h

/-! ### an instruction's line -/
/-- What a line keeps of an instruction. -/
def bareI (code : Bool) (x : In) : In := mk (shp x.op code) x.op (parts (shp x.op code) x)
def bodyI (code : Bool) (x : In) : List UInt8 := join (word x.op code) ((parts (shp x.op code) x).map Pt.w)
theorem insW_body (code : Bool) (x : In) : insW code x = bodyI code x ++ [10] := rfl

theorem readI_ok {code : Bool} {w : List UInt8} {os : List (List UInt8)} (h : (readI code w os).1 = 0) : insE code (readI code w os).2 = 0 ∧ bodyI code (readI code w os).2 = join w os := by
  unfold readI at h ⊢
  cases ho : opOf code w with
  | none => simp [ho] at h
  | some op =>
    simp only [ho] at h ⊢
    obtain ⟨h1, h2, h3, h4⟩ := take_ok h
    obtain ⟨hw, hne⟩ := opOf_some ho
    have hw' : word op code ≠ [] := by rw [hw]; exact hne
    have e1 := mk_op (shp op code) op (take (kinds (shp op code) os.length) os).2
    have e2 := parts_mk (op := op) ⟨shp_pos hw', shp_le op code⟩ h3
    unfold insE bodyI
    rw [e1, e2, if_neg hw', h1, hw]
    exact ⟨check_all h2, rfl⟩
theorem readI_back {code : Bool} {x : In} (h : insE code x = 0) : readI code (word x.op code) ((parts (shp x.op code) x).map Pt.w) = (0, bareI code x) := by
  obtain ⟨h1, h2⟩ := ins_ok h
  unfold readI
  rw [opOf_word h1]
  simp only
  rw [List.length_map, ← kinds_parts x (shp_le x.op code), take_back (fun p hp => check_ok h2 hp)]
  rfl
theorem words_body {code : Bool} {x : In} (h : insE code x = 0) : words (bodyI code x) = word x.op code :: (parts (shp x.op code) x).map Pt.w := by
  obtain ⟨h1, h2⟩ := ins_ok h
  refine words_join _ _ word_clean (fun w hw => ?_)
  obtain ⟨p, hp, rfl⟩ := List.mem_map.1 hw
  exact (w_clean (check_ok h2 hp)).2
theorem join_no10 {w : List UInt8} {ps : List Pt} (hw : (10 : UInt8) ∉ w) (h : ∀ p ∈ ps, p.ok = true) : (10 : UInt8) ∉ join w (ps.map Pt.w) := by
  unfold join
  intro hm
  rcases List.mem_append.1 hm with h1 | h1
  · exact hw h1
  · obtain ⟨u, hu, h2⟩ := List.mem_flatMap.1 h1
    obtain ⟨p, hp, rfl⟩ := List.mem_map.1 hu
    rcases List.mem_cons.1 h2 with h3 | h3
    · exact absurd h3 (by decide)
    · exact (w_clean (h p hp)).1 h3
theorem body_no10 {code : Bool} {x : In} (h : insE code x = 0) : (10 : UInt8) ∉ bodyI code x :=
  join_no10 (List.count_eq_zero.1 (word_count _ _)) (fun _ hp => check_ok (ins_ok h).2 hp)

/-! ### lines put together -/
/-- Lines as a text. -/
def flat (ts : List (List UInt8)) : List UInt8 := ts.flatMap fun t => t ++ [10]
theorem flat_cons (t : List UInt8) (ts : List (List UInt8)) : flat (t :: ts) = t ++ 10 :: flat ts := by simp [flat]
theorem flat_append (a b : List (List UInt8)) : flat (a ++ b) = flat a ++ flat b := List.flatMap_append ..
theorem lines_flat : ∀ (ts : List (List UInt8)) (r : List UInt8), (∀ t ∈ ts, (10 : UInt8) ∉ t) → lines (flat ts ++ r) = ts.map some ++ lines r
  | [], _, _ => rfl
  | t :: ts, r, h => by
    rw [flat_cons, List.append_assoc, List.cons_append, lines_mk t _ (h t (List.mem_cons_self ..)), lines_flat ts r (fun u hu => h u (List.mem_cons_of_mem _ hu))]
    rfl
theorem run_append {code : Bool} : ∀ (ls ms : List (Option (List UInt8))) (n : Nat) (c : Cd), (run code n c ls).1 = 0 → run code n c (ls ++ ms) = run code (n + ls.length) (run code n c ls).2.2 ms
  | [], _, _, _, _ => rfl
  | l :: ls, ms, n, c, h => by
    rw [run] at h ⊢
    rw [List.cons_append, run]
    by_cases h1 : (readLn code n c l).1 = 0
    · rw [if_pos h1] at h ⊢
      rw [if_pos h1, run_append ls ms (n + 1) _ h, List.length_cons, Nat.add_assoc, Nat.add_comm 1]
    · rw [if_neg h1] at h
      exact absurd h h1
theorem run_line {code : Bool} : ∀ (ls : List (Option (List UInt8))) (n : Nat) (c : Cd), (run code n c ls).1 ≠ 0 → n ≤ (run code n c ls).2.1
  | [], _, _, h => absurd rfl h
  | l :: ls, n, c, h => by
    rw [run] at h ⊢
    by_cases h1 : (readLn code n c l).1 = 0
    · rw [if_pos h1] at h ⊢
      have := run_line ls (n + 1) _ h
      omega
    · rw [if_neg h1]
      exact Nat.le_refl _
/-- The line is 0 where nothing is wrong. -/
theorem run_ok {code : Bool} : ∀ (ls : List (Option (List UInt8))) (n : Nat) (c : Cd), (run code n c ls).1 = 0 → (run code n c ls).2.1 = 0
  | [], _, _, _ => rfl
  | l :: ls, n, c, h => by
    rw [run] at h ⊢
    by_cases h1 : (readLn code n c l).1 = 0
    · rw [if_pos h1] at h ⊢
      exact run_ok ls (n + 1) _ h
    · rw [if_neg h1] at h
      exact absurd h h1
end Go.Proofs.YtcoehmmiplffgaaDoor.Tx

/- What the document's ins reads: plain. No model. -/
namespace Go.Proofs.YtcoehmmiplffgaaDoor

/-- The last Op below k whose word it is; -1: none. -/
def bestOp (code : Bool) (u : List UInt8) : Nat → Int
  | 0 => -1
  | k + 1 => if Tx.word (k : Int) code = u ∧ u ≠ [] then (k : Int) else bestOp code u k
theorem best_is (code : Bool) (u : List UInt8) : ∀ k : Nat, bestOp code u k = -1 ∧ (∀ j : Nat, j < k → ¬ (Tx.word (j : Int) code = u ∧ u ≠ [])) ∨ ∃ j : Nat, j < k ∧ bestOp code u k = (j : Int) ∧ Tx.word (j : Int) code = u ∧ u ≠ []
  | 0 => .inl ⟨rfl, fun j h => by omega⟩
  | k + 1 => by
    rw [bestOp]
    by_cases h : Tx.word (k : Int) code = u ∧ u ≠ []
    · rw [if_pos h]
      exact .inr ⟨k, by omega, rfl, h⟩
    · rw [if_neg h]
      rcases best_is code u k with ⟨h1, h2⟩ | ⟨j, h1, h2⟩
      · refine .inl ⟨h1, fun j hj => ?_⟩
        rcases Nat.lt_succ_iff_lt_or_eq.1 hj with h3 | rfl
        · exact h2 j h3
        · exact h
      · exact .inr ⟨j, by omega, h2⟩
theorem best_all (code : Bool) (u : List UInt8) : (bestOp code u 23 = -1 ∧ Tx.opOf code u = none) ∨ ∃ op, bestOp code u 23 = op ∧ Tx.opOf code u = some op ∧ op ∈ Tx.ops ∧ Tx.word op code = u ∧ Tx.word op code ≠ [] := by
  rcases best_is code u 23 with ⟨h1, h2⟩ | ⟨j, h1, h2, h3, h4⟩
  · refine .inl ⟨h1, ?_⟩
    cases ho : Tx.opOf code u with
    | none => rfl
    | some op =>
      exfalso
      obtain ⟨h3, h4⟩ := Tx.opOf_some ho
      have h5 := Tx.ops_of (op := op) (code := code) (by rw [h3]; exact h4)
      simp only [Tx.ops, List.mem_cons, List.mem_nil_iff, or_false] at h5
      have h6 : 0 ≤ op ∧ op < 23 := by omega
      refine h2 op.toNat (by omega) ⟨?_, h4⟩
      rw [show ((op.toNat : Nat) : Int) = op by omega]
      exact h3
  · refine .inr ⟨j, h2, ?_, Tx.ops_of (by rw [h3]; exact h4), h3, by rw [h3]; exact h4⟩
    rw [← h3]
    exact Tx.opOf_word (by rw [h3]; exact h4)

/-- How many words behind the first one, and which of them is a name. -/
def manyOf (code : Bool) (op : Int) (n : Nat) : Nat := if op = 11 then (if code then 3 else max 2 n) else (numsOf code ⟨op, 0, 0, 0, ByteArray.empty, []⟩).length
def nameOf (op : Int) : Int := if op = 11 then 1 else -1
theorem kAt_none (m : Nat) : kAt (-1) m = List.replicate m false := by
  unfold kAt
  apply List.ext_getElem
  · simp
  · intro i h1 h2
    simp
theorem kAt_call (m : Nat) : kAt 1 (2 + m) = false :: true :: List.replicate m false := by
  unfold kAt
  apply List.ext_getElem
  · simp; omega
  · intro i h1 h2
    match i with
    | 0 => simp
    | 1 => simp
    | i + 2 => simp; omega
theorem kinds_of {code : Bool} {op : Int} (h : op ∈ Tx.ops) (hw : Tx.word op code ≠ []) (n : Nat) : Tx.kinds (Tx.shp op code) n = kAt (nameOf op) (manyOf code op n) := by
  simp only [Tx.ops, List.mem_cons, List.mem_nil_iff, or_false] at h
  rcases h with rfl | rfl | rfl | rfl | rfl | rfl | rfl | rfl | rfl | rfl | rfl | rfl | rfl | rfl | rfl | rfl <;> cases code
  case inr.inr.inr.inr.inr.inr.inr.inr.inr.inr.inl.false =>
    show false :: true :: List.replicate (n - 2) false = kAt 1 (max 2 n)
    rw [show max 2 n = 2 + (n - 2) by omega, kAt_call]
  all_goals first | rfl | exact absurd rfl hw
end Go.Proofs.YtcoehmmiplffgaaDoor

/- What the document's ins knows while it fills its instruction. -/
namespace Go.Proofs.YtcoehmmiplffgaaDoor
open Go.ChangeShapes Go.WideShapes Go.RowKit Go.Deep

/-- A row of one's own, cell by cell. -/
theorem RowI.at {w : World} {base : Nat} {v : Value} {l : List Int} (h : RowI w base v l) (hl : l ≠ []) :
    ∃ g cap, v = .slice (some ⟨g, 0, none⟩) l.length cap ∧ base ≤ g ∧ l.length ≤ cap ∧ cap ≤ maxLen ∧ ∀ j n, l[j]? = some n → w.cell? ⟨g, j, none⟩ = some (.int .i64 n) := by
  have h' := h
  rcases h.2 with ⟨rfl, h0⟩ | ⟨g, cap, cur, rfl, hb, hg, hn, hm, _⟩
  · exact absurd (List.eq_nil_of_length_eq_zero h0) hl
  · refine ⟨g, cap, rfl, hb, hn, hm, fun j n hj => ?_⟩
    have e := World.ownsRow.cells h' (g := g) rfl j (.int .i64 n) (by simp [hj])
    rw [Addr.add_lit, Nat.zero_add] at e
    exact e

abbrev insL : Array Value := #[.int .i64 0, .int .i64 0, .int .i64 0, .int .i64 0, .string ⟨#[]⟩, .slice none 0 0]
theorem info_ins6 : (Tryd.prog.info? 46).map (·.size) = some 6 := by kernel_rfl
/-- The two results: what the block holds, and the error. -/
theorem results_ins {fn : Func} (h : fn.results = #[.cell 4 46, .tmp 5]) (tmps : Array Value) (W : World) (B : Nat) (a b c d e f : Value)
    (hp : tmps.getD 4 undef = .pointer (some ⟨B, 0, none⟩)) (hb : Blk W B 46 #[a, b, c, d, e, f]) :
    (results fn tmps).run Tryd.prog W = .ok (.tuple #[.agg #[a, b, c, d, e, f], tmps.getD 5 undef]) W := by
  have hp' : tmps[4]?.getD undef = .pointer (some ⟨B, 0, none⟩) := by simpa using hp
  simp [results, h, hp', asAddr, run_loadVar_row W B 46 46 #[a, b, c, d, e, f] (0, 0) _ hb Tryd.underlying46 rfl info_ins6]

section
variable {w : World} {g : Nat} {t : TypeId} {a b c d e f : Value}
theorem Blk.q6 (h : Blk w g t #[a, b, c, d, e, f]) (a' b' c' d' e' f' : Value) : Blk ((((((w.setCell ⟨g, 0, none⟩ a').setCell ⟨g, 1, none⟩ b').setCell ⟨g, 2, none⟩ c').setCell ⟨g, 3, none⟩ d').setCell ⟨g, 4, none⟩ e').setCell ⟨g, 5, none⟩ f') g t #[a', b', c', d', e', f'] := by
  have e0 : Blk (w.setCell ⟨g, 0, none⟩ a') g t #[a', b, c, d, e, f] := by simpa [Blk] using heap_setCell_same w g 0 _ t a' h
  have e1 : Blk ((w.setCell ⟨g, 0, none⟩ a').setCell ⟨g, 1, none⟩ b') g t #[a', b', c, d, e, f] := by simpa [Blk] using heap_setCell_same _ g 1 _ t b' e0
  have e2 : Blk (((w.setCell ⟨g, 0, none⟩ a').setCell ⟨g, 1, none⟩ b').setCell ⟨g, 2, none⟩ c') g t #[a', b', c', d, e, f] := by simpa [Blk] using heap_setCell_same _ g 2 _ t c' e1
  have e3 : Blk ((((w.setCell ⟨g, 0, none⟩ a').setCell ⟨g, 1, none⟩ b').setCell ⟨g, 2, none⟩ c').setCell ⟨g, 3, none⟩ d') g t #[a', b', c', d', e, f] := by simpa [Blk] using heap_setCell_same _ g 3 _ t d' e2
  have e4 : Blk (((((w.setCell ⟨g, 0, none⟩ a').setCell ⟨g, 1, none⟩ b').setCell ⟨g, 2, none⟩ c').setCell ⟨g, 3, none⟩ d').setCell ⟨g, 4, none⟩ e') g t #[a', b', c', d', e', f] := by simpa [Blk] using heap_setCell_same _ g 4 _ t e' e3
  simpa [Blk] using heap_setCell_same _ g 5 _ t f' e4
theorem frozen6 (h : Blk w g t #[a, b, c, d, e, f]) : w.frozen? ⟨g, 0, none⟩ = false ∧ w.frozen? ⟨g, 1, none⟩ = false ∧ w.frozen? ⟨g, 2, none⟩ = false ∧ w.frozen? ⟨g, 3, none⟩ = false ∧ w.frozen? ⟨g, 4, none⟩ = false ∧ w.frozen? ⟨g, 5, none⟩ = false :=
  ⟨h.frozen 0, h.frozen 1, h.frozen 2, h.frozen 3, h.frozen 4, h.frozen 5⟩
theorem below6 {B : Nat} {w0 : World} (h : Below B w0 w) (hg : B ≤ g) (a b c d e f : Value) : Below B w0 ((((((w.setCell ⟨g, 0, none⟩ a).setCell ⟨g, 1, none⟩ b).setCell ⟨g, 2, none⟩ c).setCell ⟨g, 3, none⟩ d).setCell ⟨g, 4, none⟩ e).setCell ⟨g, 5, none⟩ f) :=
  (((((h.setCell (p := ⟨g, 0, none⟩) hg _).setCell (p := ⟨g, 1, none⟩) hg _).setCell (p := ⟨g, 2, none⟩) hg _).setCell (p := ⟨g, 3, none⟩) hg _).setCell (p := ⟨g, 4, none⟩) hg _).setCell (p := ⟨g, 5, none⟩) hg _
end

/-- An instruction read, or what is wrong. -/
def InsPost (q : Int × Ir.In) (w : World) (e : Ending) (w' : World) : Prop :=
  Below w.heap.size w w' ∧ ((q.1 = 0 ∧ ∃ sl, e = .returned (.tuple #[InsV q.2 sl, .int .i64 0]) ∧ RowI w' w.heap.size sl q.2.args) ∨
    (q.1 ≠ 0 ∧ e = .returned (.tuple #[.agg insL, .int .i64 q.1])))

/-- The instruction's block, the result's block, the row of what was read. -/
structure RinAt (w : World) (bx : Nat) (cs : Array Value) (g : Nat) (l : List Int) (W : World) : Prop where
  box : Blk W bx 46 cs
  res : Blk W w.heap.size 46 insL
  row : ∀ j n, l[j]? = some n → W.cell? ⟨g, j, none⟩ = some (.int .i64 n)
  below : Below w.heap.size w W
  lo : w.heap.size < bx
  hi : bx < g
theorem RinAt.put {w W : World} {bx g : Nat} {cs : Array Value} {l : List Int} (h : RinAt w bx cs g l W) (i : Nat) (x : Value) : RinAt w bx (cs.setIfInBounds i x) g l (W.setCell ⟨bx, i, none⟩ x) :=
  ⟨h.box.set i x, h.res.apart (show w.heap.size ≠ bx from Nat.ne_of_lt h.lo) x, fun j n hj => (World.cell?_setCell_far W ⟨bx, i, none⟩ ⟨g, j, none⟩ x (Nat.ne_of_lt h.hi)).trans (h.row j n hj),
    h.below.setCell (p := ⟨bx, i, none⟩) (Nat.le_of_lt h.lo) x, h.lo, h.hi⟩
theorem RinAt.put1 {w W : World} {bx g : Nat} {a b c d e f : Value} {l : List Int} (h : RinAt w bx #[a, b, c, d, e, f] g l W) (x : Value) : RinAt w bx #[a, x, c, d, e, f] g l (W.setCell ⟨bx, 1, none⟩ x) := h.put 1 x
theorem RinAt.put2 {w W : World} {bx g : Nat} {a b c d e f : Value} {l : List Int} (h : RinAt w bx #[a, b, c, d, e, f] g l W) (x : Value) : RinAt w bx #[a, b, x, d, e, f] g l (W.setCell ⟨bx, 2, none⟩ x) := h.put 2 x
theorem RinAt.put3 {w W : World} {bx g : Nat} {a b c d e f : Value} {l : List Int} (h : RinAt w bx #[a, b, c, d, e, f] g l W) (x : Value) : RinAt w bx #[a, b, c, x, e, f] g l (W.setCell ⟨bx, 3, none⟩ x) := h.put 3 x
theorem RinAt.put4 {w W : World} {bx g : Nat} {a b c d e f : Value} {l : List Int} (h : RinAt w bx #[a, b, c, d, e, f] g l W) (x : Value) : RinAt w bx #[a, b, c, d, x, f] g l (W.setCell ⟨bx, 4, none⟩ x) := h.put 4 x
theorem RinAt.put5 {w W : World} {bx g : Nat} {a b c d e f : Value} {l : List Int} (h : RinAt w bx #[a, b, c, d, e, f] g l W) (x : Value) : RinAt w bx #[a, b, c, d, e, x] g l (W.setCell ⟨bx, 5, none⟩ x) := h.put 5 x

/-- How many numbers an Op has. -/
theorem rnum_len (op : Int) (code : Bool) (w : World) (h : 0 ≤ op ∧ op ≤ 100) :
    Calls Tryd.prog 32 #[.agg #[.int .i64 op, .int .i64 0, .int .i64 0, .int .i64 0, .string ⟨#[]⟩, .slice none 0 0], .bool code] w
      fun e w' => (∃ A c, e = .returned (.slice A (numsOf code ⟨op, 0, 0, 0, ByteArray.empty, []⟩).length c)) ∧ Below w.heap.size w w' := by
  have hx : InR w (InsC ⟨op, 0, 0, 0, ByteArray.empty, []⟩ (.slice none 0 0)).toList ⟨op, 0, 0, 0, ByteArray.empty, []⟩ :=
    ⟨.slice none 0 0, rfl, ⟨none, 0, rfl, ⟨Nat.le_refl _, Nat.zero_le _, fun _ => rfl⟩, fun j s hj => by simp at hj⟩, by show -9223372036854775808 ≤ op ∧ op ≤ 9223372036854775807; omega, (show (-9223372036854775808 : Int) ≤ 0 ∧ (0 : Int) ≤ 9223372036854775807 from by decide), (show (-9223372036854775808 : Int) ≤ 0 ∧ (0 : Int) ≤ 9223372036854775807 from by decide), (show (-9223372036854775808 : Int) ≤ 0 ∧ (0 : Int) ≤ 9223372036854775807 from by decide)⟩
  refine (rnumbers_any ⟨op, 0, 0, 0, ByteArray.empty, []⟩ (.slice none 0 0) code w hx (Nat.zero_le _)).mono ?_
  rintro e w' ⟨v, rfl, hr, hb⟩
  refine ⟨?_, hb⟩
  rcases hr.2 with ⟨rfl, h0⟩ | ⟨g, cap, cur, rfl, _⟩
  · exact ⟨none, 0, by rw [h0]⟩
  · exact ⟨_, cap, rfl⟩
theorem rinRes {w w0 wr w9 w10 w11 : World} (hu : Blk w0 w.heap.size 46 insL) (hb : Below w.heap.size w w0) (hr : Below w0.heap.size w0 wr) (h9 : Below wr.heap.size wr w9) (h10 : Below w9.heap.size w9 w10) (h11 : Below w10.heap.size w10 w11) :
    Blk w11 w.heap.size 46 insL ∧ Below w.heap.size w w11 := by
  have e1 := hu.older hr hu.lt
  have e2 := e1.older h9 e1.lt
  have e3 := e2.older h10 e2.lt
  have s1 := hb.trans (hr.mono hb.size)
  have s2 := s1.trans (h9.mono s1.size)
  have s3 := s2.trans (h10.mono s2.size)
  exact ⟨e3.older h11 e3.lt, s3.trans (h11.mono s3.size)⟩
theorem rinAt_new {w w0 wr w9 w10 w11 : World} {cs : Array Value} {g : Nat} {l : List Int} (hu : Blk w0 w.heap.size 46 insL) (hb : Below w.heap.size w w0) (hr : Below w0.heap.size w0 wr) (hx : Blk w9 wr.heap.size 46 cs) (h9 : Below wr.heap.size wr w9) (h10 : Below w9.heap.size w9 w10) (h11 : Below w10.heap.size w10 w11)
    (hrow : ∀ j n, l[j]? = some n → w11.cell? ⟨g, j, none⟩ = some (.int .i64 n)) (hg : w10.heap.size ≤ g) : RinAt w wr.heap.size cs g l w11 := by
  obtain ⟨r1, r2⟩ := rinRes hu hb hr h9 h10 h11
  have hx10 := hx.older h10 hx.lt
  exact ⟨hx10.older h11 hx10.lt, r1, hrow, r2, Nat.lt_of_lt_of_le hu.lt hr.size, Nat.lt_of_lt_of_le hx10.lt hg⟩
set_option maxRecDepth 20000 in
theorem step_append_nums {ops : Array Oper} {o : Oper} {a : Act} {w : World} {K : Act → World → Prop} {Q : Exit → Act → World → Prop} {E : Prop} (hg : o.guard = none) (s x : Operand)
    (ho : o.op = .call { callee := .builtin .append, args := #[s, x], argTypes := #[44, 44] })
    {base bl off n c : Nat} {v1 : Value} {l m : List Int} (h : RowI w base v1 l) (hm : m.length = n) (hc : ∀ j u, m[j]? = some u → w.cell? ⟨bl, off + j, none⟩ = some (.int .i64 u)) (hl : l.length + n ≤ 1048576) (hb : base ≤ w.heap.size) (hs : a.eval s = v1) (hx : a.eval x = .slice (some ⟨bl, off, none⟩) n c)
    (hK : ∀ v3 w', RowI w' base v3 (l ++ m) → w.grownBy w' v1.ownBlock → K (a.put o.dst v3) w') : if Region.wanted o (yielded ops a.tmps) = true then Oper.wp Tryd.prog o a w K Q else E := by
  obtain ⟨i0, hi, hz0, hz1, hz2⟩ := info_parts info_int
  have hw : Region.wanted o (yielded ops a.tmps) = true := by simp [Region.wanted, hg]
  rw [if_pos hw]
  refine wp_append_own (P := Tryd.prog) w s x 44 ho base 3 i0 (.int .i64 0) 1 8 Tryd.underlying44 hi hz0 hz1 hz2 rfl (by decide) v1 l.length _ hs h ⟨bl, off, none⟩ n c (m.map (Value.int .i64)) hx (by simp [hm]) (fun j u hj => by
    rw [List.getElem?_map] at hj
    cases hmj : m[j]? with
    | none => rw [hmj] at hj; simp at hj
    | some t =>
      rw [hmj] at hj
      simp at hj
      rw [Addr.add_lit, hc j t hmj, hj]) (one_ints m) (by unfold maxLen; omega) (by omega) hb ?_
  intro v' w' h2 h3 _
  exact hK v' w' (by subst hm; simpa [RowI] using h2) h3

/-- The words behind a call's name. -/
theorem numsP_map : ∀ l : List Int, numsP (l.map Tx.Pt.num) = l
  | [] => rfl
  | n :: l => by rw [List.map_cons, numsP, numsP_map l]
theorem nmP_map : ∀ (l : List Int) (s : ByteArray), nmP s (l.map Tx.Pt.num) = s
  | [], _ => rfl
  | n :: l, s => by rw [List.map_cons, nmP, nmP_map l s]
theorem map_nums : ∀ l : List Int, (l.map Tx.Pt.num).map Tx.Pt.n = l
  | [] => rfl
  | n :: l => by rw [List.map_cons, List.map_cons, map_nums l]; rfl
theorem RinAt.grown {w W W' : World} {bx g : Nat} {cs : Array Value} {l : List Int} (h : RinAt w bx cs g l W) (hb : Below W.heap.size W W') : RinAt w bx cs g l W' :=
  ⟨h.box.older hb h.box.lt, h.res.older hb h.res.lt, fun j n hj => (hb.cell (p := ⟨g, j, none⟩) (World.block_lt_of_cell? W ⟨g, j, none⟩ (h.row j n hj))).trans (h.row j n hj), h.below.trans (hb.mono h.below.size), h.lo, h.hi⟩
theorem RowI.cell_set {w : World} {B g : Nat} {v : Value} {l : List Int} (h : RowI w B v l) (hg : g < B) (i : Nat) (x : Value) : RowI (w.setCell ⟨g, i, none⟩ x) B v l :=
  World.ownsRow.kept (row := some g) h (gr_set (gr_refl w (some g)) i x) (.inr (fun e => by have := (World.ownsRow.lt h g e).1; omega))
theorem RowI.six {w : World} {B g : Nat} {v : Value} {l : List Int} (h : RowI w B v l) (hg : g < B) (a b c d e f : Value) : RowI ((((((w.setCell ⟨g, 0, none⟩ a).setCell ⟨g, 1, none⟩ b).setCell ⟨g, 2, none⟩ c).setCell ⟨g, 3, none⟩ d).setCell ⟨g, 4, none⟩ e).setCell ⟨g, 5, none⟩ f) B v l :=
  (((((h.cell_set hg 0 a).cell_set hg 1 b).cell_set hg 2 c).cell_set hg 3 d).cell_set hg 4 e).cell_set hg 5 f
theorem insPost_ok {q : Int × Ir.In} {x : Ir.In} {w w' : World} {sl : Value} (h : q = (0, x)) (hb : Below w.heap.size w w') (hr : RowI w' w.heap.size sl x.args) : InsPost q w (.returned (.tuple #[InsV x sl, .int .i64 0])) w' := by
  subst h
  exact ⟨hb, .inl ⟨rfl, sl, rfl, hr⟩⟩
theorem insPost_no {q : Int × Ir.In} {w w' : World} {E : Int} (h : q.1 = E) (h0 : E ≠ 0) (hb : Below w.heap.size w w') : InsPost q w (.returned (.tuple #[.agg insL, .int .i64 E])) w' := ⟨hb, .inr ⟨by rw [h]; exact h0, by rw [h]⟩⟩
end Go.Proofs.YtcoehmmiplffgaaDoor

/- What readIns makes of an instruction's block: in memory, without a walk. -/
namespace Go.Proofs.YtcoehmmiplffgaaDoor
open Go.ChangeShapes Go.WideShapes Go.RowKit Go.Deep

/-- An instruction's cells, whatever is in them. -/
abbrev insQ (a b c d : Int) (s : ByteArray) (A : Option Addr) (m p : Nat) : Array Value := #[.int .i64 a, .int .i64 b, .int .i64 c, .int .i64 d, .string s, .slice A m p]
theorem puts_blk {g m p : Nat} {t : TypeId} {A : Option Addr} : ∀ (l : List (Pa × Tx.Pt)) (w : World) (a b c d : Int) (s : ByteArray), Blk w g t (insQ a b c d s A m p) →
    (∀ q ∈ l, q.1.b = g → (∃ n, q.2 = .num n ∧ (q.1.o = 1 ∨ q.1.o = 2 ∨ q.1.o = 3)) ∨ (∃ s, q.2 = .nm s ∧ q.1.o = 4)) → ∃ a b c d s, Blk (puts w l) g t (insQ a b c d s A m p)
  | [], _, a, b, c, d, s, h, _ => ⟨a, b, c, d, s, h⟩
  | ⟨⟨nm, b0, o⟩, x⟩ :: l, w, a, b, c, d, s, h, hq => by
    have hq' := fun r hr => hq r (List.mem_cons_of_mem _ hr)
    by_cases e : b0 = g
    · subst e
      rcases hq _ (List.mem_cons_self ..) rfl with ⟨n, hx, ho⟩ | ⟨u, hx, ho⟩
      · simp only at hx ho
        subst hx
        rcases ho with rfl | rfl | rfl
        · exact puts_blk l _ a n c d s (h.set 1 (.int .i64 n)) hq'
        · exact puts_blk l _ a b n d s (h.set 2 (.int .i64 n)) hq'
        · exact puts_blk l _ a b c n s (h.set 3 (.int .i64 n)) hq'
      · simp only at hx ho
        subst hx ho
        exact puts_blk l _ a b c d u (h.set 4 (.string u)) hq'
    · exact puts_blk l _ a b c d s (h.apart (p := ⟨b0, o, none⟩) (fun h2 => e h2.symm) _) hq'
theorem zip_nm : ∀ (ps : List Pa) (vs : List Tx.Pt), vs.map Tx.Pt.isN = (ps.map Pa.nm).take vs.length → ∀ q ∈ ps.zip vs, q.2.isN = q.1.nm
  | [], _, _, q, hq => by simp at hq
  | _ :: _, [], _, q, hq => by simp at hq
  | p :: ps, v :: vs, h, q, hq => by
    simp only [List.map_cons, List.length_cons, List.take_succ_cons, List.cons.injEq] at h
    rw [List.zip_cons_cons] at hq
    rcases List.mem_cons.1 hq with rfl | hq
    · exact h.1
    · exact zip_nm ps vs h.2 q hq
/-- A row of numbers is written. -/
theorem puts_row {g : Nat} {t : TypeId} : ∀ (l : List Int) (o : Nat) (w : World) (cs : Array Value), Blk w g t cs → o + l.length ≤ cs.size →
    ∃ cs', Blk (puts w (((List.range' o l.length).map fun j => (⟨false, g, j⟩ : Pa)).zip (l.map Tx.Pt.num))) g t cs' ∧ cs'.size = cs.size ∧ (∀ j, j < o → cs'[j]? = cs[j]?) ∧ (∀ (j : Nat) (n : Int), l[j]? = some n → cs'[o + j]? = some (.int .i64 n))
  | [], o, w, cs, h, _ => ⟨cs, h, rfl, fun _ _ => rfl, fun j n hj => by simp at hj⟩
  | n :: l, o, w, cs, h, hl => by
    have hs := h.set o (.int .i64 n)
    obtain ⟨cs', a, b, c, d⟩ := puts_row l (o + 1) (w.setCell ⟨g, o, none⟩ (.int .i64 n)) (cs.setIfInBounds o (.int .i64 n)) hs (by rw [Array.size_setIfInBounds]; simp only [List.length_cons] at hl; omega)
    refine ⟨cs', by rw [List.length_cons, List.range'_succ]; exact a, by rw [b, Array.size_setIfInBounds], fun j hj => ?_, fun j m hj => ?_⟩
    · rw [c j (by omega), Array.getElem?_setIfInBounds, if_neg (by omega)]
    · cases j with
      | zero =>
        simp at hj
        subst hj
        rw [Nat.add_zero, c o (by omega), Array.getElem?_setIfInBounds, if_pos rfl, if_pos (by simp only [List.length_cons] at hl; omega)]
      | succ j =>
        have := d j m (by simpa using hj)
        rw [← this]
        congr 1
        omega
theorem puts_apart {g : Nat} {t : TypeId} {cs : Array Value} (l : List (Pa × Tx.Pt)) (w : World) (h : Blk w g t cs) (ha : ∀ q ∈ l, q.1.b ≠ g) : Blk (puts w l) g t cs := h.move (puts_heap l w g ha)

theorem nums_map : ∀ l : List Int, (l.map Tx.Pt.num).map Tx.Pt.n = l
  | [] => rfl
  | n :: l => congrArg (n :: ·) (nums_map l)
theorem nums_of : ∀ {l : List Tx.Pt} {m : Nat}, l.map Tx.Pt.isN = List.replicate m false → l = (l.map Tx.Pt.n).map Tx.Pt.num := fun h => (Tx.nums_back h).symm

/-- An instruction's block, behind its parts were written. -/
theorem ri_blk {B g gA m n k : Nat} {op : Int} {A : Option Addr} {w : World} {vs : List Tx.Pt} (hk : k ≠ 0 ∧ k ≤ 7) (hv : vs.map Tx.Pt.isN = Tx.kinds k n)
    (hb : Blk w g 46 #[.int .i64 op, .int .i64 0, .int .i64 0, .int .i64 0, .string ⟨#[]⟩, .slice A m m]) (hm : m = if k = 5 then n - 2 else 0) (h0 : m = 0 → A = none)
    (h1 : m ≠ 0 → A = some ⟨gA, 0, none⟩ ∧ (∃ cur, Blk w gA 3 cur ∧ cur.size = m) ∧ g ≠ gA ∧ B ≤ gA ∧ m ≤ maxLen) :
    ∃ sl, Blk (puts w ((insPa g (fieldsB k) (decide (k = 5)) A m).zip vs)) g 46 (InsC (Tx.mk k op vs) sl) ∧ RowI (puts w ((insPa g (fieldsB k) (decide (k = 5)) A m).zip vs)) B sl (Tx.mk k op vs).args := by
  obtain rfl | rfl | rfl | rfl | rfl | rfl | rfl : k = 1 ∨ k = 2 ∨ k = 3 ∨ k = 4 ∨ k = 5 ∨ k = 6 ∨ k = 7 := by omega
  · obtain rfl : m = 0 := hm
    obtain rfl := h0 rfl
    obtain ⟨p, l, rfl, hp, hv⟩ := Tx.mapC (a := false) (t := [false]) hv
    obtain ⟨q, rfl, hq⟩ := Tx.map1 hv
    obtain ⟨d, rfl⟩ := Tx.isN_num hp
    obtain ⟨a, rfl⟩ := Tx.isN_num hq
    exact ⟨_, (hb.set 1 (.int .i64 d)).set 2 (.int .i64 a), RowI.nil _ _⟩
  · obtain rfl : m = 0 := hm
    obtain rfl := h0 rfl
    obtain ⟨p, l, rfl, hp, hv⟩ := Tx.mapC (a := false) (t := [false, false]) hv
    obtain ⟨q, l, rfl, hq, hv⟩ := Tx.mapC hv
    obtain ⟨r, rfl, hr⟩ := Tx.map1 hv
    obtain ⟨d, rfl⟩ := Tx.isN_num hp
    obtain ⟨a, rfl⟩ := Tx.isN_num hq
    obtain ⟨b, rfl⟩ := Tx.isN_num hr
    exact ⟨_, ((hb.set 1 (.int .i64 d)).set 2 (.int .i64 a)).set 3 (.int .i64 b), RowI.nil _ _⟩
  · obtain rfl : m = 0 := hm
    obtain rfl := h0 rfl
    obtain ⟨p, l, rfl, hp, hv⟩ := Tx.mapC (a := false) (t := [false]) hv
    obtain ⟨q, rfl, hq⟩ := Tx.map1 hv
    obtain ⟨a, rfl⟩ := Tx.isN_num hp
    obtain ⟨b, rfl⟩ := Tx.isN_num hq
    exact ⟨_, (hb.set 2 (.int .i64 a)).set 3 (.int .i64 b), RowI.nil _ _⟩
  · obtain rfl : m = 0 := hm
    obtain rfl := h0 rfl
    obtain ⟨p, rfl, hp⟩ := Tx.map1 (a := false) hv
    obtain ⟨a, rfl⟩ := Tx.isN_num hp
    exact ⟨_, hb.set 2 (.int .i64 a), RowI.nil _ _⟩
  · obtain ⟨p, l, rfl, hp, hv1⟩ := Tx.mapC (a := false) (t := true :: List.replicate (n - 2) false) hv
    obtain ⟨q, l, rfl, hq, hv2⟩ := Tx.mapC hv1
    obtain ⟨d, rfl⟩ := Tx.isN_num hp
    obtain ⟨s, rfl⟩ := Tx.isN_nm hq
    have hm2 : m = n - 2 := hm
    have hnl := nums_of hv2
    have hll : (l.map Tx.Pt.n).length = m := by
      have := congrArg List.length hv2
      simp at this
      rw [List.length_map]
      omega
    obtain ⟨ns, hns⟩ : ∃ ns, ns = l.map Tx.Pt.n := ⟨_, rfl⟩
    rw [← hns] at hnl hll
    subst hnl
    have hmk : Tx.mk 5 op (.num d :: .nm s :: ns.map Tx.Pt.num) = ⟨op, d, 0, 0, s, ns⟩ := by
      show (⟨op, d, 0, 0, s, (ns.map Tx.Pt.num).map Tx.Pt.n⟩ : Ir.In) = _
      rw [nums_map]
    rw [hmk]
    have hb2 : Blk ((w.setCell ⟨g, 1, none⟩ (.int .i64 d)).setCell ⟨g, 4, none⟩ (.string s)) g 46 #[.int .i64 op, .int .i64 d, .int .i64 0, .int .i64 0, .string s, .slice A m m] := (hb.set 1 (.int .i64 d)).set 4 (.string s)
    by_cases hz : m = 0
    · subst hz
      obtain rfl := h0 rfl
      obtain rfl : ns = [] := List.eq_nil_of_length_eq_zero hll
      exact ⟨_, hb2, RowI.nil _ _⟩
    · obtain ⟨rfl, ⟨cur, hcur, hcs⟩, hne, hB, hmax⟩ := h1 hz
      have hc2 : Blk ((w.setCell ⟨g, 1, none⟩ (.int .i64 d)).setCell ⟨g, 4, none⟩ (.string s)) gA 3 cur := (hcur.apart (p := ⟨g, 1, none⟩) (fun e => hne e.symm) _).apart (p := ⟨g, 4, none⟩) (fun e => hne e.symm) _
      obtain ⟨cs', ha, hs', -, hd⟩ := puts_row ns 0 _ cur hc2 (by omega)
      have hz2 : ((insPa g (fieldsB 5) (decide (5 = 5)) (some ⟨gA, 0, none⟩) m).zip (.num d :: .nm s :: ns.map Tx.Pt.num)) = (⟨false, g, 1⟩, .num d) :: (⟨true, g, 4⟩, .nm s) :: (((List.range' 0 ns.length).map fun j => (⟨false, gA, j⟩ : Pa)).zip (ns.map Tx.Pt.num)) := by
        rw [hll, ← List.range_eq_range']
        show (⟨false, g, 1⟩, Tx.Pt.num d) :: (⟨true, g, 4⟩, Tx.Pt.nm s) :: (((List.range m).map (argPa (some ⟨gA, 0, none⟩))).zip (ns.map Tx.Pt.num)) = _
        have e : (List.range m).map (argPa (some ⟨gA, 0, none⟩)) = (List.range m).map fun j => (⟨false, gA, j⟩ : Pa) := List.map_congr_left (fun j _ => by show (⟨false, gA, 0 + j⟩ : Pa) = _; rw [Nat.zero_add])
        rw [e]
      rw [hz2]
      refine ⟨.slice (some ⟨gA, 0, none⟩) m m, ?_, (show RowI _ B _ ns from ?_)⟩
      · exact puts_apart (((List.range' 0 ns.length).map fun j => (⟨false, gA, j⟩ : Pa)).zip (ns.map Tx.Pt.num)) _ hb2 (fun q hq => by
          obtain ⟨j, -, e⟩ := List.mem_map.1 (List.of_mem_zip hq).1
          rw [← e]
          exact fun h => hne h.symm)
      · refine ⟨by simp, .inr ⟨gA, m, cs', by rw [hll], hB, ha, by rw [hll]; exact Nat.le_refl _, hmax, by omega, ?_⟩⟩
        apply List.ext_getElem?
        intro j
        rw [List.getElem?_take]
        by_cases hj : j < m
        · rw [if_pos (by omega)]
          have e := hd j ns[j] (List.getElem?_eq_getElem (by omega))
          rw [Nat.zero_add] at e
          rw [Array.getElem?_toList, e, List.getElem?_map, List.getElem?_eq_getElem (by omega)]
          rfl
        · rw [if_neg (by omega), List.getElem?_eq_none (by simp; omega)]
  · obtain rfl : m = 0 := hm
    obtain rfl := h0 rfl
    obtain ⟨p, l, rfl, hp, hv⟩ := Tx.mapC (a := false) (t := [true, false]) hv
    obtain ⟨q, l, rfl, hq, hv⟩ := Tx.mapC hv
    obtain ⟨r, rfl, hr⟩ := Tx.map1 hv
    obtain ⟨d, rfl⟩ := Tx.isN_num hp
    obtain ⟨s, rfl⟩ := Tx.isN_nm hq
    obtain ⟨a, rfl⟩ := Tx.isN_num hr
    exact ⟨_, ((hb.set 1 (.int .i64 d)).set 4 (.string s)).set 2 (.int .i64 a), RowI.nil _ _⟩
  · obtain rfl : m = 0 := hm
    obtain rfl := h0 rfl
    obtain ⟨p, l, rfl, hp, hv⟩ := Tx.mapC (a := false) (t := [false, false]) hv
    obtain ⟨q, l, rfl, hq, hv⟩ := Tx.mapC hv
    obtain ⟨r, rfl, hr⟩ := Tx.map1 hv
    obtain ⟨a, rfl⟩ := Tx.isN_num hp
    obtain ⟨b, rfl⟩ := Tx.isN_num hq
    obtain ⟨d, rfl⟩ := Tx.isN_num hr
    exact ⟨_, ((hb.set 2 (.int .i64 a)).set 3 (.int .i64 b)).set 1 (.int .i64 d), RowI.nil _ _⟩

/-- An instruction that was read, or whatever came of it. -/
def RiPost (q : Int × Ir.In) (w : World) (e : Ending) (w' : World) : Prop := Below w.heap.size w w' ∧ ∃ (a b c d : Int) (s : ByteArray) (A : Option Addr) (m p : Nat), e = .returned (.tuple #[.agg (insQ a b c d s A m p), .int .i64 q.1]) ∧
  (q.1 = 0 → insQ a b c d s A m p = InsC q.2 (.slice A m p) ∧ RowI w' w.heap.size (.slice A m p) q.2.args)

theorem insPa_nm {k n m : Nat} {g : Nat} {A : Option Addr} (hk : k ≠ 0 ∧ k ≤ 7) (hm : m = if k = 5 then n - 2 else 0) (hA : m ≠ 0 → ∃ a, A = some a) : (insPa g (fieldsB k) (decide (k = 5)) A m).map Pa.nm = Tx.kinds k n := by
  obtain rfl | rfl | rfl | rfl | rfl | rfl | rfl : k = 1 ∨ k = 2 ∨ k = 3 ∨ k = 4 ∨ k = 5 ∨ k = 6 ∨ k = 7 := by omega
  case inr.inr.inr.inr.inl =>
    have hm2 : m = n - 2 := hm
    show (false :: true :: ((List.range m).map (argPa A)).map Pa.nm) = false :: true :: List.replicate (n - 2) false
    rw [← hm2, List.map_map]
    congr 2
    apply List.ext_getElem
    · simp
    · intro i h1 h2
      simp only [List.getElem_map, List.getElem_replicate, Function.comp]
      cases A <;> rfl
  all_goals rfl
theorem insPa_mem {k m : Nat} {g : Nat} {A : Option Addr} {p : Pa} (h : p ∈ insPa g (fieldsB k) (decide (k = 5)) A m) : (p.b = g ∧ (p.nm = false ∧ (p.o = 1 ∨ p.o = 2 ∨ p.o = 3) ∨ p.nm = true ∧ p.o = 4)) ∨ ∃ j, j < m ∧ p = argPa A j := by
  unfold insPa at h
  rcases List.mem_append.1 h with h | h
  · left
    obtain ⟨c, hc, rfl⟩ := List.mem_map.1 h
    unfold paF
    split
    · exact ⟨rfl, by simp⟩
    · split
      · exact ⟨rfl, by simp⟩
      · split
        · exact ⟨rfl, by simp⟩
        · exact ⟨rfl, by simp⟩
  · right
    split at h
    · obtain ⟨j, hj, rfl⟩ := List.mem_map.1 h
      exact ⟨j, List.mem_range.1 hj, rfl⟩
    · cases h
theorem fieldsB_ok (k : Nat) : (∀ c ∈ fieldsB k, okF c) ∧ (fieldsB k).length ≤ 3 := by
  unfold fieldsB
  split <;> (refine ⟨fun c hc => ?_, by decide⟩) <;> simp at hc <;> unfold okF <;> first | (rcases hc with rfl | rfl | rfl <;> decide) | (rcases hc with rfl | rfl <;> decide) | (subst hc; decide)

/-! ### what stays while the parts are written -/
theorem rowpa_kpt {w W : World} {base : Nat} {v : Value} {l ps : List Pa} (h : RowPa w base v l) (hp : ∀ p ∈ ps, p.b < base) (hk : Kpt ps w W) : RowPa W base v l := by
  obtain ⟨hl, ⟨rfl, h0⟩ | ⟨g, cap, cur, rfl, hb, hg, rest⟩⟩ := h
  · exact ⟨hl, .inl ⟨rfl, h0⟩⟩
  · exact ⟨hl, .inr ⟨g, cap, cur, rfl, hb, (hk.2 g (lt_of_block hg) (fun p hpm e => by have := hp p hpm; omega)).trans hg, rest⟩⟩
theorem strs_kpt {w w1 W : World} {v : Value} {l : List ByteArray} {ps : List Pa} (h : Strs w v l) (hb : Below w.heap.size w w1) (hp : ∀ p ∈ ps, w.heap.size ≤ p.b) (hk : Kpt ps w1 W) : Strs W v l := by
  obtain ⟨A, cap, h1, h2, h3⟩ := h
  refine ⟨A, cap, h1, h2, fun j s hj => ?_⟩
  obtain ⟨b, off, h4, h5, h6⟩ := h3 j s hj
  have e : W.heap[b]? = w.heap[b]? := (hk.2 b (Nat.lt_of_lt_of_le h5 hb.size) (fun p hpm e => by have := hp p hpm; omega)).trans (hb.block b h5)
  exact ⟨b, off, h4, Nat.lt_of_lt_of_le h5 (Nat.le_trans hb.size hk.1), (cell_of_heap_eq e _).trans h6⟩
end Go.Proofs.YtcoehmmiplffgaaDoor

/- Blocks that are built: a row of rows of instructions of one's own. -/
namespace Go.Proofs.YtcoehmmiplffgaaDoor
open Go.ChangeShapes Go.WideShapes Go.RowKit Go.Deep

/-- The kinds of what blocks are built of. -/
def Kd (e : TypeId) : Prop := e = 3 ∨ e = 46 ∨ e = 31
/-- What blocks are built of stays as it was, but for the block g. -/
structure Kb (g : Option Nat) (w w' : World) : Prop where
  size : w.heap.size ≤ w'.heap.size
  blk : ∀ k e cur, Kd e → Blk w k e cur → some k ≠ g → Blk w' k e cur
theorem Kb.of_below {w w' : World} (h : Below w.heap.size w w') (g : Option Nat) : Kb g w w' := ⟨h.size, fun _ _ _ _ hb _ => hb.older h hb.lt⟩
theorem Kb.of_grown {w w' : World} {g : Option Nat} (h : w.grownBy w' g) : Kb g w w' := ⟨h.size, fun _ _ _ _ hb hk => hb.grown h hk⟩
theorem Kb.trans {a b c : World} {g : Option Nat} (h : Kb g a b) (k : Kb g b c) : Kb g a c := ⟨Nat.le_trans h.size k.size, fun i e cur he hb hi => k.blk i e cur he (h.blk i e cur he hb hi) hi⟩
theorem Kb.weak {a b : World} (h : Kb none a b) (g : Option Nat) : Kb g a b := ⟨h.size, fun i e cur he hb _ => h.blk i e cur he hb (by simp)⟩
theorem Kb.set {w : World} (g i : Nat) (x : Value) : Kb (some g) w (w.setCell ⟨g, i, none⟩ x) := ⟨by simp [World.setCell], fun k e cur _ hb hk => hb.apart (p := ⟨g, i, none⟩) (fun e' => hk (by rw [e'])) x⟩

theorem own_blk {w : World} {base size n g : Nat} {e : TypeId} {v : Value} {xs : List Value} (h : w.ownsRow base e size v n xs) (hg : v.ownBlock = some g) : base ≤ g ∧ ∃ cur, Blk w g e cur := by
  obtain ⟨-, ⟨rfl, -⟩ | ⟨g', cap, cur, rfl, h2, h3, -⟩⟩ := h
  · simp [Value.ownBlock] at hg
  · simp [Value.ownBlock] at hg
    subst hg
    exact ⟨h2, cur, h3⟩
theorem row_kb {w w' : World} {g : Option Nat} (hk : Kb g w w') {base size n : Nat} {e : TypeId} {v : Value} {xs : List Value} (he : Kd e) (h : w.ownsRow base e size v n xs) (hne : ∀ i, v.ownBlock = some i → some i ≠ g) : w'.ownsRow base e size v n xs := by
  obtain ⟨hl, ⟨rfl, h0⟩ | ⟨i, cap, cur, rfl, h2, h3, h4⟩⟩ := h
  · exact ⟨hl, .inl ⟨rfl, h0⟩⟩
  · exact ⟨hl, .inr ⟨i, cap, cur, rfl, h2, hk.blk i e cur he h3 (hne i rfl), h4⟩⟩
/-- Blocks of two kinds are two. -/
theorem blk_two {w : World} {g g' : Nat} {e e' : TypeId} {cur cur' : Array Value} (h : Blk w g e cur) (h' : Blk w g' e' cur') (he : e ≠ e') : g ≠ g' := by
  rintro rfl
  have := h.symm.trans h'
  injection this with this
  injection this with _ this
  exact he this

/-- An instruction whose arguments are a row of one's own. -/
def InO (w : World) (B : Nat) (cs : List Value) (x : Ir.In) : Prop :=
  ∃ sl, cs = (InsC x sl).toList ∧ RowI w B sl x.args ∧ In64 x.args ∧ In64 [x.op, x.d, x.a, x.b]
theorem InO.len {w : World} {B : Nat} {cs : List Value} {x : Ir.In} (h : InO w B cs x) : cs.length = 6 := by
  obtain ⟨sl, rfl, -⟩ := h
  rfl
theorem row_slice {w : World} {base size n : Nat} {e : TypeId} {v : Value} {xs : List Value} (h : w.ownsRow base e size v n xs) : ∃ A cap, v = .slice A n cap := by
  obtain ⟨-, ⟨rfl, rfl⟩ | ⟨i, cap, cur, rfl, -⟩⟩ := h
  · exact ⟨none, 0, rfl⟩
  · exact ⟨_, cap, rfl⟩
theorem InO.one {w : World} {B : Nat} {cs : List Value} {x : Ir.In} (h : InO w B cs x) : ∀ u ∈ cs, u.oneCell' = true := by
  obtain ⟨sl, rfl, hr, -⟩ := h
  obtain ⟨A, cap, rfl⟩ := row_slice hr
  intro u hu
  simp at hu
  rcases hu with rfl | rfl | rfl | rfl | rfl | rfl <;> rfl
theorem InO.inr {w : World} {B : Nat} {cs : List Value} {x : Ir.In} (h : InO w B cs x) : InR w cs x := by
  obtain ⟨sl, rfl, hr, h1, h2⟩ := h
  exact ⟨sl, rfl, hr.nums h1, h2 _ (by simp), h2 _ (by simp), h2 _ (by simp), h2 _ (by simp)⟩
/-- Where no row of numbers changes, it stays. -/
theorem InO.kb {w w' : World} {g : Option Nat} {B : Nat} {cs : List Value} {x : Ir.In} (h : InO w B cs x) (hk : Kb g w w') (hg : ∀ i cur, g = some i → ¬ Blk w i 3 cur) : InO w' B cs x := by
  obtain ⟨sl, rfl, hr, h1, h2⟩ := h
  refine ⟨sl, rfl, row_kb hk (.inl rfl) hr (fun i hi e => ?_), h1, h2⟩
  obtain ⟨-, cur, hc⟩ := own_blk hr hi
  exact hg i cur e.symm hc

/-- Instructions as they lie, one behind the other. -/
def FlO (w : World) (B : Nat) (fl : List Value) (b : List Ir.In) : Prop :=
  fl.length = b.length * 6 ∧ ∀ m x, b[m]? = some x → ∃ cs, (∀ i u, cs[i]? = some u → fl[m * 6 + i]? = some u) ∧ InO w B cs x
theorem FlO.nil (w : World) (B : Nat) : FlO w B [] [] := ⟨rfl, fun m x h => by simp at h⟩
theorem FlO.kb {w w' : World} {g : Option Nat} {B : Nat} {fl : List Value} {b : List Ir.In} (h : FlO w B fl b) (hk : Kb g w w') (hg : ∀ i cur, g = some i → ¬ Blk w i 3 cur) : FlO w' B fl b :=
  ⟨h.1, fun m x hx => by
    obtain ⟨cs, h1, h2⟩ := h.2 m x hx
    exact ⟨cs, h1, h2.kb hk hg⟩⟩
theorem FlO.push {w : World} {B : Nat} {fl cs : List Value} {b : List Ir.In} {x : Ir.In} (h : FlO w B fl b) (hx : InO w B cs x) : FlO w B (fl ++ cs) (b ++ [x]) := by
  refine ⟨by rw [List.length_append, List.length_append, h.1, hx.len]; simp; omega, fun m y hy => ?_⟩
  rcases Nat.lt_or_ge m b.length with hlt | hge
  · rw [List.getElem?_append_left hlt] at hy
    obtain ⟨cy, h1, h2⟩ := h.2 m y hy
    refine ⟨cy, fun i u hu => ?_, h2⟩
    have h3 := h1 i u hu
    have := (List.getElem?_eq_some_iff.1 h3).1
    rw [List.getElem?_append_left this]
    exact h3
  · rw [List.getElem?_append_right hge] at hy
    have hm : m = b.length := by
      have := (List.getElem?_eq_some_iff.1 hy).1
      simp at this
      omega
    subst hm
    simp at hy
    subst hy
    refine ⟨cs, fun i u hu => ?_, hx⟩
    rw [← h.1, List.getElem?_append_right (by omega), show fl.length + i - fl.length = i by omega]
    exact hu

/-- Blocks that are built: l so far. -/
structure Bld (B : Nat) (gv : Value) (ws : List Value) (l : List (List Ir.In)) (w : World) : Prop where
  outer : w.ownsRow B 31 1 gv l.length ws
  inner : ∀ (j : Nat) (b : List Ir.In), l[j]? = some b → ∃ v fl, ws[j]? = some v ∧ w.ownsRow B 46 6 v b.length fl ∧ FlO w B fl b
  apart : ∀ (j j' : Nat) (v v' : Value) (g : Nat), j ≠ j' → ws[j]? = some v → ws[j']? = some v' → v.ownBlock = some g → v'.ownBlock ≠ some g
theorem Bld.len {B : Nat} {gv : Value} {ws : List Value} {l : List (List Ir.In)} {w : World} (h : Bld B gv ws l w) : ws.length = l.length := by have := h.outer.1; omega
theorem Bld.kb {B : Nat} {gv : Value} {ws : List Value} {l : List (List Ir.In)} {w w' : World} (h : Bld B gv ws l w) (hk : Kb none w w') : Bld B gv ws l w' :=
  ⟨row_kb hk (.inr (.inr rfl)) h.outer (fun _ _ => by simp), fun j b hj => by
    obtain ⟨v, fl, h1, h2, h3⟩ := h.inner j b hj
    exact ⟨v, fl, h1, row_kb hk (.inr (.inl rfl)) h2 (fun _ _ => by simp), h3.kb hk (fun i cur e => by simp at e)⟩, h.apart⟩
theorem Bld.below {B : Nat} {gv : Value} {ws : List Value} {l : List (List Ir.In)} {w w' : World} (h : Bld B gv ws l w) (hb : Below w.heap.size w w') : Bld B gv ws l w' := h.kb (Kb.of_below hb none)

theorem ne_ins_int : (46 : TypeId) ≠ 3 := by decide
theorem ne_blk_int : (31 : TypeId) ≠ 3 := by decide
theorem ne_ins_blk : (46 : TypeId) ≠ 31 := by decide

/-- One block more, without instructions: v7 is no block of w's. -/
theorem Bld.block {B : Nat} {gv v7 v8 : Value} {ws : List Value} {l : List (List Ir.In)} {w w7 w8 : World} (h : Bld B gv ws l w) (hb : Below w.heap.size w w7) (h7 : w7.ownsRow B 46 6 v7 0 []) (hn : ∀ g, v7.ownBlock = some g → w.heap.size ≤ g)
    (h8 : w8.ownsRow B 31 1 v8 (l.length + 1) (ws ++ [v7])) (hg8 : w7.grownBy w8 gv.ownBlock) : Bld B v8 (ws ++ [v7]) (l ++ [[]]) w8 := by
  have h0 := h.below hb
  have hk := Kb.of_grown hg8
  have hint : ∀ i cur, gv.ownBlock = some i → ¬ Blk w7 i 3 cur := fun i cur e hc => by
    obtain ⟨-, c', hc'⟩ := own_blk h0.outer e
    exact blk_two hc' hc ne_blk_int rfl
  have hrow : ∀ {n : Nat} {v : Value} {xs : List Value}, w7.ownsRow B 46 6 v n xs → w8.ownsRow B 46 6 v n xs := fun hr => row_kb hk (.inr (.inl rfl)) hr (fun i hi e => by
    obtain ⟨-, c', hc'⟩ := own_blk h0.outer e.symm
    obtain ⟨-, c2, hc2⟩ := own_blk hr hi
    exact blk_two hc2 hc' ne_ins_blk rfl)
  refine ⟨by rw [List.length_append]; exact h8, fun j b hj => ?_, fun j j' v v' g hjj hv hv' hg e => ?_⟩
  · rcases Nat.lt_or_ge j l.length with hlt | hge
    · rw [List.getElem?_append_left hlt] at hj
      obtain ⟨v, fl, q1, q2, q3⟩ := h0.inner j b hj
      exact ⟨v, fl, by rw [List.getElem?_append_left (by rw [h.len]; exact hlt)]; exact q1, hrow q2, q3.kb hk hint⟩
    · rw [List.getElem?_append_right hge] at hj
      have hj0 : j = l.length := by
        have := (List.getElem?_eq_some_iff.1 hj).1
        simp at this
        omega
      subst hj0
      simp at hj
      subst hj
      exact ⟨v7, [], by rw [← h.len]; simp, hrow h7, FlO.nil _ _⟩
  · have old : ∀ (i : Nat) (u : Value), (ws ++ [v7])[i]? = some u → (i < ws.length ∧ ws[i]? = some u) ∨ (i = ws.length ∧ u = v7) := fun i u hu => by
      rcases Nat.lt_or_ge i ws.length with hlt | hge
      · rw [List.getElem?_append_left hlt] at hu
        exact .inl ⟨hlt, hu⟩
      · rw [List.getElem?_append_right hge] at hu
        have hi := (List.getElem?_eq_some_iff.1 hu).1
        simp at hi
        have hi0 : i = ws.length := by omega
        subst hi0
        simp at hu
        exact .inr ⟨rfl, hu.symm⟩
    have was : ∀ (i : Nat) (u : Value), ws[i]? = some u → ∀ k, u.ownBlock = some k → k < w.heap.size := fun i u hu k hk => by
      obtain ⟨b', hb'⟩ : ∃ b', l[i]? = some b' := ⟨_, List.getElem?_eq_getElem (by have := (List.getElem?_eq_some_iff.1 hu).1; rw [h.len] at this; exact this)⟩
      obtain ⟨u', fl', q1, q2, -⟩ := h.inner i b' hb'
      rw [hu] at q1
      injection q1 with q1
      subst q1
      exact (q2.lt k hk).2
    rcases old j v hv with ⟨h1, h2⟩ | ⟨h1, rfl⟩ <;> rcases old j' v' hv' with ⟨h3, h4⟩ | ⟨h3, rfl⟩
    · exact h.apart j j' v v' g hjj h2 h4 hg e
    · have a1 := was j v h2 g hg
      have a2 := hn g e
      omega
    · have a1 := was j' v' h4 g e
      have a2 := hn g hg
      omega
    · omega

/-- The last block has one instruction more. -/
theorem Bld.ins {B go n : Nat} {gv v v7 : Value} {ws fl cs : List Value} {l : List (List Ir.In)} {b : List Ir.In} {x : Ir.In} {w w7 : World} (h : Bld B gv ws l w) (hl : l[n]? = some b) (hv : ws[n]? = some v) (hgo : gv.ownBlock = some go)
    (hfl : FlO w B fl b) (hx : InO w B cs x) (h7 : w7.ownsRow B 46 6 v7 (b.length + 1) (fl ++ cs)) (hg7 : w.grownBy w7 v.ownBlock) (hnew : ∀ g, v7.ownBlock = some g → v.ownBlock = some g ∨ w.heap.size ≤ g) :
    Bld B gv (ws.set n v7) (l.set n (b ++ [x])) (w7.setCell ⟨go, n, none⟩ v7) := by
  have hk7 := Kb.of_grown hg7
  have hk8 := Kb.set (w := w7) go n v7
  have hln := (List.getElem?_eq_some_iff.1 hl).1
  obtain ⟨v', fl', q1, q2, -⟩ := h.inner n b hl
  rw [hv] at q1
  injection q1 with q1
  subst q1
  -- the outer row's block is of another kind than the rest
  obtain ⟨hBo, co, hco⟩ := own_blk h.outer hgo
  have hvgo : v.ownBlock ≠ some go := fun e => by
    obtain ⟨-, c2, hc2⟩ := own_blk q2 e
    exact blk_two hc2 hco ne_ins_blk rfl
  have hco7 : Blk w7 go 31 co := hco.grown hg7 (fun e => hvgo e.symm)
  have int7 : ∀ i cur, v.ownBlock = some i → ¬ Blk w i 3 cur := fun i cur e hc => by
    obtain ⟨-, c', hc'⟩ := own_blk q2 e
    exact blk_two hc' hc ne_ins_int rfl
  have int8 : ∀ i cur, some go = some i → ¬ Blk w7 i 3 cur := fun i cur e hc => by
    injection e with e
    subst e
    exact blk_two hco7 hc ne_blk_int rfl
  have row8 : ∀ {m : Nat} {u : Value} {xs : List Value}, w7.ownsRow B 46 6 u m xs → (w7.setCell ⟨go, n, none⟩ v7).ownsRow B 46 6 u m xs := fun hr => row_kb hk8 (.inr (.inl rfl)) hr (fun i hi e => by
    injection e with e
    subst e
    obtain ⟨-, c2, hc2⟩ := own_blk hr hi
    exact blk_two hc2 hco7 ne_ins_blk rfl)
  have fl8 : ∀ {f : List Value} {d : List Ir.In}, FlO w B f d → FlO (w7.setCell ⟨go, n, none⟩ v7) B f d := fun hf => (hf.kb hk7 int7).kb hk8 int8
  refine ⟨?_, fun j d hj => ?_, fun j j' u u' g hjj hu hu' hg e => ?_⟩
  · rw [List.length_set]
    have h9 := row_kb hk7 (.inr (.inr rfl)) h.outer (fun i hi e => by
      rw [hgo] at hi
      injection hi with hi
      subst hi
      exact hvgo e.symm)
    obtain ⟨hlen, ⟨rfl, h0⟩ | ⟨g, cap, cur, rfl, h2, h3, h4, h5, h6, h7'⟩⟩ := h9
    · simp [Value.ownBlock] at hgo
    · simp [Value.ownBlock] at hgo
      subst hgo
      refine ⟨by rw [List.length_set]; exact hlen, .inr ⟨g, cap, cur.setIfInBounds n v7, rfl, h2, Blk.set h3 n v7, h4, h5, by rw [Array.size_setIfInBounds]; exact h6, ?_⟩⟩
      rw [Nat.mul_one] at h7' ⊢
      rw [← h7', Array.toList_setIfInBounds, List.take_set]
  · by_cases hjn : n = j
    · subst hjn
      rw [List.getElem?_set_self hln] at hj
      injection hj with hj
      subst hj
      exact ⟨v7, fl ++ cs, by rw [List.getElem?_set_self (by rw [h.len]; exact hln)], by rw [List.length_append]; exact row8 h7, (fl8 (hfl.push hx))⟩
    · rw [List.getElem?_set_ne hjn] at hj
      obtain ⟨u, f, p1, p2, p3⟩ := h.inner j d hj
      refine ⟨u, f, by rw [List.getElem?_set_ne hjn]; exact p1, row8 (row_kb hk7 (.inr (.inl rfl)) p2 (fun i hi e => ?_)), fl8 p3⟩
      exact h.apart j n u v i (fun e' => hjn e'.symm) p1 hv hi e.symm
  · have was : ∀ (i : Nat) (u : Value), ws[i]? = some u → ∀ k, u.ownBlock = some k → k < w.heap.size := fun i u hu k hk => by
      obtain ⟨b', hb'⟩ : ∃ b', l[i]? = some b' := ⟨_, List.getElem?_eq_getElem (by have := (List.getElem?_eq_some_iff.1 hu).1; rw [h.len] at this; exact this)⟩
      obtain ⟨u', fl', q1, q2, -⟩ := h.inner i b' hb'
      rw [hu] at q1
      injection q1 with q1
      subst q1
      exact (q2.lt k hk).2
    by_cases h1 : n = j
    · subst h1
      rw [List.getElem?_set_self (by rw [h.len]; exact hln)] at hu
      injection hu with hu
      subst hu
      rw [List.getElem?_set_ne hjj] at hu'
      rcases hnew g hg with h2 | h2
      · exact h.apart n j' v u' g hjj hv hu' h2 e
      · have := was j' u' hu' g e
        omega
    · rw [List.getElem?_set_ne h1] at hu
      by_cases h2 : n = j'
      · subst h2
        rw [List.getElem?_set_self (by rw [h.len]; exact hln)] at hu'
        injection hu' with hu'
        subst hu'
        rcases hnew g e with h3 | h3
        · exact h.apart j n u v g hjj hu hv hg h3
        · have := was j u hu g hg
          omega
      · rw [List.getElem?_set_ne h2] at hu'
        exact h.apart j j' u u' g hjj hu hu' hg e

/-- What is built reads as blocks. -/
theorem Bld.blks {B : Nat} {gv : Value} {ws : List Value} {l : List (List Ir.In)} {w : World} (h : Bld B gv ws l w) : Blks w gv l := by
  have h' := h.outer
  obtain ⟨-, ⟨rfl, h0⟩ | ⟨go, ocap, cur, rfl, -, hB, hoc, hom, -⟩⟩ := h.outer
  · exact ⟨none, 0, by rw [h0], ⟨by omega, Nat.zero_le _, fun _ => rfl⟩, fun j x hj => by
      have := (List.getElem?_eq_some_iff.1 hj).1
      omega⟩
  refine ⟨some ⟨go, 0, none⟩, ocap, rfl, ⟨hoc, hom, fun e => by cases e⟩, fun j b hj => ?_⟩
  have hjl := (List.getElem?_eq_some_iff.1 hj).1
  obtain ⟨v, fl, p1, p2, p3⟩ := h.inner j b hj
  refine ⟨go, 0, [v], rfl, lt_of_block hB, rfl, fun i u hu => ?_, v, rfl, ?_⟩
  · match i, hu with
    | 0, hu =>
      simp at hu
      rw [← hu]
      have := h'.cells (g := go) rfl j v p1
      rw [Addr.add_lit, Nat.zero_add] at this
      rw [show 0 + j * 1 + 0 = j by omega]
      exact this
    | i + 1, hu => simp at hu
  · have p2' := p2
    obtain ⟨-, ⟨rfl, hb0⟩ | ⟨gi, cap, cur2, rfl, -, hB2, hc2, hm2, -⟩⟩ := p2
    · exact ⟨none, 0, by rw [hb0], ⟨by omega, Nat.zero_le _, fun _ => rfl⟩, fun m x hx => by
        have := (List.getElem?_eq_some_iff.1 hx).1
        omega⟩
    · refine ⟨some ⟨gi, 0, none⟩, cap, rfl, ⟨hc2, hm2, fun e => by cases e⟩, fun m x hx => ?_⟩
      obtain ⟨cs, k1, k2⟩ := p3.2 m x hx
      refine ⟨gi, 0, cs, rfl, lt_of_block hB2, k2.len, fun i u hu => ?_, k2.inr⟩
      have := p2'.cells (g := gi) rfl (m * 6 + i) u (k1 i u hu)
      rw [Addr.add_lit, Nat.zero_add] at this
      rw [show 0 + m * 6 + i = m * 6 + i by omega]
      exact this
/-! ### rows from B on stay while what lies ahead of B changes -/
structure Far (B : Nat) (w w' : World) : Prop where
  size : w.heap.size ≤ w'.heap.size
  blk : ∀ (i : Nat) (e : TypeId) (cur : Array Value), B ≤ i → Blk w i e cur → Blk w' i e cur
theorem Far.trans {B : Nat} {a b c : World} (h : Far B a b) (k : Far B b c) : Far B a c := ⟨Nat.le_trans h.size k.size, fun i e cur hi hb => k.blk i e cur hi (h.blk i e cur hi hb)⟩
theorem Far.set {B g : Nat} {w : World} (hg : g < B) (i : Nat) (x : Value) : Far B w (w.setCell ⟨g, i, none⟩ x) := ⟨by simp [World.setCell], fun k _ _ hk hb => hb.apart (p := ⟨g, i, none⟩) (by show k ≠ g; omega) x⟩
theorem row_far {B size n : Nat} {e : TypeId} {v : Value} {xs : List Value} {w w' : World} (hk : Far B w w') (h : w.ownsRow B e size v n xs) : w'.ownsRow B e size v n xs := by
  obtain ⟨hl, ⟨rfl, h0⟩ | ⟨i, cap, cur, rfl, h2, h3, h4⟩⟩ := h
  · exact ⟨hl, .inl ⟨rfl, h0⟩⟩
  · exact ⟨hl, .inr ⟨i, cap, cur, rfl, h2, hk.blk i e cur h2 h3, h4⟩⟩
theorem Bld.far {B : Nat} {gv : Value} {ws : List Value} {l : List (List Ir.In)} {w w' : World} (h : Bld B gv ws l w) (hk : Far B w w') : Bld B gv ws l w' :=
  ⟨row_far hk h.outer, fun j b hj => by
    obtain ⟨v, fl, h1, h2, h3, h4⟩ := h.inner j b hj
    refine ⟨v, fl, h1, row_far hk h2, h3, fun m x hx => ?_⟩
    obtain ⟨cs, h5, sl, h6, h7, h8⟩ := h4 m x hx
    exact ⟨cs, h5, sl, h6, row_far hk h7, h8⟩, h.apart⟩
/-- What reads as blocks does so still when what lies ahead of B has changed. -/
def BlkF (B : Nat) (w : World) (gv : Value) (l : List (List Ir.In)) : Prop := ∀ W, Far B w W → Blks W gv l
theorem BlkF.of_bld {B B' : Nat} {w : World} {gv : Value} {ws : List Value} {l : List (List Ir.In)} (h : Bld B gv ws l w) (hB : B' ≤ B) : BlkF B' w gv l := fun _ hF => (h.far ⟨hF.size, fun i e cur hi hb => hF.blk i e cur (Nat.le_trans hB hi) hb⟩).blks
theorem BlkF.nil (B : Nat) (w : World) : BlkF B w (.slice none 0 0) [] := fun _ _ => ⟨none, 0, rfl, ⟨Nat.le_refl _, Nat.zero_le _, fun _ => rfl⟩, fun j x hj => by simp at hj⟩
theorem Far.below {B : Nat} {w w' : World} (h : Below w.heap.size w w') : Far B w w' := ⟨h.size, fun _ _ _ _ hb => hb.older h hb.lt⟩
theorem Far.refl (B : Nat) (w : World) : Far B w w := ⟨Nat.le_refl _, fun _ _ _ _ hb => hb⟩
end Go.Proofs.YtcoehmmiplffgaaDoor

/- readIns, the program's. -/
namespace Go.Proofs.YtcoehmmiplffgaaDoor
open Go.ChangeShapes Go.WideShapes Go.RowKit Go.Deep

theorem results_ri {fn : Func} (h : fn.results = #[.cell 6 46, .tmp 7]) (tmps : Array Value) (W : World) (B : Nat) (a b c d e f : Value)
    (hp : tmps.getD 6 undef = .pointer (some ⟨B, 0, none⟩)) (hb : Blk W B 46 #[a, b, c, d, e, f]) :
    (results fn tmps).run Tryd.prog W = .ok (.tuple #[.agg #[a, b, c, d, e, f], tmps.getD 7 undef]) W := by
  have hp' : tmps[6]?.getD undef = .pointer (some ⟨B, 0, none⟩) := by simpa using hp
  simp [results, h, hp', asAddr, run_loadVar_row W B 46 46 #[a, b, c, d, e, f] (0, 0) _ hb Tryd.underlying46 rfl info_ins6]

/-- The row that a word has, and what it reads as. -/
theorem row_none_of {code : Bool} {w : List UInt8} (h : ∀ (j : Nat) (r : Rw), j < 17 → rowL[j]? = some r → ¬ (r.w = w ∧ stands code r = true)) : Tx.opOf code w = none := by
  cases ho : Tx.opOf code w with
  | none => rfl
  | some op =>
    exfalso
    obtain ⟨h1, h2⟩ := Tx.opOf_some ho
    have h3 := no_row (op := op) (code := code) (fun j r hj hr hh => h j r hj hr ⟨by
      obtain ⟨e, -⟩ := row_is hr hh.2
      rw [e, hh.1]
      exact h1, hh.2⟩)
    rw [h1] at h3
    exact h2 h3
theorem row_some_of {code : Bool} {w : List UInt8} {j : Nat} {r : Rw} (hr : rowL[j]? = some r) (h : r.w = w ∧ stands code r = true) : r = rowAt r.op code ∧ Tx.opOf code w = some r.op ∧ Tx.shp r.op code ≠ 0 ∧ Tx.shp r.op code ≤ 7 := by
  obtain ⟨e, hne⟩ := row_is hr h.2
  have hw : Tx.word r.op code = w := by rw [← h.1, e]; rfl
  refine ⟨e, by rw [← hw]; exact Tx.opOf_word hne, Tx.shp_pos hne, ?_⟩
  unfold Tx.shp
  repeat' split
  all_goals omega
theorem readI_none {code : Bool} {w : List UInt8} (h : Tx.opOf code w = none) (os : List (List UInt8)) : Tx.readI code w os = (80, ⟨0, 0, 0, 0, ByteArray.empty, []⟩) := by unfold Tx.readI; rw [h]
theorem readI_some {code : Bool} {w : List UInt8} {op : Int} (h : Tx.opOf code w = some op) (os : List (List UInt8)) : Tx.readI code w os = ((Tx.take (Tx.kinds (Tx.shp op code) os.length) os).1, Tx.mk (Tx.shp op code) op (Tx.take (Tx.kinds (Tx.shp op code) os.length) os).2) := by unfold Tx.readI; rw [h]

/-- Behind the instruction's parts: what take comes to, and what is there then. -/
theorem ri_take {k n m g gA : Nat} {op : Int} {A : Option Addr} {w w4 w5 : World} {wv pv : Value} {os : List ByteArray} (hk : k ≠ 0 ∧ k ≤ 7) (hm : m = if k = 5 then n - 2 else 0) (h0 : m = 0 → A = none)
    (h1 : m ≠ 0 → A = some ⟨gA, 0, none⟩ ∧ (∃ cur, Blk w4 gA 3 cur ∧ cur.size = m) ∧ g ≠ gA ∧ w.heap.size ≤ gA ∧ m ≤ maxLen)
    (hb : Blk w4 g 46 #[.int .i64 op, .int .i64 0, .int .i64 0, .int .i64 0, .string ⟨#[]⟩, .slice A m m]) (hg : w.heap.size ≤ g) (h4 : Below w.heap.size w w4) (h5 : Below w4.heap.size w4 w5)
    (hpv : RowPa w5 w4.heap.size pv (insPa g (fieldsB k) (decide (k = 5)) A m)) (hos : Strs w wv os) (hn : os.length = n) (hol : n ≤ 999000) (hsh : ∀ s ∈ os, s.size ≤ 1000000) (hr : Rdy w) :
    Calls Tryd.prog 53 #[wv, pv] w5 fun e w' => e = .returned (.int .i64 (Tx.take (Tx.kinds k n) (lst os)).1) ∧ Below w.heap.size w w' ∧ (∀ b, b < w4.heap.size → b ≠ g → (m ≠ 0 → b ≠ gA) → w'.heap[b]? = w4.heap[b]?) ∧ ∃ (a b c d : Int) (s : ByteArray) (F : Option Addr) (p q : Nat), Blk w' g 46 (insQ a b c d s F p q) ∧
      ((Tx.take (Tx.kinds k n) (lst os)).1 = 0 → insQ a b c d s F p q = InsC (Tx.mk k op (Tx.take (Tx.kinds k n) (lst os)).2) (.slice F p q) ∧ RowI w' w.heap.size (.slice F p q) (Tx.mk k op (Tx.take (Tx.kinds k n) (lst os)).2).args) := by
  have hB5 : Below w.heap.size w w5 := h4.trans (h5.mono h4.size)
  have hb5 : Blk w5 g 46 #[.int .i64 op, .int .i64 0, .int .i64 0, .int .i64 0, .string ⟨#[]⟩, .slice A m m] := hb.older h5 hb.lt
  have hmem : ∀ p ∈ insPa g (fieldsB k) (decide (k = 5)) A m, p.b < w4.heap.size ∧ w.heap.size ≤ p.b ∧ (w5.cell? p.at).isSome = true ∧ w5.frozen? p.at = false := fun p hp => by
    rcases insPa_mem hp with ⟨e1, e2⟩ | ⟨j, hj, rfl⟩
    · have hs : (w5.cell? p.at).isSome = true := by
        show (w5.cell? ⟨p.b, p.o, none⟩).isSome = true
        rw [e1, hb5.cell p.o, Array.getElem?_eq_getElem (show p.o < 6 by rcases e2 with ⟨-, h | h | h⟩ | ⟨-, h⟩ <;> rw [h] <;> decide)]
        rfl
      refine ⟨by rw [e1]; exact hb.lt, by rw [e1]; exact hg, hs, ?_⟩
      show w5.frozen? ⟨p.b, p.o, none⟩ = false
      rw [e1]
      exact hb5.frozen p.o
    · obtain ⟨rfl, ⟨cur, hc, hs⟩, -, hw, -⟩ := h1 (by omega)
      have hc5 := hc.older h5 hc.lt
      refine ⟨hc.lt, hw, ?_, ?_⟩
      · show (w5.cell? ⟨gA, 0 + j, none⟩).isSome = true
        rw [hc5.cell (0 + j), Array.getElem?_eq_getElem (by omega)]
        rfl
      · exact hc5.frozen (0 + j)
  have hnm := insPa_nm (g := g) (A := A) (n := n) hk hm (fun hz => ⟨_, (h1 hz).1⟩)
  have hlen : (insPa g (fieldsB k) (decide (k = 5)) A m).length ≤ 3 + m := by
    unfold insPa
    rw [List.length_append, List.length_map]
    have := (fieldsB_ok k).2
    split <;> simp <;> omega
  have hm2 : m ≤ n := by rw [hm]; split <;> omega
  have hin : TkIn w.heap.size (insPa g (fieldsB k) (decide (k = 5)) A m) wv pv os w5 := by
    refine ⟨fun W hW => (rowpa_kpt hpv (fun p hp => (hmem p hp).1) hW).pas _ ?_, fun W hW => strs_kpt hos hB5 (fun p hp => (hmem p hp).2.1) hW, fun p hp => ⟨(hmem p hp).2.2.1, (hmem p hp).2.2.2, (hmem p hp).2.1⟩, (Rdy.at w hr).below hB5, ?_, hsh⟩
    · unfold maxLen; omega
    · omega
  refine (take_any w.heap.size (insPa g (fieldsB k) (decide (k = 5)) A m) wv pv os w5 hin hB5.size (by omega)).mono ?_
  rintro e w' ⟨rfl, vs, hbel, hkn, hok, hv⟩
  rw [hnm] at hkn hv ⊢
  refine ⟨rfl, ?_, fun b hb hbg hbA => ?_, ?_⟩
  · exact (puts_below _ w5 w hB5 (fun q hq => (hmem q.1 (List.of_mem_zip hq).1).2.1)).trans (hbel.mono hB5.size)
  · rw [(Kpt.of hbel).2 b (Nat.lt_of_lt_of_le hb h5.size) (fun p hp e => by
      rcases insPa_mem hp with ⟨e1, -⟩ | ⟨j, hj, rfl⟩
      · exact hbg (e.symm.trans e1)
      · obtain ⟨rfl, -⟩ := h1 (by omega)
        exact hbA (by omega) e.symm)]
    exact h5.block b hb
  · by_cases hz : (Tx.take (Tx.kinds k n) (lst os)).1 = 0
    · have hvs := hv hz
      have hkk : vs.map Tx.Pt.isN = Tx.kinds k n := by rw [hvs]; exact (Tx.take_ok hz).2.2.1
      obtain ⟨sl, hbx, hrow⟩ := ri_blk (B := w.heap.size) hk hkk hb5 hm h0 (fun hz => by
        obtain ⟨q1, ⟨cur, q2, q3⟩, q4⟩ := h1 hz
        exact ⟨q1, ⟨cur, q2.older h5 q2.lt, q3⟩, q4⟩)
      have hsz := puts_size ((insPa g (fieldsB k) (decide (k = 5)) A m).zip vs) w5
      have hbx' := hbx.older hbel (by rw [← hsz]; exact hbx.lt)
      have hrow' := hrow.below (hbel.mono (Nat.le_of_eq hsz))
      rw [hvs] at hbx' hrow'
      obtain ⟨A', c', rfl⟩ := row_slice hrow'
      exact ⟨_, _, _, _, _, _, _, _, hbx', fun _ => ⟨rfl, hrow'⟩⟩
    · obtain ⟨a, b, c, d, s, hc1⟩ := puts_blk ((insPa g (fieldsB k) (decide (k = 5)) A m).zip vs) w5 _ _ _ _ _ hb5 (fun q hq hg2 => by
        have hn := zip_nm _ vs (by rw [hnm]; exact hkn) q hq
        rcases insPa_mem (List.of_mem_zip hq).1 with ⟨-, ⟨e1, e2⟩ | ⟨e1, e2⟩⟩ | ⟨j, hj, e⟩
        · rw [e1] at hn
          obtain ⟨n, hx⟩ := Tx.isN_num hn
          exact .inl ⟨n, hx, e2⟩
        · rw [e1] at hn
          obtain ⟨n, hx⟩ := Tx.isN_nm hn
          exact .inr ⟨n, hx, e2⟩
        · obtain ⟨rfl, -, hne, -⟩ := h1 (by omega)
          rw [e] at hg2
          exact absurd hg2.symm hne)
      exact ⟨a, b, c, d, s, _, _, _, hc1.older hbel (by rw [← puts_size ((insPa g (fieldsB k) (decide (k = 5)) A m).zip vs) w5]; exact hc1.lt), fun h2 => absurd h2 hz⟩

theorem ri_end {w w6 : World} {E : Int} {x : Ir.In} {a b c d : Int} {s : ByteArray} {F : Option Addr} {p q : Nat} (hb : Below w.heap.size w w6) (hU : Blk w6 w.heap.size 46 insL) (hf : E = 0 → insQ a b c d s F p q = InsC x (.slice F p q) ∧ RowI w6 w.heap.size (.slice F p q) x.args) :
    RiPost (E, x) w (.returned (.tuple #[.agg (insQ a b c d s F p q), .int .i64 E])) ((((((w6.setCell ⟨w.heap.size, 0, none⟩ (.int .i64 a)).setCell ⟨w.heap.size, 1, none⟩ (.int .i64 b)).setCell ⟨w.heap.size, 2, none⟩ (.int .i64 c)).setCell ⟨w.heap.size, 3, none⟩ (.int .i64 d)).setCell ⟨w.heap.size, 4, none⟩ (.string s)).setCell ⟨w.heap.size, 5, none⟩ (.slice F p q)) := by
  refine ⟨below6 hb (Nat.le_refl _) _ _ _ _ _ _, a, b, c, d, s, F, p, q, rfl, fun h => ?_⟩
  obtain ⟨h1, h2⟩ := hf h
  refine ⟨h1, ?_⟩
  have st : ∀ {W : World} {cs : Array Value} (i : Nat) (v : Value), Blk W w.heap.size 46 cs → RowI W w.heap.size (.slice F p q) x.args → RowI (W.setCell ⟨w.heap.size, i, none⟩ v) w.heap.size (.slice F p q) x.args := fun {W cs} i v hB hr => row_kb (Kb.set (w := W) w.heap.size i v) (.inl rfl) hr (fun k hk e => by
    injection e with e
    subst e
    obtain ⟨-, c2, k2⟩ := own_blk hr hk
    exact blk_two hB k2 ne_ins_int rfl)
  exact st 5 _ (((((hU.set 0 (.int .i64 a)).set 1 (.int .i64 b)).set 2 (.int .i64 c)).set 3 (.int .i64 d)).set 4 (.string s)) (st 4 _ ((((hU.set 0 (.int .i64 a)).set 1 (.int .i64 b)).set 2 (.int .i64 c)).set 3 (.int .i64 d)) (st 3 _ (((hU.set 0 (.int .i64 a)).set 1 (.int .i64 b)).set 2 (.int .i64 c)) (st 2 _ ((hU.set 0 (.int .i64 a)).set 1 (.int .i64 b)) (st 1 _ (hU.set 0 (.int .i64 a)) (st 0 _ hU h2)))))

set_option maxRecDepth 100000 in
set_option maxHeartbeats 8000000 in
theorem readins_any (code : Bool) (s : ByteArray) (wv : Value) (os : List ByteArray) (w : World) (hos : Strs w wv os) (hol : os.length ≤ 999000) (hsh : ∀ s ∈ os, s.size ≤ 1000000) (hr : Rdy w) :
    Calls Tryd.prog 54 #[.int .i64 (kd code), .string s, wv] w (RiPost (Tx.readI code s.data.toList (lst os)) w) := by
  obtain ⟨A2, cap2, rfl, -, -⟩ := id hos
  have hb1 : Below w.heap.size w (w.alloc (.cells insL 46)) := (Below.refl _ _).alloc (Nat.le_refl _) _
  have hU := Blk.new w 46 insL
  have hr1 := hr.below hb1
  have HRB := Lib.hid (rowby_any s code (w.alloc (.cells insL 46)) hr1.rws hr1.lowR)
  have HW := Lib.hid (And.intro hos (And.intro hol (And.intro hsh hr)))
  have HB1 := Lib.hid hb1
  have HU := Lib.hid hU
  have hoi : (os.length : Int) ≤ 999000 := by omega
  obtain ⟨kk, hkk⟩ : ∃ kk, kk = kd code := ⟨_, rfl⟩
  rw [← hkk] at HRB ⊢
  clear hos hol hsh hr hb1 hU hr1 hkk
  go_enter Tryd.func54, Tryd.ntmps54
  go_upto_region 1 with fail
  generalize w.alloc _ = w1 at *
  go_wp2_with fail
  refine HRB.out.mono ?_
  rintro e w2 ⟨⟨j, r, hj, hp, rfl⟩ | ⟨hno, rfl⟩, hb2⟩
  · obtain ⟨he, ho, hk0, hk7⟩ := row_some_of hj hp
    have HN := Lib.hid (readI_some ho (lst os))
    obtain ⟨op, wd, f, a, o⟩ := r
    have hef : f = fieldsB (Tx.shp op code) := congrArg Rw.f he
    have hea : a = decide (Tx.shp op code = 5) := congrArg Rw.a he
    obtain ⟨k, hk⟩ : ∃ k, k = Tx.shp op code := ⟨_, rfl⟩
    rw [← hk] at hef hea
    have hk2 : Tx.shp (Rw.op ⟨op, wd, f, a, o⟩) code = k := hk.symm
    rw [hk2] at hk0 hk7 HN
    have HK := Lib.hid (And.intro hk0 hk7)
    obtain ⟨W3, hW3⟩ : ∃ W3, W3 = (w2.alloc (.cells #[.int .i64 op, .string ⟨wd.toArray⟩, .string ⟨f.toArray⟩, .bool a, .int .i64 o] 108)).alloc (.cells #[.int .i64 op, .int .i64 0, .int .i64 0, .int .i64 0, .string ⟨#[]⟩, .slice none 0 0] 46) := ⟨_, rfl⟩
    have hrow := (Blk.new w2 108 #[.int .i64 op, .string ⟨wd.toArray⟩, .string ⟨f.toArray⟩, .bool a, .int .i64 o])
    obtain ⟨r0, r1, r2, r3, r4⟩ := cells5 hrow
    have hx := Blk.new (w2.alloc (.cells #[.int .i64 op, .string ⟨wd.toArray⟩, .string ⟨f.toArray⟩, .bool a, .int .i64 o] 108)) 46 #[.int .i64 op, .int .i64 0, .int .i64 0, .int .i64 0, .string ⟨#[]⟩, .slice none 0 0]
    rw [show (w2.alloc (.cells #[.int .i64 op, .string ⟨wd.toArray⟩, .string ⟨f.toArray⟩, .bool a, .int .i64 o] 108)).heap.size = w2.heap.size + 1 by simp] at hx
    have hrow3 := hrow.alloc (.cells #[.int .i64 op, .int .i64 0, .int .i64 0, .int .i64 0, .string ⟨#[]⟩, .slice none 0 0] 46)
    have hB3 : Below w1.heap.size w1 W3 := by rw [hW3]; exact (hb2.alloc hb2.size _).alloc (by have := hb2.size; simp; omega) _
    rw [← hW3] at hx hrow3
    obtain ⟨q0, q1, q2, q3, q4⟩ := cells5 hrow3
    obtain ⟨x0, x1, x2, x3, x4, x5⟩ := cells6 hx
    obtain ⟨g0, g1, g2, g3, g4, g5⟩ := frozen6 hx
    have hU3 := HU.out.older hB3 HU.out.lt
    have HX := Lib.hid (And.intro hx (And.intro hrow3 (And.intro hU3 (And.intro (HB1.out.trans (hB3.mono HB1.out.size)) (Nat.lt_succ_of_lt (Nat.lt_of_lt_of_le HU.out.lt hb2.size))))))
    have HEQ := Lib.hid (And.intro hef hea)
    have HW3 := Lib.hid hW3.symm
    clear hj hp he ho hk0 hk7 hk hk2 hef hea hrow hx hrow3 hB3 hU3 hb2 hW3
    go_upto_region 5 with fail
    rw [HW3.out]
    clear HW3 r0 r1 r2 r3 r4
    have hsz3 : w2.heap.size + 1 < W3.heap.size := HX.out.1.lt
    cases a with
    | false =>
      have HPT := Lib.hid (show Calls Tryd.prog 61 #[.agg #[.int .i64 op, .string ⟨wd.toArray⟩, .string ⟨f.toArray⟩, .bool false, .int .i64 o], .pointer (some ⟨w2.heap.size + 1, 0, none⟩)] W3 _ from
        rowparts_any ⟨op, wd, f, false, o⟩ (w2.heap.size + 1) 0 0 none W3 (by rw [HEQ.out.1]; exact (fieldsB_ok k).1) (by rw [HEQ.out.1]; exact Nat.le_trans (fieldsB_ok k).2 (by decide)) hsz3 (fun h => by cases h) (fun j h => absurd h (Nat.not_lt_zero _)) (Nat.zero_le _) (Nat.zero_le _))
      have HTK := Lib.hid (fun (pv : Value) (w5 : World) (h5 : Below W3.heap.size W3 w5) (hpv : RowPa w5 W3.heap.size pv (insPa (w2.heap.size + 1) f false none 0)) => ri_take (gA := 0) (m := 0) (n := os.length) (wv := .slice A2 os.length cap2) HK.out (by
          have h := HEQ.out.2
          rw [if_neg (of_decide_eq_false h.symm)]) (fun _ => rfl) (fun h => absurd rfl h) HX.out.1 (Nat.le_of_lt HX.out.2.2.2.2) HX.out.2.2.2.1 h5 (by rw [← HEQ.out.1, ← HEQ.out.2]; exact hpv) HW.out.1 rfl HW.out.2.1 HW.out.2.2.1 HW.out.2.2.2)
      go_upto_region 8 with first
        | (go_at_call 61; (with_reducible refine HPT.out.mono ?_); rintro e w5 ⟨⟨pv, rfl, hpv⟩, hb5⟩; obtain ⟨pA, pcap, rfl⟩ := hpv.form; have HTK2 := Lib.hid (HTK.out _ w5 hb5 hpv); have HB5 := Lib.hid hb5; clear hpv hb5)
        | (go_at_call 53; (with_reducible refine HTK2.out.mono ?_); rintro e w6 ⟨rfl, hb6, hk6, a, b, c, d, e6, F6, p6, k6, hbx, hfin⟩; have HB6 := Lib.hid (And.intro hb6 hk6); have HBX := Lib.hid hbx; have HFIN := Lib.hid hfin; clear hb6 hk6 hbx hfin)
      have hU6 : Blk w6 w.heap.size 46 insL := HX.out.2.2.1.move (HB6.out.2 _ HX.out.2.2.1.lt (by have := HX.out.2.2.2.2; omega) (fun h => absurd rfl h))
      obtain ⟨y0, y1, y2, y3, y4, y5⟩ := cells6 HBX.out
      obtain ⟨c0, c1, c2, c3, c4, c5⟩ := cells6 hU6
      obtain ⟨f0, f1, f2, f3, f4, f5⟩ := frozen6 hU6
      have HU6 := Lib.hid hU6
      clear hU6
      go_wp2_with fail
      refine bodyPost_ret (results_ri rfl _ _ w.heap.size _ _ _ _ _ _ rfl (HU6.out.q6 _ _ _ _ _ _)) rfl ?_
      rw [HN.out, show (lst os).length = os.length from List.length_map _]
      exact ri_end HB6.out.1 HU6.out HFIN.out
    | true =>
      obtain rfl : k = 5 := of_decide_eq_true HEQ.out.2.symm
      obtain rfl : f = [68, 78] := HEQ.out.1
      have hfs : (ByteArray.size ⟨[68, 78].toArray⟩ : Int) = 2 := rfl
      by_cases h2 : 2 < os.length
      · have h2i : (2 : Int) < (os.length : Int) := by omega
        obtain ⟨m, hm⟩ : ∃ m, m = os.length - 2 := ⟨_, rfl⟩
        have hmi : (os.length : Int) - 2 = (m : Int) := by omega
        have hm1 : (m : Int) ≤ 999000 := by omega
        have HM := Lib.hid (And.intro hm (show m ≠ 0 ∧ m ≤ 999000 by omega))
        obtain ⟨i0, hi, hz0, hz1, hz2⟩ := info_parts info_int
        clear hm h2
        go_upto_region 7 with (at_make; refine wpList_make_full _ rfl _ _ 44 rfl W3.heap.size 3 i0 (.int .i64 0) 1 Tryd.underlying44 hi hz0 hz1 _ _ _ _ m rfl rfl (by omega) (by omega) (by rw [hz2]; omega) (by unfold maxLen; omega) (Nat.le_refl _) ?_; intro w4 hown4 hgrow4; have hx4 := HX.out.1.older (gr_to_below hgrow4) HX.out.1.lt; have t5 := hx4.cell 5; have s5 := hx4.frozen 5; have HO4 := Lib.hid (And.intro hown4 (And.intro (gr_to_below hgrow4) hx4)); clear hown4 hgrow4 hx4)
        obtain ⟨hown4, hb4, hx4⟩ := HO4.out
        have hx5 := hx4.set 5 (.slice (some ⟨W3.heap.size, 0, none⟩) m m)
        have hrow5 := (HX.out.2.1.older hb4 HX.out.2.1.lt).apart (p := ⟨w2.heap.size + 1, 5, none⟩) (Nat.ne_of_lt (Nat.lt_succ_self _)) (.slice (some ⟨W3.heap.size, 0, none⟩) m m)
        have hU5 := (HX.out.2.2.1.older hb4 HX.out.2.2.1.lt).apart (p := ⟨w2.heap.size + 1, 5, none⟩) (Nat.ne_of_lt HX.out.2.2.2.2) (.slice (some ⟨W3.heap.size, 0, none⟩) m m)
        have hB5 := (HX.out.2.2.2.1.trans (hb4.mono HX.out.2.2.2.1.size)).setCell (p := ⟨w2.heap.size + 1, 5, none⟩) (Nat.le_of_lt HX.out.2.2.2.2) (.slice (some ⟨W3.heap.size, 0, none⟩) m m)
        have hgA : ∃ cur, Blk (w4.setCell ⟨w2.heap.size + 1, 5, none⟩ (.slice (some ⟨W3.heap.size, 0, none⟩) m m)) W3.heap.size 3 cur ∧ cur.size = m := by
          obtain ⟨-, ⟨h, -⟩ | ⟨g, cap, cur, e, -, hc, -, -, hcs, -⟩⟩ := hown4
          · cases h
          · injection e with e1 e2 e3
            injection e1 with e1
            injection e1 with e1
            subst e1 e3
            exact ⟨cur, Blk.apart hc (p := ⟨w2.heap.size + 1, 5, none⟩) (Nat.ne_of_gt hsz3) _, by omega⟩
        have hsz5 : w2.heap.size + 1 < (w4.setCell ⟨w2.heap.size + 1, 5, none⟩ (.slice (some ⟨W3.heap.size, 0, none⟩) m m)).heap.size := hx5.lt
        generalize w4.setCell ⟨w2.heap.size + 1, 5, none⟩ (.slice (some ⟨W3.heap.size, 0, none⟩) m m) = w5 at *
        have hx5' : Blk w5 (w2.heap.size + 1) 46 #[.int .i64 op, .int .i64 0, .int .i64 0, .int .i64 0, .string ⟨#[]⟩, .slice (some ⟨W3.heap.size, 0, none⟩) m m] := hx5
        have v5 := hx5'.cell 5
        obtain ⟨n0, n1, n2, n3, n4⟩ := cells5 hrow5
        have HX5 := Lib.hid (And.intro hx5' (And.intro hrow5 (And.intro hU5 (And.intro hB5 HX.out.2.2.2.2))))
        have HGA := Lib.hid hgA
        have HPT := Lib.hid (show Calls Tryd.prog 61 #[.agg #[.int .i64 op, .string ⟨wd.toArray⟩, .string ⟨#[68, 78]⟩, .bool true, .int .i64 o], .pointer (some ⟨w2.heap.size + 1, 0, none⟩)] w5 _ from
          rowparts_any ⟨op, wd, [68, 78], true, o⟩ (w2.heap.size + 1) m m (some ⟨W3.heap.size, 0, none⟩) w5 (fieldsB_ok 5).1 (show 2 ≤ 10 by decide) hsz5 (fun _ => v5) (fun j _ => ⟨_, _, rfl⟩) (by omega) (Nat.le_refl _))
        have HTK := Lib.hid (fun (pv : Value) (w6 : World) (h6 : Below w5.heap.size w5 w6) (hpv : RowPa w6 w5.heap.size pv (insPa (w2.heap.size + 1) [68, 78] true (some ⟨W3.heap.size, 0, none⟩) m)) => ri_take (gA := W3.heap.size) (m := m) (n := os.length) (wv := .slice A2 os.length cap2) HK.out (by rw [if_pos rfl]; exact HM.out.1) (fun h => absurd h HM.out.2.1) (fun _ => ⟨rfl, HGA.out, Nat.ne_of_lt hsz3, Nat.le_trans HX.out.2.2.2.1.size (Nat.le_refl _), by unfold maxLen; have := HM.out.2.2; omega⟩) HX5.out.1 (Nat.le_of_lt HX5.out.2.2.2.2) HX5.out.2.2.2.1 h6 hpv HW.out.1 rfl HW.out.2.1 HW.out.2.2.1 HW.out.2.2.2)
        have HSZ3 := Lib.hid hsz3
        clear hx5 hx5' hrow5 hU5 hB5 hgA hown4 hb4 hx4 HO4 v5 t5 s5 q0 q1 q2 q3 q4 x0 x1 x2 x3 x4 x5 g0 g1 g2 g3 g4 g5
        go_upto_region 8 with first
          | (go_at_call 61; (with_reducible refine HPT.out.mono ?_); rintro e w6 ⟨⟨pv, rfl, hpv⟩, hb6⟩; obtain ⟨pA, pcap, rfl⟩ := hpv.form; have HTK2 := Lib.hid (HTK.out _ w6 hb6 hpv); clear hpv hb6)
          | (go_at_call 53; (with_reducible refine HTK2.out.mono ?_); rintro e w7 ⟨rfl, hb7, hk7, a, b, c, d, e7, F7, p7, k7, hbx, hfin⟩; have HB7 := Lib.hid (And.intro hb7 hk7); have HBX := Lib.hid hbx; have HFIN := Lib.hid hfin; clear hb7 hk7 hbx hfin)
        have hU7 : Blk w7 w.heap.size 46 insL := HX5.out.2.2.1.move (HB7.out.2 _ HX5.out.2.2.1.lt (by have := HX5.out.2.2.2.2; omega) (fun _ => by have := HSZ3.out; have := HX5.out.2.2.2.2; omega))
        obtain ⟨y0, y1, y2, y3, y4, y5⟩ := cells6 HBX.out
        obtain ⟨c0, c1, c2, c3, c4, c5⟩ := cells6 hU7
        obtain ⟨f0, f1, f2, f3, f4, f5⟩ := frozen6 hU7
        have HU7 := Lib.hid hU7
        clear hU7
        go_wp2_with fail
        refine bodyPost_ret (results_ri rfl _ _ w.heap.size _ _ _ _ _ _ rfl (HU7.out.q6 _ _ _ _ _ _)) rfl ?_
        rw [HN.out, show (lst os).length = os.length from List.length_map _]
        exact ri_end HB7.out.1 HU7.out HFIN.out
      · have h2i : (os.length : Int) ≤ 2 := by omega
        have HM := Lib.hid (show (0 : Nat) = os.length - 2 by omega)
        clear h2
        have HPT := Lib.hid (show Calls Tryd.prog 61 #[.agg #[.int .i64 op, .string ⟨wd.toArray⟩, .string ⟨#[68, 78]⟩, .bool true, .int .i64 o], .pointer (some ⟨w2.heap.size + 1, 0, none⟩)] W3 _ from
          rowparts_any ⟨op, wd, [68, 78], true, o⟩ (w2.heap.size + 1) 0 0 none W3 (fieldsB_ok 5).1 (show 2 ≤ 10 by decide) hsz3 (fun _ => x5) (fun j h => absurd h (Nat.not_lt_zero _)) (Nat.zero_le _) (Nat.zero_le _))
        have HTK := Lib.hid (fun (pv : Value) (w5 : World) (h5 : Below W3.heap.size W3 w5) (hpv : RowPa w5 W3.heap.size pv (insPa (w2.heap.size + 1) [68, 78] true none 0)) => ri_take (gA := 0) (m := 0) (n := os.length) (wv := .slice A2 os.length cap2) HK.out (by rw [if_pos rfl]; exact HM.out) (fun _ => rfl) (fun h => absurd rfl h) HX.out.1 (Nat.le_of_lt HX.out.2.2.2.2) HX.out.2.2.2.1 h5 hpv HW.out.1 rfl HW.out.2.1 HW.out.2.2.1 HW.out.2.2.2)
        go_upto_region 8 with first
          | (go_at_call 61; (with_reducible refine HPT.out.mono ?_); rintro e w6 ⟨⟨pv, rfl, hpv⟩, hb6⟩; obtain ⟨pA, pcap, rfl⟩ := hpv.form; have HTK2 := Lib.hid (HTK.out _ w6 hb6 hpv); clear hpv hb6)
          | (go_at_call 53; (with_reducible refine HTK2.out.mono ?_); rintro e w7 ⟨rfl, hb7, hk7, a, b, c, d, e7, F7, p7, k7, hbx, hfin⟩; have HB7 := Lib.hid (And.intro hb7 hk7); have HBX := Lib.hid hbx; have HFIN := Lib.hid hfin; clear hb7 hk7 hbx hfin)
        have hU7 : Blk w7 w.heap.size 46 insL := HX.out.2.2.1.move (HB7.out.2 _ HX.out.2.2.1.lt (by have := HX.out.2.2.2.2; omega) (fun h => absurd rfl h))
        obtain ⟨y0, y1, y2, y3, y4, y5⟩ := cells6 HBX.out
        obtain ⟨c0, c1, c2, c3, c4, c5⟩ := cells6 hU7
        obtain ⟨f0, f1, f2, f3, f4, f5⟩ := frozen6 hU7
        have HU7 := Lib.hid hU7
        clear hU7
        go_wp2_with fail
        refine bodyPost_ret (results_ri rfl _ _ w.heap.size _ _ _ _ _ _ rfl (HU7.out.q6 _ _ _ _ _ _)) rfl ?_
        rw [HN.out, show (lst os).length = os.length from List.length_map _]
        exact ri_end HB7.out.1 HU7.out HFIN.out
  · have HN := Lib.hid (readI_none (row_none_of hno) (lst os))
    have hU2 := (HU.out.older hb2 HU.out.lt).alloc (.cells Rw.zero.arr 108)
    have hB2 := (HB1.out.trans (hb2.mono HB1.out.size)).alloc (Nat.le_trans HB1.out.size hb2.size) (.cells Rw.zero.arr 108)
    obtain ⟨c0, c1, c2, c3, c4, c5⟩ := cells6 hU2
    obtain ⟨f0, f1, f2, f3, f4, f5⟩ := frozen6 hU2
    have HU2 := Lib.hid (And.intro hU2 hB2)
    clear hno hb2 hU2 hB2
    go_wp2_with fail
    refine bodyPost_ret (results_ri rfl _ _ w.heap.size _ _ _ _ _ _ rfl (HU2.out.1.q6 _ _ _ _ _ _)) rfl ?_
    rw [HN.out]
    exact ⟨below6 HU2.out.2 (Nat.le_refl _) _ _ _ _ _ _, _, _, _, _, _, _, _, _, rfl, fun h => absurd h (by decide)⟩
end Go.Proofs.YtcoehmmiplffgaaDoor
