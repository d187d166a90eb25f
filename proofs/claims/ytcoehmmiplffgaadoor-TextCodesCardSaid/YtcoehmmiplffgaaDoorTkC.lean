/- Several texts in one: TextRun, TextRparseP, IrMay, TextMay, TextRparseS, TextBldOps, TextRparse, TextRlP, TextRl. -/
import Derived.Test.YtcoehmmiplffgaaDoorTkA
import Derived.Test.YtcoehmmiplffgaaDoorTkB
import Derived.Test.YtcoehmmiplffgaaDoorIrPlain
import Derived.Maps.AppendAt
import Derived.Test.YtcoehmmiplffgaaDoorTextOfW
import Derived.BigQuiet
/- A text that is printed is read back, and a text that is read is what is printed of it. No model. -/
namespace Go.Proofs.YtcoehmmiplffgaaDoor.Tx
open Ir (In)

/-! ### what is printed, line by line -/
def headL (code : Bool) (c : Cd) : List UInt8 := join (first code) ((headP code c).map Pt.w)
def blkL (code : Bool) (b : List In) : List (List UInt8) := blockW :: b.map (bodyI code)
def prL (code : Bool) (c : Cd) : List (List UInt8) := headL code c :: c.blocks.flatMap (blkL code)
theorem blkW_flat (code : Bool) (b : List In) : blkW code b = flat (blkL code b) := by
  unfold blkW blkL
  rw [flat_cons]
  have : ∀ b : List In, b.flatMap (insW code) = flat (b.map (bodyI code)) := by
    intro b
    induction b with
    | nil => rfl
    | cons x b ih => rw [List.flatMap_cons, ih, List.map_cons, flat_cons, insW_body]; simp
  rw [this]
  simp
theorem blksW_flat (code : Bool) : ∀ bs : List (List In), blksW code bs = flat (bs.flatMap (blkL code))
  | [] => rfl
  | b :: bs => by
    have ih := blksW_flat code bs
    unfold blksW at ih ⊢
    rw [List.flatMap_cons, List.flatMap_cons, flat_append, ih, blkW_flat]
theorem prW_flat (code : Bool) (c : Cd) : prW code c = flat (prL code c) := by
  unfold prW prL
  rw [flat_cons, blksW_flat]
  unfold lineW headL
  simp
theorem first_no10 (code : Bool) : (10 : UInt8) ∉ first code := by cases code <;> decide
theorem first_no32 (code : Bool) : (32 : UInt8) ∉ first code := by cases code <;> decide
theorem prL_no10 {code : Bool} {c : Cd} (h : prE code c = 0) : ∀ t ∈ prL code c, (10 : UInt8) ∉ t := by
  obtain ⟨h1, h2⟩ := pr_ok h
  intro t ht
  rcases List.mem_cons.1 ht with rfl | ht
  · exact join_no10 (first_no10 code) (fun p hp => check_ok h1 hp)
  · obtain ⟨b, hb, ht⟩ := List.mem_flatMap.1 ht
    rcases List.mem_cons.1 ht with rfl | ht
    · decide
    · obtain ⟨x, hx, rfl⟩ := List.mem_map.1 ht
      exact body_no10 (blkE_ok (blksE_ok h2 b hb) x hx)
theorem prL_len (code : Bool) (c : Cd) : (prL code c).length = 1 + c.blocks.length + Ir.count c.blocks := by
  unfold prL
  have : ∀ bs : List (List In), (bs.flatMap (blkL code)).length = bs.length + Ir.count bs := by
    intro bs
    induction bs with
    | nil => rfl
    | cons b bs ih =>
      rw [List.flatMap_cons, List.length_append, ih]
      show (b.map (bodyI code)).length + 1 + _ = bs.length + 1 + (b.length + Ir.count bs)
      rw [List.length_map]
      omega
  rw [List.length_cons, this]
  omega

/-! ### read back -/
/-- What the lines keep of code. -/
def bare (code : Bool) (c : Cd) : Cd := ⟨c.name, c.params, c.regs, if code then c.slots else 0, c.blocks.map fun b => b.map (bareI code)⟩
theorem kinds_head (code : Bool) (c : Cd) : (headP code c).map Pt.isN = headK code := by cases code <;> rfl
theorem read_head {code : Bool} {c : Cd} (h : check (headP code c) = 0) : readLn code 1 Cd.zero (some (headL code c)) = (0, { bare code c with blocks := [] }) := by
  have hw : words (headL code c) = first code :: (headP code c).map Pt.w := words_join _ _ (first_no32 code) (fun w hw => by
    obtain ⟨p, hp, rfl⟩ := List.mem_map.1 hw
    exact (w_clean (check_ok h hp)).2)
  have ht : take (headK code) ((headP code c).map Pt.w) = (0, headP code c) := by
    rw [← kinds_head code c]
    exact take_back (fun p hp => check_ok h hp)
  unfold readLn
  simp only
  rw [hw]
  unfold readL
  simp only
  rw [if_pos trivial, if_pos trivial, ht]
  cases code <;> rfl
theorem first_block {code : Bool} : first code ≠ blockW := by cases code <;> decide
theorem read_block {code : Bool} {n : Nat} {c : Cd} (hn : n ≠ 1) : readLn code n c (some blockW) = (0, { c with blocks := c.blocks ++ [[]] }) := by
  have hw : words blockW = [blockW] := words_one _ (by decide)
  unfold readLn
  simp only
  rw [hw]
  unfold readL
  simp only
  rw [if_neg hn, if_pos trivial, if_pos trivial]
theorem read_ins {code : Bool} {n : Nat} {c : Cd} {x : In} (hn : n ≠ 1) (h : insE code x = 0) (hb : c.blocks ≠ []) : readLn code n c (some (bodyI code x)) = (0, { c with blocks := addLast c.blocks (bareI code x) }) := by
  unfold readLn
  simp only
  rw [words_body h]
  unfold readL
  simp only
  rw [if_neg hn, if_neg word_block, if_neg hb, readI_back h]
theorem addLast_at (l : List (List In)) (b : List In) (x : In) : addLast (l ++ [b]) x = l ++ [b ++ [x]] := by
  unfold addLast
  simp
theorem run_body {code : Bool} : ∀ (b : List In) (more : List (Option (List UInt8))) (n : Nat) (c : Cd) (l : List (List In)) (d : List In), n ≠ 0 → (∀ x ∈ b, insE code x = 0) →
    run code (n + 1) { c with blocks := l ++ [d] } ((b.map (bodyI code)).map some ++ more) = run code (n + 1 + b.length) { c with blocks := l ++ [d ++ b.map (bareI code)] } more
  | [], more, n, c, l, d, _, _ => by simp
  | x :: b, more, n, c, l, d, hn, h => by
    have h1 := read_ins (code := code) (n := n + 1) (c := { c with blocks := l ++ [d] }) (by omega) (h x (List.mem_cons_self ..)) (by simp)
    have h2 := run_body b more (n + 1) c l (d ++ [bareI code x]) (by omega) (fun y hy => h y (List.mem_cons_of_mem _ hy))
    simp only [List.map_cons, List.cons_append]
    rw [run, h1, if_pos rfl]
    simp only [addLast_at]
    rw [h2]
    congr 1
    · simp only [List.length_cons]
      omega
    · simp
theorem run_blocks {code : Bool} : ∀ (bs : List (List In)) (more : List (Option (List UInt8))) (n : Nat) (c : Cd) (l : List (List In)), n ≠ 0 → (∀ b ∈ bs, ∀ x ∈ b, insE code x = 0) →
    run code (n + 1) { c with blocks := l } ((bs.flatMap (blkL code)).map some ++ more) = run code (n + 1 + (bs.length + Ir.count bs)) { c with blocks := l ++ bs.map fun b => b.map (bareI code) } more
  | [], more, n, c, l, _, _ => by simp [Ir.count]
  | b :: bs, more, n, c, l, hn, h => by
    have h1 := read_block (code := code) (n := n + 1) (c := { c with blocks := l }) (by omega)
    have h2 := run_body b ((bs.flatMap (blkL code)).map some ++ more) (n + 1) c l [] (by omega) (h b (List.mem_cons_self ..))
    have h3 := run_blocks bs more (n + 1 + b.length) c (l ++ [b.map (bareI code)]) (by omega) (fun d hd => h d (List.mem_cons_of_mem _ hd))
    rw [List.flatMap_cons, List.map_append, List.append_assoc]
    unfold blkL at h2 h3 ⊢
    rw [List.map_cons, List.cons_append, run, h1, if_pos rfl]
    simp only
    rw [h2, List.nil_append, show n + 1 + 1 + b.length = n + 1 + b.length + 1 by omega, h3]
    congr 1
    · simp only [Ir.count, List.length_cons]
      omega
    · simp
theorem run_printed {code : Bool} {c : Cd} (more : List (Option (List UInt8))) (h : prE code c = 0) :
    run code 1 Cd.zero ((prL code c).map some ++ more) = run code (2 + c.blocks.length + Ir.count c.blocks) (bare code c) more := by
  obtain ⟨h1, h2⟩ := pr_ok h
  unfold prL
  rw [List.map_cons, List.cons_append, run, read_head h1, if_pos rfl]
  simp only
  have h3 := run_blocks c.blocks more 1 (bare code c) [] (by omega) (fun b hb => blkE_ok (blksE_ok h2 b hb))
  rw [h3, List.nil_append]
  congr 1
  omega
theorem prW_ne (code : Bool) (c : Cd) : prW code c ≠ [] := by
  rw [prW_flat]
  unfold prL
  rw [flat_cons]
  simp
/-- What is printed, with more behind it. -/
theorem parse_more {code : Bool} {c : Cd} (more : List UInt8) (h : prE code c = 0) :
    parse code (prW code c ++ more) = run code (2 + c.blocks.length + Ir.count c.blocks) (bare code c) (lines more) := by
  unfold parse
  rw [if_neg (by simp [prW_ne]), prW_flat, lines_flat _ _ (prL_no10 h), run_printed _ h]
theorem parse_back {code : Bool} {c : Cd} (h : prE code c = 0) : parse code (prW code c) = (0, 0, bare code c) := by
  have := parse_more (code := code) (c := c) [] h
  rw [List.append_nil] at this
  rw [this, lines_nil]
  rfl
theorem parse_line {code : Bool} {c : Cd} {more : List UInt8} (h : prE code c = 0) (h0 : (parse code (prW code c ++ more)).1 ≠ 0) :
    1 + c.blocks.length + Ir.count c.blocks < (parse code (prW code c ++ more)).2.1 := by
  rw [parse_more more h] at h0 ⊢
  have := run_line _ _ _ h0
  omega
end Go.Proofs.YtcoehmmiplffgaaDoor.Tx

/- How far a text is read: plain, and in memory. -/
namespace Go.Proofs.YtcoehmmiplffgaaDoor
open Go.ChangeShapes Go.WideShapes Go.RowKit Go.Deep

/-- n lines are read, they gave c; r is the rest. -/
def Rem (code : Bool) (s : List UInt8) (n : Nat) (c : Tx.Cd) (r : List UInt8) : Prop :=
  (n = 0 ∧ c = Tx.Cd.zero ∧ r = s) ∨ (1 ≤ n ∧ Tx.parse code s = Tx.run code (n + 1) c (Tx.lines r))
theorem Rem.run {code : Bool} {s : List UInt8} {n : Nat} {c : Tx.Cd} {r : List UInt8} (h : Rem code s n c r) (hr : r ≠ []) : Tx.parse code s = Tx.run code (n + 1) c (Tx.lines r) := by
  rcases h with ⟨rfl, rfl, rfl⟩ | ⟨-, h⟩
  · unfold Tx.parse
    rw [if_neg hr]
  · exact h
theorem Rem.done {code : Bool} {s : List UInt8} {n : Nat} {c : Tx.Cd} (h : Rem code s n c []) (hn : n ≠ 0) : Tx.parse code s = (0, 0, c) := by
  rcases h with ⟨h, -⟩ | ⟨-, h⟩
  · exact absurd h hn
  · rw [h, Tx.lines_nil]
    rfl
theorem Rem.nolf {code : Bool} {s : List UInt8} {n : Nat} {c : Tx.Cd} {r : List UInt8} (h : Rem code s n c r) (h0 : r = [] → n = 0) (hr : (10 : UInt8) ∉ r) : Tx.parse code s = (80, n + 1, Tx.Cd.zero) := by
  by_cases he : r = []
  · obtain rfl := h0 he
    rcases h with ⟨-, -, h⟩ | ⟨h, -⟩
    · unfold Tx.parse
      rw [if_pos (by rw [← h, he])]
    · omega
  · rw [h.run he, Tx.lines_none he (Tx.cutLF_none_mk hr), Tx.run]
    rfl
theorem Rem.line {code : Bool} {s : List UInt8} {n : Nat} {c : Tx.Cd} {t r : List UInt8} (h : Rem code s n c (t ++ 10 :: r)) (ht : (10 : UInt8) ∉ t) :
    (Tx.readL code (n + 1) c (Tx.words t)).1 = 0 ∧ Rem code s (n + 1) (Tx.readL code (n + 1) c (Tx.words t)).2 r ∨
    (Tx.readL code (n + 1) c (Tx.words t)).1 ≠ 0 ∧ Tx.parse code s = ((Tx.readL code (n + 1) c (Tx.words t)).1, n + 1, Tx.Cd.zero) := by
  have h1 := h.run (by simp)
  rw [Tx.lines_mk t r ht, Tx.run] at h1
  unfold Tx.readLn at h1
  simp only at h1
  by_cases h0 : (Tx.readL code (n + 1) c (Tx.words t)).1 = 0
  · rw [if_pos h0] at h1
    exact .inl ⟨h0, .inr ⟨by omega, h1⟩⟩
  · rw [if_neg h0] at h1
    exact .inr ⟨h0, h1⟩

/-- The numbers of a head. -/
def numsC (code : Bool) (c : Tx.Cd) : List Int := if code then [c.params, c.regs, c.slots] else [c.params, c.regs]
theorem headK_is (code : Bool) : Tx.headK code = kAt 0 (if code then 4 else 3) := by cases code <;> rfl
/-- A head that is read. -/
theorem head_read {code : Bool} {ps : List Tx.Pt} (h : ps.map Tx.Pt.isN = Tx.headK code) : (Tx.setHead Tx.Cd.zero ps).name = nmP ByteArray.empty ps ∧ numsC code (Tx.setHead Tx.Cd.zero ps) = numsP ps ∧ (Tx.setHead Tx.Cd.zero ps).blocks = [] := by
  cases code with
  | true =>
    obtain ⟨p, l, rfl, hp, h⟩ := Tx.mapC (a := true) (t := [false, false, false]) h
    obtain ⟨q, l, rfl, hq, h⟩ := Tx.mapC h
    obtain ⟨r, l, rfl, hr, h⟩ := Tx.mapC h
    obtain ⟨s, rfl, hs⟩ := Tx.map1 h
    obtain ⟨a, rfl⟩ := Tx.isN_nm hp
    obtain ⟨b, rfl⟩ := Tx.isN_num hq
    obtain ⟨c, rfl⟩ := Tx.isN_num hr
    obtain ⟨d, rfl⟩ := Tx.isN_num hs
    exact ⟨rfl, rfl, rfl⟩
  | false =>
    obtain ⟨p, l, rfl, hp, h⟩ := Tx.mapC (a := true) (t := [false, false]) h
    obtain ⟨q, l, rfl, hq, h⟩ := Tx.mapC h
    obtain ⟨r, rfl, hr⟩ := Tx.map1 h
    obtain ⟨a, rfl⟩ := Tx.isN_nm hp
    obtain ⟨b, rfl⟩ := Tx.isN_num hq
    obtain ⟨c, rfl⟩ := Tx.isN_num hr
    exact ⟨rfl, rfl, rfl⟩

/-- What the reading knows in memory; w: the world in which it began. -/
structure PsAt (w : World) (code : Bool) (s : List UInt8) (n : Nat) (c : Tx.Cd) (r : List UInt8) (vh gv : Value) (ws : List Value) (wr : World) : Prop where
  rem : Rem code s n c r
  below : Below w.heap.size w wr
  head : RowI wr w.heap.size vh (if n = 0 then [] else numsC code c)
  blks : Bld w.heap.size gv ws c.blocks wr
  cnt : r.length + n ≤ s.length
  nb : c.blocks.length ≤ n
  ni : ∀ b ∈ c.blocks, b.length ≤ n

/-- What parse comes to. -/
def ParsePost (code : Bool) (q : Int × Nat × Tx.Cd) (w : World) (e : Ending) (w' : World) : Prop :=
  Below w.heap.size w w' ∧ ((q.1 = 0 ∧ ∃ v gv, e = .returned (.tuple #[.string q.2.2.name, v, gv, .int .i64 0, .int .i64 0]) ∧ RowI w' w.heap.size v (numsC code q.2.2) ∧ BlkF w.heap.size w' gv q.2.2.blocks) ∨
    (q.1 ≠ 0 ∧ e = .returned (.tuple #[.string ⟨#[]⟩, .slice none 0 0, .slice none 0 0, .int .i64 (q.2.1 : Int), .int .i64 q.1])))
theorem parsePost_no {code : Bool} {q : Int × Nat × Tx.Cd} {w w' : World} {E : Int} {k : Nat} {c : Tx.Cd} (h : q = (E, k, c)) (h0 : E ≠ 0) (hb : Below w.heap.size w w') : ParsePost code q w (.returned (.tuple #[.string ⟨#[]⟩, .slice none 0 0, .slice none 0 0, .int .i64 (k : Int), .int .i64 E])) w' := by
  subst h
  exact ⟨hb, .inr ⟨h0, rfl⟩⟩
theorem results_tmp5 {fn : Func} {a b c d e : Tmp} (h : fn.results = #[.tmp a, .tmp b, .tmp c, .tmp d, .tmp e]) (tmps : Array Value) (P : Program) (w : World) :
    (results fn tmps).run P w = .ok (.tuple #[tmps.getD a undef, tmps.getD b undef, tmps.getD c undef, tmps.getD d undef, tmps.getD e undef]) w := by
  simp [results, h]
end Go.Proofs.YtcoehmmiplffgaaDoor

/- What it says of a function that it may be. No model. -/
namespace Go.Proofs.YtcoehmmiplffgaaDoor

theorem chkB_zero {r n : Int} : ∀ {b : List Ir.In}, Ir.chkB r n b = 0 → ∀ (k : Nat) (x : Ir.In), b[k]? = some x → Ir.one r n x (decide (b.length - (k + 1) = 0)) = 0
  | [], _, k, x, h => by simp at h
  | y :: l, h, k, x, hx => by
    have h' : (if Ir.one r n y (decide (l.length = 0)) = 0 then Ir.chkB r n l else Ir.one r n y (decide (l.length = 0))) = 0 := h
    by_cases h0 : Ir.one r n y (decide (l.length = 0)) = 0
    · rw [if_pos h0] at h'
      cases k with
      | zero =>
        simp at hx
        subst hx
        simpa using h0
      | succ k =>
        simp at hx
        have := chkB_zero h' k x hx
        simpa using this
    · rw [if_neg h0] at h'
      exact absurd h' h0
theorem chkBs_zero {r n : Int} : ∀ {bs : List (List Ir.In)}, Ir.chkBs r n bs = 0 → ∀ b, b ∈ bs → Ir.chkB r n b = 0
  | [], _, b, h => by simp at h
  | c :: l, h, b, hb => by
    have h' : (if Ir.chkB r n c = 0 then Ir.chkBs r n l else Ir.chkB r n c) = 0 := h
    by_cases h0 : Ir.chkB r n c = 0
    · rw [if_pos h0] at h'
      rcases List.mem_cons.1 hb with rfl | hb
      · exact h0
      · exact chkBs_zero h' b hb
    · rw [if_neg h0] at h'
      exact absurd h' h0

/-- An instruction with which nothing is wrong. -/
theorem one_zero {r n : Int} {x : Ir.In} {l : Bool} (h : Ir.one r n x l = 0) :
    Ir.fits x = true ∧ Ir.last x.op = l ∧ (Ir.fd x.op = 1 → 0 ≤ x.d ∧ x.d < r) ∧ Ir.within (Ir.uses x) r = true ∧ Ir.within (Ir.targets x) n = true := by
  unfold Ir.one at h
  split at h
  · simp at h
  rename_i h1
  split at h
  · simp at h
  rename_i h2
  split at h
  · simp at h
  split at h
  · simp at h
  rename_i h4
  simp only [Bool.or_eq_true, not_or, Bool.not_eq_true', bne_iff_ne, ne_eq, Decidable.not_not, Bool.and_eq_true, decide_eq_true_eq, not_and] at h1 h2 h4
  refine ⟨by simpa using h1.1, h1.2, fun hd => ?_, by simpa using h2.2, by simpa using h4⟩
  have := h2.1 hd
  omega

/-- A function that may be. -/
structure May (f : Ir.Fu) : Prop where
  name : Ir.nm f.name = true
  shape : Ir.shape f.params f.regs f.blocks = true
  ins : ∀ (b : List Ir.In), b ∈ f.blocks → ∀ (k : Nat) (x : Ir.In), b[k]? = some x → Ir.one f.regs (f.blocks.length : Int) x (decide (b.length - (k + 1) = 0)) = 0
theorem may_of {f : Ir.Fu} (h : Ir.check f = 0) : May f := by
  unfold Ir.check at h
  split at h
  · simp at h
  rename_i h1
  split at h
  · simp at h
  rename_i h2
  exact ⟨by simpa using h1, by simpa using h2, fun b hb => chkB_zero (chkBs_zero h b hb)⟩
theorem May.nums {f : Ir.Fu} (h : May f) : (0 ≤ f.params ∧ f.params ≤ 4 ∧ f.params ≤ f.regs ∧ f.regs ≤ 64 ∧ 1 ≤ f.blocks.length ∧ f.blocks.length ≤ 32) ∧ (∀ b, b ∈ f.blocks → 1 ≤ b.length) ∧ Ir.count f.blocks ≤ 200 := by
  have := h.shape
  unfold Ir.shape at this
  simp only [Bool.and_eq_true, decide_eq_true_eq, List.all_eq_true] at this
  exact ⟨this.1.1, this.1.2, this.2⟩

theorem within_at {l : List Int} {n : Int} (h : Ir.within l n = true) {k : Nat} {v : Int} (hv : l[k]? = some v) : 0 ≤ v ∧ v < n := by
  unfold Ir.within at h
  have := List.all_eq_true.1 h v (List.mem_of_getElem? hv)
  simpa using this
end Go.Proofs.YtcoehmmiplffgaaDoor

/- A text that is read is what is printed of what was read; a function that may be is printed, and its lines have all of it. No model. -/
namespace Go.Proofs.YtcoehmmiplffgaaDoor.Tx
open Ir (In)

/-! ### what was read, printed -/
theorem blkE_of {code : Bool} : ∀ {b : List In}, (∀ x ∈ b, insE code x = 0) → blkE code b = 0
  | [], _ => rfl
  | x :: b, h => by rw [blkE, if_pos (h x (List.mem_cons_self ..)), blkE_of fun y hy => h y (List.mem_cons_of_mem _ hy)]
theorem blksE_of {code : Bool} : ∀ {bs : List (List In)}, (∀ b ∈ bs, ∀ x ∈ b, insE code x = 0) → blksE code bs = 0
  | [], _ => rfl
  | b :: bs, h => by rw [blksE, if_pos (blkE_of (h b (List.mem_cons_self ..))), blksE_of fun y hy => h y (List.mem_cons_of_mem _ hy)]

/-- How far the reading is: t is read, and it is what c prints. -/
structure At (code : Bool) (n : Nat) (c : Cd) (t : List UInt8) : Prop where
  one : n = 1 → c = Cd.zero ∧ t = []
  pos : n ≠ 0
  head : n ≠ 1 → check (headP code c) = 0
  ins : ∀ b ∈ c.blocks, ∀ x ∈ b, insE code x = 0
  text : n ≠ 1 → prW code c = t
  slots : code = false → c.slots = 0

theorem set_head {code : Bool} {vs : List Pt} (h : vs.map Pt.isN = headK code) : headP code (setHead Cd.zero vs) = vs ∧ (setHead Cd.zero vs).blocks = [] ∧ (code = false → (setHead Cd.zero vs).slots = 0) := by
  cases code with
  | true =>
    obtain ⟨p, l, rfl, hp, h⟩ := mapC (a := true) (t := [false, false, false]) h
    obtain ⟨q, l, rfl, hq, h⟩ := mapC h
    obtain ⟨r, l, rfl, hr, h⟩ := mapC h
    obtain ⟨s, rfl, hs⟩ := map1 h
    obtain ⟨a, rfl⟩ := isN_nm hp
    obtain ⟨b, rfl⟩ := isN_num hq
    obtain ⟨c, rfl⟩ := isN_num hr
    obtain ⟨d, rfl⟩ := isN_num hs
    exact ⟨rfl, rfl, fun h => by cases h⟩
  | false =>
    obtain ⟨p, l, rfl, hp, h⟩ := mapC (a := true) (t := [false, false]) h
    obtain ⟨q, l, rfl, hq, h⟩ := mapC h
    obtain ⟨r, rfl, hr⟩ := map1 h
    obtain ⟨a, rfl⟩ := isN_nm hp
    obtain ⟨b, rfl⟩ := isN_num hq
    obtain ⟨c, rfl⟩ := isN_num hr
    exact ⟨rfl, rfl, fun _ => rfl⟩
theorem blksW_append (code : Bool) (a b : List (List In)) : blksW code (a ++ b) = blksW code a ++ blksW code b := List.flatMap_append ..
theorem prW_more (code : Bool) (c : Cd) (b : List In) : prW code { c with blocks := c.blocks ++ [b] } = prW code c ++ blkW code b := by
  unfold prW
  rw [blksW_append, ← List.append_assoc]
  simp only [blksW, List.flatMap_cons, List.flatMap_nil, List.append_nil]
  rfl
theorem split_last {α : Type} {l : List α} (h : l ≠ []) : ∃ m x, l = m ++ [x] := by
  rcases List.eq_nil_or_concat l with rfl | ⟨m, x, rfl⟩
  · exact absurd rfl h
  · exact ⟨m, x, by rw [List.concat_eq_append]⟩
theorem blkW_more (code : Bool) (b : List In) (x : In) : blkW code (b ++ [x]) = blkW code b ++ bodyI code x ++ [10] := by
  unfold blkW
  rw [List.flatMap_append]
  simp [insW_body]

theorem read_at {code : Bool} {n : Nat} {c : Cd} {t : List UInt8} {l : Option (List UInt8)} (h : At code n c t) (h0 : (readLn code n c l).1 = 0) :
    ∃ u, l = some u ∧ At code (n + 1) (readLn code n c l).2 (t ++ (u ++ [10])) := by
  cases l with
  | none => simp [readLn] at h0
  | some u =>
    refine ⟨u, rfl, ?_⟩
    obtain ⟨w, os, hw, hj⟩ := join_words u
    unfold readLn at h0 ⊢
    simp only at h0 ⊢
    rw [hw] at h0 ⊢
    unfold readL at h0 ⊢
    simp only at h0 ⊢
    have hp := h.pos
    by_cases hn : n = 1
    · rw [if_pos hn] at h0 ⊢
      obtain ⟨rfl, rfl⟩ := h.one hn
      by_cases hf : w = first code
      · rw [if_pos hf] at h0 ⊢
        obtain ⟨h1, h2, h3, _⟩ := take_ok h0
        obtain ⟨e1, e2, e3⟩ := set_head h3
        refine ⟨fun e => by omega, by omega, fun _ => ?_, fun b hb => ?_, fun _ => ?_, e3⟩
        · simp only [e1]
          exact check_all h2
        · simp only [e2] at hb
          cases hb
        · unfold prW
          simp only [e1, e2]
          unfold lineW blksW
          rw [h1, ← hf, hj]
          simp
      · rw [if_neg hf] at h0
        exact absurd (show (80 : Int) = 0 from h0) (by decide)
    · rw [if_neg hn] at h0 ⊢
      by_cases hb : w = blockW
      · rw [if_pos hb] at h0 ⊢
        by_cases ho : os = []
        · rw [if_pos ho]
          refine ⟨fun e => by omega, by omega, fun _ => h.head hn, fun b hb => ?_, fun _ => ?_, h.slots⟩
          · rcases List.mem_append.1 hb with hb | hb
            · exact h.ins b hb
            · rw [List.mem_singleton.1 hb]
              intro x hx
              cases hx
          · rw [prW_more, h.text hn, ← hj, hb, ho]
            rfl
        · rw [if_neg ho] at h0
          exact absurd (show (80 : Int) = 0 from h0) (by decide)
      · rw [if_neg hb] at h0 ⊢
        by_cases hc : c.blocks = []
        · rw [if_pos hc] at h0
          exact absurd (show (80 : Int) = 0 from h0) (by decide)
        · rw [if_neg hc] at h0 ⊢
          obtain ⟨h1, h2⟩ := readI_ok h0
          obtain ⟨m, b, hm⟩ := split_last hc
          have hi := h.ins
          have ht := h.text hn
          have hh := h.head hn
          have hs := h.slots
          clear h h0 hc
          generalize readI code w os = q at h1 h2 ⊢
          obtain ⟨name, params, regs, slots, blocks⟩ := c
          simp only at hm
          subst hm
          simp only [addLast_at] at *
          refine ⟨fun e => by omega, by omega, fun _ => hh, fun d hd => ?_, fun _ => ?_, hs⟩
          · rcases List.mem_append.1 hd with hd | hd
            · exact hi d (List.mem_append_left _ hd)
            · rw [List.mem_singleton.1 hd]
              intro x hx
              rcases List.mem_append.1 hx with hx | hx
              · exact hi b (by simp) x hx
              · rw [List.mem_singleton.1 hx]
                exact h1
          · have e1 := prW_more code ⟨name, params, regs, slots, m⟩ (b ++ [q.2])
            have e2 := prW_more code ⟨name, params, regs, slots, m⟩ b
            simp only at e1 e2
            rw [e1, ← ht, e2, blkW_more, h2, hj]
            simp
theorem run_at {code : Bool} : ∀ (ls : List (Option (List UInt8))) (n : Nat) (c : Cd) (t : List UInt8), At code n c t → (run code n c ls).1 = 0 →
    ∃ ts, ls = ts.map some ∧ At code (n + ls.length) (run code n c ls).2.2 (t ++ flat ts)
  | [], n, c, t, h, _ => ⟨[], rfl, by simpa [run, flat] using h⟩
  | l :: ls, n, c, t, h, h0 => by
    rw [run] at h0 ⊢
    by_cases h1 : (readLn code n c l).1 = 0
    · rw [if_pos h1] at h0 ⊢
      obtain ⟨u, rfl, h2⟩ := read_at h h1
      obtain ⟨ts, rfl, h3⟩ := run_at ls (n + 1) _ _ h2 h0
      refine ⟨u :: ts, rfl, ?_⟩
      have e1 : t ++ flat (u :: ts) = t ++ (u ++ [10]) ++ flat ts := by rw [flat_cons]; simp
      have e2 : n + (some u :: ts.map some).length = n + 1 + (ts.map some).length := by simp only [List.length_cons]; omega
      rw [e1, e2]
      exact h3
    · rw [if_neg h1] at h0
      exact absurd h0 h1
theorem flat_of (k : Nat) : ∀ (s : List UInt8) (ts : List (List UInt8)), s.length ≤ k → lines s = ts.map some → s = flat ts := by
  induction k with
  | zero =>
    intro s ts h he
    obtain rfl := List.eq_nil_of_length_eq_zero (Nat.le_zero.1 h)
    rw [lines_nil] at he
    have : ts = [] := by simpa using he.symm
    rw [this]
    rfl
  | succ k ih =>
    intro s ts h he
    by_cases h0 : s = []
    · subst h0
      rw [lines_nil] at he
      have : ts = [] := by simpa using he.symm
      rw [this]
      rfl
    · cases hc : cutLF s with
      | none =>
        rw [lines_none h0 hc] at he
        cases ts with
        | nil => cases he
        | cons t ts => injection he with h1 _; cases h1
      | some q =>
        obtain ⟨t, r⟩ := q
        have hl := cutLF_lt hc
        rw [lines_some hc] at he
        cases ts with
        | nil => cases he
        | cons u ts =>
          injection he with h1 h2
          injection h1 with h1
          rw [flat_cons, ← h1, ← ih r ts (by omega) h2]
          exact (cutLF_some hc).1
/-- What is read prints as the text that it was read from. -/
theorem parse_ok {code : Bool} {s : List UInt8} (h : (parse code s).1 = 0) : prE code (parse code s).2.2 = 0 ∧ prW code (parse code s).2.2 = s ∧ (parse code s).2.1 = 0 ∧ (code = false → (parse code s).2.2.slots = 0) := by
  unfold parse at h ⊢
  by_cases h0 : s = []
  · rw [if_pos h0] at h
    exact absurd h (by decide)
  · rw [if_neg h0] at h ⊢
    have hz : At code 1 Cd.zero [] := ⟨fun _ => ⟨rfl, rfl⟩, by omega, fun e => absurd rfl e, fun b hb => (by cases hb), fun e => absurd rfl e, fun _ => rfl⟩
    obtain ⟨ts, h1, h2⟩ := run_at _ _ _ _ hz h
    have h3 := flat_of s.length s ts (Nat.le_refl _) h1
    have hn : 1 + (lines s).length ≠ 1 := by
      intro e
      have h4 : lines s = [] := List.eq_nil_of_length_eq_zero (by omega)
      rw [h4] at h1
      have h5 : ts = [] := by simpa using h1.symm
      rw [h5] at h3
      exact h0 h3
    refine ⟨?_, ?_, run_ok _ _ _ h, h2.slots⟩
    · unfold prE
      rw [if_pos (h2.head hn)]
      exact blksE_of h2.ins
    · rw [h2.text hn, List.nil_append, h3]

/-! ### functions that may be -/
theorem ok_num {n m : Int} (h : 0 ≤ n ∧ n < m) (hm : m ≤ 2147483648) : (Pt.num n).ok = true := decide_eq_true (by omega)
theorem one_const {r n : Int} {x : In} {l : Bool} (h : Ir.one r n x l = 0) : (Ir.fa x.op = 2 → 0 ≤ x.a ∧ x.a < 65536) ∧ (Ir.fc x.op = true → Ir.nm x.name = true) := by
  unfold Ir.one at h
  split at h
  · simp at h
  split at h
  · simp at h
  split at h
  · simp at h
  rename_i h3
  split at h
  · simp at h
  split at h
  · simp at h
  rename_i h5
  simp only [Bool.and_eq_true, decide_eq_true_eq, not_and, Bool.not_eq_true', Bool.not_eq_false] at h3 h5
  refine ⟨fun hf => ?_, fun hf => h5 hf⟩
  have := h3 hf
  omega
theorem within_in {l : List Int} {n v : Int} (h : Ir.within l n = true) (hv : v ∈ l) : 0 ≤ v ∧ v < n := by
  unfold Ir.within at h
  simpa using List.all_eq_true.1 h v hv
theorem map_num : ∀ l : List Int, (l.map Pt.num).map Pt.n = l
  | [] => rfl
  | n :: l => by rw [List.map_cons, List.map_cons, map_num l]; rfl
/-- An instruction with which nothing is wrong has a line, and the line has all of it. -/
theorem one_line {r n : Int} {x : In} {l : Bool} (hr : r ≤ 64) (hn : n ≤ 32) (h : Ir.one r n x l = 0) : insE false x = 0 ∧ bareI false x = x := by
  obtain ⟨h1, _, h2, h3, h4⟩ := one_zero h
  obtain ⟨h5, h6⟩ := one_const h
  clear h
  obtain ⟨op, d, a, b, name, args⟩ := x
  unfold Ir.fits at h1
  simp only [Bool.and_eq_true, Bool.or_eq_true, decide_eq_true_eq] at h1 h2 h3 h4 h5 h6
  obtain ⟨⟨ho1, ho2, f1, f2, f3⟩, f4⟩ := h1
  have hu : ∀ v ∈ Ir.uses ⟨op, d, a, b, name, args⟩, 0 ≤ v ∧ v < r := fun v hv => within_in h3 hv
  have ht : ∀ v ∈ Ir.targets ⟨op, d, a, b, name, args⟩, 0 ≤ v ∧ v < n := fun v hv => within_in h4 hv
  clear h3 h4
  have hop := Ir.cases_op op ⟨ho1, ho2⟩
  have h0 : ∀ s : ByteArray, s.size = 0 → s = ByteArray.empty := fun s hs => by
    cases s
    simp only [ByteArray.size, Array.size_eq_zero_iff] at hs
    rw [hs]
    rfl
  have FE : Ir.fc op = false → name = ByteArray.empty ∧ args = [] := fun hf => by
    rcases f4 with f4 | f4
    · rw [hf] at f4; cases f4
    · exact ⟨h0 _ f4.1, List.eq_nil_of_length_eq_zero f4.2⟩
  have HD : Ir.fd op ≠ 0 → (Pt.num d).ok = true := fun hf => by
    have c : Ir.fd op = 0 ∨ Ir.fd op = 1 ∨ Ir.fd op = 3 := by
      unfold Ir.fd
      repeat' split
      all_goals decide
    rcases c with c | c | c
    · exact absurd c hf
    · exact ok_num (h2 c) (by omega)
    · exact ok_num (ht d (by unfold Ir.targets; simp only; rw [if_pos c]; simp)) (by omega)
  have HA : Ir.fa op ≠ 0 → (Pt.num a).ok = true := fun hf => by
    have c : Ir.fa op = 0 ∨ Ir.fa op = 1 ∨ Ir.fa op = 2 ∨ Ir.fa op = 3 := by
      unfold Ir.fa
      repeat' split
      all_goals decide
    rcases c with c | c | c | c
    · exact absurd c hf
    · exact ok_num (hu a (by unfold Ir.uses; simp only; rw [if_pos c]; simp)) (by omega)
    · exact ok_num (h5 c) (by omega)
    · exact ok_num (ht a (by unfold Ir.targets; simp only; rw [if_pos c]; simp)) (by omega)
  have HB : Ir.fb op ≠ 0 → (Pt.num b).ok = true := fun hf => by
    have c : Ir.fb op = 0 ∨ Ir.fb op = 1 ∨ Ir.fb op = 3 := by
      unfold Ir.fb
      repeat' split
      all_goals decide
    rcases c with c | c | c
    · exact absurd c hf
    · exact ok_num (hu b (by unfold Ir.uses; simp only; rw [if_pos c]; simp)) (by omega)
    · exact ok_num (ht b (by unfold Ir.targets; simp only; rw [if_pos c]; simp)) (by omega)
  have HC : Ir.fc op = true → ∀ v ∈ args, (Pt.num v).ok = true := fun hf v hv => ok_num (hu v (by unfold Ir.uses; simp only; rw [if_pos hf]; simp [hv])) (by omega)
  clear hu ht h2 h5 f4 h0 ho1 ho2
  have e2 : ∀ {p q : Pt}, p.ok = true → q.ok = true → check [p, q] = 0 := fun hp hq => check_all (fun r hr => by
    simp only [List.mem_cons, List.mem_nil_iff, or_false] at hr
    rcases hr with rfl | rfl <;> assumption)
  have e3 : ∀ {p q r : Pt}, p.ok = true → q.ok = true → r.ok = true → check [p, q, r] = 0 := fun hp hq hr => check_all (fun s hs => by
    simp only [List.mem_cons, List.mem_nil_iff, or_false] at hs
    rcases hs with rfl | rfl | rfl <;> assumption)
  have e1 : ∀ {p : Pt}, p.ok = true → check [p] = 0 := fun hp => check_all (fun r hr => by
    simp only [List.mem_cons, List.mem_nil_iff, or_false] at hr
    rcases hr with rfl
    assumption)
  have ei : ∀ (o : Int) {x : In}, x.op = o → word o false ≠ [] → check (parts (shp x.op false) x) = 0 → insE false x = 0 := fun o x ho hw hc => by
    unfold insE
    rw [ho, if_neg hw, ← ho, hc]
  rcases hop with rfl | rfl | rfl | rfl | rfl | rfl | rfl | rfl | rfl | rfl | rfl | rfl | rfl | rfl
  -- const, copy
  · obtain ⟨rfl, rfl⟩ := FE (by decide); obtain rfl := f3 (by decide); exact ⟨ei 1 rfl (by decide) (e2 (HD (by decide)) (HA (by decide))), rfl⟩
  · obtain ⟨rfl, rfl⟩ := FE (by decide); obtain rfl := f3 (by decide); exact ⟨ei 2 rfl (by decide) (e2 (HD (by decide)) (HA (by decide))), rfl⟩
  -- add, sub, mul, less, div
  · obtain ⟨rfl, rfl⟩ := FE (by decide); exact ⟨ei 3 rfl (by decide) (e3 (HD (by decide)) (HA (by decide)) (HB (by decide))), rfl⟩
  · obtain ⟨rfl, rfl⟩ := FE (by decide); exact ⟨ei 4 rfl (by decide) (e3 (HD (by decide)) (HA (by decide)) (HB (by decide))), rfl⟩
  · obtain ⟨rfl, rfl⟩ := FE (by decide); exact ⟨ei 5 rfl (by decide) (e3 (HD (by decide)) (HA (by decide)) (HB (by decide))), rfl⟩
  · obtain ⟨rfl, rfl⟩ := FE (by decide); exact ⟨ei 6 rfl (by decide) (e3 (HD (by decide)) (HA (by decide)) (HB (by decide))), rfl⟩
  · obtain ⟨rfl, rfl⟩ := FE (by decide); exact ⟨ei 7 rfl (by decide) (e3 (HD (by decide)) (HA (by decide)) (HB (by decide))), rfl⟩
  -- load
  · obtain ⟨rfl, rfl⟩ := FE (by decide); obtain rfl := f3 (by decide); exact ⟨ei 8 rfl (by decide) (e2 (HD (by decide)) (HA (by decide))), rfl⟩
  -- store
  · obtain ⟨rfl, rfl⟩ := FE (by decide); obtain rfl := f1 (by decide); exact ⟨ei 9 rfl (by decide) (e2 (HA (by decide)) (HB (by decide))), rfl⟩
  -- out
  · obtain ⟨rfl, rfl⟩ := FE (by decide); obtain rfl := f1 (by decide); obtain rfl := f3 (by decide); exact ⟨ei 10 rfl (by decide) (e1 (HA (by decide))), rfl⟩
  -- call
  · obtain rfl := f2 (by decide)
    obtain rfl := f3 (by decide)
    refine ⟨ei 11 rfl (by decide) (check_all (fun p hp => ?_)), ?_⟩
    · rcases List.mem_cons.1 (show p ∈ Pt.num d :: Pt.nm name :: args.map Pt.num from hp) with rfl | hp
      · exact HD (by decide)
      · rcases List.mem_cons.1 hp with rfl | hp
        · exact h6 (by decide)
        · obtain ⟨v, hv, rfl⟩ := List.mem_map.1 hp
          exact HC (by decide) v hv
    · show In.mk 11 d 0 0 name ((args.map Pt.num).map Pt.n) = _
      rw [map_num]
  -- jump
  · obtain ⟨rfl, rfl⟩ := FE (by decide); obtain rfl := f1 (by decide); obtain rfl := f3 (by decide); exact ⟨ei 12 rfl (by decide) (e1 (HA (by decide))), rfl⟩
  -- branch
  · obtain ⟨rfl, rfl⟩ := FE (by decide); exact ⟨ei 13 rfl (by decide) (e3 (HA (by decide)) (HB (by decide)) (HD (by decide))), rfl⟩
  -- ret
  · obtain ⟨rfl, rfl⟩ := FE (by decide); obtain rfl := f1 (by decide); obtain rfl := f3 (by decide); exact ⟨ei 14 rfl (by decide) (e1 (HA (by decide))), rfl⟩
theorem may_prints {f : Ir.Fu} (h : Ir.check f = 0) : prE false (cdOf f) = 0 ∧ bare false (cdOf f) = cdOf f := by
  have hm := may_of h
  obtain ⟨⟨h1, h2, h3, h4, h5, h6⟩, _, _⟩ := hm.nums
  have hi : ∀ b ∈ f.blocks, ∀ x ∈ b, insE false x = 0 ∧ bareI false x = x := fun b hb x hx => by
    obtain ⟨k, hk⟩ := List.mem_iff_getElem?.1 hx
    exact one_line h4 (by omega) (hm.ins b hb k x hk)
  constructor
  · unfold prE
    have hh : check (headP false (cdOf f)) = 0 := check_all (fun p hp => by
      rcases List.mem_cons.1 (show p ∈ [Pt.nm f.name, Pt.num f.params, Pt.num f.regs] from hp) with rfl | hp
      · exact hm.name
      · rcases List.mem_cons.1 hp with rfl | hp
        · exact ok_num (m := 5) ⟨h1, by omega⟩ (by omega)
        · rcases List.mem_cons.1 hp with rfl | hp
          · exact ok_num (m := 65) ⟨by omega, by omega⟩ (by omega)
          · cases hp)
    rw [if_pos hh]
    exact blksE_of (fun b hb x hx => (hi b hb x hx).1)
  · have e : (f.blocks.map fun b => b.map (bareI false)) = f.blocks := by
      conv => rhs; rw [← List.map_id f.blocks]
      refine List.map_congr_left (fun b hb => ?_)
      conv => rhs; rw [id, ← List.map_id b]
      exact List.map_congr_left (fun x hx => (hi b hb x hx).2)
    unfold bare cdOf
    simp only [e]
    rfl
end Go.Proofs.YtcoehmmiplffgaaDoor.Tx

/- The reading's steps in memory. -/
namespace Go.Proofs.YtcoehmmiplffgaaDoor
open Go.ChangeShapes Go.WideShapes Go.RowKit Go.Deep

theorem row_grown {w w' : World} {base base' n : Nat} {gv v : Value} {ws : List Value} {l : List Int} (hr : RowI w base v l) {size : Nat} {e : TypeId} (ho : w.ownsRow base' e size gv n ws) (he : e ≠ 3) (hg : w.grownBy w' gv.ownBlock) : RowI w' base v l :=
  row_kb (Kb.of_grown hg) (.inl rfl) hr (fun i hi e' => by
    obtain ⟨-, c1, h1⟩ := own_blk hr hi
    obtain ⟨-, c2, h2⟩ := own_blk ho e'.symm
    exact blk_two h2 h1 he rfl)

theorem PsAt.block {w wr w2 w9 w8 : World} {code : Bool} {s r r2 : List UInt8} {n : Nat} {c : Tx.Cd} {vh gv v7 v8 : Value} {ws : List Value} (h : PsAt w code s n c r vh gv ws wr) (hn : n ≠ 0) (h2 : Below wr.heap.size wr w2) (h9 : Below w2.heap.size w2 w9)
    (h7 : w9.ownsRow w.heap.size 46 6 v7 0 []) (hn7 : ∀ g, v7.ownBlock = some g → w2.heap.size ≤ g) (h8 : w8.ownsRow w.heap.size 31 1 v8 (c.blocks.length + 1) (ws ++ [v7])) (hg8 : w9.grownBy w8 gv.ownBlock)
    (hrem : Rem code s (n + 1) { c with blocks := c.blocks ++ [[]] } r2) (hc : r2.length + (n + 1) ≤ s.length) : PsAt w code s (n + 1) { c with blocks := c.blocks ++ [[]] } r2 vh v8 (ws ++ [v7]) w8 := by
  have hb2 := h.blks.below h2
  have hb9 := hb2.below h9
  have b2 := h.below.trans (h2.mono h.below.size)
  have b9 := b2.trans (h9.mono b2.size)
  have hh := h.head
  rw [if_neg hn] at hh
  refine ⟨hrem, b9.grown hg8 b9.size (fun k e => (own_blk hb9.outer e).1), ?_, Bld.block hb2 h9 h7 hn7 h8 hg8, hc, by rw [List.length_append]; have := h.nb; simp; omega, fun b hb => ?_⟩
  · rw [if_neg (by omega)]
    exact row_grown ((hh.below h2).below h9) hb9.outer ne_blk_int hg8
  · rcases List.mem_append.1 hb with hb | hb
    · have := h.ni b hb
      omega
    · rw [List.mem_singleton.1 hb]
      simp

theorem PsAt.ins {w wr w6 w7 : World} {code : Bool} {s r r2 : List UInt8} {n go : Nat} {c : Tx.Cd} {vh gv v v7 : Value} {ws fl cs : List Value} {m : List (List Ir.In)} {b : List Ir.In} {x : Ir.In} (h : PsAt w code s n c r vh gv ws wr) (hn : n ≠ 0) (h6 : Below wr.heap.size wr w6)
    (hl : c.blocks = m ++ [b]) (hv : ws[m.length]? = some v) (hgo : gv.ownBlock = some go) (hr : w6.ownsRow w.heap.size 46 6 v b.length fl) (hfl : FlO w6 w.heap.size fl b) (hx : InO w6 w.heap.size cs x)
    (h7 : w7.ownsRow w.heap.size 46 6 v7 (b.length + 1) (fl ++ cs)) (hg7 : w6.grownBy w7 v.ownBlock) (hnew : ∀ g, v7.ownBlock = some g → v.ownBlock = some g ∨ w6.heap.size ≤ g)
    (hrem : Rem code s (n + 1) { c with blocks := Tx.addLast c.blocks x } r2) (hc : r2.length + (n + 1) ≤ s.length) : PsAt w code s (n + 1) { c with blocks := Tx.addLast c.blocks x } r2 vh gv (ws.set m.length v7) (w7.setCell ⟨go, m.length, none⟩ v7) := by
  have hb6 := h.blks.below h6
  have b6 := h.below.trans (h6.mono h.below.size)
  have hh := h.head
  rw [if_neg hn] at hh
  have hlb : c.blocks[m.length]? = some b := by rw [hl]; simp
  have hset : Tx.addLast c.blocks x = c.blocks.set m.length (b ++ [x]) := by
    rw [hl, Tx.addLast_at]
    simp
  have hbo := own_blk hb6.outer hgo
  have b7 : Below w.heap.size w w7 := b6.grown hg7 b6.size (fun k e => (own_blk hr e).1)
  refine ⟨hrem, b7.setCell (p := ⟨go, m.length, none⟩) hbo.1 v7, ?_, ?_, hc, ?_, fun d hd => ?_⟩
  · rw [if_neg (by omega)]
    have h1 : RowI w7 w.heap.size vh (numsC code c) := row_grown (hh.below h6) hr ne_ins_int hg7
    refine row_kb (Kb.set go m.length v7) (.inl rfl) h1 (fun i hi e => ?_)
    injection e with e
    subst e
    obtain ⟨-, c1, k1⟩ := own_blk h1 hi
    obtain ⟨-, c2, k2⟩ := hbo
    have k3 : Blk w7 i 31 c2 := k2.grown hg7 (fun e => by
      obtain ⟨-, c3, k3⟩ := own_blk hr e.symm
      exact blk_two k3 k2 ne_ins_blk rfl)
    exact blk_two k3 k1 ne_blk_int rfl
  · show Bld w.heap.size gv (ws.set m.length v7) (Tx.addLast c.blocks x) _
    rw [hset]
    exact Bld.ins hb6 hlb hv hgo hfl hx h7 hg7 hnew
  · show (Tx.addLast c.blocks x).length ≤ n + 1
    rw [hset, List.length_set]
    have := h.nb
    omega
  · have hd' : d ∈ Tx.addLast c.blocks x := hd
    rw [hl, Tx.addLast_at] at hd'
    rcases List.mem_append.1 hd' with hd' | hd'
    · have := h.ni d (by rw [hl]; exact List.mem_append_left _ hd')
      omega
    · rw [List.mem_singleton.1 hd', List.length_append]
      have := h.ni b (by rw [hl]; simp)
      simp
      omega

theorem ok_in {n : Int} (h : (Tx.Pt.num n).ok = true) : -9223372036854775808 ≤ n ∧ n ≤ 9223372036854775807 := by
  have : 0 ≤ n ∧ n ≤ 2147483647 := of_decide_eq_true h
  omega
theorem n_in {l : List Tx.Pt} (h : ∀ p ∈ l, p.ok = true) : In64 (l.map Tx.Pt.n) := by
  intro n hn
  obtain ⟨p, hp, rfl⟩ := List.mem_map.1 hn
  cases p with
  | nm _ => exact (show (-9223372036854775808 : Int) ≤ 0 ∧ (0 : Int) ≤ 9223372036854775807 from by decide)
  | num n => exact ok_in (h _ hp)
theorem in4 {a b c d : Int} (ha : -9223372036854775808 ≤ a ∧ a ≤ 9223372036854775807) (hb : -9223372036854775808 ≤ b ∧ b ≤ 9223372036854775807) (hc : -9223372036854775808 ≤ c ∧ c ≤ 9223372036854775807) (hd : -9223372036854775808 ≤ d ∧ d ≤ 9223372036854775807) : In64 [a, b, c, d] := by
  intro n hn
  simp at hn
  rcases hn with rfl | rfl | rfl | rfl <;> assumption
/-- An instruction that is read is of numbers that an int holds. -/
theorem mk_in64 (k : Nat) (op : Int) (ps : List Tx.Pt) (h : ∀ p ∈ ps, p.ok = true) (ho : -9223372036854775808 ≤ op ∧ op ≤ 9223372036854775807) : In64 [(Tx.mk k op ps).op, (Tx.mk k op ps).d, (Tx.mk k op ps).a, (Tx.mk k op ps).b] ∧ In64 (Tx.mk k op ps).args := by
  have z : (-9223372036854775808 : Int) ≤ 0 ∧ (0 : Int) ≤ 9223372036854775807 := by decide
  have e0 : In64 [] := fun n hn => by cases hn
  unfold Tx.mk
  split
  · exact ⟨in4 ho (ok_in (h _ (by simp))) (ok_in (h _ (by simp))) z, e0⟩
  · exact ⟨in4 ho (ok_in (h _ (by simp))) (ok_in (h _ (by simp))) (ok_in (h _ (by simp))), e0⟩
  · exact ⟨in4 ho z (ok_in (h _ (by simp))) (ok_in (h _ (by simp))), e0⟩
  · exact ⟨in4 ho z (ok_in (h _ (by simp))) z, e0⟩
  · exact ⟨in4 ho (ok_in (h _ (by simp))) z z, n_in (fun p hp => h p (by simp [hp]))⟩
  · exact ⟨in4 ho (ok_in (h _ (by simp))) (ok_in (h _ (by simp))) z, e0⟩
  · exact ⟨in4 ho (ok_in (h _ (by simp))) (ok_in (h _ (by simp))) (ok_in (h _ (by simp))), e0⟩
  · exact ⟨in4 ho z z z, e0⟩
theorem readI_in64 {code : Bool} {u : List UInt8} {os : List (List UInt8)} (h : (Tx.readI code u os).1 = 0) : In64 [(Tx.readI code u os).2.op, (Tx.readI code u os).2.d, (Tx.readI code u os).2.a, (Tx.readI code u os).2.b] ∧ In64 (Tx.readI code u os).2.args := by
  unfold Tx.readI at h ⊢
  cases ho : Tx.opOf code u with
  | none => simp [ho] at h
  | some op =>
    simp only [ho] at h ⊢
    obtain ⟨-, h2, -, -⟩ := Tx.take_ok h
    obtain ⟨hw, hne⟩ := Tx.opOf_some ho
    have h1 := Tx.ops_of (op := op) (code := code) (by rw [hw]; exact hne)
    simp only [Tx.ops, List.mem_cons, List.mem_nil_iff, or_false] at h1
    exact mk_in64 _ _ _ h2 (by omega)
/-- The outer row's cells behind an append onto an inner one. -/
theorem outer_after {w6 w7 : World} {B go n nb : Nat} {gv v : Value} {ws fl : List Value} {l : List (List Ir.In)} (h : Bld B gv ws l w6) (hgo : gv.ownBlock = some go) (hr : w6.ownsRow B 46 6 v nb fl) (hg : w6.grownBy w7 v.ownBlock) : w7.cell? ⟨go, n, none⟩ = w6.cell? ⟨go, n, none⟩ ∧ w7.frozen? ⟨go, n, none⟩ = false := by
  obtain ⟨-, c2, k2⟩ := own_blk h.outer hgo
  have k3 : Blk w7 go 31 c2 := k2.grown hg (fun e => by
    obtain ⟨-, c3, k3⟩ := own_blk hr e.symm
    exact blk_two k3 k2 ne_ins_blk rfl)
  exact ⟨(k3.cell n).trans (k2.cell n).symm, k3.frozen n⟩
theorem outer_cell {w : World} {B go n cap k : Nat} {v : Value} {ws : List Value} {l : List (List Ir.In)} (h : Bld B (.slice (some ⟨go, 0, none⟩) n cap) ws l w) (hv : ws[k]? = some v) : w.cell? ⟨go, k, none⟩ = some v ∧ w.frozen? ⟨go, k, none⟩ = false := by
  have e := World.ownsRow.cells h.outer (g := go) rfl k v hv
  rw [Addr.add_lit, Nat.zero_add] at e
  obtain ⟨-, c2, k2⟩ := own_blk h.outer (g := go) rfl
  exact ⟨e, k2.frozen k⟩
theorem own_form {w : World} {base size n : Nat} {e : TypeId} {v : Value} {xs : List Value} (h : w.ownsRow base e size v n xs) (hn : 0 < n) : ∃ g cap, v = .slice (some ⟨g, 0, none⟩) n cap := by
  obtain ⟨-, ⟨-, h0⟩ | ⟨g, cap, cur, h1, -⟩⟩ := h
  · omega
  · exact ⟨g, cap, h1⟩
end Go.Proofs.YtcoehmmiplffgaaDoor

/- Blocks that are built: the appends. -/
namespace Go.Proofs.YtcoehmmiplffgaaDoor
open Go.ChangeShapes Go.WideShapes Go.RowKit Go.Deep

theorem infoI : (Tryd.prog.info? 46).map (fun i => (i.zero, i.size, i.bytes)) = some (some (.agg #[.int .i64 0, .int .i64 0, .int .i64 0, .int .i64 0, .string ⟨#[]⟩, .slice none 0 0]), 6, 72) := by kernel_rfl
theorem infoB : (Tryd.prog.info? 31).map (fun i => (i.zero, i.size, i.bytes)) = some (some (.slice none 0 0), 1, 24) := by kernel_rfl

theorem run_push_ins {w : World} {base g n : Nat} {v1 : Value} {fl cs : List Value} (h : w.ownsRow base 46 6 v1 n fl) (hl : cs.length = 6) (hc : ∀ j u, cs[j]? = some u → w.cell? ⟨g, j, none⟩ = some u) (h1 : ∀ u ∈ cs, u.oneCell' = true) (hn : n ≤ 1048000) (hb : base ≤ w.heap.size) (ty : TypeId) :
    ∃ v3 w', (Builtin.append_ #[31, 31] ty #[v1, .slice (some ⟨g, 0, none⟩) 1 1]).run Tryd.prog w = .ok v3 w' ∧ w'.ownsRow base 46 6 v3 (n + 1) (fl ++ cs) ∧ w.grownBy w' v1.ownBlock ∧ (∀ k, v3.ownBlock = some k → v1.ownBlock = some k ∨ w.heap.size ≤ k) := by
  obtain ⟨i0, hi, hz0, hz1, hz2⟩ := info_parts infoI
  obtain ⟨v3, w', hr, h2, h3, -, h5⟩ := run_append_own_at (P := Tryd.prog) w base 31 ty 46 i0 (.agg #[.int .i64 0, .int .i64 0, .int .i64 0, .int .i64 0, .string ⟨#[]⟩, .slice none 0 0]) 6 72 Tryd.underlying31 hi hz0 hz1 hz2 rfl (by decide) v1 n fl h ⟨g, 0, none⟩ 1 1 cs (by omega) (fun j u hj => by
    rw [Addr.add_lit, Nat.zero_add]
    exact hc j u hj) h1 (by unfold maxLen; omega) (by omega) hb
  refine ⟨v3, w', hr, h2, h3, fun k hk => ?_⟩
  rcases h5 with h5 | h5
  · exact .inl (by rw [← h5]; exact hk)
  · rw [hk] at h5
    injection h5 with h5
    exact .inr (by omega)
theorem run_push_blk {w : World} {base g n : Nat} {v1 v : Value} {ws : List Value} (h : w.ownsRow base 31 1 v1 n ws) (hc : w.cell? ⟨g, 0, none⟩ = some v) (h1 : v.oneCell' = true) (hn : n ≤ 1048000) (hb : base ≤ w.heap.size) (ty : TypeId) :
    ∃ v3 w', (Builtin.append_ #[22, 22] ty #[v1, .slice (some ⟨g, 0, none⟩) 1 1]).run Tryd.prog w = .ok v3 w' ∧ w'.ownsRow base 31 1 v3 (n + 1) (ws ++ [v]) ∧ w.grownBy w' v1.ownBlock := by
  obtain ⟨i0, hi, hz0, hz1, hz2⟩ := info_parts infoB
  obtain ⟨v3, w', hr, h2, h3, -⟩ := run_append_own_at (P := Tryd.prog) w base 22 ty 31 i0 (.slice none 0 0) 1 24 Tryd.underlying22 hi hz0 hz1 hz2 rfl (by decide) v1 n ws h ⟨g, 0, none⟩ 1 1 [v] rfl (fun j u hj => by
    rw [Addr.add_lit]
    match j, hj with
    | 0, hj => rw [hc]; simpa using hj
    | j + 1, hj => simp at hj) (fun u hu => by simp at hu; rw [hu]; exact h1) (by unfold maxLen; omega) (by omega) hb
  exact ⟨v3, w', hr, h2, h3⟩

theorem wpList_push_blk {ops : Array Oper} {rest : List Oper} {o : Oper} {a : Act} {w : World} {Q : Exit → Act → World → Prop} (hg : o.guard = none) (s x : Operand)
    (ho : o.op = .call { callee := .builtin .append, args := #[s, x], argTypes := #[22, 22] })
    {base g n : Nat} {v1 v : Value} {ws : List Value} (h : w.ownsRow base 31 1 v1 n ws) (hc : w.cell? ⟨g, 0, none⟩ = some v) (h1 : v.oneCell' = true) (hn : n ≤ 1048000) (hb : base ≤ w.heap.size) (hs : a.eval s = v1) (hx : a.eval x = .slice (some ⟨g, 0, none⟩) 1 1)
    (hK : ∀ v3 w', w'.ownsRow base 31 1 v3 (n + 1) (ws ++ [v]) → w.grownBy w' v1.ownBlock → wpList Tryd.prog ops Q rest (a.put o.dst v3) w') : wpList Tryd.prog ops Q (o :: rest) a w := by
  refine wpList_plain hg fun K' hK' => ?_
  obtain ⟨v3, w', hrun, r1, r2⟩ := run_push_blk h hc h1 hn hb o.type
  unfold Oper.wp
  simp [execOp, ho, resolve, invoke, builtin, hs, hx, hrun, Result.andThen]
  exact hK' _ _ (hK v3 w' r1 r2)
theorem step_push_ins {ops : Array Oper} {o : Oper} {a : Act} {w : World} {K : Act → World → Prop} {Q : Exit → Act → World → Prop} {E : Prop} (hg : o.guard = none) (s x : Operand)
    (ho : o.op = .call { callee := .builtin .append, args := #[s, x], argTypes := #[31, 31] })
    {base g n : Nat} {v1 : Value} {fl cs : List Value} (h : w.ownsRow base 46 6 v1 n fl) (hl : cs.length = 6) (hc : ∀ j u, cs[j]? = some u → w.cell? ⟨g, j, none⟩ = some u) (h1 : ∀ u ∈ cs, u.oneCell' = true) (hn : n ≤ 1048000) (hb : base ≤ w.heap.size) (hs : a.eval s = v1) (hx : a.eval x = .slice (some ⟨g, 0, none⟩) 1 1)
    (hK : ∀ v3 w', w'.ownsRow base 46 6 v3 (n + 1) (fl ++ cs) → w.grownBy w' v1.ownBlock → (∀ k, v3.ownBlock = some k → v1.ownBlock = some k ∨ w.heap.size ≤ k) → K (a.put o.dst v3) w') : if Region.wanted o (yielded ops a.tmps) = true then Oper.wp Tryd.prog o a w K Q else E := by
  have hw : Region.wanted o (yielded ops a.tmps) = true := by simp [Region.wanted, hg]
  rw [if_pos hw]
  obtain ⟨v3, w', hrun, r1, r2, r3⟩ := run_push_ins h hl hc h1 hn hb o.type
  unfold Oper.wp
  simp [execOp, ho, resolve, invoke, builtin, hs, hx, hrun, Result.andThen]
  exact hK v3 w' r1 r2 r3
end Go.Proofs.YtcoehmmiplffgaaDoor

/- The document's parse. -/
namespace Go.Proofs.YtcoehmmiplffgaaDoor
open Go.ChangeShapes Go.WideShapes Go.RowKit Go.Deep

def sizeOf' : Value → Nat
  | .string b => b.size
  | _ => 0
theorem blocks_none (w : World) (base : Nat) (hb : base ≤ w.heap.size) : (w.alloc (.cells #[] 31)).ownsRow base 31 1 (.slice (some ⟨w.heap.size, 0, none⟩) 0 0) 0 [] :=
  World.ownsRow_lit (base := base) (e := 31) (size := 1) w #[] 0 hb (by unfold maxLen; omega) rfl
theorem no10 {R : ByteArray} {k : Nat} (h : ∀ j, j < k → ∀ c, R.data.toList[j]? = some c → c ≠ 10) : (10 : UInt8) ∉ R.data.toList.take k := by
  intro hm
  obtain ⟨i, hi, he⟩ := List.mem_iff_getElem.1 hm
  rw [List.length_take] at hi
  rw [List.getElem_take] at he
  exact h i (by omega) 10 (by rw [← he]; exact List.getElem?_eq_getElem _) rfl
theorem split_at {R : ByteArray} {k : Nat} (hk : k < R.size) (h : R[k] = 10) : R.data.toList = (R.extract 0 k).data.toList ++ 10 :: (R.extract (k + 1) R.size).data.toList := by
  have e1 := byte_at hk
  rw [h] at e1
  obtain ⟨h5, h6⟩ := List.getElem?_eq_some_iff.1 e1
  have hl := bytes_length R
  rw [ext_list, ext_list, Tx.list_mkB, Tx.list_mkB]
  rw [List.drop_zero, Nat.sub_zero, List.take_of_length_le (l := R.data.toList.drop (k + 1)) (by rw [List.length_drop]; omega)]
  conv => lhs; rw [← List.take_append_drop k R.data.toList, List.drop_eq_getElem_cons h5, h6]
theorem ext_take (R : ByteArray) (k : Nat) : (R.extract 0 k).data.toList = R.data.toList.take k := by rw [ext_list, Tx.list_mkB, List.drop_zero, Nat.sub_zero]

theorem words_len : ∀ l : List UInt8, (Tx.words l).length ≤ l.length + 1
  | [] => Nat.le_refl _
  | c :: l => by
    have ih := words_len l
    rw [Tx.words]
    split
    · simp only [List.length_cons]; omega
    · cases h : Tx.words l with
      | nil => simp
      | cons w ws => rw [h] at ih; simp only [List.length_cons] at ih ⊢; omega
theorem readL_one (code : Bool) (c : Tx.Cd) (u : List UInt8) (os : List (List UInt8)) : Tx.readL code (0 + 1) c (u :: os) = if u = Tx.first code then ((Tx.take (Tx.headK code) os).1, Tx.setHead c (Tx.take (Tx.headK code) os).2) else (80, c) := by simp [Tx.readL]
theorem readL_blk (code : Bool) {n : Nat} (hn : n ≠ 0) (c : Tx.Cd) (os : List (List UInt8)) : Tx.readL code (n + 1) c (Tx.blockW :: os) = if os = [] then (0, { c with blocks := c.blocks ++ [[]] }) else (80, c) := (if_neg (by omega)).trans (if_pos rfl)
theorem readL_ins (code : Bool) {n : Nat} (hn : n ≠ 0) (c : Tx.Cd) {u : List UInt8} (hu : u ≠ Tx.blockW) (os : List (List UInt8)) : Tx.readL code (n + 1) c (u :: os) = if c.blocks = [] then (80, c) else ((Tx.readI code u os).1, { c with blocks := Tx.addLast c.blocks (Tx.readI code u os).2 }) := (if_neg (by omega)).trans (if_neg hu)
/-- A line's words, as the reading takes them. -/
theorem rwords_line (T : ByteArray) (u : List UInt8) (os : List (List UInt8)) (hw : Tx.words T.data.toList = u :: os) (wr : World) (hs : T.size ≤ 1000000) :
    Calls Tryd.prog 35 #[.string T] wr fun e w' => (∃ gw cw, e = .returned (.slice (some ⟨gw, 0, none⟩) (os.length + 1) cw) ∧ os.length + 1 ≤ cw ∧ wr.heap.size ≤ gw ∧ w'.cell? ⟨gw, 0, none⟩ = some (.string (Tx.mkB u)) ∧ Strs w' (.slice (some ⟨gw, 0, none⟩) (os.length + 1) cw) (Tx.mkB u :: os.map Tx.mkB)) ∧ Below wr.heap.size wr w' := by
  refine (rwords_any T wr hs).mono ?_
  rintro e w' ⟨v, rfl, hr, hb⟩
  refine ⟨?_, hb⟩
  have hB : wordsB T.data.toList = Tx.mkB u :: os.map Tx.mkB := by unfold wordsB; rw [hw]; rfl
  rw [hB] at hr
  have hS := Strs.of_row hr
  have hr' := hr
  obtain ⟨-, ⟨rfl, h0⟩ | ⟨g, cap, cur, rfl, hg, -, hc, -⟩⟩ := hr
  · simp at h0
  · have hl : (Tx.mkB u :: os.map Tx.mkB).length = os.length + 1 := by simp
    rw [hl] at hS hc
    refine ⟨g, cap, by rw [hl], hc, hg, ?_, hS⟩
    have := World.ownsRow.cells hr' (g := g) rfl 0 (.string (Tx.mkB u)) rfl
    rw [Addr.add_lit] at this
    exact this
theorem maps_back (os : List (List UInt8)) : (os.map Tx.mkB).map (fun b => b.data.toList) = os := by
  rw [List.map_map]
  conv => rhs; rw [← List.map_id os]
  exact List.map_congr_left (fun x _ => Tx.list_mkB x)

set_option maxRecDepth 100000 in
set_option maxHeartbeats 20000000 in
theorem rparse_any (s : ByteArray) (code : Bool) (w : World) (hs : s.size ≤ 1000000) :
    Calls Tryd.prog 24 #[.string s, .string ⟨(Tx.first code).toArray⟩, .int .i64 (if code then 4 else 3), .bool code] w (ParsePost code (Tx.parse code s.data.toList) w) := by
  obtain ⟨F, hF⟩ : ∃ F, F = (⟨(Tx.first code).toArray⟩ : ByteArray) := ⟨_, rfl⟩
  obtain ⟨M, hM⟩ : ∃ M : Nat, M = if code then 4 else 3 := ⟨_, rfl⟩
  have hMi : (if code = true then (4 : Int) else 3) = (M : Int) := by rw [hM]; cases code <;> rfl
  rw [← hF, hMi]
  have hM4 : M ≤ 4 := by rw [hM]; split <;> omega
  have HFM := Lib.hid (And.intro hF (And.intro hM hM4))
  have HQ : PsAt w code s.data.toList 0 Tx.Cd.zero s.data.toList (.slice (some ⟨w.heap.size, 0, none⟩) 0 0) (.slice (some ⟨w.heap.size + 1, 0, none⟩) 0 0) [] ((w.alloc (.cells #[] 3)).alloc (.cells #[] 31)) := by
    have h1 := (Below.refl w.heap.size w).alloc (Nat.le_refl _) (.cells #[] 3)
    have h3 := blocks_none (w.alloc (.cells #[] 3)) w.heap.size h1.size
    rw [show (w.alloc (.cells #[] 3)).heap.size = w.heap.size + 1 by simp] at h3
    exact ⟨.inl ⟨rfl, rfl, rfl⟩, h1.alloc h1.size _, (row_none w w.heap.size (Nat.le_refl _)).alloc _, ⟨h3, fun j b h => by simp [Tx.Cd.zero] at h, fun j j' v v' g _ h => by simp at h⟩, by omega, Nat.le_refl _, fun b hb => by simp [Tx.Cd.zero] at hb⟩
  have HQ0 := Lib.hid HQ
  have HS := Lib.hid hs
  clear HQ hF hM hMi hM4
  go_enter Tryd.func24, Tryd.ntmps24
  go_wp2_with fail
  go_loopw [0, 13, 14, 15, 16] (fun v0 vn vh gv v16 wr => ∃ (R : ByteArray) (n : Nat) (c : Tx.Cd) (ws : List Value), R.size ≤ 1000000 ∧ n ≤ 1000000 ∧ v0 = .string R ∧ vn = .string c.name ∧ v16 = .int .i64 (n : Int) ∧ Hid (PsAt w code s.data.toList n c R.data.toList vh gv ws wr)) (fun v0 _ _ _ _ _ => sizeOf' v0)
  case atStart => exact ⟨s, 0, Tx.Cd.zero, [], hs, by omega, rfl, rfl, rfl, HQ0⟩
  case round =>
    obtain ⟨R, n, c, ws, hR, hn, rfl, rfl, rfl, HP⟩ := hrel
    have hRi : (R.size : Int) ≤ 1000000 := by omega
    have hni : (n : Int) ≤ 1000000 := by omega
    by_cases hend : R.data.toList = [] ∧ n ≠ 0
    · obtain ⟨h1, h2⟩ := hend
      obtain rfl : R = ⟨#[]⟩ := by rw [← Tx.mkB_list R, h1]; rfl
      have hn0 : ((n : Int) == 0) = false := by rw [beq_eq_false_iff_ne]; omega
      have HD := Lib.hid (show Tx.parse code s.data.toList = (0, 0, c) from HP.out.rem.done h2)
      have HH := Lib.hid (show RowI wr w.heap.size u14 (numsC code c) by have := HP.out.head; rw [if_neg h2] at this; exact this)
      clear h1 h2
      go_wp2_with fail
      refine bodyPost_ret (results_tmp5 rfl _ _ _) rfl ?_
      exact ⟨HP.out.below, .inl ⟨by rw [HD.out], _, _, by rw [HD.out] <;> rfl, by rw [HD.out]; exact HH.out, by rw [HD.out]; exact BlkF.of_bld HP.out.blks (Nat.le_refl _)⟩⟩
    · by_cases he : R.data.toList = []
      · have hn0 : n = 0 := Classical.byContradiction fun h => hend ⟨he, h⟩
        subst hn0
        have HD := Lib.hid (show Tx.parse code s.data.toList = (80, 1, Tx.Cd.zero) from HP.out.rem.nolf (fun _ => rfl) (by rw [he]; simp))
        have HB := Lib.hid HP.out.below
        obtain rfl : R = ⟨#[]⟩ := by rw [← Tx.mkB_list R, he]; rfl
        clear he hend HP HQ0
        go_wp2_with fail
        go_loop [17] (fun v => v = .int .i64 0) (fun _ => 0)
        case atStart => rfl
        case round =>
          subst hrel
          go_wp2_with fail
          refine bodyPost_ret (results_tmp5 rfl _ _ _) rfl ?_
          exact parsePost_no HD.out (by decide) HB.out
      · have hwe : (R.toList == []) = false := by rw [beq_eq_false_iff_ne, ByteArray.toList_eq]; exact he
        have hwe2 : R.toList.isEmpty = false := by rw [ByteArray.toList_eq]; simpa using he
        have HE := Lib.hid he
        clear he hend
        go_wp2_with fail
        go_loop [17] (fun v => ∃ k : Nat, k ≤ R.size ∧ v = .int .i64 (k : Int) ∧ Hid (∀ j, j < k → ∀ c, R.data.toList[j]? = some c → c ≠ 10)) (fun v => R.size - (intOf v).toNat)
        case atStart => exact ⟨0, Nat.zero_le _, rfl, Lib.hid (fun j h => absurd h (Nat.not_lt_zero _))⟩
        case round =>
          obtain ⟨k, hk, rfl, HK⟩ := hrel
          by_cases hlt : k < R.size
          · have hki : (k : Int) < (R.size : Int) := by omega
            by_cases h10 : R[k] = 10
            · have hb10 : ((R[k].toNat : Int) != 10) = false := by rw [h10]; rfl
              have hne : ((k : Int) == (R.size : Int)) = false := by rw [beq_eq_false_iff_ne]; omega
              have hspl := split_at hlt h10
              have hc10 := no10 HK.out
              rw [← ext_take] at hc10
              have hz1 : (R.extract 0 k).size = k := by rw [ByteArray.size_extract]; omega
              have hz2 : (R.extract (k + 1) R.size).size = R.size - (k + 1) := by rw [ByteArray.size_extract]; omega
              obtain ⟨T, hT⟩ : ∃ T, T = R.extract 0 k := ⟨_, rfl⟩
              obtain ⟨R2, hR2⟩ : ∃ R2, R2 = R.extract (k + 1) R.size := ⟨_, rfl⟩
              rw [← hT] at hspl hc10 hz1
              rw [← hR2] at hspl hz2
              have hrem := HP.out.rem
              rw [hspl] at hrem
              have hline := hrem.line hc10
              obtain ⟨u, os, hw, -⟩ := Tx.join_words T.data.toList
              rw [hw] at hline
              have hol : os.length ≤ 1000000 := by
                have := words_len T.data.toList
                rw [hw, bytes_length] at this
                simp only [List.length_cons] at this
                omega
              have HLINE := Lib.hid hline
              have HWO := Lib.hid (rwords_line T u os hw wr (by omega))
              obtain ⟨U, hU⟩ : ∃ U, U = Tx.mkB u := ⟨_, rfl⟩
              rw [← hU] at HWO
              have HOL := Lib.hid hol
              have holi : (os.length : Int) ≤ 1000000 := by omega
              have HU := Lib.hid (And.intro hU (maps_back os))
              have hcnt := HP.out.cnt
              rw [hspl] at hcnt
              have HCNT := Lib.hid (show R2.data.toList.length + (n + 1) ≤ s.data.toList.length by simp only [List.length_append, List.length_cons] at hcnt; omega)
              have HSZ := Lib.hid (show R2.size ≤ 1000000 ∧ R2.size < R.size by omega)
              have HN1 := Lib.hid (show n + 1 ≤ 1000000 by have := HCNT.out; rw [bytes_length s] at this; have := HS.out; omega)
              have e1 := hT.symm
              have e2 := hR2.symm
              have hk1 : (k : Int) + 1 ≤ (R.size : Int) := by omega
              clear h10 hspl hc10 hz1 hz2 hrem hline hw hol hU hcnt hT hR2 hwe hwe2 HQ0
              by_cases hn0 : n = 0
              · subst hn0
                obtain rfl : c = Tx.Cd.zero := by
                  rcases HP.out.rem with ⟨-, h, -⟩ | ⟨h, -⟩
                  · exact h
                  · omega
                by_cases hf : u = Tx.first code
                · have hUF : U = F := by rw [HU.out.1, HFM.out.1, hf]; rfl
                  subst hUF
                  have hrl : Tx.readL code (0 + 1) Tx.Cd.zero (u :: os) = ((Tx.take (kAt 0 M) os).1, Tx.setHead Tx.Cd.zero (Tx.take (kAt 0 M) os).2) := by
                    rw [readL_one, if_pos hf, headK_is, ← HFM.out.2.1]
                  have HRD := Lib.hid (fun (gw cw : Nat) (W : World) (hW : Strs W (.slice (some ⟨gw, 0, none⟩) (os.length + 1) cw) (U :: os.map Tx.mkB)) => (show Calls Tryd.prog 36 #[.slice (some ⟨gw, 0, none⟩) (os.length + 1) cw, .int .i64 (M : Int), .int .i64 0] W _ from rread_any _ U (os.map Tx.mkB) M 0 W hW (by have := HFM.out.2.2; omega) (by omega) (by rw [List.length_map]; exact HOL.out)))
                  rw [HU.out.2] at HRD
                  obtain ⟨q, hq⟩ : ∃ q, q = Tx.take (kAt 0 M) os := ⟨_, rfl⟩
                  have HT := Lib.hid (fun (h : q.1 = 0) => Tx.take_ok (by rw [← hq]; exact h))
                  rw [← hq] at hrl HRD HT
                  clear hf
                  by_cases h0 : q.1 = 0
                  · obtain ⟨-, -, his, -⟩ := HT.out h0
                    rw [show kAt 0 M = Tx.headK code by rw [headK_is, ← HFM.out.2.1]] at his
                    obtain ⟨hh1, hh2, hh3⟩ := head_read his
                    obtain ⟨C, hC⟩ : ∃ C, C = Tx.setHead Tx.Cd.zero q.2 := ⟨_, rfl⟩
                    rw [← hC] at hh1 hh2 hh3
                    have HREM := Lib.hid (show Rem code s.data.toList (0 + 1) C R2.data.toList by
                      rcases HLINE.out with ⟨-, h⟩ | ⟨h, -⟩
                      · rw [hrl, ← hC] at h; exact h
                      · rw [hrl] at h; exact absurd h0 h)
                    have HHH := Lib.hid (And.intro hh2 hh3)
                    have HRR := Lib.hid (fun (gw cw : Nat) (W : World) (hW : Strs W (.slice (some ⟨gw, 0, none⟩) (os.length + 1) cw) (U :: os.map Tx.mkB)) => (HRD.out gw cw W hW).mono (R' := fun e w' => (∃ v, e = .returned (.tuple #[v, .string C.name, .int .i64 0]) ∧ RowI w' W.heap.size v (numsC code C)) ∧ Below W.heap.size W w') (by
                      rintro e w2 ⟨hb2, ⟨-, v2, rfl, hr2⟩ | ⟨h2, -⟩⟩
                      · exact ⟨⟨v2, by rw [hh1], by rw [hh2]; exact hr2⟩, hb2⟩
                      · exact absurd h0 h2))
                    clear hrl hq HT his hh1 hh2 hh3 hC h0 HRD HLINE
                    go_upto_region 27 with first
                      | (go_at_call 35; (with_reducible refine HWO.out.mono ?_); rintro e w2 ⟨⟨gw, cw, rfl, hcw, hgw, hc0, hst⟩, hb2⟩; have HB2 := Lib.hid hb2; have HR3 := Lib.hid (HRR.out gw cw w2 hst); clear hgw hst hb2)
                      | (go_at_call 36; (with_reducible refine HR3.out.mono ?_); rintro e w3 ⟨⟨v3, rfl, hrow⟩, hb3⟩; have HB3 := Lib.hid hb3; have HROW := Lib.hid hrow; clear hrow hb3)
                    have hbb := HP.out.below.trans (HB2.out.mono HP.out.below.size)
                    have HPN := Lib.hid (show PsAt w code s.data.toList 1 C R2.data.toList v3 u15 ws w3 from
                      ⟨HREM.out, hbb.trans (HB3.out.mono hbb.size), HROW.out.less hbb.size, by
                        rw [HHH.out.2]
                        exact (HP.out.blks.below HB2.out).below HB3.out, HCNT.out, by rw [HHH.out.2]; exact Nat.zero_le _, fun b hb => by rw [HHH.out.2] at hb; cases hb⟩)
                    clear hbb
                    go_wp2_with fail
                    go_roundw
                    case rel => exact ⟨R2, 1, C, ws, HSZ.out.1, by omega, rfl, rfl, by go_num, HPN⟩
                    case measure => exact HSZ.out.2
                  · obtain ⟨E, hE⟩ : ∃ E, E = q.1 := ⟨_, rfl⟩
                    have HD := Lib.hid (show Tx.parse code s.data.toList = (E, 1, Tx.Cd.zero) by
                      rcases HLINE.out with ⟨h, -⟩ | ⟨-, h⟩
                      · rw [hrl] at h; exact absurd h h0
                      · rw [h, hrl, hE])
                    have HRR := Lib.hid (fun (gw cw : Nat) (W : World) (hW : Strs W (.slice (some ⟨gw, 0, none⟩) (os.length + 1) cw) (U :: os.map Tx.mkB)) => (HRD.out gw cw W hW).mono (R' := fun e w' => e = .returned (.tuple #[.slice none 0 0, .string ⟨#[]⟩, .int .i64 E]) ∧ Below W.heap.size W w') (by
                      rintro e w2 ⟨hb2, ⟨h2, -⟩ | ⟨-, rfl⟩⟩
                      · exact absurd h2 h0
                      · exact ⟨by rw [hE], hb2⟩))
                    rw [← hE] at h0
                    have hne2 : (E != 0) = true := by simpa using h0
                    have HNZ := Lib.hid h0
                    clear hrl hq HT hE h0 HRD HLINE
                    go_upto_region 26 with first
                      | (go_at_call 35; (with_reducible refine HWO.out.mono ?_); rintro e w2 ⟨⟨gw, cw, rfl, hcw, hgw, hc0, hst⟩, hb2⟩; have HB2 := Lib.hid hb2; have HR3 := Lib.hid (HRR.out gw cw w2 hst); clear hgw hst hb2)
                      | (go_at_call 36; (with_reducible refine HR3.out.mono ?_); rintro e w3 ⟨rfl, hb3⟩; have HB3 := Lib.hid hb3; clear hb3)
                    have hbb := HP.out.below.trans (HB2.out.mono HP.out.below.size)
                    have HBB := Lib.hid (hbb.trans (HB3.out.mono hbb.size))
                    clear hbb
                    go_wp2_with fail
                    refine bodyPost_ret (results_tmp5 rfl _ _ _) rfl ?_
                    exact parsePost_no (k := 1) HD.out HNZ.out HBB.out
                · have hne2 : (U.toList == F.toList) = false := by
                    rw [beq_eq_false_iff_ne, ByteArray.toList_eq, ByteArray.toList_eq, HU.out.1, HFM.out.1, Tx.list_mkB]
                    exact hf
                  have HD := Lib.hid (show Tx.parse code s.data.toList = (80, 1, Tx.Cd.zero) from by
                    have hrl : Tx.readL code (0 + 1) Tx.Cd.zero (u :: os) = (80, Tx.Cd.zero) := by rw [readL_one, if_neg hf]
                    rcases HLINE.out with ⟨h, -⟩ | ⟨-, h⟩
                    · rw [hrl] at h; exact absurd h (by decide)
                    · rw [h, hrl])
                  clear hf
                  go_upto_region 22 with first
                    | (go_at_call 35; (with_reducible refine HWO.out.mono ?_); rintro e w2 ⟨⟨gw, cw, rfl, hcw, hgw, hc0, hst⟩, hb2⟩; have HB2 := Lib.hid hb2; have HST := Lib.hid (And.intro hgw hst); clear hgw hst hb2)
                  go_wp2_with fail
                  refine bodyPost_ret (results_tmp5 rfl _ _ _) rfl ?_
                  exact parsePost_no (k := 1) HD.out (by decide) (HP.out.below.trans (HB2.out.mono HP.out.below.size))
              · have hn1 : ((n : Int) + 1 == 1) = false := by rw [beq_eq_false_iff_ne]; omega
                obtain ⟨gA, gcap, hgv⟩ := row_slice HP.out.blks.outer
                subst hgv
                have HNZ0 := Lib.hid hn0
                by_cases hbw : u = Tx.blockW
                · have hUB : U = ⟨#[98, 108, 111, 99, 107]⟩ := by rw [HU.out.1, hbw]; rfl
                  subst hbw
                  subst hUB
                  have hrl := readL_blk code hn0 c os
                  by_cases ho : os = []
                  · subst ho
                    rw [if_pos rfl] at hrl
                    have HREM := Lib.hid (show Rem code s.data.toList (n + 1) { c with blocks := c.blocks ++ [[]] } R2.data.toList by
                      rcases HLINE.out with ⟨-, h⟩ | ⟨h, -⟩
                      · rw [hrl] at h; exact h
                      · rw [hrl] at h; exact absurd rfl h)
                    clear hrl hn0 HLINE
                    go_upto_region 32 with first
                      | (go_at_call 35; (with_reducible refine HWO.out.mono ?_); rintro e w2 ⟨⟨gw, cw, rfl, hcw, hgw, hc0, hst⟩, hb2⟩; have HB2 := Lib.hid hb2; have HST := Lib.hid (And.intro hgw hst); clear hgw hst hb2)
                    have HBL := Lib.hid (HP.out.blks.below HB2.out)
                    have hba : Below w2.heap.size w2 (w2.alloc (.cells #[] 46)) := (Below.refl _ _).alloc (Nat.le_refl _) _
                    have hbc := hba.alloc hba.size (.cells #[.slice (some ⟨w2.heap.size, 0, none⟩) 0 0] 31)
                    have hrow7 : (w2.alloc (.cells #[] 46)).ownsRow w.heap.size 46 6 (.slice (some ⟨w2.heap.size, 0, none⟩) 0 0) 0 [] :=
                      World.ownsRow_lit (base := w.heap.size) (e := 46) (size := 6) w2 #[] 0 (Nat.le_trans HP.out.below.size HB2.out.size) (by unfold maxLen; omega) rfl
                    have HBC := Lib.hid (And.intro hbc (hrow7.kept (row := none) (World.grownBy_alloc _ (.cells #[.slice (some ⟨w2.heap.size, 0, none⟩) 0 0] 31) none) (.inr (by simp [Value.ownBlock]))))
                    have hcl := (Blk.new (w2.alloc (.cells #[] 46)) 31 #[.slice (some ⟨w2.heap.size, 0, none⟩) 0 0]).cell 0
                    rw [show (w2.alloc (.cells #[] 46)).heap.size = w2.heap.size + 1 by simp] at hcl
                    have HCL := Lib.hid hcl
                    have HBD := Lib.hid (HBL.out.below hbc)
                    have HSM := Lib.hid (show c.blocks.length ≤ 1048000 by have := HP.out.nb; have := HN1.out; omega)
                    clear hba hbc hrow7 hcl
                    go_wp2_with (at_builtin; refine wpList_push_blk rfl (.tmp 118) (.tmp 120) rfl HBD.out.outer HCL.out rfl HSM.out (Nat.le_trans (Nat.le_trans HP.out.below.size HB2.out.size) HBC.out.1.size) rfl rfl ?_; intro v8 w8 hr8 hg8; have HR8 := Lib.hid hr8; have HG8 := Lib.hid hg8; clear hr8 hg8)
                    go_roundw
                    case rel => exact ⟨R2, n + 1, { c with blocks := c.blocks ++ [[]] }, ws ++ [.slice (some ⟨w2.heap.size, 0, none⟩) 0 0], HSZ.out.1, HN1.out, rfl, rfl, by go_num, Lib.hid (HP.out.block HNZ0.out HB2.out HBC.out.1 HBC.out.2 (fun g hg => by simp [Value.ownBlock] at hg; omega) HR8.out HG8.out HREM.out HCNT.out)⟩
                    case measure => exact HSZ.out.2
                  · rw [if_neg ho] at hrl
                    have HD := Lib.hid (show Tx.parse code s.data.toList = (80, n + 1, Tx.Cd.zero) by
                      rcases HLINE.out with ⟨h, -⟩ | ⟨-, h⟩
                      · rw [hrl] at h; exact absurd (show (80 : Int) = 0 from h) (by decide)
                      · rw [h, hrl])
                    have hol1 : ((os.length : Int) + 1 != 1) = true := by
                      rw [bne_iff_ne]
                      have := List.length_pos_iff.2 ho
                      omega
                    have hol2 : ((os.length : Int) + 1 == 1) = false := by
                      rw [beq_eq_false_iff_ne]
                      have := List.length_pos_iff.2 ho
                      omega
                    clear hrl hn0 HLINE ho
                    go_upto_region 31 with first
                      | (go_at_call 35; (with_reducible refine HWO.out.mono ?_); rintro e w2 ⟨⟨gw, cw, rfl, hcw, hgw, hc0, hst⟩, hb2⟩; have HB2 := Lib.hid hb2; have HST := Lib.hid (And.intro hgw hst); clear hgw hst hb2)
                    go_wp2_with fail
                    refine bodyPost_ret (results_tmp5 rfl _ _ _) rfl ?_
                    exact parsePost_no (k := n + 1) HD.out (by decide) (HP.out.below.trans (HB2.out.mono HP.out.below.size))
                · have hne2 : (U.toList == [98, 108, 111, 99, 107]) = false := by
                    rw [beq_eq_false_iff_ne, ByteArray.toList_eq, HU.out.1, Tx.list_mkB]
                    exact hbw
                  have hrl := readL_ins code hn0 c hbw os
                  clear hbw
                  by_cases hcb : c.blocks = []
                  · rw [if_pos hcb] at hrl
                    have HD := Lib.hid (show Tx.parse code s.data.toList = (80, n + 1, Tx.Cd.zero) by
                      rcases HLINE.out with ⟨h, -⟩ | ⟨-, h⟩
                      · rw [hrl] at h; exact absurd (show (80 : Int) = 0 from h) (by decide)
                      · rw [h, hrl])
                    have hl0 : ((c.blocks.length : Int) == 0) = true := by rw [hcb]; rfl
                    clear hrl hn0 HLINE hcb
                    go_upto_region 15 with first
                      | (go_at_call 35; (with_reducible refine HWO.out.mono ?_); rintro e w2 ⟨⟨gw, cw, rfl, hcw, hgw, hc0, hst⟩, hb2⟩; have HB2 := Lib.hid hb2; have HST := Lib.hid (And.intro hgw hst); clear hgw hst hb2)
                    go_wp2_with fail
                    refine bodyPost_ret (results_tmp5 rfl _ _ _) rfl ?_
                    exact parsePost_no (k := n + 1) HD.out (by decide) (HP.out.below.trans (HB2.out.mono HP.out.below.size))
                  · rw [if_neg hcb] at hrl
                    have hlp := List.length_pos_iff.2 hcb
                    have hl0 : ((c.blocks.length : Int) == 0) = false := by rw [beq_eq_false_iff_ne]; omega
                    have HINS := Lib.hid (fun (gw cw : Nat) (W : World) (hW : Strs W (.slice (some ⟨gw, 0, none⟩) (os.length + 1) cw) (U :: os.map Tx.mkB)) => (show Calls Tryd.prog 37 #[.slice (some ⟨gw, 0, none⟩) (os.length + 1) cw, .bool code] W _ from rins_any _ U (os.map Tx.mkB) code W hW (by rw [List.length_map]; exact HOL.out)))
                    have hUl : U.data.toList = u := by rw [HU.out.1, Tx.list_mkB]
                    rw [HU.out.2, hUl] at HINS
                    obtain ⟨q, hq⟩ : ∃ q, q = Tx.readI code u os := ⟨_, rfl⟩
                    rw [← hq] at hrl HINS
                    by_cases h0 : q.1 = 0
                    · have hin := readI_in64 (code := code) (u := u) (os := os) (by rw [← hq]; exact h0)
                      rw [← hq] at hin
                      obtain ⟨E0, x⟩ := q
                      simp only at h0 hin
                      subst h0
                      have HIN := Lib.hid hin
                      have HREM := Lib.hid (show Rem code s.data.toList (n + 1) { c with blocks := Tx.addLast c.blocks x } R2.data.toList by
                        rcases HLINE.out with ⟨-, h⟩ | ⟨h, -⟩
                        · rw [hrl] at h; exact h
                        · rw [hrl] at h; exact absurd rfl h)
                      have HRR := Lib.hid (fun (gw cw : Nat) (W : World) (hW : Strs W (.slice (some ⟨gw, 0, none⟩) (os.length + 1) cw) (U :: os.map Tx.mkB)) => (HINS.out gw cw W hW).mono (R' := fun e w' => (∃ A cp, e = .returned (.tuple #[.agg #[.int .i64 x.op, .int .i64 x.d, .int .i64 x.a, .int .i64 x.b, .string x.name, .slice A x.args.length cp], .int .i64 0]) ∧ RowI w' W.heap.size (.slice A x.args.length cp) x.args) ∧ Below W.heap.size W w') (by
                        rintro e w2 ⟨hb2, ⟨-, sl, rfl, hr2⟩ | ⟨h2, -⟩⟩
                        · obtain ⟨A, cp, rfl⟩ := row_slice hr2
                          exact ⟨⟨A, cp, rfl, hr2⟩, hb2⟩
                        · exact absurd rfl h2))
                      obtain ⟨go, gc2, hgo⟩ := own_form HP.out.blks.outer hlp
                      injection hgo with hgo1 hgo2 hgo3
                      subst hgo1
                      obtain ⟨m, b, hmb⟩ := Tx.split_last hcb
                      have hml : c.blocks.length = m.length + 1 := by rw [hmb]; simp
                      have hmi : (c.blocks.length : Int) - 1 = (m.length : Int) := by omega
                      have hmlt : (m.length : Int) < (c.blocks.length : Int) := by omega
                      have hmm : (m.length : Int) ≤ 1000000 := by have := HP.out.nb; omega
                      have hmw : wrap64 (m.length : Int) = (m.length : Int) := by unfold wrap64; omega
                      have hmw2 : wrap64 ((c.blocks.length : Int) - 1) = (m.length : Int) := by rw [hmi, hmw]
                      have hbi : c.blocks[m.length]? = some b := by rw [hmb]; simp
                      have HMB := Lib.hid (And.intro hmb (And.intro hbi (show b.length ≤ 1048000 by have := HP.out.ni b (by rw [hmb]; simp); have := HN1.out; omega)))
                      clear hrl hq HINS HLINE hUl hcb hlp hgo2 hgo3 hin hmb hbi hn0 hml
                      go_upto_region 20 with first
                        | (go_at_call 35; (with_reducible refine HWO.out.mono ?_); rintro e w2 ⟨⟨gw, cw, rfl, hcw, hgw, hc0, hst⟩, hb2⟩; have HB2 := Lib.hid hb2; have HR3 := Lib.hid (HRR.out gw cw w2 hst); clear hgw hst hb2)
                        | (go_at_call 37; (with_reducible refine HR3.out.mono ?_); rintro e w3 ⟨⟨xA, xcp, rfl, hxr⟩, hb3⟩; have HB3 := Lib.hid hb3; have HXR := Lib.hid hxr; clear hb3 hxr)
                      have hb4 := (Below.refl w3.heap.size w3).alloc (Nat.le_refl _) (.cells #[.int .i64 x.op, .int .i64 x.d, .int .i64 x.a, .int .i64 x.b, .string x.name, .slice xA x.args.length xcp] 46)
                      have hx4 := Blk.new w3 46 #[.int .i64 x.op, .int .i64 x.d, .int .i64 x.a, .int .i64 x.b, .string x.name, .slice xA x.args.length xcp]
                      generalize w3.alloc (.cells #[.int .i64 x.op, .int .i64 x.d, .int .i64 x.a, .int .i64 x.b, .string x.name, .slice xA x.args.length xcp] 46) = w4 at *
                      have hbD : Below w4.heap.size w4 w4.drew := (Below.refl _ _).drew
                      have hb6 : Below w4.heap.size w4 (w4.alloc (.cells #[.int .i64 x.op, .int .i64 x.d, .int .i64 x.a, .int .i64 x.b, .string x.name, .slice xA x.args.length xcp] 46)).drew := ((Below.refl _ _).alloc (Nat.le_refl _) _).drew
                      have bld4 := ((HP.out.blks.below HB2.out).below HB3.out).below hb4
                      have bldD := bld4.below hbD
                      have bld6 := bld4.below hb6
                      obtain ⟨v, fl, hv, hr6, hfl6⟩ := bld6.inner m.length b HMB.out.2.1
                      obtain ⟨vA, vcap, hvf⟩ := row_slice hr6
                      subst hvf
                      obtain ⟨d0, f0⟩ := outer_cell bldD hv
                      obtain ⟨d1, f1⟩ := outer_cell (bld4.below ((Below.refl w4.heap.size w4).alloc (Nat.le_refl _) (.cells #[.int .i64 x.op, .int .i64 x.d, .int .i64 x.a, .int .i64 x.b, .string x.name, .slice xA x.args.length xcp] 46))) hv
                      obtain ⟨d2, f2⟩ := outer_cell bld6 hv
                      obtain ⟨x0, x1, x2, x3, x4, x5⟩ := cells6 hx4.drew
                      have s2 := HP.out.below.size
                      have s3 := Nat.le_trans s2 HB2.out.size
                      have s4 := Nat.le_trans s3 HB3.out.size
                      have HW6 := Lib.hid (show Below wr.heap.size wr (w4.alloc (.cells #[.int .i64 x.op, .int .i64 x.d, .int .i64 x.a, .int .i64 x.b, .string x.name, .slice xA x.args.length xcp] 46)).drew from ((HB2.out.trans (HB3.out.mono HB2.out.size)).trans (hb4.mono (Nat.le_trans HB2.out.size HB3.out.size))).trans (hb6.mono (Nat.le_trans (Nat.le_trans HB2.out.size HB3.out.size) hb4.size)))
                      have HX6 := Lib.hid (show InO (w4.alloc (.cells #[.int .i64 x.op, .int .i64 x.d, .int .i64 x.a, .int .i64 x.b, .string x.name, .slice xA x.args.length xcp] 46)).drew w.heap.size (InsC x (.slice xA x.args.length xcp)).toList x from ⟨_, rfl, ((HXR.out.less s3).below hb4).below hb6, HIN.out.2, HIN.out.1⟩)
                      have HROW := Lib.hid (And.intro hv (And.intro hr6 (And.intro hfl6 (And.intro bld6 (Nat.le_trans (Nat.le_trans s4 hb4.size) hb6.size)))))
                      have HNW := Lib.hid (Blk.new w4 46 #[.int .i64 x.op, .int .i64 x.d, .int .i64 x.a, .int .i64 x.b, .string x.name, .slice xA x.args.length xcp]).drew
                      clear hbD hb6 bld4 bldD bld6 hv hr6 hfl6 hx4 hb4 s2 s3 s4
                      go_region_law (first
                        | (refine step_push_ins (by rfl) (.tmp 82) (.tmp 84) (by rfl) (base := w.heap.size) (g := w4.heap.size) (cs := (InsC x (.slice xA x.args.length xcp)).toList) HROW.out.2.1 rfl (fun j u hj => (HNW.out.cell j).trans (by simpa using hj)) HX6.out.one HMB.out.2.2 HROW.out.2.2.2.2 (by rfl) (by rfl) ?_; intro v7 w7 hr7 hg7 hn7; obtain ⟨g7, c7, rfl⟩ := own_form hr7 (Nat.succ_pos _); obtain ⟨t0, t1⟩ := outer_after (n := m.length) HROW.out.2.2.2.1 (go := go) rfl HROW.out.2.1 hg7; have t2 := t0.trans (outer_cell HROW.out.2.2.2.1 HROW.out.1).1; have HFIN := Lib.hid (HP.out.ins HNZ0.out HW6.out HMB.out.1 HROW.out.1 (go := go) rfl HROW.out.2.1 HROW.out.2.2.1 HX6.out hr7 hg7 hn7 HREM.out HCNT.out); clear hr7 hg7 hn7 t0))
                      all_goals
                        go_wp2_with fail
                        go_roundw
                        case rel => exact ⟨R2, n + 1, { c with blocks := Tx.addLast c.blocks x }, _, HSZ.out.1, HN1.out, rfl, rfl, by go_num, HFIN⟩
                        case measure => exact HSZ.out.2
                    · obtain ⟨E, hE⟩ : ∃ E, E = q.1 := ⟨_, rfl⟩
                      have HD := Lib.hid (show Tx.parse code s.data.toList = (E, n + 1, Tx.Cd.zero) by
                        rcases HLINE.out with ⟨h, -⟩ | ⟨-, h⟩
                        · rw [hrl] at h; exact absurd h h0
                        · rw [h, hrl, hE])
                      have HRR := Lib.hid (fun (gw cw : Nat) (W : World) (hW : Strs W (.slice (some ⟨gw, 0, none⟩) (os.length + 1) cw) (U :: os.map Tx.mkB)) => (HINS.out gw cw W hW).mono (R' := fun e w' => e = .returned (.tuple #[.agg insL, .int .i64 E]) ∧ Below W.heap.size W w') (by
                        rintro e w2 ⟨hb2, ⟨h2, -⟩ | ⟨-, rfl⟩⟩
                        · exact absurd h2 h0
                        · exact ⟨by rw [hE], hb2⟩))
                      rw [← hE] at h0
                      have hne3 : (E != 0) = true := by simpa using h0
                      have HNZ := Lib.hid h0
                      clear hrl hq hE h0 HINS HLINE hUl hcb
                      go_upto_region 18 with first
                        | (go_at_call 35; (with_reducible refine HWO.out.mono ?_); rintro e w2 ⟨⟨gw, cw, rfl, hcw, hgw, hc0, hst⟩, hb2⟩; have HB2 := Lib.hid hb2; have HR3 := Lib.hid (HRR.out gw cw w2 hst); clear hgw hst hb2)
                        | (go_at_call 37; (with_reducible refine HR3.out.mono ?_); rintro e w3 ⟨rfl, hb3⟩; have HB3 := Lib.hid hb3; clear hb3)
                      have hbb := HP.out.below.trans (HB2.out.mono HP.out.below.size)
                      have hbb3 := hbb.trans (HB3.out.mono hbb.size)
                      have HBB := Lib.hid (hbb3.alloc hbb3.size (.cells insL 46))
                      clear hbb hbb3
                      go_wp2_with fail
                      refine bodyPost_ret (results_tmp5 rfl _ _ _) rfl ?_
                      exact parsePost_no (k := n + 1) HD.out HNZ.out HBB.out
            · have hb10 : ((R[k].toNat : Int) != 10) = true := by
                rw [bne_iff_ne]
                intro h2
                exact h10 (UInt8.toNat_inj.1 (by show R[k].toNat = 10; omega))
              have HN := Lib.hid (show ∀ j, j < k + 1 → ∀ c, R.data.toList[j]? = some c → c ≠ 10 from fun j hj c hc => by
                rcases Nat.lt_succ_iff_lt_or_eq.1 hj with h | rfl
                · exact HK.out j h c hc
                · rw [byte_at hlt] at hc
                  injection hc with hc
                  rw [← hc]
                  exact h10)
              clear h10
              go_wp2_with fail
              go_round
              case rel => exact ⟨k + 1, by omega, by go_num, HN⟩
              case measure => simp [intOf] <;> omega
          · obtain rfl : k = R.size := by omega
            have HD := Lib.hid (show Tx.parse code s.data.toList = (80, n + 1, Tx.Cd.zero) from HP.out.rem.nolf (fun h => absurd h HE.out) (by
              have := no10 HK.out
              rw [List.take_of_length_le (by rw [bytes_length]; omega)] at this
              exact this))
            go_wp2_with fail
            refine bodyPost_ret (results_tmp5 rfl _ _ _) rfl ?_
            exact parsePost_no (k := n + 1) HD.out (by decide) HP.out.below
end Go.Proofs.YtcoehmmiplffgaaDoor

/- What readLine knows of the code that it fills: in memory, without a walk. -/
namespace Go.Proofs.YtcoehmmiplffgaaDoor
open Go.ChangeShapes Go.WideShapes Go.RowKit Go.Deep

/-- What may change: the block g, and rows of instructions and of blocks from B on. -/
def Fr (B g : Nat) (w w' : World) : Prop := w.heap.size ≤ w'.heap.size ∧ ∀ b, b < w.heap.size → (B ≤ b → b ≠ g ∧ ∀ e cur, e = 46 ∨ e = 31 → ¬ Blk w b e cur) → w'.heap[b]? = w.heap[b]?
theorem Fr.refl (B g : Nat) (w : World) : Fr B g w w := ⟨Nat.le_refl _, fun _ _ _ => rfl⟩
theorem Fr.trans {B g : Nat} {a b c : World} (h : Fr B g a b) (k : Fr B g b c) : Fr B g a c := by
  refine ⟨Nat.le_trans h.1 k.1, fun i hi hn => ?_⟩
  have e := h.2 i hi hn
  rw [← e]
  refine k.2 i (Nat.lt_of_lt_of_le hi h.1) (fun hB => ⟨(hn hB).1, fun t cur ht hb => (hn hB).2 t cur ht (Eq.trans e.symm hb)⟩)
theorem Fr.of_below {B g : Nat} {w w' : World} (h : Below w.heap.size w w') : Fr B g w w' := ⟨h.size, fun b hb _ => h.block b hb⟩
theorem Fr.set {B g : Nat} {w : World} (hB : B ≤ g) (i : Nat) (x : Value) : Fr B g w (w.setCell ⟨g, i, none⟩ x) := ⟨by simp [World.setCell], fun b _ hn => heap_setCell_other w ⟨g, i, none⟩ b x (fun e => by subst e; exact (hn hB).1 rfl)⟩
theorem Fr.grown {B g n size : Nat} {e : TypeId} {v : Value} {xs : List Value} {w w' : World} (ho : w.ownsRow B e size v n xs) (he : e = 46 ∨ e = 31) (hg : w.grownBy w' v.ownBlock) : Fr B g w w' := ⟨hg.size, fun b hb hn => hg.block b hb (fun e' => by
  obtain ⟨h1, cur, h2⟩ := own_blk ho e'.symm
  exact (hn h1).2 e cur he h2)⟩
theorem Fr.set_row {B g n size go : Nat} {e : TypeId} {v : Value} {xs : List Value} {w : World} (ho : w.ownsRow B e size v n xs) (he : e = 46 ∨ e = 31) (hgo : v.ownBlock = some go) (i : Nat) (x : Value) : Fr B g w (w.setCell ⟨go, i, none⟩ x) := ⟨by simp [World.setCell], fun b _ hn => heap_setCell_other w ⟨go, i, none⟩ b x (fun e' => by
  subst e'
  obtain ⟨h1, cur, h2⟩ := own_blk ho hgo
  exact (hn h1).2 e cur he h2)⟩
theorem Fr.block {B g : Nat} {w w' : World} (h : Fr B g w w') {b : Nat} {t : TypeId} {cs : Array Value} (hb : Blk w b t cs) (hg : b ≠ g) (ht : t ≠ 46 ∧ t ≠ 31) : Blk w' b t cs :=
  hb.move (h.2 b hb.lt (fun _ => ⟨hg, fun e cur he h2 => by
    have := hb.symm.trans h2
    injection this with this
    injection this with _ this
    rcases he with rfl | rfl
    · exact ht.1 this
    · exact ht.2 this⟩))

/-- Code that is being read, in memory: c in the block g. -/
structure CdAt (B g : Nat) (c : Tx.Cd) (gv : Value) (ws : List Value) (w : World) : Prop where
  blk : Blk w g 37 (CdC c gv)
  bld : Bld B gv ws c.blocks w
theorem kb_of_set {w : World} {g : Nat} {t : TypeId} {cs : Array Value} (hb : Blk w g t cs) (ht : ¬ Kd t) (i : Nat) (x : Value) : Kb none w (w.setCell ⟨g, i, none⟩ x) :=
  ⟨by simp [World.setCell], fun k e cur he hk _ => hk.apart (p := ⟨g, i, none⟩) (fun e' => by
    subst e'
    have := hb.symm.trans hk
    injection this with this
    injection this with _ this
    exact ht (this ▸ he)) x⟩
theorem code_kd : ¬ Kd 37 := by unfold Kd; decide
theorem part_ne : (37 : TypeId) ≠ 46 ∧ (37 : TypeId) ≠ 31 := by decide
theorem CdAt.below {B g : Nat} {c : Tx.Cd} {gv : Value} {ws : List Value} {w w' : World} (h : CdAt B g c gv ws w) (hb : Below w.heap.size w w') : CdAt B g c gv ws w' := ⟨h.blk.older hb h.blk.lt, h.bld.below hb⟩

/-- What readLine comes to. -/
def RlPost (B g : Nat) (q : Int × Tx.Cd) (w : World) (e : Ending) (w' : World) : Prop :=
  e = .returned (.int .i64 q.1) ∧ Below B w w' ∧ Fr B g w w' ∧ (q.1 = 0 → ∃ gv ws, CdAt B g q.2 gv ws w')
theorem rlPost_no {B g : Nat} {q : Int × Tx.Cd} {w w' : World} {E : Int} (h : q.1 = E) (h0 : E ≠ 0) (hb : Below B w w') (hf : Fr B g w w') : RlPost B g q w (.returned (.int .i64 E)) w' := ⟨by rw [h], hb, hf, fun h2 => absurd (h.symm.trans h2) h0⟩

/-! ### the first line -/
theorem head_nm (code : Bool) (g : Nat) : (headPa code g).map Pa.nm = Tx.headK code := by cases code <;> rfl
theorem head_mem {code : Bool} {g : Nat} {p : Pa} (h : p ∈ headPa code g) : p.b = g ∧ p.o < 4 := by
  cases code <;> (unfold headPa at h; simp at h) <;> (rcases h with rfl | rfl | rfl | rfl) <;> exact ⟨rfl, by simp⟩
theorem head_puts {code : Bool} {g : Nat} {c : Tx.Cd} {gv : Value} {vs : List Tx.Pt} {w : World} (hb : Blk w g 37 (CdC c gv)) (hv : vs.map Tx.Pt.isN = Tx.headK code) : Blk (puts w ((headPa code g).zip vs)) g 37 (CdC (Tx.setHead c vs) gv) ∧ (Tx.setHead c vs).blocks = c.blocks := by
  cases code with
  | true =>
    obtain ⟨p, l, rfl, hp, h⟩ := Tx.mapC (a := true) (t := [false, false, false]) hv
    obtain ⟨q, l, rfl, hq, h⟩ := Tx.mapC h
    obtain ⟨r, l, rfl, hr, h⟩ := Tx.mapC h
    obtain ⟨s, rfl, hs⟩ := Tx.map1 h
    obtain ⟨a, rfl⟩ := Tx.isN_nm hp
    obtain ⟨b, rfl⟩ := Tx.isN_num hq
    obtain ⟨d, rfl⟩ := Tx.isN_num hr
    obtain ⟨e, rfl⟩ := Tx.isN_num hs
    exact ⟨(((hb.set 0 (.string a)).set 1 (.int .i64 b)).set 2 (.int .i64 d)).set 3 (.int .i64 e), rfl⟩
  | false =>
    obtain ⟨p, l, rfl, hp, h⟩ := Tx.mapC (a := true) (t := [false, false]) hv
    obtain ⟨q, l, rfl, hq, h⟩ := Tx.mapC h
    obtain ⟨r, rfl, hr⟩ := Tx.map1 h
    obtain ⟨a, rfl⟩ := Tx.isN_nm hp
    obtain ⟨b, rfl⟩ := Tx.isN_num hq
    obtain ⟨d, rfl⟩ := Tx.isN_num hr
    exact ⟨((hb.set 0 (.string a)).set 1 (.int .i64 b)).set 2 (.int .i64 d), rfl⟩
theorem puts_kb {g : Nat} {t : TypeId} (ht : ¬ Kd t) : ∀ (l : List (Pa × Tx.Pt)) (w : World) (cs : Array Value), Blk w g t cs → (∀ q ∈ l, q.1.b = g) → Kb none w (puts w l)
  | [], w, _, _, _ => Kb.of_below (Below.refl _ w) none
  | q :: l, w, cs, h, hq => by
    have e := hq q (List.mem_cons_self ..)
    have h1 : Kb none w (w.setCell q.1.at (ptV q.2)) := by
      have := kb_of_set h ht q.1.o (ptV q.2)
      rw [← e] at this
      exact this
    have h2 : Blk (w.setCell q.1.at (ptV q.2)) g t (cs.setIfInBounds q.1.o (ptV q.2)) := by
      have := h.set q.1.o (ptV q.2)
      conv at this => arg 1; rw [← e]
      exact this
    exact h1.trans (puts_kb ht l _ _ h2 (fun r hr => hq r (List.mem_cons_of_mem _ hr)))
theorem puts_fr {B g : Nat} (hB : B ≤ g) : ∀ (l : List (Pa × Tx.Pt)) (w : World), (∀ q ∈ l, q.1.b = g) → Fr B g w (puts w l)
  | [], w, _ => Fr.refl B g w
  | q :: l, w, hq => by
    have e := hq q (List.mem_cons_self ..)
    have h1 : Fr B g w (w.setCell q.1.at (ptV q.2)) := by
      have := Fr.set (w := w) hB q.1.o (ptV q.2)
      rw [← e] at this ⊢
      exact this
    exact h1.trans (puts_fr hB l _ (fun r hr => hq r (List.mem_cons_of_mem _ hr)))
theorem Fr.of_kpt {B g : Nat} {ps : List Pa} {w W : World} (hB : B ≤ g) (hp : ∀ p ∈ ps, p.b = g) (h : Kpt ps w W) : Fr B g w W := ⟨h.1, fun b hb hn => by
  by_cases hBb : B ≤ b
  · exact h.2 b hb (fun p hpm e => (hn hBb).1 (e.symm.trans (hp p hpm)))
  · exact h.2 b hb (fun p hpm e => by rw [hp p hpm] at e; omega)⟩

theorem rln_head {B g : Nat} {code : Bool} {c : Tx.Cd} {gv pv wv : Value} {ws : List Value} {os : List ByteArray} {w w1 : World} (hc : CdAt B g c gv ws w) (hB : B ≤ g) (hBw : B ≤ w.heap.size) (h1 : Below w.heap.size w w1) (hpv : RowPa w1 w.heap.size pv (headPa code g))
    (hos : ∀ W, Fr B g w W → Strs W wv os) (hol : os.length ≤ 999000) (hsh : ∀ s ∈ os, s.size ≤ 1000000) (hr : RdyB B w) :
    Calls Tryd.prog 53 #[wv, pv] w1 (RlPost B g ((Tx.take (Tx.headK code) (lst os)).1, Tx.setHead c (Tx.take (Tx.headK code) (lst os)).2) w) := by
  have hg := hc.blk.lt
  have hb1 := hc.blk.older h1 hg
  have hlen : (headPa code g).length ≤ 4 := by cases code <;> simp [headPa]
  have hf1 : Fr B g w w1 := Fr.of_below h1
  have hB1 : Below B w w1 := h1.mono hBw
  have hin : TkIn B (headPa code g) wv pv os w1 := by
    refine ⟨fun W hW => (rowpa_kpt hpv (fun p hp => by rw [(head_mem hp).1]; exact hg) hW).pas _ (by unfold maxLen; omega), fun W hW => hos W (hf1.trans (Fr.of_kpt hB (fun p hp => (head_mem hp).1) hW)), fun p hp => ?_, hr.below hB1, by omega, hsh⟩
    obtain ⟨e1, e2⟩ := head_mem hp
    refine ⟨?_, ?_, by rw [e1]; exact hB⟩
    · show (w1.cell? ⟨p.b, p.o, none⟩).isSome = true
      rw [e1, hb1.cell p.o, Array.getElem?_eq_getElem (show p.o < 5 by omega)]
      rfl
    · show w1.frozen? ⟨p.b, p.o, none⟩ = false
      rw [e1]
      exact hb1.frozen p.o
  refine (take_any B (headPa code g) wv pv os w1 hin (Nat.le_trans hBw hB1.size) (by omega)).mono ?_
  rintro e w' ⟨rfl, vs, hbel, -, -, hv⟩
  rw [head_nm] at hv ⊢
  have hall : ∀ q ∈ (headPa code g).zip vs, q.1.b = g := fun q hq => (head_mem (List.of_mem_zip hq).1).1
  have hsz := puts_size ((headPa code g).zip vs) w1
  have hbel' : Below (puts w1 ((headPa code g).zip vs)).heap.size (puts w1 ((headPa code g).zip vs)) w' := hbel.mono (Nat.le_of_eq hsz)
  refine ⟨rfl, (puts_below _ w1 w hB1 (fun q hq => by rw [hall q hq]; exact hB)).trans (hbel.mono (Nat.le_trans hBw hB1.size)), hf1.trans ((puts_fr hB _ w1 hall).trans (Fr.of_below hbel')), fun h0 => ?_⟩
  have hvs := hv h0
  obtain ⟨h2, h3⟩ := head_puts (code := code) (vs := vs) hb1 (by rw [hvs]; exact (Tx.take_ok h0).2.2.1)
  refine ⟨gv, ws, ?_, ?_⟩
  · show Blk w' g 37 (CdC (Tx.setHead c (Tx.take (Tx.headK code) (lst os)).2) gv)
    rw [← hvs]
    exact h2.older hbel' h2.lt
  · show Bld B gv ws (Tx.setHead c (Tx.take (Tx.headK code) (lst os)).2).blocks w'
    rw [← hvs, h3]
    exact ((hc.bld.below h1).kb (puts_kb code_kd _ w1 _ hb1 hall)).below hbel'

/-- The words behind the first. -/
theorem Strs.tail {w : World} {b off n cap cap' : Nat} {u : ByteArray} {os : List ByteArray} {A : Option Addr} (h : Strs w (.slice (some ⟨b, off, none⟩) (n + 1) cap) (u :: os)) (hn : os.length = n) (hc : n ≤ cap') (hA : n ≠ 0 → A = some ⟨b, off + 1, none⟩) (hA0 : A = none → cap' = 0) : Strs w (.slice A n cap') os := by
  obtain ⟨A', c', h1, h2, h3⟩ := h
  injection h1 with e1 e2 e3
  subst e1
  refine ⟨A, cap', by rw [hn], ⟨by omega, hA0⟩, fun j s hj => ?_⟩
  have hjl := (List.getElem?_eq_some_iff.1 hj).1
  obtain ⟨b2, o2, h4, h5, h6⟩ := h3 (j + 1) s (by simpa using hj)
  injection h4 with h4
  injection h4 with h41 h42
  subst h41 h42
  exact ⟨b, off + 1, hA (by omega), h5, by rw [show off + 1 + j = off + (j + 1) by omega]; exact h6⟩

/-- A block more. -/
theorem rln_block {B g : Nat} {c : Tx.Cd} {gv v8 : Value} {ws : List Value} {w w9 w8 : World} (hc : CdAt B g c gv ws w) (hB : B ≤ g) (hBw : B ≤ w.heap.size) (h9 : Below w.heap.size w w9) (h8 : w8.ownsRow B 31 1 v8 (c.blocks.length + 1) (ws ++ [.slice none 0 0])) (hg8 : w9.grownBy w8 gv.ownBlock) :
    CdAt B g { c with blocks := c.blocks ++ [[]] } v8 (ws ++ [.slice none 0 0]) (w8.setCell ⟨g, 4, none⟩ v8) ∧ Below B w (w8.setCell ⟨g, 4, none⟩ v8) ∧ Fr B g w (w8.setCell ⟨g, 4, none⟩ v8) := by
  have hb9 := hc.bld.below h9
  have hx8 : Blk w8 g 37 (CdC c gv) := (hc.blk.older h9 hc.blk.lt).grown hg8 (fun e => by
    obtain ⟨-, cur, hk⟩ := own_blk hb9.outer e.symm
    exact blk_two (hc.blk.older h9 hc.blk.lt) hk part_ne.2 rfl)
  have hbl := Bld.block hc.bld h9 (World.ownsRow_nil _ _ _ _) (fun g h => by cases h) h8 hg8
  have hB9 : Below B w w9 := h9.mono hBw
  refine ⟨⟨hx8.set 4 v8, hbl.kb (kb_of_set hx8 code_kd 4 v8)⟩, (hB9.grown hg8 (Nat.le_trans hBw hB9.size) (fun k e => (own_blk hb9.outer e).1)).setCell (p := ⟨g, 4, none⟩) hB v8, ?_⟩
  exact ((Fr.of_below h9).trans (Fr.grown hb9.outer (.inr rfl) hg8)).trans (Fr.set hB 4 v8)

/-- An instruction more. -/
theorem rln_ins {B g go : Nat} {c : Tx.Cd} {gv v v7 : Value} {ws fl cs : List Value} {m : List (List Ir.In)} {b : List Ir.In} {x : Ir.In} {w w6 w7 : World} {E : Int} (hc : CdAt B g c gv ws w) (hBw : B ≤ w.heap.size) (h6 : Below w.heap.size w w6)
    (hl : c.blocks = m ++ [b]) (hv : ws[m.length]? = some v) (hgo : gv.ownBlock = some go) (hr : w6.ownsRow B 46 6 v b.length fl) (hfl : FlO w6 B fl b)
    (h7 : w7.ownsRow B 46 6 v7 (b.length + 1) (fl ++ cs)) (hg7 : w6.grownBy w7 v.ownBlock) (hnew : ∀ g, v7.ownBlock = some g → v.ownBlock = some g ∨ w6.heap.size ≤ g) (hx : E = 0 → InO w6 B cs x) :
    RlPost B g (E, { c with blocks := Tx.addLast c.blocks x }) w (.returned (.int .i64 E)) (w7.setCell ⟨go, m.length, none⟩ v7) := by
  have hb6 := hc.bld.below h6
  have hB6 : Below B w w6 := h6.mono hBw
  have hlb : c.blocks[m.length]? = some b := by rw [hl]; simp
  have hset : Tx.addLast c.blocks x = c.blocks.set m.length (b ++ [x]) := by
    rw [hl, Tx.addLast_at]
    simp
  have hbo := own_blk hb6.outer hgo
  have hvgo : v.ownBlock ≠ some go := fun e => by
    obtain ⟨-, c2, hc2⟩ := own_blk hr e
    obtain ⟨-, c3, hc3⟩ := hbo
    exact blk_two hc2 hc3 ne_ins_blk rfl
  have ho7 : w7.ownsRow B 31 1 gv c.blocks.length ws := row_kb (Kb.of_grown hg7) (.inr (.inr rfl)) hb6.outer (fun i hi e => by
    rw [hgo] at hi
    injection hi with hi
    subst hi
    exact hvgo e.symm)
  refine ⟨rfl, (hB6.grown hg7 (Nat.le_trans hBw hB6.size) (fun k e => (own_blk hr e).1)).setCell (p := ⟨go, m.length, none⟩) hbo.1 v7, ((Fr.of_below h6).trans (Fr.grown hr (.inl rfl) hg7)).trans (Fr.set_row ho7 (.inr rfl) hgo _ _), fun h0 => ?_⟩
  have hx6 := hc.blk.older h6 hc.blk.lt
  have hx7 : Blk w7 g 37 (CdC c gv) := hx6.grown hg7 (fun e => by
    obtain ⟨-, cur, hk⟩ := own_blk hr e.symm
    exact blk_two hx6 hk part_ne.1 rfl)
  refine ⟨gv, ws.set m.length v7, hx7.apart (p := ⟨go, m.length, none⟩) (fun e => by
    obtain ⟨-, c3, hc3⟩ := own_blk ho7 hgo
    subst e
    exact blk_two hx7 hc3 part_ne.2 rfl) v7, ?_⟩
  show Bld B gv (ws.set m.length v7) (Tx.addLast c.blocks x) _
  rw [hset]
  exact Bld.ins hb6 hlb hv hgo hfl (hx h0) h7 hg7 hnew
end Go.Proofs.YtcoehmmiplffgaaDoor

/- readLine, the program's. -/
namespace Go.Proofs.YtcoehmmiplffgaaDoor
open Go.ChangeShapes Go.WideShapes Go.RowKit Go.Deep

set_option maxRecDepth 100000 in
set_option maxHeartbeats 20000000 in
theorem readline_any (code : Bool) (B g n : Nat) (c : Tx.Cd) (gv v : Value) (ws : List Value) (os : List ByteArray) (w : World) (hc : CdAt B g c gv ws w) (hB : B ≤ g) (hBw : B ≤ w.heap.size) (hst : ∀ W, Fr B g w W → Strs W v os)
    (hol : os.length ≤ 999000) (hsh : ∀ s ∈ os, s.size ≤ 1000000) (hr : RdyB B w) (hn : 1 ≤ n ∧ n ≤ 1000000) (nb : c.blocks.length ≤ 1000000) (ni : ∀ b ∈ c.blocks, b.length ≤ 1000000) :
    Calls Tryd.prog 34 #[.int .i64 (kd code), .pointer (some ⟨g, 0, none⟩), .int .i64 (n : Int), v] w (RlPost B g (Tx.readL code n c (lst os)) w) := by
  obtain ⟨A, cap, rfl, ⟨hcap, -⟩, -⟩ := hst w (Fr.refl _ _ _)
  obtain ⟨kk, hkk⟩ : ∃ kk, kk = kd code := ⟨_, rfl⟩
  rw [← hkk]
  cases os with
  | nil =>
    have HE := Lib.hid (show RlPost B g (Tx.readL code n c (lst [])) w (.returned (.int .i64 80)) w from rlPost_no rfl (by decide) (Below.refl _ _) (Fr.refl _ _ _))
    show Calls _ _ #[_, _, _, .slice A 0 cap] _ _
    clear hc hst hr hcap
    go_enter Tryd.func34, Tryd.ntmps34
    go_wp2_with fail
    go_ret
    exact HE.out
  | cons u os =>
    obtain ⟨b, off, rfl, c0⟩ := strs_at (hst w (Fr.refl _ _ _)) (show (u :: os)[0]? = some u from rfl)
    rw [Nat.add_zero] at c0
    have hoi : (os.length : Int) ≤ 999000 := by simp only [List.length_cons] at hol; omega
    simp only [List.length_cons] at hcap
    have hci : (os.length : Int) + 1 ≤ (cap : Int) := by omega
    show Calls _ _ #[_, _, _, .slice (some ⟨b, off, none⟩) (os.length + 1) cap] _ _
    have HC := Lib.hid (And.intro hc (And.intro hB (And.intro hBw (And.intro hst (And.intro hol (And.intro hsh (And.intro hr (And.intro hn (And.intro nb ni)))))))))
    have HK := Lib.hid hkk
    clear hc hB hBw hst hol hsh hr nb ni hcap hkk
    go_enter Tryd.func34, Tryd.ntmps34
    go_upto_region 3 with fail
    go_quiet (fail)
    obtain ⟨A2, hA2⟩ : ∃ A2, A2 = (if cap = 1 then some (⟨b, off, none⟩ : Addr) else some ⟨b, off + 1, none⟩) := ⟨_, rfl⟩
    rw [← hA2]
    have HA2 := Lib.hid hA2
    clear hA2
    have hb1 : Below w.heap.size w (w.drewN nq) := below_drewN w nq
    have hc1 := HC.out.1.below hb1
    generalize w.drewN nq = w1 at *
    have hB1 : Below B w w1 := hb1.mono HC.out.2.2.1
    have HST := Lib.hid (fun W (hW : Fr B g w1 W) => Strs.tail (A := A2) (cap' := cap - 1) (HC.out.2.2.2.1 W ((Fr.of_below hb1).trans hW)) rfl (by omega) (fun h => by rw [HA2.out, if_neg (by omega)]) (fun h => by
      rw [HA2.out] at h
      split at h <;> cases h))
    have HSH := Lib.hid (And.intro (show os.length ≤ 999000 by have := HC.out.2.2.2.2.1; simp only [List.length_cons] at this; omega) (And.intro (fun s (hs : s ∈ os) => HC.out.2.2.2.2.2.1 s (List.mem_cons_of_mem _ hs)) (HC.out.2.2.2.2.2.2.1.below hB1)))
    have HB1 := Lib.hid (And.intro hB1 (And.intro (Fr.of_below (B := B) (g := g) hb1) (And.intro HC.out.2.1 (Nat.le_trans HC.out.2.2.1 hb1.size))))
    have HC1 := Lib.hid hc1
    have HNB := Lib.hid HC.out.2.2.2.2.2.2.2.2
    obtain ⟨F, hF⟩ : ∃ F, F = (⟨(Tx.first code).toArray⟩ : ByteArray) := ⟨_, rfl⟩
    have hkf := fun W => kfirst_any code W
    rw [← hF, ← HK.out] at hkf
    have HKF := Lib.hid hkf
    clear hb1 hc1 hB1 hkf c0 HC hci HA2
    have HPOST := Lib.hid (fun (q : Int × Tx.Cd) (e : Ending) (W : World) (h : RlPost B g q w1 e W) => (show RlPost B g q w e W from ⟨h.1, HB1.out.1.trans (h.2.1.mono (Nat.le_refl _)), HB1.out.2.1.trans h.2.2.1, h.2.2.2⟩))
    by_cases hn1 : n = 1
    · subst hn1
      have hrl : Tx.readL code 1 c (lst (u :: os)) = if u.data.toList = Tx.first code then ((Tx.take (Tx.headK code) (lst os)).1, Tx.setHead c (Tx.take (Tx.headK code) (lst os)).2) else (80, c) := by simp [Tx.readL]
      by_cases hf : u.data.toList = Tx.first code
      · rw [if_pos hf] at hrl
        have huF : u = F := by rw [hF, ← Tx.mkB_list u, hf]; rfl
        subst huF
        have HRL := Lib.hid hrl
        have HHD := Lib.hid (head_any code g w1)
        rw [← HK.out] at HHD
        have HTK := Lib.hid (fun (pv : Value) (w2 : World) (h2 : Below w1.heap.size w1 w2) (hpv : RowPa w2 w1.heap.size pv (headPa code g)) => rln_head (wv := .slice A2 os.length (cap - 1)) HC1.out HB1.out.2.2.1 HB1.out.2.2.2 h2 hpv HST.out HSH.out.1 HSH.out.2.1 HSH.out.2.2)
        clear hf hF hrl
        go_wp2_with first
          | (go_at_call 40; (with_reducible refine (HKF.out _).mono ?_); rintro e w2 ⟨rfl, rfl⟩)
          | (go_at_call 41; (with_reducible refine HHD.out.mono ?_); rintro e w2 ⟨⟨pv, rfl, hpv⟩, hb2⟩; obtain ⟨pA, pcap, rfl⟩ := hpv.form; have HTK2 := Lib.hid (HTK.out _ w2 hb2 hpv); clear hpv hb2)
          | (go_at_call 53; (with_reducible refine HTK2.out.mono ?_); rintro e w3 ⟨rfl, hq⟩; have HQ := Lib.hid hq; clear hq)
        go_ret
        refine HPOST.out _ _ _ ?_
        rw [HRL.out]
        exact ⟨rfl, HQ.out⟩
      · rw [if_neg hf] at hrl
        have HRL := Lib.hid hrl
        have hne : (u.toList == F.toList) = false := by
          rw [beq_eq_false_iff_ne, ByteArray.toList_eq, ByteArray.toList_eq, hF]
          exact hf
        have hne2 : (u.toList != F.toList) = true := by rw [bne, hne]; rfl
        clear hf hF hrl
        go_wp2_with (go_at_call 40; (with_reducible refine (HKF.out _).mono ?_); rintro e w2 ⟨rfl, rfl⟩)
        go_ret
        exact HPOST.out _ _ _ (rlPost_no (by rw [HRL.out]) (by decide) (Below.refl _ _) (Fr.refl _ _ _))
    · have hnb : ((n : Int) == 1) = false := by rw [beq_eq_false_iff_ne]; omega
      obtain ⟨gA, gcap, rfl⟩ := row_slice HC1.out.bld.outer
      have c4 := HC1.out.blk.cell 4
      have hn0 : n ≠ 0 := by omega
      obtain ⟨k, rfl⟩ : ∃ k, n = k + 1 := ⟨n - 1, by omega⟩
      have hk0 : k ≠ 0 := by omega
      have hnb2 : ((k : Int) + 1 == 1) = false := by rw [beq_eq_false_iff_ne]; omega
      by_cases hbw : u.data.toList = Tx.blockW
      · obtain rfl : u = ⟨#[98, 108, 111, 99, 107]⟩ := by rw [← Tx.mkB_list u, hbw]; rfl
        have HRL := Lib.hid (show Tx.readL code (k + 1) c (lst (⟨#[98, 108, 111, 99, 107]⟩ :: os)) = if lst os = [] then (0, { c with blocks := c.blocks ++ [[]] }) else (80, c) from readL_blk code hk0 c (lst os))
        clear hbw hn1 hn0 hk0
        have ha := (Below.refl w1.heap.size w1).alloc (Nat.le_refl _) (.cells #[.slice none 0 0] 31)
        have HBL := Lib.hid (And.intro (HC1.out.bld.below ha) (And.intro (HC1.out.blk.older ha HC1.out.blk.lt) ((Blk.new w1 31 #[.slice none 0 0]).cell 0)))
        have HSM := Lib.hid (show c.blocks.length ≤ 1048000 by have := HNB.out.1; omega)
        have HTK := Lib.hid (fun (w2 : World) (h2 : Below B w1 w2) (h2' : Fr B g w1 w2) => take_any B [] (.slice A2 os.length (cap - 1)) (.slice none 0 0) os w2 ⟨fun W _ => (RowPa.nil W w2.heap.size).pas B (by simp), fun W hW => HST.out W (h2'.trans ⟨hW.1, fun b hb _ => hW.2 b hb (fun p hp => (nomatch hp))⟩), fun p hp => (nomatch hp), HSH.out.2.2.below h2, Nat.zero_le _, HSH.out.2.1⟩ (Nat.le_trans HB1.out.2.2.2 h2.size) (by have := HSH.out.1; omega))
        clear ha
        go_upto_region 10 with (at_builtin; refine wpList_push_blk rfl (.tmp 46) (.tmp 47) rfl HBL.out.1.outer HBL.out.2.2 rfl HSM.out (Nat.le_trans HB1.out.2.2.2 (by simp)) rfl rfl ?_; intro v8 w8 hr8 hg8; obtain ⟨g8, p8, rfl⟩ := own_form hr8 (Nat.succ_pos _); have hx8 : Blk w8 g 37 (CdC c (.slice gA c.blocks.length gcap)) := HBL.out.2.1.grown hg8 (fun e => (by obtain ⟨-, cur, hk⟩ := own_blk HBL.out.1.outer e.symm; exact blk_two HBL.out.2.1 hk part_ne.2 rfl)); have k4 := hx8.cell 4; have z4 := hx8.frozen 4; have HR8 := Lib.hid (rln_block HC1.out HB1.out.2.2.1 HB1.out.2.2.2 ((Below.refl w1.heap.size w1).alloc (Nat.le_refl _) _) hr8 hg8); clear hr8 hg8 hx8)
        obtain ⟨h9, hb9, hf9⟩ := HR8.out
        have HTK2 := Lib.hid (HTK.out _ hb9 hf9)
        have H9 := Lib.hid (And.intro h9 (And.intro hb9 hf9))
        clear h9 hb9 hf9 HR8 HTK k4 z4
        generalize World.setCell _ _ _ = w9 at *
        go_wp2_with (go_at_call 53; (with_reducible refine HTK2.out.mono ?_); rintro e w3 ⟨rfl, hq⟩; have HQ := Lib.hid hq; clear hq)
        go_ret
        refine HPOST.out _ _ _ ?_
        rw [HRL.out]
        obtain ⟨vs, hvb, -⟩ := HQ.out
        rw [show ([] : List Pa).zip vs = [] from rfl] at hvb
        have hvb' : Below w9.heap.size w9 w3 := hvb
        refine ⟨?_, H9.out.2.1.trans (hvb'.mono (Nat.le_trans HB1.out.2.2.2 H9.out.2.1.size)), H9.out.2.2.trans (Fr.of_below hvb'), fun h => ?_⟩
        · by_cases ho : lst os = []
          · rw [if_pos ho, ho]; rfl
          · rw [if_neg ho]
            have : Tx.take [] (lst os) = (80, []) := if_neg (fun h => ho (List.eq_nil_of_length_eq_zero h))
            show Ending.returned (.int .i64 (Tx.take [] (lst os)).1) = _
            rw [this]
        · by_cases ho : lst os = []
          · rw [if_pos ho]
            exact ⟨_, _, H9.out.1.below hvb'⟩
          · rw [if_neg ho] at h
            exact absurd (show (80 : Int) = 0 from h) (by decide)
      · have hne2 : (u.toList == [98, 108, 111, 99, 107]) = false := by
          rw [beq_eq_false_iff_ne, ByteArray.toList_eq]
          exact hbw
        have hrl : Tx.readL code (k + 1) c (lst (u :: os)) = if c.blocks = [] then (80, c) else ((Tx.readI code u.data.toList (lst os)).1, { c with blocks := Tx.addLast c.blocks (Tx.readI code u.data.toList (lst os)).2 }) := readL_ins code hk0 c hbw (lst os)
        clear hbw hn1 hn0 hk0
        by_cases hcb : c.blocks = []
        · rw [if_pos hcb] at hrl
          have HRL := Lib.hid hrl
          have hl0 : ((c.blocks.length : Int) == 0) = true := by rw [hcb]; rfl
          have hl1 : (c.blocks.length : Int) = 0 := by rw [hcb]; rfl
          clear hrl hcb
          go_wp2_with fail
          go_ret
          exact HPOST.out _ _ _ (rlPost_no (by rw [HRL.out]) (by decide) (Below.refl _ _) (Fr.refl _ _ _))
        · rw [if_neg hcb] at hrl
          have HRL := Lib.hid hrl
          have hlp := List.length_pos_iff.2 hcb
          have hl0 : ((c.blocks.length : Int) == 0) = false := by rw [beq_eq_false_iff_ne]; omega
          obtain ⟨go, gc2, hgo⟩ := own_form HC1.out.bld.outer hlp
          injection hgo with hgo1 hgo2 hgo3
          subst hgo1
          obtain ⟨m, b2, hmb⟩ := Tx.split_last hcb
          have hml : c.blocks.length = m.length + 1 := by rw [hmb]; simp
          have hmi : (c.blocks.length : Int) - 1 = (m.length : Int) := by omega
          have hmlt : (m.length : Int) < (c.blocks.length : Int) := by omega
          have hmm : (m.length : Int) ≤ 1000000 := by have := HNB.out.1; omega
          have hbi : c.blocks[m.length]? = some b2 := by rw [hmb]; simp
          have HMB := Lib.hid (And.intro hmb (And.intro hbi (show b2.length ≤ 1048000 by have := HNB.out.2 b2 (by rw [hmb]; simp); omega)))
          have HRI := Lib.hid (readins_any code u (.slice A2 os.length (cap - 1)) os w1 (HST.out w1 (Fr.refl _ _ _)) HSH.out.1 HSH.out.2.1 HSH.out.2.2.rdy)
          rw [← HK.out] at HRI
          obtain ⟨q, hq⟩ : ∃ q, q = Tx.readI code u.data.toList (lst os) := ⟨_, rfl⟩
          have HIN := Lib.hid (fun (h : q.1 = 0) => readI_in64 (code := code) (u := u.data.toList) (os := lst os) (by rw [← hq]; exact h))
          rw [← hq] at HRI HRL HIN
          clear hrl hcb hlp hgo2 hgo3 hmb hbi hml hq hF
          go_upto_region 15 with (go_at_call 54; (with_reducible refine HRI.out.mono ?_); rintro e w2 ⟨hb2, xa, xb, xc, xd, xs, xA, xm, xp, rfl, hx⟩; have HB2 := Lib.hid hb2; have HX := Lib.hid hx; have k4 := (HC1.out.below (hb2.alloc hb2.size (.cells (insQ xa xb xc xd xs xA xm xp) 46))).blk.cell 4; clear hb2 hx)
          have hb3 : Below w1.heap.size w1 (w2.alloc (.cells (insQ xa xb xc xd xs xA xm xp) 46)) := HB2.out.alloc HB2.out.size _
          have hx3 := Blk.new w2 46 (insQ xa xb xc xd xs xA xm xp)
          have HX3 := Lib.hid (show q.1 = 0 → insQ xa xb xc xd xs xA xm xp = InsC q.2 (.slice xA xm xp) ∧ RowI (w2.alloc (.cells (insQ xa xb xc xd xs xA xm xp) 46)) w1.heap.size (.slice xA xm xp) q.2.args from fun h => ⟨(HX.out h).1, (HX.out h).2.alloc _⟩)
          clear k4
          generalize w2.alloc (.cells (insQ xa xb xc xd xs xA xm xp) 46) = w3 at *
          have hbD : Below w3.heap.size w3 w3.drew := (Below.refl _ _).drew
          have hbA : Below w3.heap.size w3 (w3.alloc (.cells (insQ xa xb xc xd xs xA xm xp) 46)) := (Below.refl _ _).alloc (Nat.le_refl _) _
          have hb6 : Below w3.heap.size w3 (w3.alloc (.cells (insQ xa xb xc xd xs xA xm xp) 46)).drew := hbA.drew
          have hc3 := HC1.out.below hb3
          have bldD := hc3.bld.below hbD
          have bld6 := hc3.bld.below hb6
          obtain ⟨v, fl, hv, hr6, hfl6⟩ := bld6.inner m.length b2 HMB.out.2.1
          obtain ⟨vA, vcap, hvf⟩ := row_slice hr6
          subst hvf
          obtain ⟨d0, f0⟩ := outer_cell bldD hv
          obtain ⟨d1, f1⟩ := outer_cell (hc3.bld.below hbA) hv
          obtain ⟨d2, f2⟩ := outer_cell bld6 hv
          obtain ⟨x0, x1, x2, x3, x4, x5⟩ := cells6 hx3.drew
          have m0 := (hc3.below hbD).blk.cell 4
          have m1 := (hc3.below hbA).blk.cell 4
          have m2 := (hc3.below hb6).blk.cell 4
          have HW6 := Lib.hid (show Below w1.heap.size w1 (w3.alloc (.cells (insQ xa xb xc xd xs xA xm xp) 46)).drew from hb3.trans (hb6.mono hb3.size))
          have HX6 := Lib.hid (show q.1 = 0 → InO (w3.alloc (.cells (insQ xa xb xc xd xs xA xm xp) 46)).drew B (insQ xa xb xc xd xs xA xm xp).toList q.2 from fun h => ⟨.slice xA xm xp, by rw [(HX3.out h).1], ((HX3.out h).2.less HB1.out.2.2.2).below hb6, (HIN.out h).2, (HIN.out h).1⟩)
          have HROW := Lib.hid (And.intro hv (And.intro hr6 (And.intro hfl6 (And.intro bld6 (Nat.le_trans HB1.out.2.2.2 (Nat.le_trans hb3.size hb6.size))))))
          have HNW := Lib.hid (Blk.new w3 46 (insQ xa xb xc xd xs xA xm xp)).drew
          clear hbD hbA hb6 hc3 bldD bld6 hv hr6 hfl6 hx3 hb3
          go_region_law (first
            | (refine step_push_ins (by rfl) (.tmp 84) (.tmp 86) (by rfl) (base := B) (g := w3.heap.size) (cs := (insQ xa xb xc xd xs xA xm xp).toList) HROW.out.2.1 rfl (fun j u hj => (HNW.out.cell j).trans (by simpa using hj)) (by intro u hu; simp at hu; rcases hu with rfl | rfl | rfl | rfl | rfl | rfl <;> rfl) HMB.out.2.2 HROW.out.2.2.2.2 (by rfl) (by rfl) ?_; intro v7 w7 hr7 hg7 hn7; obtain ⟨g7, c7, rfl⟩ := own_form hr7 (Nat.succ_pos _); obtain ⟨t0, t1⟩ := outer_after (n := m.length) HROW.out.2.2.2.1 (go := go) rfl HROW.out.2.1 hg7; have t2 := t0.trans (outer_cell HROW.out.2.2.2.1 HROW.out.1).1; have m7 := ((HC1.out.below HW6.out).blk.grown hg7 (fun e => (by obtain ⟨-, cur, hk⟩ := own_blk HROW.out.2.1 e.symm; exact blk_two (HC1.out.below HW6.out).blk hk part_ne.1 rfl))).cell 4; have HFIN := Lib.hid (rln_ins (E := q.1) HC1.out HB1.out.2.2.2 HW6.out HMB.out.1 HROW.out.1 (go := go) rfl HROW.out.2.1 HROW.out.2.2.1 hr7 hg7 hn7 HX6.out); clear hr7 hg7 hn7 t0))
          all_goals
            go_wp2_with fail
            go_ret
            refine HPOST.out _ _ _ ?_
            have h := HFIN.out
            rw [← HRL.out] at h
            exact h
end Go.Proofs.YtcoehmmiplffgaaDoor
