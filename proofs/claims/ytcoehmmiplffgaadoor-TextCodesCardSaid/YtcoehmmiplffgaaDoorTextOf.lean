/- Code, or a function, is written: textOf. -/
import Derived.Test.YtcoehmmiplffgaaDoorTextIns
import Derived.Test.YtcoehmmiplffgaaDoorIrAt
namespace Go.Proofs.YtcoehmmiplffgaaDoor
open Go.ChangeShapes Go.WideShapes Go.RowKit Go.Deep

/-- A page's error and text. -/
structure Ps where
  e : Int
  l : List UInt8
def Ps.line (s : Ps) (wd : List UInt8) (xs : List Tx.Pt) : Ps := ⟨lnE s.e xs, lnW s.e s.l wd xs⟩
def Ps.ins (code : Bool) (s : Ps) (x : Ir.In) : Ps := ⟨inE s.e code x, inW s.e code s.l x⟩
def Ps.blk (code : Bool) (s : Ps) (b : List Ir.In) : Ps := b.foldl (Ps.ins code) (s.line Tx.blockW [])
def Ps.all (code : Bool) (s : Ps) (bs : List (List Ir.In)) : Ps := bs.foldl (Ps.blk code) s
def Ps.head (code : Bool) (c : Tx.Cd) : Ps := (⟨0, []⟩ : Ps).line (Tx.first code) (Tx.headP code c)
def Ps.end_ (code : Bool) (c : Tx.Cd) : Ps := (Ps.head code c).all code c.blocks

theorem fold_up {α β : Type} {f : β → α → β} {s : β} {l : List α} {k : Nat} {x : α} (h : l[k]? = some x) : (l.take (k + 1)).foldl f s = f ((l.take k).foldl f s) x := by
  obtain ⟨h1, rfl⟩ := List.getElem?_eq_some_iff.1 h
  rw [List.take_succ_eq_append_getElem h1, List.foldl_append]
  rfl

/-! ### what it comes to -/
theorem ins_bad {code : Bool} {s : Ps} (h : s.e ≠ 0) (x : Ir.In) : Ps.ins code s x = s := by
  unfold Ps.ins inE inW
  rw [if_neg h, if_neg (fun h2 => h h2.1)]
theorem fold_bad {code : Bool} : ∀ (b : List Ir.In) {s : Ps}, s.e ≠ 0 → b.foldl (Ps.ins code) s = s
  | [], _, _ => rfl
  | x :: b, s, h => by rw [List.foldl_cons, ins_bad h, fold_bad b h]
theorem line_bad {s : Ps} (h : s.e ≠ 0) (wd : List UInt8) (xs : List Tx.Pt) : s.line wd xs = s := by
  unfold Ps.line lnE lnW
  rw [if_neg h, if_neg (fun h2 => h h2.1)]
theorem all_bad {code : Bool} : ∀ (bs : List (List Ir.In)) {s : Ps}, s.e ≠ 0 → s.all code bs = s
  | [], _, _ => rfl
  | b :: bs, s, h => by
    show Ps.all code (Ps.blk code s b) bs = s
    have e : Ps.blk code s b = s := by
      unfold Ps.blk
      rw [line_bad h, fold_bad b h]
    rw [e, all_bad bs h]
theorem fold_ins {code : Bool} : ∀ (b : List Ir.In) (s : Ps), s.e = 0 → (b.foldl (Ps.ins code) s).e = Tx.blkE code b ∧ (Tx.blkE code b = 0 → b.foldl (Ps.ins code) s = ⟨0, s.l ++ b.flatMap (Tx.insW code)⟩)
  | [], s, h => by
    refine ⟨h, fun _ => ?_⟩
    obtain ⟨e, l⟩ := s
    simp at h
    subst h
    simp
  | x :: b, s, h => by
    rw [List.foldl_cons, Tx.blkE]
    by_cases hx : Tx.insE code x = 0
    · have e1 : Ps.ins code s x = ⟨0, s.l ++ Tx.insW code x⟩ := by
        unfold Ps.ins inE inW
        rw [if_pos h, if_pos ⟨h, hx⟩, hx]
      rw [e1, if_pos hx]
      obtain ⟨h1, h2⟩ := fold_ins b ⟨0, s.l ++ Tx.insW code x⟩ rfl
      refine ⟨h1, fun h0 => ?_⟩
      rw [h2 h0]
      simp
    · have e1 : Ps.ins code s x = ⟨Tx.insE code x, s.l⟩ := by
        unfold Ps.ins inE inW
        rw [if_pos h, if_neg (fun h2 => hx h2.2)]
      rw [e1, if_neg hx, fold_bad b (s := ⟨Tx.insE code x, s.l⟩) hx]
      exact ⟨rfl, fun h0 => absurd h0 hx⟩
theorem check_nil : Tx.check [] = 0 := rfl
theorem lineW_nil (wd : List UInt8) : Tx.lineW wd [] = wd ++ [10] := by simp [Tx.lineW, Tx.join]
theorem fold_blks {code : Bool} : ∀ (bs : List (List Ir.In)) (s : Ps), s.e = 0 → (s.all code bs).e = Tx.blksE code bs ∧ (Tx.blksE code bs = 0 → s.all code bs = ⟨0, s.l ++ Tx.blksW code bs⟩)
  | [], s, h => by
    refine ⟨h, fun _ => ?_⟩
    obtain ⟨e, l⟩ := s
    simp at h
    subst h
    simp [Ps.all, Tx.blksW]
  | b :: bs, s, h => by
    show (Ps.all code (Ps.blk code s b) bs).e = _ ∧ (_ → Ps.all code (Ps.blk code s b) bs = _)
    rw [Tx.blksE]
    have e0 : s.line Tx.blockW [] = ⟨0, s.l ++ (Tx.blockW ++ [10])⟩ := by
      unfold Ps.line lnE lnW
      rw [if_pos h, if_pos ⟨h, check_nil⟩, check_nil, lineW_nil]
    obtain ⟨h1, h2⟩ := fold_ins (code := code) b (s.line Tx.blockW []) (by rw [e0])
    by_cases hb : Tx.blkE code b = 0
    · have e1 : Ps.blk code s b = ⟨0, s.l ++ Tx.blkW code b⟩ := by
        unfold Ps.blk
        rw [h2 hb, e0]
        simp [Tx.blkW]
      rw [if_pos hb, e1]
      obtain ⟨h3, h4⟩ := fold_blks bs ⟨0, s.l ++ Tx.blkW code b⟩ rfl
      refine ⟨h3, fun h0 => ?_⟩
      rw [h4 h0]
      simp [Tx.blksW]
    · have e1 : (Ps.blk code s b).e ≠ 0 := by
        unfold Ps.blk
        rw [h1]
        exact hb
      rw [if_neg hb, all_bad bs e1]
      exact ⟨h1, fun h0 => absurd h0 hb⟩
theorem end_e (code : Bool) (c : Tx.Cd) : (Ps.end_ code c).e = Tx.prE code c := by
  unfold Ps.end_ Tx.prE
  by_cases h : Tx.check (Tx.headP code c) = 0
  · rw [if_pos h, (fold_blks c.blocks (Ps.head code c) (by unfold Ps.head Ps.line lnE; rw [if_pos rfl, h])).1]
  · have e : (Ps.head code c).e ≠ 0 := by unfold Ps.head Ps.line lnE; rw [if_pos rfl]; exact h
    rw [if_neg h, all_bad c.blocks e]
    unfold Ps.head Ps.line lnE
    rw [if_pos rfl]
theorem end_l {code : Bool} {c : Tx.Cd} (h : Tx.prE code c = 0) : (Ps.end_ code c).l = Tx.prW code c := by
  unfold Tx.prE at h
  by_cases h1 : Tx.check (Tx.headP code c) = 0
  · rw [if_pos h1] at h
    unfold Ps.end_ Tx.prW
    rw [(fold_blks c.blocks (Ps.head code c) (by unfold Ps.head Ps.line lnE; rw [if_pos rfl, h1])).2 h]
    unfold Ps.head Ps.line lnW
    rw [if_pos ⟨rfl, h1⟩]
    rfl
  · rw [if_neg h1] at h
    exact absurd h h1
theorem prW_ne (code : Bool) (c : Tx.Cd) : Tx.prW code c ≠ [] := by
  unfold Tx.prW Tx.lineW
  simp

/-! ### how long -/
/-- What may be written with room to spare. -/
structure Smal (bs : List (List Ir.In)) : Prop where
  count : bs.length + Ir.count bs ≤ 5000
  ins : ∀ b, b ∈ bs → ∀ x, x ∈ b → x.args.length ≤ 5000 ∧ x.name.size ≤ 1048576 ∧ In64x x
theorem lnW_len {e : Int} {l wd : List UInt8} {xs : List Tx.Pt} (hw : wd.length ≤ 1000) (hx : xs.length ≤ 5003) : (lnW e l wd xs).length ≤ l.length + 66100 := by
  unfold lnW
  split
  · rename_i h
    have := pw_len (xs := xs) (fun y hy => check_ok h.2 hy)
    rw [lineW_is]
    simp only [List.length_append, List.length_cons, List.length_nil]
    omega
  · omega
theorem ins_len {code : Bool} {s : Ps} {x : Ir.In} (hx : x.args.length ≤ 5000) : (Ps.ins code s x).l.length ≤ s.l.length + 66100 := by
  show (inW s.e code s.l x).length ≤ _
  by_cases h : Tx.word x.op code = []
  · have e : inW s.e code s.l x = s.l := by
      unfold inW Tx.insE
      rw [if_pos h, if_neg (fun h2 => absurd h2.2 (by decide))]
    rw [e]
    omega
  · rw [← inW_of h]
    exact lnW_len (word_len _ _) (by have := parts_len (Tx.shp x.op code) x; omega)
theorem fold_len {code : Bool} : ∀ (b : List Ir.In) (s : Ps), (∀ x ∈ b, x.args.length ≤ 5000) → (b.foldl (Ps.ins code) s).l.length ≤ s.l.length + 66100 * b.length
  | [], s, _ => by simp
  | x :: b, s, h => by
    have h1 := ins_len (code := code) (s := s) (h x (List.mem_cons_self ..))
    have h2 := fold_len (code := code) b (Ps.ins code s x) (fun y hy => h y (List.mem_cons_of_mem _ hy))
    rw [List.foldl_cons, List.length_cons]
    omega
theorem line_len (s : Ps) : (s.line Tx.blockW []).l.length ≤ s.l.length + 66100 := lnW_len (by decide) (by simp)
theorem all_len {code : Bool} : ∀ (bs : List (List Ir.In)) (s : Ps), (∀ b ∈ bs, ∀ x ∈ b, x.args.length ≤ 5000) → (s.all code bs).l.length ≤ s.l.length + 66100 * (bs.length + Ir.count bs)
  | [], s, _ => by simp [Ps.all]
  | b :: bs, s, h => by
    show (Ps.all code (Ps.blk code s b) bs).l.length ≤ _
    have h1 := line_len s
    have h2 := fold_len (code := code) b (s.line Tx.blockW []) (h b (List.mem_cons_self ..))
    have h3 := all_len (code := code) bs (Ps.blk code s b) (fun c hc => h c (List.mem_cons_of_mem _ hc))
    unfold Ps.blk at h3
    have e : Ir.count (b :: bs) = b.length + Ir.count bs := rfl
    rw [e, List.length_cons]
    unfold Ps.blk
    omega
theorem head_len (code : Bool) (c : Tx.Cd) : (Ps.head code c).l.length ≤ 66100 := by
  have := lnW_len (e := 0) (l := []) (wd := Tx.first code) (xs := Tx.headP code c) (by cases code <;> decide) (by cases code <;> simp [Tx.headP])
  simpa [Ps.head, Ps.line] using this
theorem take_len_all {code : Bool} {c : Tx.Cd} (h : Smal c.blocks) (k : Nat) : ((Ps.head code c).all code (c.blocks.take k)).l.length ≤ 66100 * 5001 := by
  have h1 := all_len (code := code) (c.blocks.take k) (Ps.head code c) (fun b hb x hx => (h.ins b (List.mem_of_mem_take hb) x hx).1)
  have h2 := Ir.count_take c.blocks k
  have h3 := h.count
  have h4 := head_len code c
  have h5 : (c.blocks.take k).length ≤ c.blocks.length := by rw [List.length_take]; omega
  omega
theorem take_len_blk {code : Bool} {c : Tx.Cd} (h : Smal c.blocks) {k : Nat} {b : List Ir.In} (hb : c.blocks[k]? = some b) (m : Nat) : ((b.take m).foldl (Ps.ins code) (((Ps.head code c).all code (c.blocks.take k)).line Tx.blockW [])).l.length ≤ 66100 * 5001 := by
  have h0 : ∀ x ∈ b, x.args.length ≤ 5000 := fun x hx => (h.ins b (List.mem_of_getElem? hb) x hx).1
  have h1 := all_len (code := code) (c.blocks.take k) (Ps.head code c) (fun b hb x hx => (h.ins b (List.mem_of_mem_take hb) x hx).1)
  have h2 := line_len ((Ps.head code c).all code (c.blocks.take k))
  have h3 := fold_len (code := code) (b.take m) (((Ps.head code c).all code (c.blocks.take k)).line Tx.blockW []) (fun x hx => h0 x (List.mem_of_mem_take hx))
  have h4 := Ir.count_up hb
  have h5 := Ir.count_take c.blocks (k + 1)
  have h6 := h.count
  have h7 := head_len code c
  have h8 : (b.take m).length ≤ b.length := by rw [List.length_take]; omega
  have h9 : k < c.blocks.length := (List.getElem?_eq_some_iff.1 hb).1
  have h10 : (c.blocks.take k).length = k := by rw [List.length_take]; omega
  omega
end Go.Proofs.YtcoehmmiplffgaaDoor
