/- What the document's Taken comes to: a map once a record is taken. -/
import Derived.Test.YtimcepoleboldaaGreatDoorKeepEnts
import Derived.OwnWalk
import Derived.Deep.AppendLies
namespace Go.Proofs.YtimcepoleboldaaGreatDoor
open Go.ChangeShapes Go.WideShapes Go.RowKit Go.Deep

theorem info_ents : (Tryz.prog.info? 65).map (fun i => (i.zero, i.size, i.bytes)) = some (some (.agg #[.string ⟨#[]⟩, .string ⟨#[]⟩]), 2, 32) := by kernel_rfl

set_option maxRecDepth 20000 in
theorem wpList_append_ent {ops : Array Oper} {rest : List Oper} {o : Oper} {a : Act} {w : World} {Q : Exit → Act → World → Prop} (hg : o.guard = none) (s x : Operand)
    (ho : o.op = .call { callee := .builtin .append, args := #[s, x], argTypes := #[30, 30] })
    {base g c : Nat} {v1 : Value} {l : Kp.Mp} {k v : ByteArray} (h : RowE w base v1 l) (h0 : w.cell? ⟨g, 0, none⟩ = some (.string k)) (h1 : w.cell? ⟨g, 1, none⟩ = some (.string v)) (hl : l.length ≤ 1048576) (hb : base ≤ w.heap.size) (hs : a.eval s = v1) (hx : a.eval x = .slice (some ⟨g, 0, none⟩) 1 c)
    (hK : ∀ v3 w', RowE w' base v3 (l ++ [(k, v)]) → w.grownBy w' v1.ownBlock → wpList Tryz.prog ops Q rest (a.put o.dst v3) w') : wpList Tryz.prog ops Q (o :: rest) a w := by
  obtain ⟨i0, hi, hz0, hz1, hz2⟩ := info_parts info_ents
  refine wpList_append_own (P := Tryz.prog) w hg s x 30 ho base 65 i0 (.agg #[.string ⟨#[]⟩, .string ⟨#[]⟩]) 2 32 Tryz.underlying30 hi hz0 hz1 hz2 rfl (by decide) v1 l.length (flatE l) hs h ⟨g, 0, none⟩ 1 c (flatE [(k, v)]) hx rfl ?_ (flatE_one _) (by unfold maxLen; omega) (by omega) hb ?_
  · intro j u hj
    rw [Addr.add_lit]
    match j, hj with
    | 0, hj => rw [h0]; simpa [flatE] using hj
    | 1, hj => rw [h1]; simpa [flatE] using hj
    | j + 2, hj => simp [flatE] at hj
  · intro v' w' h2 h3 _
    refine hK v' w' ?_ h3
    unfold RowE
    rw [List.length_append, flatE_append]
    exact h2

/-- A record's three cells. -/
abbrev RcC (x : Kp.Rc) : Array Value := #[.int .i64 x.k, .string x.key, .string x.val]

/-- The one kind of blocks that an append of entries changes. -/
def Ten : Obj → Bool
  | .cells _ t (0, 0) => t == 65
  | _ => false

/-- What the loop knows of memory. -/
structure TkIn (w : World) (x : Kp.Rc) (L : Kp.Mp) (v : Value) (wr : World) : Prop where
  row : RowE wr w.heap.size v L
  box : Blk wr w.heap.size 32 (RcC x)
  below : Below w.heap.size w wr

theorem TkIn.up {w wr w' : World} {x : Kp.Rc} {L : Kp.Mp} {v : Value} (h : TkIn w x L v wr) (hb : Below wr.heap.size wr w') : TkIn w x L v w' :=
  ⟨owns_ch (T := fun _ => false) h.row (Ch.of_below (B := 0) hb) (fun _ => rfl), (Ch.of_below (T := fun _ => false) (B := 0) hb).blk h.box rfl, h.below.trans (hb.mono h.below.size)⟩
theorem TkIn.alloc {w wr : World} {x : Kp.Rc} {L : Kp.Mp} {v : Value} (h : TkIn w x L v wr) (o : Obj) : TkIn w x L v (wr.alloc o) := h.up ((Below.refl _ _).alloc (Nat.le_refl _) _)
theorem base_drewn {b : Nat} {w : World} (h : b ≤ w.heap.size) (n : Nat) (o : Obj) : b ≤ ((w.drewN n).alloc o).heap.size := by
  show b ≤ (w.heap.push o).size
  rw [Array.size_push]; omega
theorem below_drewn (w : World) (n : Nat) : Below w.heap.size w (w.drewN n) := (Quiet.drewN w n).below
theorem TkIn.put {w wr w' : World} {x : Kp.Rc} {L : Kp.Mp} {v v' : Value} {e : ByteArray × ByteArray} (h : TkIn w x L v wr) (hr : RowE w' w.heap.size v' (L ++ [e])) (hg : wr.grownBy w' v.ownBlock) : TkIn w x (L ++ [e]) v' w' :=
  have hc : Ch Ten w.heap.size wr w' := ch_of_append (T := Ten) h.row hg (fun _ => rfl)
  ⟨hr, hc.blk h.box rfl, h.below.trans (hc.to_below h.below.size)⟩
theorem TkIn.cells {w wr : World} {x : Kp.Rc} {L : Kp.Mp} {v : Value} (h : TkIn w x L v wr) :
    wr.cell? ⟨w.heap.size, 0, none⟩ = some (.int .i64 x.k) ∧ wr.cell? ⟨w.heap.size, 1, none⟩ = some (.string x.key) ∧ wr.cell? ⟨w.heap.size, 2, none⟩ = some (.string x.val) :=
  ⟨h.box.cell 0, h.box.cell 1, h.box.cell 2⟩

def TakenPost (m : Kp.Mp) (x : Kp.Rc) (w : World) (e : Ending) (w' : World) : Prop :=
  ∃ v, e = .returned v ∧ RowE w' w.heap.size v (Kp.goTaken m x (decide (x.k ≠ 1))) ∧ Below w.heap.size w w'

theorem go_step (e : ByteArray × ByteArray) (r : Kp.Mp) (x : Kp.Rc) (b c kp : Bool) (hc : Kp.lt e.1 x.key = c) (hk : decide (e.1 ≠ x.key ∨ x.k ≠ 1 ∧ x.k ≠ 2) = kp) :
    Kp.goTaken (e :: r) x b = (if b = false ∧ c = false then [(x.key, x.val)] else []) ++ ((if kp = true then [e] else []) ++ Kp.goTaken r x (if b = false ∧ c = false then true else b)) := by
  subst hc
  subst hk
  rw [Kp.goTaken]
  by_cases h : b = false ∧ Kp.lt e.1 x.key = false
  · simp [h]
  · simp [h]

theorem less_of {a b : ByteArray} {c : Bool} (h : Kp.lt a b = c) : Op.bytesLess a.toList b.toList = c := by
  rw [Lib.toList_data, Lib.toList_data]
  exact h
theorem drop_at {α : Type} {m : List α} {k : Nat} {e : α} (h : m[k]? = some e) : m.drop k = e :: m.drop (k + 1) := by
  obtain ⟨h1, rfl⟩ := List.getElem?_eq_some_iff.1 h
  exact List.drop_eq_getElem_cons h1
theorem own_ent (w : World) : RowE (w.alloc (.cells #[] 65)) w.heap.size (.slice (some ⟨w.heap.size, 0, none⟩) 0 0) [] :=
  World.ownsRow_made w #[] 0 (Nat.le_refl _) (by unfold maxLen; omega) rfl

/-- Where the loop ends, for what is out. -/
theorem go_last (x : Kp.Rc) (b : Bool) : Kp.goTaken [] x b = if b = false then [(x.key, x.val)] else [] := by cases b <;> rfl
theorem key_eq {a b : ByteArray} (h : a = b) : (a.toList == b.toList) = true := by subst h; simp
theorem int_ne {a b : Int} (h : a ≠ b) : (a != b) = true := by rw [bne_iff_ne]; exact h
theorem int_eq {a b : Int} (h : a = b) : (a != b) = false := by rw [bne_eq_false_iff_eq]; exact h

set_option maxRecDepth 20000 in
set_option maxHeartbeats 1600000 in
theorem etaken_any (va : Value) (m : Kp.Mp) (x : Kp.Rc) (w : World) (ha : Ents w va m) (hm : m.length ≤ 1000000) :
    Calls Tryz.prog 12 #[va, .agg #[.int .i64 x.k, .string x.key, .string x.val]] w (TakenPost m x w) := by
  obtain ⟨A, ca, rfl, hA⟩ := ha
  have HA := Lib.hid hA
  have hm1 : (m.length : Int) ≤ 1000000 := by omega
  have hIn : TkIn w x [] (.slice (some ⟨w.heap.size + 1, 0, none⟩) 0 0) ((w.alloc (.cells (RcC x) 32)).alloc (.cells #[] 65)) := by
    have hb1 : Below w.heap.size w (w.alloc (.cells (RcC x) 32)) := (Below.refl _ _).alloc (Nat.le_refl _) _
    have hs1 : (w.alloc (.cells (RcC x) 32)).heap.size = w.heap.size + 1 := by
      show (w.heap.push _).size = _
      rw [Array.size_push]
    refine ⟨?_, (Blk.new w 32 (RcC x)).alloc _, hb1.alloc (by rw [hs1]; omega) _⟩
    have h1 := World.ownsRow_made (w.alloc (.cells (RcC x) 32)) #[] 0 (base := w.heap.size) (e := 65) (size := 2) (by rw [hs1]; omega) (by unfold maxLen; omega) rfl
    rw [hs1] at h1
    exact h1
  obtain ⟨k0, k1, k2⟩ := hIn.cells
  have HIn := Lib.hid hIn
  clear hA hIn
  obtain ⟨b0, hb0⟩ : ∃ b0, (x.k != 1) = b0 := ⟨_, rfl⟩
  go_enter Tryz.func12, Tryz.ntmps12
  go_wp2_with fail
  go_loopw [5, 6, 7] (fun v d i wr => ∃ (k : Nat) (b : Bool) (L : Kp.Mp), k ≤ m.length ∧ i = .int .i64 (k : Int) ∧ d = .bool b ∧ TkIn w x L v wr ∧ L ++ Kp.goTaken (m.drop k) x b = Kp.goTaken m x (decide (x.k ≠ 1)) ∧ L.length ≤ k + 1 ∧ (b = false → L.length ≤ k) ∧ (b = false → x.k = 1)) (fun _ _ i _ => m.length - (intOf i).toNat)
  case atStart => exact ⟨0, decide (x.k ≠ 1), [], Nat.zero_le _, rfl, congrArg Value.bool (by rw [← hb0]; by_cases h : x.k = 1 <;> simp [h]), HIn.out, rfl, Nat.zero_le _, fun _ => Nat.le_refl _, fun h => by simpa using h⟩
  case round =>
    obtain ⟨k, b, L, hk, rfl, rfl, hT, hrun, hfew, hfew0, hkind⟩ := hrel
    clear k0 k1 k2
    obtain ⟨k0, k1, k2⟩ := hT.cells
    by_cases hlt : k < m.length
    · obtain ⟨e, he⟩ : ∃ e, m[k]? = some e := ⟨_, List.getElem?_eq_getElem hlt⟩
      obtain ⟨b1, o1, rfl, l1, c1, c2⟩ := HA.out k e he
      have d1 := (hT.below.cell (p := ⟨b1, o1 + k * 2, none⟩) l1).trans c1
      have d2 := (hT.below.cell (p := ⟨b1, o1 + k * 2 + 1, none⟩) l1).trans c2
      have hki : (k : Int) < (m.length : Int) := by omega
      have HC1 := Lib.hid c1
      have HC2 := Lib.hid c2
      have HL1 := Lib.hid l1
      have HT := Lib.hid hT
      have HF := Lib.hid (And.intro hfew (And.intro hfew0 hkind))
      rw [drop_at he] at hrun
      clear c1 c2 hT hfew hfew0 hkind he
      by_cases hq : e.1 = x.key
      · have hc : Kp.lt e.1 x.key = false := by rw [hq]; exact Kp.lt_irrefl _
        have hlt1 := less_of hc
        have hey := key_eq hq
        by_cases h1 : x.k = 1
        · rw [go_step e _ x b false false hc (decide_eq_false (by simp [hq, h1]))] at hrun
          have HR := Lib.hid hrun
          obtain rfl : b0 = false := by rw [← hb0]; exact int_eq h1
          have HK := Lib.hid h1
          clear hrun hc hq h1
          cases b with
          | true =>
            go_wp2_with fail
            go_quiet (fail)
            go_wp2_with fail
            go_quiet (fail)
            go_wp2_with fail
            go_roundw
            case rel => exact ⟨k + 1, true, L, by omega, by go_num, rfl, HT.out.up (below_drewn _ _), by simpa using HR.out, by have := HF.out.1; omega, fun h => (nomatch h), fun h => (nomatch h)⟩
            case measure => simp [intOf]; omega
          | false =>
            go_wp2_with fail
            go_quiet (fail)
            go_wp2_with (at_builtin; refine wpList_append_ent rfl (.tmp 30) (.tmp 36) rfl (k := x.key) (v := x.val) ((HT.out.up (below_drewn _ _)).row.alloc _) ((Blk.new _ _ _).cell 0) ((Blk.new _ _ _).cell 1) (by have := HF.out.1; omega) (base_drewn HT.out.below.size _ _) rfl rfl ?_; intro v7 w7 hrow7 hgrow7; have HN := Lib.hid (((HT.out.up (below_drewn _ _)).alloc _).put hrow7 hgrow7); clear hrow7 hgrow7 k0 k1 k2 d1 d2; obtain ⟨k0, k1, k2⟩ := HN.out.cells; have d1 := (HN.out.below.cell (p := ⟨b1, o1 + k * 2, none⟩) HL1.out).trans HC1.out; have d2 := (HN.out.below.cell (p := ⟨b1, o1 + k * 2 + 1, none⟩) HL1.out).trans HC2.out)
            go_quiet (fail)
            go_wp2_with fail
            go_roundw
            case rel => exact ⟨k + 1, true, L ++ [(x.key, x.val)], by omega, by go_num, rfl, HN.out.up (below_drewn _ _), by simpa using HR.out, by have := HF.out.1; simp; omega, fun h => (nomatch h), fun h => (nomatch h)⟩
            case measure => simp [intOf]; omega
        · obtain rfl : b = true := by
            cases b with
            | true => rfl
            | false => exact absurd (HF.out.2.2 rfl) h1
          obtain rfl : b0 = true := by rw [← hb0]; exact int_ne h1
          by_cases h2 : x.k = 2
          · rw [go_step e _ x true false false hc (decide_eq_false (by simp [hq, h2]))] at hrun
            have HR := Lib.hid hrun
            have hn2 := int_eq h2
            clear hrun hc hq h1 h2
            go_wp2_with fail
            go_quiet (fail)
            go_wp2_with fail
            go_quiet (fail)
            go_wp2_with fail
            go_roundw
            case rel => exact ⟨k + 1, true, L, by omega, by go_num, rfl, HT.out.up (below_drewn _ _), by simpa using HR.out, by have := HF.out.1; omega, fun h => (nomatch h), fun h => (nomatch h)⟩
            case measure => simp [intOf]; omega
          · rw [go_step e _ x true false true hc (decide_eq_true (.inr ⟨h1, h2⟩))] at hrun
            have HR := Lib.hid hrun
            have hn2 := int_ne h2
            clear hrun hc hq h1 h2
            go_wp2_with fail
            go_quiet (fail)
            go_wp2_with fail
            go_quiet (fail)
            go_wp2_with (at_builtin; refine wpList_append_ent rfl (.tmp 56) (.tmp 61) rfl (k := e.1) (v := e.2) ((HT.out.up (below_drewn _ _)).row.alloc _) ((Blk.new _ _ _).cell 0) ((Blk.new _ _ _).cell 1) (by have := HF.out.1; omega) (base_drewn HT.out.below.size _ _) rfl rfl ?_; intro v7 w7 hrow7 hgrow7; have HN := Lib.hid (((HT.out.up (below_drewn _ _)).alloc _).put hrow7 hgrow7); clear hrow7 hgrow7)
            go_roundw
            case rel => exact ⟨k + 1, true, L ++ [e], by omega, by go_num, rfl, HN.out, by simpa using HR.out, by have := HF.out.1; simp; omega, fun h => (nomatch h), fun h => (nomatch h)⟩
            case measure => simp [intOf]; omega
      · obtain ⟨c, hc⟩ : ∃ c, Kp.lt e.1 x.key = c := ⟨_, rfl⟩
        rw [go_step e _ x b c true hc (decide_eq_true (.inl hq))] at hrun
        have HR := Lib.hid hrun
        have hlt1 := less_of hc
        have hne := bytes_neq hq
        clear hrun hc hq
        cases b with
        | true =>
          go_wp2_with fail
          go_quiet (fail)
          go_wp2_with fail
          go_quiet (fail)
          go_wp2_with (at_builtin; refine wpList_append_ent rfl (.tmp 56) (.tmp 61) rfl (k := e.1) (v := e.2) ((HT.out.up (below_drewn _ _)).row.alloc _) ((Blk.new _ _ _).cell 0) ((Blk.new _ _ _).cell 1) (by have := HF.out.1; omega) (base_drewn HT.out.below.size _ _) rfl rfl ?_; intro v7 w7 hrow7 hgrow7; have HN := Lib.hid (((HT.out.up (below_drewn _ _)).alloc _).put hrow7 hgrow7); clear hrow7 hgrow7)
          go_roundw
          case rel => exact ⟨k + 1, true, L ++ [e], by omega, by go_num, rfl, HN.out, by simpa using HR.out, by have := HF.out.1; simp; omega, fun h => (nomatch h), fun h => (nomatch h)⟩
          case measure => simp [intOf]; omega
        | false =>
          cases c with
          | true =>
            go_wp2_with fail
            go_quiet (fail)
            go_wp2_with fail
            go_quiet (fail)
            go_wp2_with (at_builtin; refine wpList_append_ent rfl (.tmp 56) (.tmp 61) rfl (k := e.1) (v := e.2) ((HT.out.up (below_drewn _ _)).row.alloc _) ((Blk.new _ _ _).cell 0) ((Blk.new _ _ _).cell 1) (by have := HF.out.1; omega) (base_drewn HT.out.below.size _ _) rfl rfl ?_; intro v7 w7 hrow7 hgrow7; have HN := Lib.hid (((HT.out.up (below_drewn _ _)).alloc _).put hrow7 hgrow7); clear hrow7 hgrow7)
            go_roundw
            case rel => exact ⟨k + 1, false, L ++ [e], by omega, by go_num, rfl, HN.out, by simpa using HR.out, by have := HF.out.1; simp; omega, fun _ => by have := HF.out.2.1 (by first | rfl | trivial); simp; omega, fun _ => HF.out.2.2 (by first | rfl | trivial)⟩
            case measure => simp [intOf]; omega
          | false =>
            go_wp2_with fail
            go_quiet (fail)
            go_wp2_with (at_builtin; refine wpList_append_ent rfl (.tmp 30) (.tmp 36) rfl (k := x.key) (v := x.val) ((HT.out.up (below_drewn _ _)).row.alloc _) ((Blk.new _ _ _).cell 0) ((Blk.new _ _ _).cell 1) (by have := HF.out.1; omega) (base_drewn HT.out.below.size _ _) rfl rfl ?_; intro v7 w7 hrow7 hgrow7; have HN := Lib.hid (((HT.out.up (below_drewn _ _)).alloc _).put hrow7 hgrow7); clear hrow7 hgrow7 k0 k1 k2 d1 d2; obtain ⟨k0, k1, k2⟩ := HN.out.cells; have d1 := (HN.out.below.cell (p := ⟨b1, o1 + k * 2, none⟩) HL1.out).trans HC1.out; have d2 := (HN.out.below.cell (p := ⟨b1, o1 + k * 2 + 1, none⟩) HL1.out).trans HC2.out)
            go_quiet (fail)
            go_wp2_with (at_builtin; refine wpList_append_ent rfl (.tmp 56) (.tmp 61) rfl (k := e.1) (v := e.2) ((HN.out.up (below_drewn _ _)).row.alloc _) ((Blk.new _ _ _).cell 0) ((Blk.new _ _ _).cell 1) (by have := HF.out.1; simp; omega) (base_drewn HN.out.below.size _ _) rfl rfl ?_; intro v8 w8 hrow8 hgrow8; have HM := Lib.hid (((HN.out.up (below_drewn _ _)).alloc _).put hrow8 hgrow8); clear hrow8 hgrow8)
            go_roundw
            case rel => exact ⟨k + 1, true, L ++ [(x.key, x.val)] ++ [e], by omega, by go_num, rfl, HM.out, by simpa using HR.out, by have := HF.out.2.1 (by first | rfl | trivial); simp; omega, fun h => (nomatch h), fun h => (nomatch h)⟩
            case measure => simp [intOf]; omega
    · have hd : m.drop k = [] := List.drop_eq_nil_of_le (by omega)
      rw [hd, go_last] at hrun
      have HR := Lib.hid hrun
      have HT := Lib.hid hT
      have HF := Lib.hid hfew
      clear hrun hT hfew hfew0 hkind hd
      cases b with
      | true =>
        go_wp2_with fail
        go_ret
        exact ⟨_, rfl, by rw [← HR.out]; simpa using HT.out.row, HT.out.below⟩
      | false =>
        go_wp2_with (at_builtin; refine wpList_append_ent rfl (.tmp 65) (.tmp 71) rfl (k := x.key) (v := x.val) (HT.out.row.alloc _) ((Blk.new _ _ _).cell 0) ((Blk.new _ _ _).cell 1) (by have := HF.out; omega) (base_drewn (HT.out.below.size) 0 _) rfl rfl ?_; intro v7 w7 hrow7 hgrow7; have HN := Lib.hid ((HT.out.alloc _).put hrow7 hgrow7); clear hrow7 hgrow7)
        go_ret
        exact ⟨_, rfl, by rw [← HR.out]; simpa using HN.out.row, HN.out.below⟩
end Go.Proofs.YtimcepoleboldaaGreatDoor
