/- What takeOne of a table comes to. -/
import Derived.Test.YtimcepoleboldaaGreatDoorKeepGet
namespace Go.Proofs.YtimcepoleboldaaGreatDoor
open Go.RowKit Go.Deep

theorem info_record : (Tryz.prog.info? 32).map (fun i => (i.zero, i.size, i.bytes)) = some (some (.agg #[.int .i64 0, .string ⟨#[]⟩, .string ⟨#[]⟩]), 3, 40) := by kernel_rfl

theorem cells_three {w : World} {g : Nat} {t : TypeId} {a b c : Value} (h : Blk w g t #[a, b, c]) : w.cell? ⟨g, 0, none⟩ = some a ∧ w.cell? ⟨g, 1, none⟩ = some b ∧ w.cell? ⟨g, 2, none⟩ = some c := by
  have c0 := h.cell 0
  have c1 := h.cell 1
  have c2 := h.cell 2
  simp at c0 c1 c2
  exact ⟨c0, c1, c2⟩

theorem boxed (w : World) (o : Obj) (t : TypeId) (a b c : Value) : ((w.alloc o).alloc (.cells #[a, b, c] t)).cell? ⟨w.heap.size + 1, 0, none⟩ = some a ∧ ((w.alloc o).alloc (.cells #[a, b, c] t)).cell? ⟨w.heap.size + 1, 1, none⟩ = some b ∧ ((w.alloc o).alloc (.cells #[a, b, c] t)).cell? ⟨w.heap.size + 1, 2, none⟩ = some c := by
  have h := cells_three (Blk.new (w.alloc o) t #[a, b, c])
  rw [show (w.alloc o).heap.size = w.heap.size + 1 by simp] at h
  exact h

set_option maxRecDepth 20000 in
theorem wpList_append_put {ops : Array Oper} {rest : List Oper} {o : Oper} {a : Act} {w : World} {Q : Exit → Act → World → Prop} (hg : o.guard = none) (s x : Operand)
    (ho : o.op = .call { callee := .builtin .append, args := #[s, x], argTypes := #[29, 29] })
    {base g c : Nat} {v1 : Value} {l : Kp.Mp} {k v : ByteArray} (h : RowP w base v1 l) (h0 : w.cell? ⟨g, 0, none⟩ = some (.int .i64 1)) (h1 : w.cell? ⟨g, 1, none⟩ = some (.string k)) (h2 : w.cell? ⟨g, 2, none⟩ = some (.string v)) (hl : l.length ≤ 1048576) (hb : base ≤ w.heap.size) (hs : a.eval s = v1) (hx : a.eval x = .slice (some ⟨g, 0, none⟩) 1 c)
    (hK : ∀ v3 w', RowP w' base v3 (l ++ [(k, v)]) → w.grownBy w' v1.ownBlock → wpList Tryz.prog ops Q rest (a.put o.dst v3) w') : wpList Tryz.prog ops Q (o :: rest) a w := by
  obtain ⟨i0, hi, hz0, hz1, hz2⟩ := info_parts info_record
  refine wpList_append_own (P := Tryz.prog) w hg s x 29 ho base 32 i0 (.agg #[.int .i64 0, .string ⟨#[]⟩, .string ⟨#[]⟩]) 3 40 Tryz.underlying29 hi hz0 hz1 hz2 rfl (by decide) v1 l.length (flatP l) hs h ⟨g, 0, none⟩ 1 c (flatP [(k, v)]) hx rfl ?_ (flatP_one _) (by unfold maxLen; omega) (by omega) hb ?_
  · intro j u hj
    rw [Addr.add_lit]
    match j, hj with
    | 0, hj => rw [h0]; simpa [flatP] using hj
    | 1, hj => rw [h1]; simpa [flatP] using hj
    | 2, hj => rw [h2]; simpa [flatP] using hj
    | j + 3, hj => simp [flatP] at hj
  · intro v' w' h2 h3 _
    refine hK v' w' ?_ h3
    unfold RowP
    rw [List.length_append, flatP_append]
    exact h2

/-- A row of Puts stays where a block of another kind changes. -/
theorem RowP.by_kind {w w' : World} {base g : Nat} {v : Value} {m : Kp.Mp} (h : RowP w base v m) (hg : w.grownBy w' (some g)) (hne : ∀ cs, w.heap[g]? ≠ some (.cells cs 32 (0, 0))) : RowP w' base v m := by
  refine h.grown hg ?_
  rcases h.2 with ⟨rfl, _⟩ | ⟨g', cap, cur, rfl, _, hh, _⟩
  · exact .inl rfl
  · refine .inr ?_
    intro e'
    simp [Value.ownBlock] at e'
    subst e'
    exact hne _ hh
theorem not_rec_table {w : World} {g : Nat} {cs0 : Array Value} (h : Blk w g 86 cs0) : ∀ cs, w.heap[g]? ≠ some (.cells cs 32 (0, 0)) := by
  intro cs e
  rw [show w.heap[g]? = some (.cells cs0 86 (0, 0)) from h] at e
  injection e with e
  injection e with _ e
  cases e

/-- What takeOne's loop knows behind j of the bucket's Puts. -/
structure TkAt (w : World) (tb mb : Nat) (x : Kp.Rc) (vb : Value) (l : Kp.Mp) (S : Nat) (j : Nat) (b : Value) (wr : World) : Prop where
  old : RowP wr 0 vb l
  row : RowP wr (w.heap.size + 1) b (Kp.del (l.take j) x.key)
  tab : Blk wr tb 86 #[.map (some mb), .int .i64 ((S : Int) - ((Kp.gone (l.take j) x.key : Nat) : Int))]
  box : Blk wr w.heap.size 32 (RcC x)
  gr : w.grownBy wr (some tb)

section
variable {w wr w2 : World} {tb mb : Nat} {x : Kp.Rc} {vb : Value} {l : Kp.Mp} {S j : Nat} {b : Value} {e : ByteArray × ByteArray}
theorem TkAt.up (h : TkAt w tb mb x vb l S j b wr) (hb : Below wr.heap.size wr w2) : TkAt w tb mb x vb l S j b w2 :=
  ⟨h.old.below hb, h.row.below hb, h.tab.older hb h.tab.lt, h.box.older hb h.box.lt, gr_trans h.gr (gr_of_below hb _)⟩
/-- That key: its bytes go. -/
theorem TkAt.skip (h : TkAt w tb mb x vb l S j b wr) (he : l[j]? = some e) (hq : e.1 = x.key) (hw : w.heap.size ≠ tb) {z : Int} (hz : z = (S : Int) - ((Kp.gone (l.take j) x.key : Nat) : Int) - ((e.1.size : Int) + (e.2.size : Int))) :
    TkAt w tb mb x vb l S (j + 1) b (wr.setCell ⟨tb, 1, none⟩ (.int .i64 z)) := by
  have hg := Lib.grownBy_setCell wr tb 1 (.int .i64 z)
  refine ⟨h.old.by_kind hg (not_rec_table h.tab), ?_, ?_, h.box.apart hw _, gr_set h.gr 1 _⟩
  · rw [Kp.del_take he, if_pos hq, List.append_nil]
    exact h.row.by_kind hg (not_rec_table h.tab)
  · have := h.tab.set_snd (.int .i64 z)
    rw [Kp.gone_take he, if_pos hq]
    rw [hz] at this ⊢
    have e3 : (S : Int) - ((Kp.gone (l.take j) x.key : Nat) : Int) - ((e.1.size : Int) + (e.2.size : Int)) = (S : Int) - ((Kp.gone (l.take j) x.key + (e.1.size + e.2.size) : Nat) : Int) := by omega
    rw [e3] at this ⊢
    exact this
/-- Another key: it stays. -/
theorem TkAt.more (h : TkAt w tb mb x vb l S j b wr) (he : l[j]? = some e) (hq : e.1 ≠ x.key) (htb : tb < w.heap.size) (hvb : ∀ g, vb.ownBlock = some g → g < w.heap.size) {b' : Value} (hr : RowP w2 (w.heap.size + 1) b' (Kp.del (l.take j) x.key ++ [e])) (hg : wr.grownBy w2 b.ownBlock) : TkAt w tb mb x vb l S (j + 1) b' w2 := by
  have hlt : ∀ g, b.ownBlock = some g → w.heap.size + 1 ≤ g := fun g hg' => (h.row.lt hg').1
  refine ⟨?_, ?_, ?_, ?_, gr_row h.gr hg (fun g hg' => by have := hlt g hg'; omega)⟩
  · refine h.old.grown hg ?_
    cases hv : vb.ownBlock with
    | none => exact .inl rfl
    | some g =>
      refine .inr fun e' => ?_
      have h1 := hvb g hv
      have h2 := hlt g e'.symm
      omega
  · rw [Kp.del_take he, if_neg hq]
    exact hr
  · rw [Kp.gone_take he, if_neg hq, Nat.add_zero]
    exact h.tab.grown hg (fun e' => by have := hlt tb e'.symm; omega)
  · exact h.box.grown hg (fun e' => by have := hlt _ e'.symm; omega)

/-- At the end: the bucket as it is then. -/
theorem TkAt.whole (h : TkAt w tb mb x vb l S l.length b wr) : RowP wr (w.heap.size + 1) b (Kp.del l x.key) ∧ Blk wr tb 86 #[.map (some mb), .int .i64 ((S : Int) - ((Kp.gone l x.key : Nat) : Int))] := by
  have h1 := h.row
  have h2 := h.tab
  rw [List.take_length] at h1 h2
  exact ⟨h1, h2⟩
end

/-- What takeOne leaves: a table and its map alone have changed. -/
abbrev Two (a b : Nat) (w w' : World) : Prop := Chg ⟨fun i => i ≠ a ∧ i ≠ b⟩ (fun _ => true) 0 w w'
theorem Two.of_grown {a b : Nat} {w w' : World} {row : Option Nat} (h : w.grownBy w' row) (hr : ∀ g, row = some g → g = a ∨ g = b) : Two a b w w' where
  os := h.os
  tape := h.tape
  output := h.output
  size := h.size
  all i hi hT := h.block i hi (fun e => by
    rcases hr i e.symm with rfl | rfl
    · have hm : i < w.heap.size := hi
      have := hT (Nat.zero_le _) (fun h => h.1 rfl) w.heap[i] (by rw [Array.getElem?_eq_getElem hm])
      cases this
    · have hm : i < w.heap.size := hi
      have := hT (Nat.zero_le _) (fun h => h.2 rfl) w.heap[i] (by rw [Array.getElem?_eq_getElem hm])
      cases this)
theorem Two.below {a b : Nat} {w w' : World} (h : Two a b w w') {B : Nat} (hB : B ≤ w.heap.size) (ha : B ≤ a) (hb : B ≤ b) : Below B w w' :=
  ⟨h.os, h.tape, h.output, h.size, fun i hi => h.keep (by omega) ⟨by omega, by omega⟩⟩

def TakePost [R : Rows] (tb mb n : Nat) (m : Kp.Mp) (w : World) (e : Ending) (w' : World) : Prop := e = .returned (.tuple #[]) ∧ Tab w' tb mb n m ∧ Two tb mb w w'

theorem not_rec_map {w : World} {g n : Nat} {G : Nat → Option Value} (h : MapB w g n G) : ∀ cs, w.heap[g]? ≠ some (.cells cs 32 (0, 0)) := by
  intro cs e
  obtain ⟨es, c, h1⟩ := h.block
  rw [h1] at e
  cases e

theorem take_end [R : Rows] {w wr w' : World} {tb mb n n' d : Nat} {G : Nat → Option Value} {D : Nat → Kp.Mp} {m : Kp.Mp} {x : Kp.Rc} {b : Value} {o : Option Value} (hT : TabAt w tb mb n G D m) (hd : d = Kp.mixB x.key) (hk : x.k = 1 ∨ x.k = 2)
    (hr : RowP wr (w.heap.size + 1) b (Kp.bucket (D d) x)) (htab : Blk wr tb 86 #[.map (some mb), .int .i64 ((Kp.size (Kp.taken m x) : Nat) : Int)]) (hgr : w.grownBy wr (some tb))
    (ho : (o = none ∧ Kp.bucket (D d) x = []) ∨ (o = some b ∧ Kp.bucket (D d) x ≠ [])) (hmap : MapB w' mb n' (Kp.upd G d o)) (hg' : wr.grownBy w' (some mb)) (hR : ∀ g, w.heap.size ≤ g → R.p g) : Tab w' tb mb n' (Kp.taken m x) ∧ Two tb mb w w' := by
  have hmt := hT.map.ne hT.blk
  have hmr : MapB wr mb n G := hT.map.grown hgr (fun e => by injection e with e; exact hmt e)
  refine ⟨⟨_, Kp.upd D d (Kp.bucket (D d) x), ⟨htab.grown hg' (fun e => by injection e with e; exact hmt e.symm), hmap, fun i hi => ?_, fun i v hi => ?_, by rw [hd]; exact hT.tabs.take hk, Kp.up_taken x hT.up, fun i v g hi hg => ?_⟩⟩,
    (Two.of_grown hgr (fun g e => by injection e with e; exact .inl e.symm)).trans (Two.of_grown hg' (fun g e => by injection e with e; exact .inr e.symm))⟩
  · by_cases e : i = d
    · subst e
      rw [Kp.upd_same] at hi ⊢
      rcases ho with ⟨_, h2⟩ | ⟨h1, _⟩
      · exact h2
      · rw [h1] at hi; cases hi
    · rw [Kp.upd_other _ _ e] at hi ⊢
      exact hT.free i hi
  · by_cases e : i = d
    · subst e
      rw [Kp.upd_same] at hi ⊢
      rcases ho with ⟨h1, _⟩ | ⟨h1, h2⟩
      · rw [h1] at hi; cases hi
      · rw [h1] at hi
        injection hi with hi
        subst hi
        refine ⟨h2, (hr.lower (Nat.zero_le _)).grown hg' ?_⟩
        refine .inr fun e' => ?_
        have := (hr.lt e').1
        have := hT.map.lt
        omega
    · rw [Kp.upd_other _ _ e] at hi ⊢
      obtain ⟨h1, h2⟩ := hT.rows i v hi
      exact ⟨h1, (h2.by_kind hgr (not_rec_table hT.blk)).by_kind hg' (not_rec_map hmr)⟩
  · by_cases e : i = d
    · subst e
      rw [Kp.upd_same] at hi
      rcases ho with ⟨h1, _⟩ | ⟨h1, h2⟩
      · rw [h1] at hi; cases hi
      · rw [h1] at hi
        injection hi with hi
        subst hi
        exact hR g (by have := (hr.lt hg).1; omega)
    · rw [Kp.upd_other _ _ e] at hi
      exact hT.far i v g hi hg

theorem bucket_put {l : Kp.Mp} {x : Kp.Rc} (h : x.k = 1) : Kp.bucket l x = Kp.del l x.key ++ [(x.key, x.val)] := by unfold Kp.bucket; rw [if_pos h]
theorem bucket_del {l : Kp.Mp} {x : Kp.Rc} (h : x.k = 2) : Kp.bucket l x = Kp.del l x.key := by unfold Kp.bucket; rw [if_neg (by rw [h]; decide), List.append_nil]
theorem bytes_put {D : Nat → Kp.Mp} {m : Kp.Mp} {x : Kp.Rc} (ht : Kp.Tabs D m) (hu : Kp.Up m) (h : x.k = 1) : (Kp.size m : Int) - ((Kp.gone (D (Kp.mixB x.key)) x.key : Nat) : Int) + ((x.key.size : Int) + (x.val.size : Int)) = ((Kp.size (Kp.taken m x) : Nat) : Int) := by
  have h1 := Kp.size_taken hu (x := x) (.inl h)
  rw [if_pos h] at h1
  rw [ht.gone hu]
  omega
theorem bytes_del {D : Nat → Kp.Mp} {m : Kp.Mp} {x : Kp.Rc} (ht : Kp.Tabs D m) (hu : Kp.Up m) (h : x.k = 2) : (Kp.size m : Int) - ((Kp.gone (D (Kp.mixB x.key)) x.key : Nat) : Int) = ((Kp.size (Kp.taken m x) : Nat) : Int) := by
  have h1 := Kp.size_taken hu (x := x) (.inr h)
  rw [if_neg (by rw [h]; decide)] at h1
  rw [ht.gone hu]
  omega

/-- The bytes of what is taken, too. -/
theorem TkAt.more_bytes {w wr : World} {tb mb S : Nat} {x : Kp.Rc} {vb b : Value} {l : Kp.Mp} (h : TkAt w tb mb x vb l S l.length b wr) (hw : w.heap.size ≠ tb) (z : Int) (o : Obj) :
    RowP ((wr.setCell ⟨tb, 1, none⟩ (.int .i64 z)).alloc o).drew (w.heap.size + 1) b (Kp.del l x.key) ∧ Blk ((wr.setCell ⟨tb, 1, none⟩ (.int .i64 z)).alloc o).drew tb 86 #[.map (some mb), .int .i64 z] ∧
      Blk ((wr.setCell ⟨tb, 1, none⟩ (.int .i64 z)).alloc o).drew w.heap.size 32 (RcC x) ∧ w.grownBy ((wr.setCell ⟨tb, 1, none⟩ (.int .i64 z)).alloc o).drew (some tb) := by
  obtain ⟨h1, h2⟩ := h.whole
  have hg := Lib.grownBy_setCell wr tb 1 (.int .i64 z)
  have hb : Below (wr.setCell ⟨tb, 1, none⟩ (.int .i64 z)).heap.size (wr.setCell ⟨tb, 1, none⟩ (.int .i64 z)) ((wr.setCell ⟨tb, 1, none⟩ (.int .i64 z)).alloc o).drew := ((Below.refl _ _).alloc (Nat.le_refl _) _).drew
  exact ⟨(h1.by_kind hg (not_rec_table h.tab)).below hb, ((h2.set_snd (.int .i64 z)).alloc o).drew, ((h.box.apart hw _).alloc o).drew, gr_drew (gr_alloc (gr_set h.gr 1 _) _)⟩

theorem slice_of_row {w : World} {base : Nat} {v : Value} {m : Kp.Mp} (h : RowP w base v m) : ∃ A cap, v = .slice A m.length cap := by
  rcases h.2 with ⟨rfl, h0⟩ | ⟨g, cap, cur, rfl, _⟩
  · exact ⟨none, 0, by rw [h0]⟩
  · exact ⟨_, cap, rfl⟩

theorem put_tail [R : Rows] {w w5 w7 : World} {tb mb n d : Nat} {G : Nat → Option Value} {D : Nat → Kp.Mp} {m : Kp.Mp} {x : Kp.Rc} {b v7 : Value} {z : Int} {o : Obj} (hT : TabAt w tb mb n G D m) (hd : d = Kp.mixB x.key) (h1 : x.k = 1) (hn : n ≤ 1000000000)
    (hr5 : RowP w5 (w.heap.size + 1) b (Kp.del (D d) x.key)) (ht5 : Blk w5 tb 86 #[.map (some mb), .int .i64 z]) (hz : z = (Kp.size m : Int) - ((Kp.gone (D d) x.key : Nat) : Int) + ((x.key.size : Int) + (x.val.size : Int))) (hg5 : w.grownBy w5 (some tb))
    (hr7 : RowP w7 (w.heap.size + 1) v7 (Kp.del (D d) x.key ++ [(x.key, x.val)])) (hg7 : (w5.alloc o).grownBy w7 b.ownBlock) (hR : ∀ g, w.heap.size ≤ g → R.p g) :
    ∃ A cap w8, v7 = .slice A ((Kp.del (D d) x.key).length + 1) cap ∧ w7.cell? ⟨tb, 0, none⟩ = some (.map (some mb)) ∧ (Instr.mapUpdate 84 (.map (some mb)) (.int .u64 (d : Int)) v7).run Tryz.prog w7 = .ok () w8 ∧
      Tab w8 tb mb (n + 1) (Kp.taken m x) ∧ Two tb mb w w8 := by
  have hlt : ∀ g, b.ownBlock = some g → w.heap.size + 1 ≤ g := fun g hg' => (hr5.lt hg').1
  have hgw : w.grownBy w7 (some tb) := gr_row (gr_alloc hg5 o) hg7 (fun g hg' => by have := hlt g hg'; omega)
  have hmt := hT.map.ne hT.blk
  have htb := hT.blk.lt
  have ht7 : Blk w7 tb 86 #[.map (some mb), .int .i64 z] := (ht5.alloc o).grown hg7 (fun e' => by have := hlt tb e'.symm; omega)
  have hm7 : MapB w7 mb n G := hT.map.grown hgw (fun e => by injection e with e; exact hmt e)
  obtain ⟨y, hy⟩ := hr7.slc
  have hd64 : d < 18446744073709551616 := by rw [hd]; exact Kp.mixB_lt _
  obtain ⟨w8, hrun, hm8, hg8⟩ := hm7.put (by unfold maxLen; omega) hd64 hy
  obtain ⟨A, cap, hv⟩ := slice_of_row hr7
  rw [List.length_append] at hv
  have hbz : z = ((Kp.size (Kp.taken m x) : Nat) : Int) := by
    have := bytes_put hT.tabs hT.up h1
    rw [← hd] at this
    rw [hz, this]
  rw [hbz] at ht7
  obtain ⟨e1, e2⟩ := take_end hT hd (.inl h1) (b := v7) (by rw [bucket_put h1]; exact hr7) ht7 hgw (.inr ⟨rfl, by rw [bucket_put h1]; simp⟩) hm8 hg8 hR
  exact ⟨A, cap, w8, hv, (cells_two ht7).1, hrun, e1, e2⟩

theorem del_tail [R : Rows] {w wr : World} {tb mb n d : Nat} {G : Nat → Option Value} {D : Nat → Kp.Mp} {m : Kp.Mp} {x : Kp.Rc} {b : Value} (hT : TabAt w tb mb n G D m) (hd : d = Kp.mixB x.key) (h1 : x.k = 2) (hn : n ≤ 1000000000)
    (hr : RowP wr (w.heap.size + 1) b (Kp.del (D d) x.key)) (ht : Blk wr tb 86 #[.map (some mb), .int .i64 ((Kp.size m : Int) - ((Kp.gone (D d) x.key : Nat) : Int))]) (hgw : w.grownBy wr (some tb)) (hR : ∀ g, w.heap.size ≤ g → R.p g) :
    (Kp.del (D d) x.key = [] → ∀ ty, ∃ w8, (Builtin.delete_ #[84, 51] ty #[.map (some mb), .int .u64 (d : Int)]).run Tryz.prog wr = .ok (.tuple #[]) w8 ∧ Tab w8 tb mb (n + 1) (Kp.taken m x) ∧ Two tb mb w w8) ∧
    (Kp.del (D d) x.key ≠ [] → ∃ w8, (Instr.mapUpdate 84 (.map (some mb)) (.int .u64 (d : Int)) b).run Tryz.prog wr = .ok () w8 ∧ Tab w8 tb mb (n + 1) (Kp.taken m x) ∧ Two tb mb w w8) := by
  have hmt := hT.map.ne hT.blk
  have hm7 : MapB wr mb n G := hT.map.grown hgw (fun e => by injection e with e; exact hmt e)
  have hd64 : d < 18446744073709551616 := by rw [hd]; exact Kp.mixB_lt _
  have hbz := bytes_del hT.tabs hT.up h1
  rw [← hd] at hbz
  rw [hbz] at ht
  refine ⟨fun he ty => ?_, fun he => ?_⟩
  · obtain ⟨w8, hrun, hm8, hg8⟩ := hm7.del hd64 ty
    obtain ⟨e1, e2⟩ := take_end hT hd (.inr h1) (b := b) (by rw [bucket_del h1]; exact hr) ht hgw (.inl ⟨rfl, by rw [bucket_del h1]; exact he⟩) (hm8.mono (Nat.le_succ n)) hg8 hR
    exact ⟨w8, hrun, e1, e2⟩
  · obtain ⟨y, hy⟩ := hr.slc
    obtain ⟨w8, hrun, hm8, hg8⟩ := hm7.put (by unfold maxLen; omega) hd64 hy
    obtain ⟨e1, e2⟩ := take_end hT hd (.inr h1) (b := b) (by rw [bucket_del h1]; exact hr) ht hgw (.inr ⟨rfl, by rw [bucket_del h1]; exact he⟩) hm8 hg8 hR
    exact ⟨w8, hrun, e1, e2⟩

theorem wpList_delete_run (w : World) {ops : Array Oper} {rest : List Oper} {o : Oper} {a : Act} {Q : Exit → Act → World → Prop}
    (hg : o.guard = none) (mo x : Operand) (hop : o.op = Op.call { callee := Callee.builtin Builtin.delete, args := #[mo, x], argTypes := #[84, 51] })
    {m d : Nat} {R : World → Prop} (hall : ∀ ty, ∃ w', (Builtin.delete_ #[84, 51] ty #[.map (some m), .int .u64 (d : Int)]).run Tryz.prog w = .ok (.tuple #[]) w' ∧ R w')
    (hm : a.eval mo = .map (some m)) (hx : a.eval x = .int .u64 (d : Int)) (hK : ∀ w', R w' → wpList Tryz.prog ops Q rest (a.put o.dst (.tuple #[])) w') :
    wpList Tryz.prog ops Q (o :: rest) a w := by
  refine wpList_plain hg fun K' hK' => ?_
  obtain ⟨w', hrun, hR⟩ := hall o.type
  unfold Oper.wp
  simp [execOp, hop, resolve, invoke, builtin, hm, hx, hrun, Result.andThen]
  exact hK' _ _ (hK w' hR)
end Go.Proofs.YtimcepoleboldaaGreatDoor
