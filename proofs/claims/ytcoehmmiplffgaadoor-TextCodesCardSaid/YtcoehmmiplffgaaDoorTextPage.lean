/- A page: a strings.Builder in a block of the program's own struct, and what its writing methods come to. -/
import Derived.Test.YtcoehmmiplffgaaDoorQuiets
import Derived.Test.YtcoehmmiplffgaaDoorTextPlain
import Derived.Shelf.Strings.Builder1
import Derived.Laws.AppendOwn
import Derived.RegionTactic
namespace Go.Proofs.YtcoehmmiplffgaaDoor
open Go.ChangeShapes Go.WideShapes Go.RowKit Go.Deep

/-- Blocks that a page's calls change: the page's own, and rows of bytes. -/
def Tp (o : Obj) : Bool :=
  match o with
  | .cells _ t _ => t == 77 || t == 5
  | _ => false

/-- A page at block b: its error e, and what is written so far. -/
def Pg (w : World) (B b : Nat) (e : Int) (l : List UInt8) : Prop :=
  B ≤ b ∧ ∃ p v, Blk w b 77 #[p, v, .int .i64 e] ∧ (p = .pointer none ∨ p = .pointer (some ⟨b, 0, none⟩)) ∧ w.ownsRow B 5 1 v l.length (Lib.byteCells l)

theorem Pg.lt {w : World} {B b : Nat} {e : Int} {l : List UInt8} (h : Pg w B b e l) : b < w.heap.size := by
  obtain ⟨_, p, v, hb, _⟩ := h
  exact hb.lt
theorem Pg.below {w w' : World} {B b : Nat} {e : Int} {l : List UInt8} (h : Pg w B b e l) (hb : Below w.heap.size w w') : Pg w' B b e l := by
  obtain ⟨h0, p, v, h1, h2, h3⟩ := h
  exact ⟨h0, p, v, h1.older hb h1.lt, h2, World.ownsRow.kept (row := none) h3 (gr_of_below hb none) (by cases h2 : v.ownBlock <;> simp)⟩
theorem Pg.alloc {w : World} {B b : Nat} {e : Int} {l : List UInt8} (h : Pg w B b e l) (o : Obj) : Pg (w.alloc o) B b e l := h.below ((Below.refl _ _).alloc (Nat.le_refl _) _)
theorem Pg.new (w : World) (B : Nat) (hB : B ≤ w.heap.size) : Pg (w.alloc (.cells #[.pointer none, .slice none 0 0, .int .i64 0] 77)) B w.heap.size 0 [] :=
  ⟨hB, _, _, Blk.new _ _ _, .inl rfl, World.ownsRow_nil _ _ _ _⟩

theorem info_builder : (Tryd.prog.info? 75).map (·.size) = some 2 := by kernel_rfl
theorem lies_builder : liesAt Tryd.prog Tryd.prog.depth 77 (3 / Tryd.prog.cellsOf 77) 0 75 1 = true := by kernel_rfl
theorem info_u8 : (Tryd.prog.info? 5).map (fun i => (i.zero, i.size, i.bytes)) = some (some (.int .u8 0), 1, 1) := by kernel_rfl
theorem cells_u8 : Tryd.prog.cellsOf 5 = 1 := by kernel_rfl

/-- The page's builder has been used. -/
def Used (w : World) (B b : Nat) (e : Int) (l : List UInt8) : Prop :=
  B ≤ b ∧ ∃ v, Blk w b 77 #[.pointer (some ⟨b, 0, none⟩), v, .int .i64 e] ∧ w.ownsRow B 5 1 v l.length (Lib.byteCells l)
theorem Used.pg {w : World} {B b : Nat} {e : Int} {l : List UInt8} (h : Used w B b e l) : Pg w B b e l := by
  obtain ⟨h0, v, h1, h2⟩ := h
  exact ⟨h0, _, v, h1, .inr rfl, h2⟩

theorem own_page_ne {w : World} {B b n : Nat} {v : Value} {xs : List Value} {cs : Array Value} (h : w.ownsRow B 5 1 v n xs) (hb : Blk w b 77 cs) : v.ownBlock ≠ some b :=
  Lib.ownBlock_ne h hb (by decide)

set_option maxHeartbeats 1000000 in
set_option maxRecDepth 100000 in
theorem copycheck_any (B b : Nat) (e : Int) (l : List UInt8) (w : World) (h : Pg w B b e l) :
    Calls Tryd.prog 68 #[.pointer (some ⟨b, 0, none⟩)] w fun en w' => en = .returned (.tuple #[]) ∧ Used w' B b e l ∧ Ch Tp B w w' := by
  obtain ⟨hB, p, v, hb, hp, hown⟩ := h
  obtain ⟨j, hj, hjs⟩ := Option.map_eq_some_iff.1 info_builder
  have c0 := hb.cell 0
  have f0 := hb.frozen 0
  have hsh : w.shape? b = some (77, 3) := by
    have : w.heap[b]? = some (.cells #[p, v, .int .i64 e] 77 (0, 0)) := hb
    simp [World.shape?, this]
  rcases hp with rfl | rfl
  · have HE := Lib.hid (show Used (w.setCell ⟨b, 0, none⟩ (.pointer (some ⟨b, 0, none⟩))) B b e l ∧ Ch Tp B w (w.setCell ⟨b, 0, none⟩ (.pointer (some ⟨b, 0, none⟩))) from
      ⟨⟨hB, v, by simpa using hb.set 0 (.pointer (some ⟨b, 0, none⟩)), World.ownsRow.kept (row := some b) hown (Lib.grownBy_setCell w b 0 _) (Or.inr (own_page_ne hown hb))⟩, Ch.set hb hB rfl _ _⟩)
    clear hb hown hB
    go_enter Tryd.func68, Tryd.ntmps68
    go_wp2
    rw [Lib.run_to_unsafe w ⟨b, 0, none⟩ Tryd.underlying72 Tryd.underlying121 hj (by rw [hjs]; decide) hsh (by show 0 < 3; decide)]
    simp only [Result.andThen]
    rw [Oper.upon_value]
    go_wp2
    rw [run_callFunc_extern Tryd.func78 (by kernel_rfl) (by kernel_rfl) (by kernel_rfl) (e := Extern.AbiNoEscape.same) (by kernel_rfl)]
    rw [Lib.run_noEscape]
    simp only [Result.andThen]
    rw [Oper.upon_value]
    go_wp2
    rw [Lib.run_from_unsafe w ⟨b, 0, none⟩ Tryd.underlying121 Tryd.underlying72 hj hsh lies_builder]
    simp only [Result.andThen]
    rw [Oper.upon_value]
    go_wp2
    go_end0
    exact ⟨rfl, HE.out⟩
  · have HE := Lib.hid (show Used w B b e l ∧ Ch Tp B w w from ⟨⟨hB, v, hb, hown⟩, Ch.refl _ _ _⟩)
    clear hb hown hB
    go_enter Tryd.func68, Tryd.ntmps68
    go_wp2
    rw [Lib.run_neq_ptr_same w _ Tryd.underlying72 hj]
    go_wp2
    go_end0
    exact ⟨rfl, HE.out⟩

/-- A new buffer laid into the page. -/
theorem Used.put {w1 w2 : World} {B b : Nat} {e : Int} {v v' : Value} {l m : List UInt8} (hB : B ≤ b) (hb1 : Blk w1 b 77 #[.pointer (some ⟨b, 0, none⟩), v, .int .i64 e]) (hown : w1.ownsRow B 5 1 v l.length (Lib.byteCells l))
    (hgrow : w1.grownBy w2 v.ownBlock) (hown' : w2.ownsRow B 5 1 v' m.length (Lib.byteCells m)) :
    Pg (w2.setCell ⟨b, 1, none⟩ v') B b e m ∧ Ch Tp B w1 (w2.setCell ⟨b, 1, none⟩ v') := by
  have hb2 : Blk w2 b 77 #[.pointer (some ⟨b, 0, none⟩), v, .int .i64 e] := hb1.grown hgrow (fun e => own_page_ne hown hb1 e.symm)
  have hb3 : Blk (w2.setCell ⟨b, 1, none⟩ v') b 77 #[.pointer (some ⟨b, 0, none⟩), v', .int .i64 e] := by simpa using hb2.set 1 v'
  refine ⟨⟨hB, _, v', hb3, .inr rfl, ?_⟩, ?_⟩
  · exact World.ownsRow.kept (row := some b) hown' (Lib.grownBy_setCell w2 b 1 _) (Or.inr (own_page_ne hown' hb2))
  · exact (ch_of_append hown hgrow (fun _ => rfl)).trans (Ch.set hb2 hB rfl _ _)

set_option maxHeartbeats 2000000 in
set_option maxRecDepth 100000 in
theorem writebyte_any (B b : Nat) (e : Int) (l : List UInt8) (c : UInt8) (w : World) (h : Pg w B b e l) (hlen : l.length ≤ 1099511627776) (hBw : B ≤ w.heap.size) :
    Calls Tryd.prog 58 #[.pointer (some ⟨b, 0, none⟩), .int .u8 (c.toNat : Int)] w fun en w' => en = .returned .nilIface ∧ Pg w' B b e (l ++ [c]) ∧ Ch Tp B w w' := by
  obtain ⟨i0, hi, hz0, hz1, hz2⟩ := info_parts info_u8
  have HC := Lib.hid (copycheck_any B b e l w h)
  have HS := Lib.hid hlen
  have HB := Lib.hid hBw
  clear h hlen hBw
  go_enter Tryd.func58, Tryd.ntmps58
  go_wp2_with fail
  refine HC.out.mono ?_
  rintro en w1 ⟨rfl, h1, hc1⟩
  obtain ⟨hB, v, hbk, hown⟩ := h1
  have HH := Lib.hid (show B ≤ b ∧ Ch Tp B w w1 from ⟨hB, hc1⟩)
  have hbs : B ≤ w1.heap.size := Nat.le_trans HB.out hc1.size
  clear hB hc1
  have c0 := hbk.cell 0
  have c1 := hbk.cell 1
  have HK := Lib.hid hbk
  have HO := Lib.hid hown
  have HZ := Lib.hid hbs
  clear hbk hown hbs
  go_wp2_with (at_builtin; refine wpList_append_own _ rfl _ _ 73 rfl B 5 i0 (.int .u8 0) 1 1 Tryd.underlying73 hi hz0 hz1 hz2 rfl (by decide) _ _ _ rfl (HO.out.alloc _) ⟨w1.heap.size, 0, none⟩ 1 1 [.int .u8 (c.toNat : Int)] rfl rfl ?c1 ?c2 ?c3 ?c4 ?c5 ?_)
  case c1 =>
    intro j u hj
    match j, hj with
    | 0, hj => simp at hj; subst hj; simp [Addr.add]
  case c2 => intro u hu; simp at hu; subst hu; rfl
  case c3 => have := HS.out; unfold maxLen; omega
  case c4 => have := HS.out; omega
  case c5 => have := HZ.out; simp; omega
  intro v' w2 hown' hgrow _
  have hgrow1 : w1.grownBy w2 v.ownBlock := gr_trans (World.grownBy_alloc _ _ _) hgrow
  have hown1 : w2.ownsRow B 5 1 v' (l ++ [c]).length (Lib.byteCells (l ++ [c])) := by simpa [Lib.byteCells] using hown'
  have HE := Lib.hid (Used.put HH.out.1 HK.out HO.out hgrow1 hown1)
  have hb2 : Blk w2 b 77 #[.pointer (some ⟨b, 0, none⟩), v, .int .i64 e] := HK.out.grown hgrow1 (fun e => own_page_ne HO.out HK.out e.symm)
  have d0 := hb2.cell 0
  have d1 := hb2.cell 1
  have f1 := hb2.frozen 1
  obtain ⟨ao, n', cap, rfl⟩ : ∃ ao n' cap, v' = .slice ao n' cap := by
    rcases hown'.2 with ⟨hv, _⟩ | ⟨g, cap, cur, hv, _⟩
    · exact ⟨_, _, _, hv⟩
    · exact ⟨_, _, _, hv⟩
  clear hown' hgrow hgrow1 hown1 hb2 c0 c1
  go_wp2
  go_ret
  exact ⟨rfl, HE.out.1, HH.out.2.trans HE.out.2⟩

set_option maxHeartbeats 2000000 in
set_option maxRecDepth 100000 in
theorem writestring_any (B b : Nat) (e : Int) (l : List UInt8) (s : ByteArray) (w : World) (h : Pg w B b e l) (hlen : l.length ≤ 1099511627776) (hs : s.size ≤ 1099511627776) (hBw : B ≤ w.heap.size) :
    Calls Tryd.prog 57 #[.pointer (some ⟨b, 0, none⟩), .string s] w fun en w' => en = .returned (.tuple #[.int .i64 s.size, .nilIface]) ∧ Pg w' B b e (l ++ s.data.toList) ∧ Ch Tp B w w' := by
  obtain ⟨i0, hi, hz0, hz1, hz2⟩ := info_parts info_u8
  have HC := Lib.hid (copycheck_any B b e l w h)
  have HS := Lib.hid (And.intro hlen hs)
  have HB := Lib.hid hBw
  clear h hlen hBw hs
  go_enter Tryd.func57, Tryd.ntmps57
  go_wp2_with fail
  refine HC.out.mono ?_
  rintro en w1 ⟨rfl, h1, hc1⟩
  obtain ⟨hB, v, hbk, hown⟩ := h1
  have HH := Lib.hid (show B ≤ b ∧ Ch Tp B w w1 from ⟨hB, hc1⟩)
  have hbs : B ≤ w1.heap.size := Nat.le_trans HB.out hc1.size
  clear hB hc1
  have c0 := hbk.cell 0
  have c1 := hbk.cell 1
  have HK := Lib.hid hbk
  have HO := Lib.hid hown
  have HZ := Lib.hid hbs
  clear hbk hown hbs
  go_wp2_with (at_builtin; refine Lib.wpList_append_own_string _ rfl _ _ 73 9 rfl B 5 i0 Tryd.underlying73 Tryd.underlying9 hi hz0 hz1 hz2 _ _ _ rfl HO.out s rfl ?c3 ?c4 ?c5 ?_)
  case c3 => have := HS.out; unfold maxLen; omega
  case c4 => have := HS.out; omega
  case c5 => exact HZ.out
  intro v' w2 hown' hgrow _
  have hown1 : w2.ownsRow B 5 1 v' (l ++ s.data.toList).length (Lib.byteCells (l ++ s.data.toList)) := by
    have e1 : Lib.byteCells (l ++ s.data.toList) = Lib.byteCells l ++ Lib.strCells s := by simp [Lib.byteCells, Lib.strCells]
    have e2 : (l ++ s.data.toList).length = l.length + s.size := by simp
    rw [e1, e2]
    exact hown'
  have HE := Lib.hid (Used.put HH.out.1 HK.out HO.out hgrow hown1)
  have hb2 : Blk w2 b 77 #[.pointer (some ⟨b, 0, none⟩), v, .int .i64 e] := HK.out.grown hgrow (fun e => own_page_ne HO.out HK.out e.symm)
  have d0 := hb2.cell 0
  have d1 := hb2.cell 1
  have f1 := hb2.frozen 1
  obtain ⟨ao, n', cap, rfl⟩ : ∃ ao n' cap, v' = .slice ao n' cap := by
    rcases hown'.2 with ⟨hv, _⟩ | ⟨g, cap, cur, hv, _⟩
    · exact ⟨_, _, _, hv⟩
    · exact ⟨_, _, _, hv⟩
  clear hown' hgrow hown1 hb2 c0 c1
  go_wp2
  go_ret2
  exact ⟨rfl, HE.out.1, HH.out.2.trans HE.out.2⟩

set_option maxHeartbeats 2000000 in
set_option maxRecDepth 100000 in
theorem bstring_any (B b : Nat) (e : Int) (l : List UInt8) (w : World) (h : Pg w B b e l) (h0 : l ≠ []) :
    Calls Tryd.prog 43 #[.pointer (some ⟨b, 0, none⟩)] w fun en w' => en = .returned (.string ⟨l.toArray⟩) ∧ Below B w w' := by
  obtain ⟨hB, p, v, hbk, hp, hown⟩ := h
  have hl0 : l.length ≠ 0 := by simpa using h0
  obtain ⟨g, cap, cur, rfl, hbg, hg, hnc, hcm, hcs, htake⟩ : ∃ g cap cur, v = .slice (some ⟨g, 0, none⟩) l.length cap ∧ B ≤ g ∧ w.heap[g]? = some (.cells cur 5 (0, 0)) ∧ l.length ≤ cap ∧ cap ≤ maxLen ∧ cur.size = cap * 1 ∧ cur.toList.take (l.length * 1) = Lib.byteCells l := by
    rcases hown.2 with ⟨_, hz⟩ | ⟨g, cap, cur, hv, r⟩
    · exact absurd hz hl0
    · exact ⟨g, cap, cur, hv, r⟩
  have c1 := (hbk.drew).cell 1
  have hSD : (Builtin.unsafeSliceData_ #[73] 113 #[.slice (some ⟨g, 0, none⟩) l.length cap]).run Tryd.prog w.drew = .ok (.pointer (some ⟨g, 0, none⟩)) w.drew :=
    Lib.run_unsafeSliceData_row _ _ _ _ _ _ (by omega)
  have hUS : (Builtin.unsafeString_ #[113, 3] 9 #[.pointer (some ⟨g, 0, none⟩), .int .i64 l.length]).run Tryd.prog w.drew = .ok (.string ⟨l.toArray⟩) (w.drew.freeze ⟨g, 0, none⟩ l.length) := by
    refine Lib.run_unsafeString_row w.drew 113 3 9 5 Tryd.underlying113 cells_u8 g cur.size (by have hg' : w.drew.heap[g]? = some (.cells cur 5 (0, 0)) := hg; simp [World.shape?, hg']) l h0 (by omega) (by unfold maxLen at hcm; omega) ?_
    intro j x hx
    have := hown.cells (g := g) rfl j (.int .u8 x.toNat) (by simp [Lib.byteCells, hx])
    exact this
  have HE := Lib.hid (show Below B w (w.drew.freeze ⟨g, 0, none⟩ l.length) from Lib.below_freeze (Below.drew (Below.refl B w)) (p := ⟨g, 0, none⟩) hbg _)
  clear hbk hown hg htake hcs hbg hp
  go_enter Tryd.func43, Tryd.ntmps43
  go_wp2
  go_region
  all_goals (go_wp2; go_ret; exact ⟨rfl, HE.out⟩)
end Go.Proofs.YtcoehmmiplffgaaDoor
