/- What the reading wants of memory: the tables and variables of the library, the program's table. -/
import Derived.Test.YtcoehmmiplffgaaDoorTextItoa
import Derived.Test.YtcoehmmiplffgaaDoorTextRows
import Derived.Test.YtcoehmmiplffgaaDoorTextNums
import Derived.Test.YtcoehmmiplffgaaDoorShAtoi
import Derived.Test.YtcoehmmiplffgaaDoorShCut
import Derived.Test.YtcoehmmiplffgaaDoorShSplit
namespace Go.Proofs.YtcoehmmiplffgaaDoor
open Go.ChangeShapes Go.WideShapes Go.RowKit Go.Deep

theorem gSyn : Tryd.prog.globalNamed "strconv.ErrSyntax" = some 5 := by kernel_rfl
theorem gRng : Tryd.prog.globalNamed "strconv.ErrRange" = some 6 := by kernel_rfl

structure Rdy (w : World) : Prop where
  pow : Pow w
  rws : Rws w
  syn : ∃ tp p, w.var? Tryd.prog "strconv.ErrSyntax" = some #[.iface tp p]
  rng : ∃ tp p, w.var? Tryd.prog "strconv.ErrRange" = some #[.iface tp p]
  mx : ∃ m, w.cell? ⟨1, 0, none⟩ = some (.int .i64 m)
  lowP : 2 < w.heap.size
  lowR : 0 < w.heap.size
  lowS : 5 < w.heap.size
  lowG : 6 < w.heap.size
  lowM : 1 < w.heap.size
theorem Rdy.kept {w w' : World} {B : Nat} (h : Rdy w) (hb : Below B w w') (hp : 2 < B) (hr : 0 < B) (hs : 5 < B) (hg : 6 < B) (hm : 1 < B) : Rdy w' := by
  obtain ⟨t1, p1, h1⟩ := h.syn
  obtain ⟨t2, p2, h2⟩ := h.rng
  obtain ⟨m, h3⟩ := h.mx
  exact ⟨h.pow.below hb hp, h.rws.below hb hr, ⟨t1, p1, var?_below hb gSyn hs h1⟩, ⟨t2, p2, var?_below hb gRng hg h2⟩, ⟨m, (hb.cell (p := ⟨1, 0, none⟩) hm).trans h3⟩,
    Nat.lt_of_lt_of_le h.lowP hb.size, Nat.lt_of_lt_of_le h.lowR hb.size, Nat.lt_of_lt_of_le h.lowS hb.size, Nat.lt_of_lt_of_le h.lowG hb.size, Nat.lt_of_lt_of_le h.lowM hb.size⟩
theorem Rdy.below {w w' : World} (h : Rdy w) (hb : Below w.heap.size w w') : Rdy w' := h.kept hb h.lowP h.lowR h.lowS h.lowG h.lowM
/-- Ready, and all that makes it so lies ahead of B. -/
structure RdyB (B : Nat) (w : World) : Prop where
  rdy : Rdy w
  p : 2 < B
  r : 0 < B
  s : 5 < B
  g : 6 < B
  m : 1 < B
theorem Rdy.at (w : World) (h : Rdy w) : RdyB w.heap.size w := ⟨h, h.lowP, h.lowR, h.lowS, h.lowG, h.lowM⟩
theorem RdyB.below {B : Nat} {w w' : World} (h : RdyB B w) (hb : Below B w w') : RdyB B w' := ⟨h.rdy.kept hb h.p h.r h.s h.g h.m, h.p, h.r, h.s, h.g, h.m⟩
theorem RdyB.mono {B B' : Nat} {w : World} (h : RdyB B w) (hb : B ≤ B') : RdyB B' w := ⟨h.rdy, Nat.lt_of_lt_of_le h.p hb, Nat.lt_of_lt_of_le h.r hb, Nat.lt_of_lt_of_le h.s hb, Nat.lt_of_lt_of_le h.g hb, Nat.lt_of_lt_of_le h.m hb⟩

/-! ### the library's -/
theorem atoi_ok (s : ByteArray) (hs : s.size ≤ 1000000) (v : Int) (h : Lib.atoiAll s.data.toList = .ok v) (w : World) :
    Calls Tryd.prog 77 #[.string s] w fun e w' => e = .returned (.tuple #[.int .i64 v, .nilIface]) ∧ Below w.heap.size w w' := by
  refine (strconv_Atoi_ok s (by omega) v h w).mono ?_
  rintro e w' ⟨rfl, rfl | ⟨t, rfl⟩⟩
  · exact ⟨rfl, Below.refl _ _⟩
  · exact ⟨rfl, Lib.bytesWorld_below w _ t⟩
theorem atoi_no (s : ByteArray) (hs : s.size ≤ 1000000) (h : ∀ v, Lib.atoiAll s.data.toList ≠ .ok v) (w : World) (hw : Rdy w) :
    Calls Tryd.prog 77 #[.string s] w fun e w' => (∃ n N, e = .returned (.tuple #[.int .i64 n, .iface 143 (.pointer (some ⟨N, 0, none⟩))])) ∧ Below w.heap.size w w' := by
  obtain ⟨t1, p1, h1⟩ := hw.syn
  obtain ⟨t2, p2, h2⟩ := hw.rng
  cases hc : Lib.atoiAll s.data.toList with
  | ok v => exact absurd hc (h v)
  | range =>
    refine (Any.strconv_Atoi_range_var laysC172 s (by omega) hc t2 p2 w h2).mono ?_
    rintro e w' ⟨N, rfl, -, -, hb⟩
    exact ⟨⟨_, N, rfl⟩, hb⟩
  | _ =>
    refine (Any.strconv_Atoi_syntax_var laysC172 s (by omega) hc t1 p1 w h1).mono ?_
    rintro e w' ⟨N, rfl, -, -, hb⟩
    exact ⟨⟨_, N, rfl⟩, hb⟩
theorem below_drewN (w : World) (n : Nat) : Below w.heap.size w (w.drewN n) := ⟨rfl, rfl, rfl, Nat.le_refl _, fun _ _ => rfl⟩
theorem cut_any (s : ByteArray) (w : World) (hs : s.size ≤ 1000000) (hw : Rdy w) :
    Calls Tryd.prog 51 #[.string s, .string ⟨#[10]⟩] w fun e w' => e = .returned (.tuple #[.string (Tx.mkB (Lib.cut s.data.toList [10]).1), .string (Tx.mkB (Lib.cut s.data.toList [10]).2.1), .bool (Lib.cut s.data.toList [10]).2.2]) ∧ ∃ n, w' = w.drewN n := by
  obtain ⟨m, hm⟩ := hw.mx
  exact Any.strings_Cut { laysM145 with } s ⟨#[10]⟩ m w (by omega) hm
theorem split_list (s : ByteArray) : (Lib.splitB ⟨#[32]⟩ 0 (Lib.countB s ⟨#[32]⟩) s) = (Tx.words s.data.toList).map Tx.mkB := by
  have h := Lib.splitB_data ⟨#[32]⟩ 0 (Lib.countB s ⟨#[32]⟩) s
  have h2 : Lib.splitK [32] 0 (Lib.countB s ⟨#[32]⟩) s.data.toList = Tx.words s.data.toList := Tx.split_is s.data.toList
  have h3 : (Lib.splitB ⟨#[32]⟩ 0 (Lib.countB s ⟨#[32]⟩) s).map (·.data.toList) = Tx.words s.data.toList := h.trans h2
  rw [← h3, List.map_map]
  conv => lhs; rw [← List.map_id (Lib.splitB ⟨#[32]⟩ 0 (Lib.countB s ⟨#[32]⟩) s)]
  exact List.map_congr_left (fun x _ => (Tx.mkB_list x).symm)
theorem split_any (s : ByteArray) (w : World) (hs : s.size ≤ 1000000) (hw : Rdy w) :
    Calls Tryd.prog 52 #[.string s, .string ⟨#[32]⟩] w fun e w' => e = .returned (.slice (some ⟨w.heap.size, 0, none⟩) (Tx.words s.data.toList).length (Tx.words s.data.toList).length) ∧ w' = w.alloc (.cells (((Tx.words s.data.toList).map Tx.mkB).map Value.string).toArray 9) := by
  obtain ⟨m, hm⟩ := hw.mx
  have hl := Lib.splitB_all ⟨#[32]⟩ (by decide) 0 _ s rfl
  rw [split_list, List.length_map] at hl
  rw [← split_list, hl]
  exact Any.strings_Split { laysM146 with } (by kernel_rfl) s ⟨#[32]⟩ m w (by omega) hm (by decide)
end Go.Proofs.YtcoehmmiplffgaaDoor
