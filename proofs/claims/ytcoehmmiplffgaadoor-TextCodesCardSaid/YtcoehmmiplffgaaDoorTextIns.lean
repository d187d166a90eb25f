/- An instruction's line is written: (*page).ins. -/
import Derived.Test.YtcoehmmiplffgaaDoorTextLine
import Derived.Test.YtcoehmmiplffgaaDoorTextRowParts
namespace Go.Proofs.YtcoehmmiplffgaaDoor
open Go.ChangeShapes Go.WideShapes Go.RowKit Go.Deep

/-- A []int that lies below B and reads as l. -/
def ArgsB (B : Nat) (w : World) (sl : Value) (l : List Int) : Prop :=
  ∃ A cap, sl = .slice A l.length cap ∧ l.length ≤ cap ∧ ∀ (j : Nat) (n : Int), l[j]? = some n →
    ∃ b off, A = some ⟨b, off, none⟩ ∧ b < B ∧ w.cell? ⟨b, off + j, none⟩ = some (.int .i64 n) ∧ -9223372036854775808 ≤ n ∧ n ≤ 9223372036854775807
theorem ArgsB.below {B : Nat} {w w' : World} {sl : Value} {l : List Int} (h : ArgsB B w sl l) (hb : Below B w w') : ArgsB B w' sl l := by
  obtain ⟨A, cap, h1, h2, h3⟩ := h
  refine ⟨A, cap, h1, h2, fun j n hj => ?_⟩
  obtain ⟨b, off, h4, h5, h6, h7⟩ := h3 j n hj
  exact ⟨b, off, h4, h5, (hb.cell (p := ⟨b, off + j, none⟩) h5).trans h6, h7⟩
theorem Nums.argsB {w : World} {sl : Value} {l : List Int} (h : Nums w sl l) : ArgsB w.heap.size w sl l := by
  obtain ⟨A, cap, h1, ⟨h2, _⟩, h3⟩ := h
  refine ⟨A, cap, h1, h2, fun j n hj => ?_⟩
  obtain ⟨b, off, cs, h4, h5, h6, h7, h8⟩ := h3 j n hj
  refine ⟨b, off, h4, h5, ?_, h8.2⟩
  have := h7 0 (.int .i64 n) (by rw [h8.1]; rfl)
  rw [Nat.mul_one, Nat.add_zero] at this
  exact this

/-- Parts that point at xs. -/
def PaL (B : Nat) (w : World) (ps : List Pa) (xs : List Tx.Pt) : Prop :=
  ps.length = xs.length ∧ ∀ (j : Nat) (p : Pa) (x : Tx.Pt), ps[j]? = some p → xs[j]? = some x → PaV w p x ∧ Firm B w p.b
theorem PaL.nil (B : Nat) (w : World) : PaL B w [] [] := ⟨rfl, fun j p x h => by simp at h⟩
theorem PaL.cons {B : Nat} {w : World} {ps : List Pa} {xs : List Tx.Pt} {p : Pa} {x : Tx.Pt} (h : PaV w p x ∧ Firm B w p.b) (hl : PaL B w ps xs) : PaL B w (p :: ps) (x :: xs) := by
  refine ⟨by simp [hl.1], fun j q y hq hy => ?_⟩
  cases j with
  | zero =>
    simp at hq hy
    subst hq hy
    exact h
  | succ j => exact hl.2 j q y (by simpa using hq) (by simpa using hy)
theorem PaL.pts {B : Nat} {w : World} {v : Value} {base : Nat} {ps : List Pa} {xs : List Tx.Pt} (h : PaL B w ps xs) (hr : RowPa w base v ps) (hl : ps.length ≤ maxLen) : Pts B w v xs := ⟨ps, h.1, hr.pas B hl, h.2⟩

theorem shp_le (op : Int) (code : Bool) : Tx.shp op code ≤ 7 := by
  unfold Tx.shp
  repeat' split
  all_goals omega
theorem cases8 {k : Nat} (h : k ≤ 7) : k = 0 ∨ k = 1 ∨ k = 2 ∨ k = 3 ∨ k = 4 ∨ k = 5 ∨ k = 6 ∨ k = 7 := by omega
theorem okF_fields {k : Nat} (h : k ≤ 7) : ∀ c ∈ fieldsB k, okF c := by
  rcases cases8 h with rfl | rfl | rfl | rfl | rfl | rfl | rfl | rfl <;> simp [fieldsB, okF]
theorem fields_len {k : Nat} (h : k ≤ 7) : (fieldsB k).length ≤ 10 := by
  rcases cases8 h with rfl | rfl | rfl | rfl | rfl | rfl | rfl | rfl <;> simp [fieldsB]

section
variable {w : World} {g : Nat} {t : TypeId} {a b c d e f : Value}
theorem cells6 (h : Blk w g t #[a, b, c, d, e, f]) : w.cell? ⟨g, 0, none⟩ = some a ∧ w.cell? ⟨g, 1, none⟩ = some b ∧ w.cell? ⟨g, 2, none⟩ = some c ∧ w.cell? ⟨g, 3, none⟩ = some d ∧ w.cell? ⟨g, 4, none⟩ = some e ∧ w.cell? ⟨g, 5, none⟩ = some f :=
  ⟨h.cell 0, h.cell 1, h.cell 2, h.cell 3, h.cell 4, h.cell 5⟩
end

/-- Numbers of an instruction that an int holds. -/
def In64x (x : Ir.In) : Prop := (-9223372036854775808 ≤ x.op ∧ x.op ≤ 9223372036854775807) ∧ (-9223372036854775808 ≤ x.d ∧ x.d ≤ 9223372036854775807) ∧ (-9223372036854775808 ≤ x.a ∧ x.a ≤ 9223372036854775807) ∧ (-9223372036854775808 ≤ x.b ∧ x.b ≤ 9223372036854775807)

theorem args_pal {B : Nat} {w : World} {A : Option Addr} {n cap : Nat} {args : List Int} (h : ArgsB B w (.slice A n cap) args) (hB : B ≤ w.heap.size) :
    PaL B w ((List.range n).map (argPa A)) (args.map Tx.Pt.num) := by
  obtain ⟨A', cap', h1, h2, h3⟩ := h
  injection h1 with h1 hn _
  subst h1 hn
  refine ⟨by simp, fun j p x hp hx => ?_⟩
  rw [List.getElem?_map] at hx
  cases ha : args[j]? with
  | none => rw [ha] at hx; cases hx
  | some m =>
    rw [ha] at hx
    simp at hx
    subst hx
    have hj := (List.getElem?_eq_some_iff.1 ha).1
    rw [List.getElem?_map, List.getElem?_range hj] at hp
    simp at hp
    subst hp
    obtain ⟨b, off, rfl, h5, h6, h7⟩ := h3 j m ha
    exact ⟨⟨rfl, h6, h7⟩, Nat.lt_of_lt_of_le h5 hB, .inl h5⟩

/-- The parts of a line point at the instruction's fields. -/
theorem ins_pal {B g : Nat} {w : World} {x : Ir.In} {A : Option Addr} {cap : Nat} (hb : Blk w g 46 #[.int .i64 x.op, .int .i64 x.d, .int .i64 x.a, .int .i64 x.b, .string x.name, .slice A x.args.length cap])
    (ha : ArgsB B w (.slice A x.args.length cap) x.args) (hB : B ≤ w.heap.size) (h64 : In64x x) (hn : x.name.size ≤ 1048576) {k : Nat} (hk : k ≤ 7) :
    PaL B w (insPa g (fieldsB k) (decide (k = 5)) A x.args.length) (Tx.parts k x) := by
  obtain ⟨c0, c1, c2, c3, c4, c5⟩ := cells6 hb
  have F : Firm B w g := ⟨hb.lt, .inr ⟨_, _, hb, rfl⟩⟩
  obtain ⟨-, hd, haa, hbb⟩ := h64
  have pd : PaV w (paF g 68) (.num x.d) ∧ Firm B w (paF g 68).b := ⟨⟨rfl, c1, hd⟩, F⟩
  have pa : PaV w (paF g 65) (.num x.a) ∧ Firm B w (paF g 65).b := ⟨⟨rfl, c2, haa⟩, F⟩
  have pb : PaV w (paF g 66) (.num x.b) ∧ Firm B w (paF g 66).b := ⟨⟨rfl, c3, hbb⟩, F⟩
  have pn : PaV w (paF g 78) (.nm x.name) ∧ Firm B w (paF g 78).b := ⟨⟨rfl, c4, hn⟩, F⟩
  rcases cases8 hk with rfl | rfl | rfl | rfl | rfl | rfl | rfl | rfl
  · exact PaL.nil _ _
  · exact PaL.cons pd (PaL.cons pa (PaL.nil _ _))
  · exact PaL.cons pd (PaL.cons pa (PaL.cons pb (PaL.nil _ _)))
  · exact PaL.cons pa (PaL.cons pb (PaL.nil _ _))
  · exact PaL.cons pa (PaL.nil _ _)
  · exact PaL.cons pd (PaL.cons pn (args_pal ha hB))
  · exact PaL.cons pd (PaL.cons pn (PaL.cons pa (PaL.nil _ _)))
  · exact PaL.cons pa (PaL.cons pb (PaL.cons pd (PaL.nil _ _)))

theorem parts_len (k : Nat) (x : Ir.In) : (Tx.parts k x).length ≤ x.args.length + 3 := by
  unfold Tx.parts
  split <;> simp <;> omega

/-- The line of an instruction, as a page takes it. -/
def inE (e : Int) (code : Bool) (x : Ir.In) : Int := if e = 0 then Tx.insE code x else e
def inW (e : Int) (code : Bool) (l : List UInt8) (x : Ir.In) : List UInt8 := if e = 0 ∧ Tx.insE code x = 0 then l ++ Tx.insW code x else l

theorem inE_of {e : Int} {code : Bool} {x : Ir.In} (h : Tx.word x.op code ≠ []) : lnE e (Tx.parts (Tx.shp x.op code) x) = inE e code x := by
  unfold lnE inE Tx.insE
  rw [if_neg h]
theorem inW_of {e : Int} {code : Bool} {l : List UInt8} {x : Ir.In} (h : Tx.word x.op code ≠ []) : lnW e l (Tx.word x.op code) (Tx.parts (Tx.shp x.op code) x) = inW e code l x := by
  unfold lnW inW Tx.insE Tx.insW
  rw [if_neg h]
theorem len_ite {c : Prop} [Decidable c] {a b : List UInt8} (ha : a.length ≤ 1000) (hb : b.length ≤ 1000) : (if c then a else b).length ≤ 1000 := by
  split
  · exact ha
  · exact hb
theorem word_len (op : Int) (code : Bool) : (Tx.word op code).length ≤ 1000 := by
  unfold Tx.word
  repeat' first | refine len_ite ?_ ?_ | (show _ ≤ 1000; decide)

set_option maxRecDepth 100000 in
set_option maxHeartbeats 4000000 in
theorem pins_any (B b : Nat) (e : Int) (l : List UInt8) (code : Bool) (x : Ir.In) (sl : Value) (w : World) (hp : Pg w B b e l) (ha : ArgsB B w sl x.args) (h64 : In64x x) (hn : x.name.size ≤ 1048576) (hal : x.args.length ≤ 100000)
    (hpow : Pow w) (hrws : Rws w) (hB : 2 < B) (hB2 : 0 < B) (hBw : B ≤ w.heap.size) (hl : l.length ≤ 1000000000) :
    Calls Tryd.prog 42 #[.pointer (some ⟨b, 0, none⟩), .int .i64 (kd code), InsV x sl] w fun en w' => en = .returned (.tuple #[]) ∧ Pg w' B b (inE e code x) (inW e code l x) ∧ Ch Tp B w w' := by
  obtain ⟨A, cap, hsl, hcap, hAx⟩ := ha
  have HA := Lib.hid (show ArgsB B w (.slice A x.args.length cap) x.args from ⟨A, cap, rfl, hcap, hAx⟩)
  have HCAP := Lib.hid hcap
  subst hsl
  have hbx := Blk.new w 46 #[.int .i64 x.op, .int .i64 x.d, .int .i64 x.a, .int .i64 x.b, .string x.name, .slice A x.args.length cap]
  have hw1 : Below w.heap.size w (w.alloc (.cells #[.int .i64 x.op, .int .i64 x.d, .int .i64 x.a, .int .i64 x.b, .string x.name, .slice A x.args.length cap] 46)) := (Below.refl _ _).alloc (Nat.le_refl _) _
  have HL := Lib.hid (And.intro h64 (And.intro hn (And.intro hal hl)))
  have HB := Lib.hid (And.intro hB (And.intro hB2 hBw))
  have h1 : Pg (w.alloc (.cells #[.int .i64 x.op, .int .i64 x.d, .int .i64 x.a, .int .i64 x.b, .string x.name, .slice A x.args.length cap] 46)) B b e l := hp.below hw1
  have hpw1 := hpow.below hw1 (Nat.lt_of_lt_of_le hB hBw)
  have hrw1 := hrws.below hw1 (Nat.lt_of_lt_of_le hB2 hBw)
  obtain ⟨x0, x1, x2, x3, x4, x5⟩ := cells6 hbx
  have HX := Lib.hid (And.intro hbx (And.intro hw1 (And.intro h1 (And.intro hpw1 hrw1))))
  have HRO := Lib.hid (rowof_any x.op code _ hrw1 (Nat.lt_of_lt_of_le hB2 (Nat.le_trans hBw hw1.size)))
  clear hcap hAx hbx hw1 h64 hn hal hl hB hB2 hBw h1 hpw1 hrw1 hp hpow hrws
  have HKK := Lib.hid (rfl : kd code = kd code)
  go_enter Tryd.func42, Tryd.ntmps42
  go_upto_region 1 with fail
  generalize w.alloc (.cells #[.int .i64 x.op, .int .i64 x.d, .int .i64 x.a, .int .i64 x.b, .string x.name, .slice A x.args.length cap] 46) = w1 at *
  go_wp2_with fail
  refine HRO.out.mono ?_
  rintro en w2 ⟨hres, hb2⟩
  have hP2 := HX.out.2.2.1.below hb2
  have hbx2 := HX.out.1.older hb2 HX.out.1.lt
  have hpw2 := HX.out.2.2.2.1.below hb2 (Nat.lt_of_lt_of_le HB.out.1 (Nat.le_trans HB.out.2.2 HX.out.2.1.size))
  have hBw2 : B ≤ w2.heap.size := Nat.le_trans HB.out.2.2 (Nat.le_trans HX.out.2.1.size hb2.size)
  have hw2 : Below w.heap.size w w2 := HX.out.2.1.trans (hb2.mono HX.out.2.1.size)
  clear hb2 HX x0 x1 x2 x3 x4 x5 HRO
  rcases hres with ⟨k, r, hk, ⟨hop, hst⟩, rfl⟩ | ⟨hno, hres0⟩
  · obtain ⟨hr, hword⟩ := row_is hk hst
    rw [hop] at hr hword
    obtain ⟨op', wd, f, a, o⟩ := r
    obtain ⟨hop', hwd, hf, haa, -⟩ := Rw.mk.inj hr
    subst hop'
    have hsh := shp_le x.op code
    have HE := Lib.hid (And.intro hwd (And.intro hf haa))
    clear hk hst hop hr hwd hf haa
    have hb3 : Below w2.heap.size w2 (w2.alloc (.cells #[.int .i64 x.op, .string ⟨wd.toArray⟩, .string ⟨f.toArray⟩, .bool a, .int .i64 o] 108)).drew := ((Below.refl _ _).alloc (Nat.le_refl _) _).drew
    have hrb := Blk.new w2 108 #[.int .i64 x.op, .string ⟨wd.toArray⟩, .string ⟨f.toArray⟩, .bool a, .int .i64 o]
    obtain ⟨r0, r1, r2, r3, r4⟩ := cells5 hrb
    have HRB := Lib.hid hrb
    have hP3 := hP2.below hb3
    have hbx3 := hbx2.older hb3 hbx2.lt
    have HW3 := Lib.hid (And.intro hP3 (And.intro hbx3 (And.intro (hpw2.below hb3 (Nat.lt_of_lt_of_le HB.out.1 hBw2)) (And.intro (Nat.le_trans hBw2 hb3.size) (hw2.trans (hb3.mono hw2.size))))))
    have hargs : ArgsB B (w2.alloc (.cells #[.int .i64 x.op, .string ⟨wd.toArray⟩, .string ⟨f.toArray⟩, .bool a, .int .i64 o] 108)).drew (.slice A x.args.length cap) x.args := HA.out.below (HW3.out.2.2.2.2.mono HB.out.2.2)
    have HRP := Lib.hid (rowparts_any ⟨x.op, wd, f, a, o⟩ w.heap.size x.args.length cap A (w2.alloc (.cells #[.int .i64 x.op, .string ⟨wd.toArray⟩, .string ⟨f.toArray⟩, .bool a, .int .i64 o] 108)).drew (by show ∀ c ∈ f, okF c; rw [HE.out.2.1]; exact okF_fields hsh) (by show f.length ≤ 10; rw [HE.out.2.1]; exact fields_len hsh) hbx3.lt (fun _ => hbx3.cell 5)
      (fun j hj => by
        obtain ⟨A', cap', h1, _, h3⟩ := hargs
        injection h1 with h1
        obtain ⟨b', off, h4, _⟩ := h3 j _ (List.getElem?_eq_getElem hj)
        exact ⟨b', off, h1.trans h4⟩) (by have := HL.out.2.2.1; omega) HCAP.out)
    have HLN := Lib.hid (show ∀ (w4 : World) (v : Value), Below (w2.alloc (.cells #[.int .i64 x.op, .string ⟨wd.toArray⟩, .string ⟨f.toArray⟩, .bool a, .int .i64 o] 108)).drew.heap.size (w2.alloc (.cells #[.int .i64 x.op, .string ⟨wd.toArray⟩, .string ⟨f.toArray⟩, .bool a, .int .i64 o] 108)).drew w4 → RowPa w4 (w2.alloc (.cells #[.int .i64 x.op, .string ⟨wd.toArray⟩, .string ⟨f.toArray⟩, .bool a, .int .i64 o] 108)).drew.heap.size v (insPa w.heap.size f a A x.args.length) →
        Calls Tryd.prog 39 #[.pointer (some ⟨b, 0, none⟩), .string ⟨wd.toArray⟩, v] w4 fun en w' => en = .returned (.tuple #[]) ∧ Pg w' B b (inE e code x) (inW e code l x) ∧ Ch Tp B w4 w' from fun w4 v hb4 hrow => by
          rw [HE.out.2.1, HE.out.2.2] at hrow
          have hpal := ins_pal (HW3.out.2.1.older hb4 HW3.out.2.1.lt) (hargs.below (hb4.mono HW3.out.2.2.2.1)) (Nat.le_trans HW3.out.2.2.2.1 hb4.size) HL.out.1 HL.out.2.1 hsh
          have hlen := parts_len (Tx.shp x.op code) x
          have h := line_any B b e l ⟨wd.toArray⟩ v _ w4 (HW3.out.1.below hb4) (hpal.pts hrow (by rw [hpal.1]; have := HL.out.2.2.1; unfold maxLen; omega)) (HW3.out.2.2.1.below hb4 (Nat.lt_of_lt_of_le HB.out.1 HW3.out.2.2.2.1)) HB.out.1 (Nat.le_trans HW3.out.2.2.2.1 hb4.size) HL.out.2.2.2 (by rw [size_mk, HE.out.1]; exact word_len _ _) (by have := HL.out.2.2.1; omega)
          rw [inE_of hword] at h
          have e1 : (⟨wd.toArray⟩ : ByteArray).data.toList = Tx.word x.op code := by rw [← HE.out.1]
          rw [e1, inW_of hword] at h
          exact h)
    clear hargs hbx3 hP3 hrb hb3 hsh hword hw2 hBw2 hpw2 hbx2 hP2
    go_upto_region 4 with fail
    go_region_held3 (fun W => W.cell? ⟨w2.heap.size, 0, none⟩ = some (.int .i64 x.op) ∧ W.cell? ⟨w2.heap.size, 1, none⟩ = some (.string ⟨wd.toArray⟩) ∧ W.cell? ⟨w2.heap.size, 2, none⟩ = some (.string ⟨f.toArray⟩) ∧ W.cell? ⟨w2.heap.size, 3, none⟩ = some (.bool a) ∧ W.cell? ⟨w2.heap.size, 4, none⟩ = some (.int .i64 o)) (first | assumption | exact ⟨r0, r1, r2, r3, r4⟩ | go_keep)
      (first
        | (go_at_call 61; (with_reducible refine HRP.out.mono ?_); rintro en4 w4 ⟨⟨v4, rfl, hrow4⟩, hb4⟩; have HC4 := Lib.hid (HLN.out w4 v4 hb4 hrow4); have HB4 := Lib.hid (And.intro hb4 (HRB.out.drew.older hb4 HRB.out.lt)); have g4 := cells5 HB4.out.2; clear hb4 hrow4)
        | (go_at_call 39; (with_reducible refine HC4.out.mono ?_); rintro en5 w5 ⟨rfl, hp5, hc5⟩; have HP5 := Lib.hid (And.intro hp5 hc5); have g5 := cells5 (HP5.out.2.blk HB4.out.2 rfl); clear hp5 hc5))
    go_wp2_with fail
    go_end0
    exact ⟨rfl, HP5.out.1, ((Ch.of_below HW3.out.2.2.2.2).trans (Ch.of_below HB4.out.1)).trans HP5.out.2⟩
  · have hword := no_row hno
    obtain rfl : en = .returned (.tuple #[.agg #[.int .i64 0, .string ⟨#[]⟩, .string ⟨#[]⟩, .bool false, .int .i64 0], .bool false]) := hres0
    clear hno
    have hb3 : Below w2.heap.size w2 (w2.alloc (.cells #[.int .i64 0, .string ⟨#[]⟩, .string ⟨#[]⟩, .bool false, .int .i64 0] 108)) := (Below.refl _ _).alloc (Nat.le_refl _) _
    have hrb := Blk.new w2 108 #[.int .i64 0, .string ⟨#[]⟩, .string ⟨#[]⟩, .bool false, .int .i64 0]
    have hP3 := hP2.below hb3
    obtain ⟨d2, f2⟩ := hP3.cells
    have HW2 := Lib.hid (And.intro hP3 (And.intro (Ch.of_below (hw2.trans (hb3.mono hw2.size)) : Ch Tp B w (w2.alloc (.cells #[.int .i64 0, .string ⟨#[]⟩, .string ⟨#[]⟩, .bool false, .int .i64 0] 108))) (And.intro (hpw2.below hb3 (Nat.lt_of_lt_of_le HB.out.1 hBw2)) (And.intro (Nat.lt_of_lt_of_le hbx2.lt hb3.size) (And.intro hrb hBw2)))))
    by_cases he : e = 0
    · subst he
      have HFIN := Lib.hid (show ∀ w5, Pg w5 B b (lnE 80 []) (lnW 80 l [] []) → Pg w5 B b (inE 0 code x) (inW 0 code l x) from fun w5 h => by
        unfold inE inW Tx.insE
        rw [if_pos hword, if_pos rfl, if_neg (fun h => absurd h.2 (by decide))]
        unfold lnE lnW at h
        rw [if_neg (by decide), if_neg (fun h => absurd h.1 (by decide))] at h
        exact h)
      have hpe := HW2.out.1.err 80
      have HPE := Lib.hid hpe
      clear hword hb3 hrb hP3 hpe hP2 hbx2 hpw2 hBw2 hw2
      have hrb : Blk ((w2.alloc (.cells #[.int .i64 0, .string ⟨#[]⟩, .string ⟨#[]⟩, .bool false, .int .i64 0] 108)).setCell ⟨b, 2, none⟩ (.int .i64 80)).drew w2.heap.size 108 #[.int .i64 0, .string ⟨#[]⟩, .string ⟨#[]⟩, .bool false, .int .i64 0] := (HPE.out.2.blk HW2.out.2.2.2.2.1 rfl).drew
      obtain ⟨r0, r1, r2, r3, r4⟩ := cells5 hrb
      have HRB := Lib.hid hrb
      have HW3 := Lib.hid (show Pg ((w2.alloc (.cells #[.int .i64 0, .string ⟨#[]⟩, .string ⟨#[]⟩, .bool false, .int .i64 0] 108)).setCell ⟨b, 2, none⟩ (.int .i64 80)).drew B b 80 l ∧ Ch Tp B w ((w2.alloc (.cells #[.int .i64 0, .string ⟨#[]⟩, .string ⟨#[]⟩, .bool false, .int .i64 0] 108)).setCell ⟨b, 2, none⟩ (.int .i64 80)).drew ∧ Pow ((w2.alloc (.cells #[.int .i64 0, .string ⟨#[]⟩, .string ⟨#[]⟩, .bool false, .int .i64 0] 108)).setCell ⟨b, 2, none⟩ (.int .i64 80)).drew ∧ w.heap.size < ((w2.alloc (.cells #[.int .i64 0, .string ⟨#[]⟩, .string ⟨#[]⟩, .bool false, .int .i64 0] 108)).setCell ⟨b, 2, none⟩ (.int .i64 80)).drew.heap.size from ⟨HPE.out.1.below (Below.refl _ _).drew, (HW2.out.2.1.trans HPE.out.2).drew, (HW2.out.2.2.1.below (HPE.out.2.to_below (Nat.le_trans HB.out.2.2 HW2.out.2.1.size)).drew HB.out.1), Nat.lt_of_lt_of_le HW2.out.2.2.2.1 HPE.out.2.size⟩)
      have HRP := Lib.hid (show Calls Tryd.prog 61 #[.agg #[.int .i64 0, .string ⟨#[]⟩, .string ⟨#[]⟩, .bool false, .int .i64 0], .pointer (some ⟨w.heap.size, 0, none⟩)] _ _ from rowparts_any Rw.zero w.heap.size 0 0 none ((w2.alloc (.cells #[.int .i64 0, .string ⟨#[]⟩, .string ⟨#[]⟩, .bool false, .int .i64 0] 108)).setCell ⟨b, 2, none⟩ (.int .i64 80)).drew (by intro c hc; simp [Rw.zero] at hc) (by simp [Rw.zero]) HW3.out.2.2.2 (fun h => by simp [Rw.zero] at h) (fun j hj => absurd hj (Nat.not_lt_zero _)) (by omega) (by omega))
      have HLN := Lib.hid (fun (w4 : World) (v : Value) (hb4 : Below ((w2.alloc (.cells #[.int .i64 0, .string ⟨#[]⟩, .string ⟨#[]⟩, .bool false, .int .i64 0] 108)).setCell ⟨b, 2, none⟩ (.int .i64 80)).drew.heap.size ((w2.alloc (.cells #[.int .i64 0, .string ⟨#[]⟩, .string ⟨#[]⟩, .bool false, .int .i64 0] 108)).setCell ⟨b, 2, none⟩ (.int .i64 80)).drew w4) (hrow : RowPa w4 ((w2.alloc (.cells #[.int .i64 0, .string ⟨#[]⟩, .string ⟨#[]⟩, .bool false, .int .i64 0] 108)).setCell ⟨b, 2, none⟩ (.int .i64 80)).drew.heap.size v (insPa w.heap.size Rw.zero.f Rw.zero.a none 0)) =>
        line_any B b 80 l ⟨#[]⟩ v [] w4 (HW3.out.1.below hb4) ((PaL.nil B w4).pts hrow (by simp)) (HW3.out.2.2.1.below hb4 (Nat.lt_of_lt_of_le HB.out.1 (Nat.le_trans HB.out.2.2 HW3.out.2.1.size))) HB.out.1 (Nat.le_trans (Nat.le_trans HB.out.2.2 HW3.out.2.1.size) hb4.size) HL.out.2.2.2 (by decide) (by simp))
      clear hrb
      go_upto_region 4 with fail
      go_region_held3 (fun W => W.cell? ⟨w2.heap.size, 0, none⟩ = some (.int .i64 0) ∧ W.cell? ⟨w2.heap.size, 1, none⟩ = some (.string ⟨#[]⟩) ∧ W.cell? ⟨w2.heap.size, 2, none⟩ = some (.string ⟨#[]⟩) ∧ W.cell? ⟨w2.heap.size, 3, none⟩ = some (.bool false) ∧ W.cell? ⟨w2.heap.size, 4, none⟩ = some (.int .i64 0)) (first | assumption | exact ⟨r0, r1, r2, r3, r4⟩ | go_keep)
        (first
          | (go_at_call 61; (with_reducible refine HRP.out.mono ?_); rintro en4 w4 ⟨⟨v4, rfl, hrow4⟩, hb4⟩; have HC4 := Lib.hid (HLN.out w4 v4 hb4 hrow4); have HB4 := Lib.hid (And.intro hb4 (HRB.out.older hb4 HRB.out.lt)); have g4 := cells5 HB4.out.2; clear hb4 hrow4)
          | (go_at_call 39; (with_reducible refine HC4.out.mono ?_); rintro en5 w5 ⟨rfl, hp5, hc5⟩; have HP5 := Lib.hid (And.intro hp5 hc5); have g5 := cells5 (HP5.out.2.blk HB4.out.2 rfl); clear hp5 hc5))
      go_wp2_with fail
      go_end0
      exact ⟨rfl, HFIN.out _ HP5.out.1, (HW3.out.2.1.trans (Ch.of_below HB4.out.1)).trans HP5.out.2⟩
    · have hne : (e == 0) = false := by simpa using he
      have HFIN := Lib.hid (show ∀ w5, Pg w5 B b (lnE e []) (lnW e l [] []) → Pg w5 B b (inE e code x) (inW e code l x) from fun w5 h => by
        unfold inE inW
        rw [if_neg he, if_neg (fun h => he h.1)]
        unfold lnE lnW at h
        rw [if_neg he, if_neg (fun h => he h.1)] at h
        exact h)
      clear hword hb3 hrb hP3 hP2 hbx2 hpw2 hBw2 hw2 he
      have hrb : Blk (w2.alloc (.cells #[.int .i64 0, .string ⟨#[]⟩, .string ⟨#[]⟩, .bool false, .int .i64 0] 108)).drew w2.heap.size 108 #[.int .i64 0, .string ⟨#[]⟩, .string ⟨#[]⟩, .bool false, .int .i64 0] := HW2.out.2.2.2.2.1.drew
      obtain ⟨r0, r1, r2, r3, r4⟩ := cells5 hrb
      have HRB := Lib.hid hrb
      have HW3 := Lib.hid (show Pg (w2.alloc (.cells #[.int .i64 0, .string ⟨#[]⟩, .string ⟨#[]⟩, .bool false, .int .i64 0] 108)).drew B b e l ∧ Ch Tp B w (w2.alloc (.cells #[.int .i64 0, .string ⟨#[]⟩, .string ⟨#[]⟩, .bool false, .int .i64 0] 108)).drew ∧ Pow (w2.alloc (.cells #[.int .i64 0, .string ⟨#[]⟩, .string ⟨#[]⟩, .bool false, .int .i64 0] 108)).drew ∧ w.heap.size < (w2.alloc (.cells #[.int .i64 0, .string ⟨#[]⟩, .string ⟨#[]⟩, .bool false, .int .i64 0] 108)).drew.heap.size from ⟨HW2.out.1.below (Below.refl _ _).drew, HW2.out.2.1.drew, HW2.out.2.2.1, HW2.out.2.2.2.1⟩)
      have HRP := Lib.hid (show Calls Tryd.prog 61 #[.agg #[.int .i64 0, .string ⟨#[]⟩, .string ⟨#[]⟩, .bool false, .int .i64 0], .pointer (some ⟨w.heap.size, 0, none⟩)] _ _ from rowparts_any Rw.zero w.heap.size 0 0 none (w2.alloc (.cells #[.int .i64 0, .string ⟨#[]⟩, .string ⟨#[]⟩, .bool false, .int .i64 0] 108)).drew (by intro c hc; simp [Rw.zero] at hc) (by simp [Rw.zero]) HW3.out.2.2.2 (fun h => by simp [Rw.zero] at h) (fun j hj => absurd hj (Nat.not_lt_zero _)) (by omega) (by omega))
      have HLN := Lib.hid (fun (w4 : World) (v : Value) (hb4 : Below (w2.alloc (.cells #[.int .i64 0, .string ⟨#[]⟩, .string ⟨#[]⟩, .bool false, .int .i64 0] 108)).drew.heap.size (w2.alloc (.cells #[.int .i64 0, .string ⟨#[]⟩, .string ⟨#[]⟩, .bool false, .int .i64 0] 108)).drew w4) (hrow : RowPa w4 (w2.alloc (.cells #[.int .i64 0, .string ⟨#[]⟩, .string ⟨#[]⟩, .bool false, .int .i64 0] 108)).drew.heap.size v (insPa w.heap.size Rw.zero.f Rw.zero.a none 0)) =>
        line_any B b e l ⟨#[]⟩ v [] w4 (HW3.out.1.below hb4) ((PaL.nil B w4).pts hrow (by simp)) (HW3.out.2.2.1.below hb4 (Nat.lt_of_lt_of_le HB.out.1 (Nat.le_trans HB.out.2.2 HW3.out.2.1.size))) HB.out.1 (Nat.le_trans (Nat.le_trans HB.out.2.2 HW3.out.2.1.size) hb4.size) HL.out.2.2.2 (by decide) (by simp))
      clear hrb
      go_upto_region 4 with fail
      go_region_held3 (fun W => W.cell? ⟨w2.heap.size, 0, none⟩ = some (.int .i64 0) ∧ W.cell? ⟨w2.heap.size, 1, none⟩ = some (.string ⟨#[]⟩) ∧ W.cell? ⟨w2.heap.size, 2, none⟩ = some (.string ⟨#[]⟩) ∧ W.cell? ⟨w2.heap.size, 3, none⟩ = some (.bool false) ∧ W.cell? ⟨w2.heap.size, 4, none⟩ = some (.int .i64 0)) (first | assumption | exact ⟨r0, r1, r2, r3, r4⟩ | go_keep)
        (first
          | (go_at_call 61; (with_reducible refine HRP.out.mono ?_); rintro en4 w4 ⟨⟨v4, rfl, hrow4⟩, hb4⟩; have HC4 := Lib.hid (HLN.out w4 v4 hb4 hrow4); have HB4 := Lib.hid (And.intro hb4 (HRB.out.older hb4 HRB.out.lt)); have g4 := cells5 HB4.out.2; clear hb4 hrow4)
          | (go_at_call 39; (with_reducible refine HC4.out.mono ?_); rintro en5 w5 ⟨rfl, hp5, hc5⟩; have HP5 := Lib.hid (And.intro hp5 hc5); have g5 := cells5 (HP5.out.2.blk HB4.out.2 rfl); clear hp5 hc5))
      go_wp2_with fail
      go_end0
      exact ⟨rfl, HFIN.out _ HP5.out.1, (HW3.out.2.1.trans (Ch.of_below HB4.out.1)).trans HP5.out.2⟩
end Go.Proofs.YtcoehmmiplffgaaDoor
