/- Code, or a function, is written: the walk of textOf; Print, PrintCode. -/
import Derived.Test.YtcoehmmiplffgaaDoorTextOf
namespace Go.Proofs.YtcoehmmiplffgaaDoor
open Go.ChangeShapes Go.WideShapes Go.RowKit Go.Deep

/-- Code by value; its cells. -/
abbrev CdV (c : Tx.Cd) (bv : Value) : Value := .agg #[.string c.name, .int .i64 c.params, .int .i64 c.regs, .int .i64 c.slots, bv]
abbrev CdC (c : Tx.Cd) (bv : Value) : Array Value := #[.string c.name, .int .i64 c.params, .int .i64 c.regs, .int .i64 c.slots, bv]

theorem kfirst_any (code : Bool) (w : World) : Calls Tryd.prog 40 #[.int .i64 (kd code)] w fun e w' => e = .returned (.string ⟨(Tx.first code).toArray⟩) ∧ w = w' := by
  cases code with
  | true =>
    rw [kd_true]
    go_enter Tryd.func40, Tryd.ntmps40
    go_wp2
    go_ret
    exact ⟨rfl, rfl⟩
  | false =>
    rw [kd_false]
    go_enter Tryd.func40, Tryd.ntmps40
    go_wp2
    go_ret
    exact ⟨rfl, rfl⟩

/-- The parts of a first line point at the code's fields. -/
theorem head_pal {B g : Nat} {w : World} {c : Tx.Cd} {bv : Value} {code : Bool} (hb : Blk w g 37 (CdC c bv)) (hn : c.name.size ≤ 1048576) (hp : -9223372036854775808 ≤ c.params ∧ c.params ≤ 9223372036854775807) (hr : -9223372036854775808 ≤ c.regs ∧ c.regs ≤ 9223372036854775807) (hs : -9223372036854775808 ≤ c.slots ∧ c.slots ≤ 9223372036854775807) :
    PaL B w (headPa code g) (Tx.headP code c) := by
  obtain ⟨c0, c1, c2, c3, -⟩ := cells5 hb
  have F : Firm B w g := ⟨hb.lt, .inr ⟨_, _, hb, rfl⟩⟩
  have pn : PaV w ⟨true, g, 0⟩ (.nm c.name) ∧ Firm B w g := ⟨⟨rfl, c0, hn⟩, F⟩
  have pp : PaV w ⟨false, g, 1⟩ (.num c.params) ∧ Firm B w g := ⟨⟨rfl, c1, hp⟩, F⟩
  have pr : PaV w ⟨false, g, 2⟩ (.num c.regs) ∧ Firm B w g := ⟨⟨rfl, c2, hr⟩, F⟩
  have ps : PaV w ⟨false, g, 3⟩ (.num c.slots) ∧ Firm B w g := ⟨⟨rfl, c3, hs⟩, F⟩
  cases code with
  | true => exact PaL.cons pn (PaL.cons pp (PaL.cons pr (PaL.cons ps (PaL.nil _ _))))
  | false => exact PaL.cons pn (PaL.cons pp (PaL.cons pr (PaL.nil _ _)))

/-- Numbers of a code that an int holds, a name that isn't long. -/
structure In64c (c : Tx.Cd) : Prop where
  name : c.name.size ≤ 1048576
  params : -9223372036854775808 ≤ c.params ∧ c.params ≤ 9223372036854775807
  regs : -9223372036854775808 ≤ c.regs ∧ c.regs ≤ 9223372036854775807
  slots : -9223372036854775808 ≤ c.slots ∧ c.slots ≤ 9223372036854775807

/-- What textOf's loops know: w is the world in which it was called. -/
structure OfAt (w : World) (c : Tx.Cd) (bv : Value) (s : Ps) (wr : World) : Prop where
  pg : Pg wr w.heap.size (w.heap.size + 1) s.e s.l
  box : Blk wr w.heap.size 37 (CdC c bv)
  below : Below w.heap.size w wr
theorem OfAt.below' {w : World} {c : Tx.Cd} {bv : Value} {s : Ps} {wr wr' : World} (h : OfAt w c bv s wr) (hb : Below wr.heap.size wr wr') : OfAt w c bv s wr' :=
  ⟨h.pg.below hb, h.box.older hb h.box.lt, h.below.trans (hb.mono h.below.size)⟩
theorem OfAt.step {w : World} {c : Tx.Cd} {bv : Value} {s s' : Ps} {wr wr' : World} (h : OfAt w c bv s wr) (hp : Pg wr' w.heap.size (w.heap.size + 1) s'.e s'.l) (hc : Ch Tp w.heap.size wr wr') : OfAt w c bv s' wr' :=
  ⟨hp, hc.blk h.box rfl, h.below.trans (hc.to_below h.below.size)⟩

set_option maxRecDepth 100000 in
set_option maxHeartbeats 4000000 in
theorem textof_any (code : Bool) (c : Tx.Cd) (bv : Value) (w : World) (hv : Blks w bv c.blocks) (h64 : In64c c) (hs : Smal c.blocks) (hpow : Pow w) (hrws : Rws w) (hg1 : 2 < w.heap.size) (hg2 : 0 < w.heap.size) :
    Calls Tryd.prog 26 #[.int .i64 (kd code), CdV c bv] w fun e w' => e = .returned (.tuple #[.string ⟨(Tx.pr code c).toArray⟩, .int .i64 (Tx.prE code c)]) ∧ Below w.heap.size w w' := by
  obtain ⟨A, cap, hbv⟩ := hv.form
  subst hbv
  obtain ⟨E, hE⟩ : ∃ E, E = Ps.end_ code c := ⟨_, rfl⟩
  have HE := Lib.hid hE
  clear hE
  have hb1 : Below w.heap.size w ((w.alloc (.cells (CdC c (.slice A c.blocks.length cap)) 37)).alloc (.cells #[.pointer none, .slice none 0 0, .int .i64 0] 77)) := ((Below.refl _ _).alloc (Nat.le_refl _) _).alloc (by simp) _
  have hz : (w.alloc (.cells (CdC c (.slice A c.blocks.length cap)) 37)).heap.size = w.heap.size + 1 := by simp
  have hpg := Pg.new (w.alloc (.cells (CdC c (.slice A c.blocks.length cap)) 37)) w.heap.size (by simp)
  rw [hz] at hpg
  have hO : OfAt w c (.slice A c.blocks.length cap) ⟨0, []⟩ ((w.alloc (.cells (CdC c (.slice A c.blocks.length cap)) 37)).alloc (.cells #[.pointer none, .slice none 0 0, .int .i64 0] 77)) := ⟨hpg, (Blk.new _ _ _).alloc _, hb1⟩
  have HO := Lib.hid hO
  have HV := Lib.hid (And.intro hv (And.intro h64 (And.intro hs (And.intro hpow (And.intro hrws (And.intro hg1 hg2))))))
  have hbl : (c.blocks.length : Int) ≤ 5000 := by have := hs.count; omega
  have HBL := Lib.hid hbl
  clear hb1 hz hpg hO hv h64 hs hpow hrws hg1 hg2
  go_enter Tryd.func26, Tryd.ntmps26
  go_upto_region 2 with fail
  generalize (w.alloc (.cells (CdC c (.slice A c.blocks.length cap)) 37)).alloc (.cells #[.pointer none, .slice none 0 0, .int .i64 0] 77) = w1 at *
  go_wp2_with fail
  refine (kfirst_any code w1).mono ?_
  rintro en w1' ⟨rfl, rfl⟩
  go_wp2_with fail
  refine (head_any code w.heap.size w1).mono ?_
  rintro en w2 ⟨⟨v2, rfl, hrow⟩, hb2⟩
  have hO2 := HO.out.below' hb2
  have hln := line_any w.heap.size (w.heap.size + 1) 0 [] ⟨(Tx.first code).toArray⟩ v2 (Tx.headP code c) w2 hO2.pg ((head_pal hO2.box HV.out.2.1.name HV.out.2.1.params HV.out.2.1.regs HV.out.2.1.slots).pts hrow (by cases code <;> simp [headPa, maxLen])) (HV.out.2.2.2.1.below hO2.below HV.out.2.2.2.2.2.1) HV.out.2.2.2.2.2.1 hO2.below.size (by simp) (by cases code <;> decide) (by cases code <;> simp [Tx.headP])
  have HO2 := Lib.hid hO2
  have HLN := Lib.hid hln
  clear hrow hb2 hO2 hln
  go_wp2_with fail
  refine HLN.out.mono ?_
  rintro en w3 ⟨rfl, hp3, hc3⟩
  have hO3 : OfAt w c (.slice A c.blocks.length cap) (Ps.head code c) w3 := HO2.out.step (s' := Ps.head code c) hp3 hc3
  have HO3 := Lib.hid hO3
  obtain ⟨-, -, -, -, x4⟩ := cells5 hO3.box
  clear hp3 hc3 hO3 HLN HO2 HO
  go_wp2_with fail
  go_loopw [19] (fun i wr => ∃ k : Nat, k ≤ c.blocks.length ∧ i = .int .i64 (k : Int) ∧ OfAt w c (.slice A c.blocks.length cap) ((Ps.head code c).all code (c.blocks.take k)) wr) (fun i _ => c.blocks.length - (intOf i).toNat)
  case atStart => exact ⟨0, Nat.zero_le _, rfl, HO3.out⟩
  case round =>
    clear HO3 x4
    obtain ⟨k, hk, rfl, hO⟩ := hrel
    by_cases hlt : k < c.blocks.length
    · have hki : (k : Int) < (c.blocks.length : Int) := by omega
      obtain ⟨b, hb⟩ : ∃ b, c.blocks[k]? = some b := ⟨_, List.getElem?_eq_getElem hlt⟩
      obtain ⟨bl, off, D, cbp, rfl, l1, d0, hI⟩ := HV.out.1.at hb
      have d1 := (hO.below.cell (p := ⟨bl, off + k, none⟩) l1).trans d0
      have hlen := take_len_all (code := code) HV.out.2.2.1 k
      have hbi : (b.length : Int) ≤ 5000 := by have := HV.out.2.2.1.count; have := Ir.count_up hb; have := Ir.count_take c.blocks (k + 1); omega
      obtain ⟨S, hS⟩ : ∃ S, S = (Ps.head code c).all code (c.blocks.take k) := ⟨_, rfl⟩
      have hnext : (Ps.head code c).all code (c.blocks.take (k + 1)) = b.foldl (Ps.ins code) (S.line Tx.blockW []) := by rw [hS]; exact fold_up hb
      have hmlen := fun m => take_len_blk (code := code) HV.out.2.2.1 hb m
      rw [← hS] at hO hlen hmlen
      have HBB := Lib.hid (And.intro hb (And.intro hnext hmlen))
      have HI := Lib.hid hI
      have HOO := Lib.hid hO
      have HLN := Lib.hid (line_any w.heap.size (w.heap.size + 1) S.e S.l ⟨#[98, 108, 111, 99, 107]⟩ (.slice none 0 0) [] wr hO.pg (Pts.nil _ _) (HV.out.2.2.2.1.below hO.below HV.out.2.2.2.2.2.1) HV.out.2.2.2.2.2.1 hO.below.size (by omega) (by decide) (by simp))
      clear hb hnext hmlen hlen hS hI hO d0
      go_wp2_with fail
      refine HLN.out.mono ?_
      rintro en w4 ⟨rfl, hp4, hc4⟩
      have HO4 := Lib.hid (HOO.out.step (s' := S.line Tx.blockW []) hp4 hc4)
      clear hp4 hc4 HLN HOO d1 l1
      go_wp2_with fail
      go_loopw [26] (fun i wr => ∃ m : Nat, m ≤ b.length ∧ i = .int .i64 (m : Int) ∧ OfAt w c (.slice (some ⟨bl, off, none⟩) c.blocks.length cap) ((b.take m).foldl (Ps.ins code) (S.line Tx.blockW [])) wr) (fun i _ => b.length - (intOf i).toNat)
      case atStart => exact ⟨0, Nat.zero_le _, rfl, HO4.out⟩
      case round =>
        clear HO4
        obtain ⟨m, hm, rfl, hO⟩ := hrel
        by_cases hlt2 : m < b.length
        · have hmi : (m : Int) < (b.length : Int) := by omega
          obtain ⟨x, hx⟩ : ∃ x, b[m]? = some x := ⟨_, List.getElem?_eq_getElem hlt2⟩
          obtain ⟨bx, ox, F, fcp, rfl, l2, ⟨x0, x1, x2, x3, x4, x5⟩, hin⟩ := (HI.out.below hO.below).at hx
          have hsm := HV.out.2.2.1.ins b (List.mem_of_getElem? HBB.out.1) x (List.mem_of_getElem? hx)
          have hlen := HBB.out.2.2 m
          have hnext : (b.take (m + 1)).foldl (Ps.ins code) (S.line Tx.blockW []) = Ps.ins code ((b.take m).foldl (Ps.ins code) (S.line Tx.blockW [])) x := fold_up hx
          obtain ⟨Q, hQ⟩ : ∃ Q, Q = (b.take m).foldl (Ps.ins code) (S.line Tx.blockW []) := ⟨_, rfl⟩
          rw [← hQ] at hO hlen hnext
          have hargs : ArgsB w.heap.size wr (.slice F x.args.length fcp) x.args := by
            obtain ⟨bx', ox', F', fcp', e1, l2', ⟨y0, y1, y2, y3, y4, y5⟩, hin'⟩ := HI.out.at hx
            have e2 := (hO.below.cell (p := ⟨bx', ox' + m * 6 + 5, none⟩) l2').trans y5
            injection e1 with e1
            injection e1 with e3 e4
            subst e3 e4
            rw [x5] at e2
            injection e2 with e2
            rw [e2]
            obtain ⟨sl, h1, h2, -⟩ := hin'
            simp at h1
            rw [← h1] at h2
            exact h2.argsB.below hO.below
          have hb5 : Below wr.heap.size wr (wr.alloc (.cells #[.int .i64 x.op, .int .i64 x.d, .int .i64 x.a, .int .i64 x.b, .string x.name, .slice F x.args.length fcp] 46)) := (Below.refl _ _).alloc (Nat.le_refl _) _
          have hO5 := hO.below' hb5
          have HPI := Lib.hid (pins_any w.heap.size (w.heap.size + 1) Q.e Q.l code x (.slice F x.args.length fcp) _ hO5.pg (hargs.below (hb5.mono hO.below.size)) hsm.2.2 hsm.2.1 (by omega) (HV.out.2.2.2.1.below hO5.below HV.out.2.2.2.2.2.1) (HV.out.2.2.2.2.1.below hO5.below HV.out.2.2.2.2.2.2) HV.out.2.2.2.2.2.1 HV.out.2.2.2.2.2.2 hO5.below.size (by omega))
          have HO5 := Lib.hid hO5
          have HNX := Lib.hid hnext
          have hbxx := Blk.new wr 46 #[.int .i64 x.op, .int .i64 x.d, .int .i64 x.a, .int .i64 x.b, .string x.name, .slice F x.args.length fcp]
          obtain ⟨z0, z1, z2, z3, z4, z5⟩ := cells6 hbxx
          clear hx hsm hlen hnext hQ hO hargs hb5 hO5 hin hbxx
          go_wp2_with fail
          refine HPI.out.mono ?_
          rintro en w6 ⟨rfl, hp6, hc6⟩
          have HO6 := Lib.hid (HO5.out.step (s' := Ps.ins code Q x) hp6 hc6)
          clear hp6 hc6
          go_wp2_with fail
          go_roundw
          case rel => exact ⟨m + 1, by omega, by go_num, by rw [HNX.out]; exact HO6.out⟩
          case measure => simp [intOf]; omega
        · obtain rfl : m = b.length := by omega
          have HO6 := Lib.hid (show OfAt w c (.slice (some ⟨bl, off, none⟩) c.blocks.length cap) ((Ps.head code c).all code (c.blocks.take (k + 1))) _ from by
            rw [HBB.out.2.1]
            rwa [List.take_of_length_le (Nat.le_refl _)] at hO)
          clear hO
          go_wp2_with fail
          go_roundw
          case rel => exact ⟨k + 1, by omega, by go_num, HO6.out⟩
          case measure => simp [intOf]; omega
    · obtain rfl : k = c.blocks.length := by omega
      rw [List.take_of_length_le (Nat.le_refl _)] at hO
      have hO9 : OfAt w c (.slice A c.blocks.length cap) E wr := by rw [HE.out]; exact hO
      have hEe : E.e = Tx.prE code c := by rw [HE.out]; exact end_e code c
      have hEl : Tx.prE code c = 0 → E.l = Tx.prW code c := fun h => by rw [HE.out]; exact end_l h
      obtain ⟨d2, -⟩ := hO9.pg.cells
      have HB9 := Lib.hid hO9.below
      by_cases h0 : Tx.prE code c = 0
      · have hl := hEl h0
        rw [h0] at hEe
        rw [hEe] at d2
        have HPR := Lib.hid (show Tx.pr code c = E.l by unfold Tx.pr; rw [if_pos h0, hl])
        have HE0 := Lib.hid h0
        have HST := Lib.hid (bstring_any w.heap.size (w.heap.size + 1) E.e E.l _ hO9.pg (by rw [hl]; exact prW_ne _ _))
        clear hO hO9 hEe hEl hl h0
        go_wp2_with fail
        refine HST.out.mono ?_
        rintro en w6 ⟨rfl, hb6⟩
        go_wp2_with fail
        go_ret2
        exact ⟨by rw [HPR.out, HE0.out] <;> rfl, HB9.out.trans hb6⟩
      · have hne : (E.e != 0) = true := by rw [hEe]; simpa using h0
        have HPR := Lib.hid (show Tx.pr code c = [] by unfold Tx.pr; rw [if_neg h0])
        have HEE := Lib.hid hEe
        clear hO hO9 hEe hEl h0
        go_wp2_with fail
        go_quiet (fail)
        go_wp2_with fail
        go_ret2
        exact ⟨by rw [HPR.out, ← HEE.out] <;> rfl, HB9.out.trans (below_drewN (Below.refl _ _) _)⟩
end Go.Proofs.YtcoehmmiplffgaaDoor
