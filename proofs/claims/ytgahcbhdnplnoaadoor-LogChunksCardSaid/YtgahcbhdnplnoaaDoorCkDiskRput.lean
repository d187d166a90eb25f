/- What the document's put and die come to. -/
import Derived.Test.YtgahcbhdnplnoaaDoorCkDiskRef
import Derived.LoopTactic
import Derived.Deep.RegionLaw
import Derived.Deep.AppendLies
import Derived.BigRegion
namespace Go.Proofs.YtgahcbhdnplnoaaDoor
open Go.RowKit

theorem info_loose : (Tryd.prog.info? 104).map (fun i => (i.zero, i.size, i.bytes)) = some (some (.agg #[.int .i64 0, .string ByteArray.empty]), 2, 24) := by kernel_rfl

theorem looses_get {l : List (Nat × ByteArray)} {k : Nat} {p : Nat × ByteArray} (h : l[k]? = some p) : (looses l)[k * 2]? = some (.int .i64 (p.1 : Int)) ∧ (looses l)[k * 2 + 1]? = some (.string p.2) := by
  induction l generalizing k with
  | nil => simp at h
  | cons q l ih =>
    have e : looses (q :: l) = .int .i64 (q.1 : Int) :: .string q.2 :: looses l := rfl
    cases k with
    | zero =>
      simp at h
      subst h
      rw [e]
      exact ⟨rfl, rfl⟩
    | succ k =>
      simp at h
      have := ih h
      rw [e, show (k + 1) * 2 = k * 2 + 1 + 1 by omega]
      exact this

/-- How the row of the loose ones lies. -/
theorem loose_cells {w : World} {B : Nat} {lv : Value} {l : List (Nat × ByteArray)} (h : w.ownsRow B 104 2 lv l.length (looses l)) :
    ∃ A cap, lv = .slice A l.length cap ∧ ∀ k p, l[k]? = some p → ∃ b cur, A = some ⟨b, 0, none⟩ ∧ Blk w b 104 cur ∧ w.cell? ⟨b, k * 2, none⟩ = some (.int .i64 (p.1 : Int)) ∧ w.cell? ⟨b, k * 2 + 1, none⟩ = some (.string p.2) := by
  rcases h.2 with ⟨rfl, h0⟩ | ⟨g, cap, cur, rfl, hb, hg, hnc, hcm, hcs, htk⟩
  · refine ⟨none, 0, by rw [h0], ?_⟩
    intro k p hk
    have := (List.getElem?_eq_some_iff.1 hk).1
    omega
  · refine ⟨some ⟨g, 0, none⟩, cap, rfl, ?_⟩
    intro k p hk
    obtain ⟨h1, h2⟩ := looses_get hk
    have h3 := h.cells (g := g) rfl _ _ h1
    have h4 := h.cells (g := g) rfl _ _ h2
    rw [Addr.add_lit, Nat.zero_add] at h3 h4
    exact ⟨g, cur, rfl, hg, h3, h4⟩

/-- Is i among the first k? -/
def among (l : List (Nat × ByteArray)) (i k : Nat) : Bool := (l.take k).any fun p => p.1 == i

theorem among_up {l : List (Nat × ByteArray)} {i k : Nat} {p : Nat × ByteArray} (h : l[k]? = some p) : among l i (k + 1) = (among l i k || p.1 == i) := by
  unfold among
  obtain ⟨hk, rfl⟩ := List.getElem?_eq_some_iff.1 h
  rw [List.take_succ_eq_append_getElem hk, List.any_append]
  simp

theorem among_all {l : List (Nat × ByteArray)} {i : Nat} : among l i l.length = (Dk.was l i).isSome := by
  unfold among
  rw [List.take_length]
  induction l with
  | nil => rfl
  | cons p l ih =>
    rw [List.any_cons, ih]
    show _ = (if p.1 = i then some p.2 else Dk.was l i).isSome
    by_cases e : p.1 = i
    · rw [if_pos e]; simp [e]
    · rw [if_neg e]; simp [e]

theorem cell_two_new (w : World) (x y : Value) (t : TypeId) : ∀ j u, [x, y][j]? = some u → (w.alloc (.cells #[x, y] t)).drew.cell? ((⟨w.heap.size, 0, none⟩ : Addr).add j) = some u := by
  intro j u hj
  rw [Addr.add_lit, Nat.zero_add]
  have := ((Blk.new w t #[x, y]).drew).cell j
  rw [this]
  simpa using hj
theorem two_cells (x : Int) (s : ByteArray) : ∀ u ∈ [Value.int .i64 x, .string s], u.oneCell' = true := by
  intro u hu
  simp at hu
  rcases hu with rfl | rfl <;> rfl
theorem room_max2 (k : Nat) (h : k ≤ 1099511627776) : k + 1 ≤ maxLen := by unfold maxLen; omega
theorem room_bytes24 (k : Nat) (h : k ≤ 1099511627776) : (k + 1) * 24 ≤ 140737488355328 := by omega
theorem base_alloc2 {B : Nat} {w : World} (h : B ≤ w.heap.size) (o : Obj) : B ≤ (w.alloc o).drew.heap.size := by
  show B ≤ (w.heap.push o).size
  rw [Array.size_push]; omega

section
variable {w w1 : World} {B g b i : Nat} {st : Dk.St} {lv v : Value} {s : ByteArray} {o : Obj}
theorem rput_w1 (h : RefAt w B g st b lv) (hg : (w.alloc o).drew.grownBy w1 lv.ownBlock) : Blk w1 g 76 (stCells b lv st) ∧ Blk w1 b 9 (sect st.is).toArray := by
  refine ⟨((h.blk.alloc o).drew).grown hg ?_, ((h.sec.alloc o).drew).grown hg ?_⟩
  · rcases row_apart h.row h.blk (by decide) with e | e
    · rw [e]; simp
    · exact fun e2 => e e2.symm
  · rcases row_apart h.row h.sec (by decide) with e | e
    · rw [e]; simp
    · exact fun e2 => e e2.symm
theorem rput_facts (h : RefAt w B g st b lv) (hi : i < 256) (hg : (w.alloc o).drew.grownBy w1 lv.ownBlock) :
    w1.cell? ⟨g, 0, none⟩ = some (.slice (some ⟨b, 0, none⟩) 256 256) ∧ w1.cell? ⟨g, 1, none⟩ = some lv ∧ w1.frozen? ⟨g, 1, none⟩ = false ∧ w1.frozen? ⟨b, i, none⟩ = false ∧ w1.cell? ⟨b, i, none⟩ = some (.string (st.is i)) := by
  obtain ⟨h1, h2⟩ := rput_w1 h hg
  refine ⟨h1.cell 0, h1.cell 1, h1.frozen 1, h2.frozen i, ?_⟩
  rw [h2.cell i, List.getElem?_toArray, sect_get _ hi]
theorem rput_more (h : RefAt w B g st b lv) (hi : i < 256) (hs : s.size ≤ 128) (hw : Dk.was st.loose i = none) (hf : st.loose.length < st.many) (hg : (w.alloc o).drew.grownBy w1 lv.ownBlock)
    (hown : w1.ownsRow B 104 2 v (st.loose.length + 1) (looses st.loose ++ [.int .i64 (i : Int), .string (st.is i)])) :
    RefAt ((w1.setCell ⟨g, 1, none⟩ v).setCell ⟨b, i, none⟩ (.string s)) B g (st.put i s) b v ∧ Rch B b w ((w1.setCell ⟨g, 1, none⟩ v).setCell ⟨b, i, none⟩ (.string s)) := by
  obtain ⟨h1, h2⟩ := rput_w1 h hg
  have s1 := Lib.grownBy_setCell w1 g 1 v
  have hb := h1.set 1 v
  have hb1 : Blk (w1.setCell ⟨g, 1, none⟩ v) g 76 (stCells b v st) := hb
  have hs1 := h2.grown s1 (by intro e; injection e with e; exact h.gb e.symm)
  have hr1 := hown.kept s1 (row_apart hown h1 (by decide))
  have s2 := Lib.grownBy_setCell (w1.setCell ⟨g, 1, none⟩ v) b i (.string s)
  have e1 : (st.put i s).loose = st.loose ++ [(i, st.is i)] := if_pos hw
  have e2 : (st.put i s).loose.length = st.loose.length + 1 := by rw [e1]; simp
  have e3 : looses (st.put i s).loose = looses st.loose ++ [.int .i64 (i : Int), .string (st.is i)] := by rw [e1]; simp [looses]
  refine ⟨{ blk := hb1.grown s2 (by intro e; injection e with e; exact h.gb e)
            sec := by
              have := hs1.set i (.string s)
              rw [List.setIfInBounds_toArray, sect_set _ hi] at this
              exact this
            row := by
              rw [e2, e3]
              exact hr1.kept s2 (row_apart hr1 hs1 (by decide))
            atg := h.atg, atb := h.atb, cuts := h.cuts, fails := h.fails, keep := h.keep, inv := h.inv.put hf hi hs }, ?_⟩
  have c1 : Rch B b (w.alloc o).drew w1 := ⟨ch_of_append (a := (w.alloc o).drew) (h.row.alloc o) hg (fun _ => rfl), Only.of_append (w := (w.alloc o).drew) (h.row.alloc o) hg (by decide)⟩
  exact (((((Rch.refl _ _ _).alloc o).drew.trans c1).trans ⟨Ch.set h1 h.atg rfl 1 v, Only.set h1 (by decide) 1 v⟩)).trans ⟨Ch.set hs1 h.atb rfl i _, Only.set_own i _⟩
theorem rput_same (h : RefAt w B g st b lv) (hi : i < 256) (hs : s.size ≤ 128) (hw : Dk.was st.loose i ≠ none) (hf : st.loose.length < st.many) :
    RefAt (w.setCell ⟨b, i, none⟩ (.string s)) B g (st.put i s) b lv ∧ Rch B b w (w.setCell ⟨b, i, none⟩ (.string s)) := by
  have e : st.put i s = { st with is := Dk.up st.is i s } := by unfold Dk.St.put; rw [if_neg hw]
  have hp := h.inv.put hf hi hs
  rw [e] at hp ⊢
  exact h.put_sec hi s hp
end

def RputPost (B g : Nat) (st : Dk.St) (b : Nat) (w : World) (e : Ending) (w' : World) : Prop :=
  e = .returned (.tuple #[]) ∧ (∃ lv, RefAt w' B g st b lv) ∧ Rch B b w w'

set_option maxRecDepth 20000 in
set_option maxHeartbeats 400000 in
theorem rput_any (B g : Nat) (st : Dk.St) (b : Nat) (lv : Value) (i : Nat) (s : ByteArray) (w : World) (h : RefAt w B g st b lv) (hi : i < 256) (hs : s.size ≤ 128) (hf : st.loose.length < st.many) (hm : st.many ≤ 1099511627776) :
    Calls Tryd.prog 42 #[.pointer (some ⟨g, 0, none⟩), .int .i64 (i : Int), .string s] w (RputPost B g (st.put i s) b w) := by
  obtain ⟨i0, hin, hz0, hz1, hz2⟩ := info_parts info_loose
  obtain ⟨c0, c1, -⟩ := h.cells
  obtain ⟨A, cap, rfl, hrow⟩ := loose_cells h.row
  have hlen : st.loose.length ≤ 1099511627776 := by omega
  have HR := Lib.hid hrow
  have HD := Lib.hid h
  have HF := Lib.hid hf
  clear hrow h hf hm
  go_enter Tryd.func42, Tryd.ntmps42
  go_wp2_with fail
  go_loop [6, 7] (fun v x => ∃ k : Nat, k ≤ st.loose.length ∧ x = .int .i64 (k : Int) ∧ v = .bool (among st.loose i k)) (fun _ x => st.loose.length - (intOf x).toNat)
  case atStart => exact ⟨0, Nat.zero_le _, rfl, rfl⟩
  case round =>
    obtain ⟨k, hk, rfl, rfl⟩ := hrel
    by_cases hlt : k < st.loose.length
    · obtain ⟨p, hp⟩ : ∃ p, st.loose[k]? = some p := ⟨_, List.getElem?_eq_getElem hlt⟩
      obtain ⟨lb, cur, rfl, hb, d0, d1⟩ := HR.out k p hp
      have hup := Lib.hid (among_up (i := i) hp)
      clear hp hb
      cases ha : among st.loose i k with
      | true =>
        have HA := Lib.hid ha; clear ha
        go_wp2_with fail
        go_round
        case rel => exact ⟨k + 1, by omega, by go_num, by rw [hup.out, HA.out]; rfl⟩
        case measure => simp [intOf]; omega
      | false =>
        have HA := Lib.hid ha; clear ha
        go_wp2_with fail
        go_round
        case rel => exact ⟨k + 1, by omega, by go_num, congrArg Value.bool (by rw [hup.out, HA.out, Bool.false_or, Bool.eq_iff_iff]; simp; omega)⟩
        case measure => simp [intOf]; omega
    · obtain rfl : k = st.loose.length := by omega
      have hgb := HD.out.gb
      have hbg := fun e : b = g => hgb e.symm
      have s0 := HD.out.sector hi
      have f0 := HD.out.sec.frozen i
      have f1 := HD.out.blk.frozen 1
      rw [among_all]
      cases hw : Dk.was st.loose i with
      | some x =>
        have HE := Lib.hid (rput_same (s := s) HD.out hi hs (by rw [hw]; simp) HF.out)
        clear hw
        rw [Option.isSome_some]
        go_wp2_with fail
        go_end0
        exact ⟨rfl, ⟨_, HE.out.1⟩, HE.out.2⟩
      | none =>
        have HW := Lib.hid hw; clear hw
        rw [Option.isSome_none]
        have hi2 : (i : Int) < 256 := by omega
        have hbase : B ≤ w.heap.size := Nat.le_trans HD.out.atg (Nat.le_of_lt HD.out.blk.lt)
        have c1a : (w.alloc (.cells #[.int .i64 (i : Int), .string (st.is i)] 104)).cell? ⟨g, 1, none⟩ = some (.slice A st.loose.length cap) := (HD.out.blk.alloc _).cell 1
        go_wp2_with fail
        go_region_law (refine step_append_lies _ rfl (.tmp 36) (.tmp 46) 74 rfl B 104 i0 (.agg #[.int .i64 0, .string ByteArray.empty]) 2 24 Tryd.underlying74 hin hz0 hz1 hz2 rfl (by decide) (.slice A st.loose.length cap) st.loose.length _ rfl ((HD.out.row.alloc (.cells #[.int .i64 (i : Int), .string (st.is i)] 104))) ⟨w.heap.size, 0, none⟩ 1 1 [.int .i64 (i : Int), .string (st.is i)] rfl rfl (cell_two_new w _ _ 104) (two_cells _ _) (by decide) (room_max2 _ hlen) (room_bytes24 _ hlen) (base_alloc2 hbase _) _ rfl ?_; intro b2 cap2 w1 hown1 hgrow1 _ _; obtain ⟨g0, g1, g2, g3, g4⟩ := rput_facts HD.out hi hgrow1; have HO := Lib.hid hown1; have HG := Lib.hid hgrow1; clear hown1 hgrow1)
        all_goals
          have HE := Lib.hid (rput_more (s := s) HD.out hi hs HW.out HF.out HG.out HO.out)
          clear c0 c1 c1a f0 f1 s0
          go_wp2_with fail
          go_end0
          exact ⟨rfl, ⟨_, HE.out.1⟩, HE.out.2⟩

end Go.Proofs.YtgahcbhdnplnoaaDoor
