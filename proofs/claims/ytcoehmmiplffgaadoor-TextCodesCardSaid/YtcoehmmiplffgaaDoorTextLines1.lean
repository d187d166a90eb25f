/- lines, the program's: an iterator that hands over the lines of a text as their words. -/
import Derived.Test.YtcoehmmiplffgaaDoorRangeTold
import Derived.Test.YtcoehmmiplffgaaDoorTextRdy
import Derived.Test.YtcoehmmiplffgaaDoorStrs
import Derived.Test.YtcoehmmiplffgaaDoorIrNames
import Derived.Deep.RegionHeld
namespace Go.Proofs.YtcoehmmiplffgaaDoor
open Go.ChangeShapes Go.WideShapes Go.RowKit Go.Deep Go.Shelf

attribute [local go_sem] Oper.semAt_some

theorem cut_mx (s : ByteArray) (w : World) (hs : s.size ≤ 1000000) {m : Int} (hm : w.cell? ⟨1, 0, none⟩ = some (.int .i64 m)) :
    Calls Tryd.prog 51 #[.string s, .string ⟨#[10]⟩] w fun e w' => e = .returned (.tuple #[.string (Tx.mkB (Lib.cut s.data.toList [10]).1), .string (Tx.mkB (Lib.cut s.data.toList [10]).2.1), .bool (Lib.cut s.data.toList [10]).2.2]) ∧ ∃ n, w' = w.drewN n :=
  Any.strings_Cut { laysM145 with } s ⟨#[10]⟩ m w (by omega) hm
theorem split_mx (s : ByteArray) (w : World) (hs : s.size ≤ 1000000) {m : Int} (hm : w.cell? ⟨1, 0, none⟩ = some (.int .i64 m)) :
    Calls Tryd.prog 52 #[.string s, .string ⟨#[32]⟩] w fun e w' => e = .returned (.slice (some ⟨w.heap.size, 0, none⟩) (Tx.words s.data.toList).length (Tx.words s.data.toList).length) ∧ w' = w.alloc (.cells (((Tx.words s.data.toList).map Tx.mkB).map Value.string).toArray 9) := by
  have hl := Lib.splitB_all ⟨#[32]⟩ (by decide) 0 _ s rfl
  rw [split_list, List.length_map] at hl
  rw [← split_list, hl]
  exact Any.strings_Split { laysM146 with } (by kernel_rfl) s ⟨#[32]⟩ m w (by omega) hm (by decide)

/-- A line's words in memory: none where it has no line feed. -/
def WdsAt (W : World) (v : Value) (x : Option (List UInt8)) : Prop :=
  match x with
  | none => v = .slice none 0 0
  | some t => ∃ b, v = .slice (some ⟨b, 0, none⟩) (Tx.words t).length (Tx.words t).length ∧ W.heap[b]? = some (.cells (((Tx.words t).map Tx.mkB).map Value.string).toArray 9 (0, 0))
/-- What is handed over: a line's number, and its words. -/
def LnG (L : List (Option (List UInt8))) (k : Nat) (args : Array Value) (W : World) : Prop := ∃ v x, args = #[.int .i64 ((k : Int) + 1), v] ∧ L[k]? = some x ∧ WdsAt W v x
theorem lnG_bides (L : List (Option (List UInt8))) (B k : Nat) (args : Array Value) : Bides (Book B) (LnG L k args) := by
  rintro W W' row ⟨v, x, h1, h2, h3⟩ hg - hr
  refine ⟨v, x, h1, h2, ?_⟩
  cases x with
  | none => exact h3
  | some t =>
    obtain ⟨b, h4, h5⟩ := h3
    refine ⟨b, h4, (hg.block b (Array.getElem?_eq_some_iff.1 h5).1 (fun e => ?_)).trans h5⟩
    obtain ⟨-, o, ho, hc⟩ := hr b e.symm
    rw [h5] at ho
    injection ho with ho
    subst ho
    cases hc
def linesK (Bn : Nat) (r : Nat) : Prop := r = Bn ∨ r = 1

theorem cell_of_block_eq {w w' : World} {b : Nat} (h : w'.heap[b]? = w.heap[b]?) (o : Nat) : w'.cell? ⟨b, o, none⟩ = w.cell? ⟨b, o, none⟩ := World.cell?_of_block (a := ⟨b, o, none⟩) h
theorem lines_nil_iff {s : List UInt8} : Tx.lines s = [] ↔ s = [] := by
  refine ⟨fun h => Classical.byContradiction fun h0 => ?_, fun h => by rw [h]; rfl⟩
  cases hc : Tx.cutLF s with
  | none => rw [Tx.lines_none h0 hc] at h; cases h
  | some q => obtain ⟨t, r⟩ := q; rw [Tx.lines_some hc] at h; cases h
theorem linesF_len : ∀ (f : Nat) (s : List UInt8), (Tx.linesF f s).length ≤ s.length
  | 0, s => by simp [Tx.linesF]
  | f + 1, s => by
    unfold Tx.linesF
    by_cases h0 : s = []
    · rw [if_pos h0]; simp
    · rw [if_neg h0]
      have := List.length_pos_iff.2 h0
      cases hc : Tx.cutLF s with
      | none => simp only [List.length_cons, List.length_nil]; omega
      | some q =>
        obtain ⟨t, r⟩ := q
        have h1 := Tx.cutLF_lt hc
        have h2 := linesF_len f r
        simp only [List.length_cons]
        omega
theorem lines_len (s : List UInt8) : (Tx.lines s).length ≤ s.length := linesF_len _ s
theorem drop_one {α : Type} {l : List α} {k : Nat} {x : α} {r : List α} (h : l.drop k = x :: r) : l[k]? = some x ∧ l.drop (k + 1) = r ∧ k < l.length := by
  have h1 : k < l.length := by
    rcases Nat.lt_or_ge k l.length with h1 | h1
    · exact h1
    · rw [List.drop_eq_nil_of_le h1] at h; cases h
  rw [List.drop_eq_getElem_cons h1] at h
  injection h with h2 h3
  exact ⟨by rw [List.getElem?_eq_getElem h1, h2], h3, h1⟩

set_option maxRecDepth 100000 in
set_option maxHeartbeats 4000000 in
theorem lines1_tells (n Bn : Nat) (hn : 1 ≤ n) (s : ByteArray) (w : World) (hs : s.size ≤ 1000000) (hB : Blk w Bn 9 #[.string s]) {m : Int} (hm : w.cell? ⟨1, 0, none⟩ = some (.int .i64 m)) (hne : Bn ≠ 1) :
    Tells Fence.wide n Tryd.prog 50 #[.pointer (some ⟨Bn, 0, none⟩)] (fun r => r = Bn) (linesK Bn) (LnG (Tx.lines s.data.toList)) (Tx.lines s.data.toList).length w := by
  intro l J Jx W hW hJ hJx hY h0
  obtain ⟨L, hL⟩ : ∃ L, L = Tx.lines s.data.toList := ⟨_, rfl⟩
  rw [← hL] at hY ⊢
  have hBW := hB.older hW hB.lt
  have hmW := (hW.cell (p := ⟨1, 0, none⟩) (World.block_lt_of_cell? w _ hm)).trans hm
  refine callsIn_of_wp Tryd.func50 rfl trivial ?_ rfl
  simp only [Tryd.ntmps50, List.size_toArray, List.length_cons, List.length_nil, Nat.reduceAdd, Nat.reduceSub, Array.replicate_succ, Array.replicate_zero, List.push_toArray, List.append_toArray, List.nil_append, List.cons_append]
  have hLs : L.length ≤ 1000000 := by rw [hL]; have := lines_len s.data.toList; rw [bytes_length] at this; omega
  have HM := Lib.hid (And.intro hJ (And.intro hJx hY))
  have HST := Lib.hid (show ∃ (k : Nat) (r : ByteArray), (1 : Int) = (k : Int) + 1 ∧ r.size ≤ 1000000 ∧ L.drop k = Tx.lines r.data.toList ∧ k ≤ L.length ∧ Blk W Bn 9 #[.string r] ∧ W.cell? ⟨1, 0, none⟩ = some (.int .i64 m) ∧ J k W from ⟨0, s, rfl, hs, hL, Nat.zero_le _, hBW, hmW, h0⟩)
  clear hJ hJx hY h0 hB hm hW hBW hmW hL
  gi_wp2
  gi_loopw [3] (fun p wr => ∃ (k : Nat) (r : ByteArray), p = .int .i64 ((k : Int) + 1) ∧ r.size ≤ 1000000 ∧ L.drop k = Tx.lines r.data.toList ∧ k ≤ L.length ∧ Blk wr Bn 9 #[.string r] ∧ wr.cell? ⟨1, 0, none⟩ = some (.int .i64 m) ∧ J k wr) (fun p _ => L.length + 1 - (intOf p).toNat)
  case atStart =>
    obtain ⟨k, r, h1, h2⟩ := HST.out
    exact ⟨k, r, by rw [← h1], h2⟩
  case round =>
    obtain ⟨k, r, rfl, hr, hd, hkl, hb, hm, hj⟩ := hrel
    by_cases he : r.data.toList = []
    · obtain rfl : r = ⟨#[]⟩ := by rw [← Tx.mkB_list r, he]; rfl
      have c0 := hb.cell 0
      have hk : J L.length wr := by
        rw [he, Tx.lines_nil, List.drop_eq_nil_iff] at hd
        rw [show L.length = k by omega]
        exact hj
      have HJ := Lib.hid hk
      clear hj hd hb he hm hk
      gi_wp2
      go_end0
      exact ⟨⟨_, rfl⟩, .inl HJ.out⟩
    · have hwe : (r.toList == []) = false := by rw [beq_eq_false_iff_ne, ByteArray.toList_eq]; exact he
      have hwe2 : r.toList.isEmpty = false := by rw [ByteArray.toList_eq]; simpa using he
      have c0 := hb.cell 0
      have f0 := hb.frozen 0
      have hm' := hm
      have HCUT := Lib.hid (cut_mx r wr hr hm')
      cases hc : Tx.cutLF r.data.toList with
      | none =>
        rw [Tx.lines_none he hc] at hd
        obtain ⟨hk1, hk2, hk3⟩ := drop_one hd
        have e1 := Tx.cut_none hc
        rw [e1, Tx.mkB_list] at HCUT
        have HCU := Lib.hid (show Calls Tryd.prog 51 #[.string r, .string ⟨#[10]⟩] wr fun e w' => e = .returned (.tuple #[.string r, .string ⟨#[]⟩, .bool false]) ∧ ∃ n, w' = wr.drewN n from HCUT.out)
        have hki : (k : Int) ≤ 1000000 := by omega
        have HQ := Lib.hid (And.intro hb (And.intro hm (And.intro hk1 (And.intro hk2 (And.intro hk3 hj)))))
        clear he hc hd e1 HCUT hb hm hm' hk1 hk2 hk3 hj
        gi_wp2_with (refine ⟨trivial, ?_⟩; gi_at_call 51; refine (callsIn_wide.2 HCU.out).mono ?_; rintro e w2 ⟨rfl, nn, rfl⟩; have hbd : Below wr.heap.size wr (wr.drewN nn) := below_drewN wr nn; have HB2 := Lib.hid (And.intro (HQ.out.1.older hbd HQ.out.1.lt) (And.intro ((hbd.cell (p := ⟨1, 0, none⟩) (World.block_lt_of_cell? wr _ HQ.out.2.1)).trans HQ.out.2.1) ((HM.out.1 k).drewN nn HQ.out.2.2.2.2.2))); clear hbd; obtain ⟨fn, tmps, assign, body, hy, hR⟩ := HM.out.2.2 k _ _ HB2.out.2.2 ⟨.slice none 0 0, none, rfl, HQ.out.2.2.1, rfl⟩; have HR := Lib.hid hR; clear hR)
        refine HR.out.mono ?_
        rintro e W3 (⟨rfl, hJ3, hk3⟩ | ⟨rfl, hJx3⟩)
        · have hb3 : Blk W3 Bn 9 #[.string r] := HB2.out.1.move (hk3 Bn (.inl rfl))
          have hm3 := (cell_of_block_eq (hk3 1 (.inr rfl)) 0).trans HB2.out.2.1
          have s0 := hb3.cell 0
          have s1 := hb3.frozen 0
          have HE := Lib.hid (And.intro (hb3.set_one (.string ⟨#[]⟩)) (And.intro ((World.cell?_setCell_far W3 ⟨Bn, 0, none⟩ ⟨1, 0, none⟩ (.string ⟨#[]⟩) hne).trans hm3) ((HM.out.1 (k + 1)).set Bn 0 (.string ⟨#[]⟩) hJ3 rfl)))
          clear hb3 hm3 hJ3 hk3
          gi_wp2
          go_roundw
          case rel => exact ⟨k + 1, ⟨#[]⟩, by go_num, by decide, HQ.out.2.2.2.1.trans Tx.lines_nil.symm, HQ.out.2.2.2.2.1, HE.out⟩
          case measure => have := HQ.out.2.2.2.2.1; simp [intOf]; omega
        · have HX := Lib.hid hJx3
          clear hJx3
          gi_wp2
          refine bodyPost_ret (results_none rfl _ _ _) rfl ?_
          exact ⟨⟨_, rfl⟩, .inr HX.out⟩
      | some q =>
        obtain ⟨t, r2⟩ := q
        rw [Tx.lines_some hc] at hd
        obtain ⟨hk1, hk2, hk3⟩ := drop_one hd
        have e1 := Tx.cut_some hc
        rw [e1] at HCUT
        obtain ⟨T, hT⟩ : ∃ T, T = Tx.mkB t := ⟨_, rfl⟩
        obtain ⟨R, hR⟩ : ∃ R, R = Tx.mkB r2 := ⟨_, rfl⟩
        have HCU := Lib.hid (show Calls Tryd.prog 51 #[.string r, .string ⟨#[10]⟩] wr fun e w' => e = .returned (.tuple #[.string T, .string R, .bool true]) ∧ ∃ n, w' = wr.drewN n from by rw [hT, hR]; exact HCUT.out)
        have hsz : t.length + r2.length < r.size := by
          have := congrArg List.length (Tx.cutLF_some hc).1
          rw [bytes_length] at this
          simp at this
          omega
        have hTl : T.data.toList = t := by rw [hT, Tx.list_mkB]
        have hRl : R.data.toList = r2 := by rw [hR, Tx.list_mkB]
        have hTs : T.size ≤ 1000000 := by rw [← bytes_length, hTl]; omega
        have hRs : R.size ≤ 1000000 := by rw [← bytes_length, hRl]; omega
        have hsp := fun (W : World) (hmW : W.cell? ⟨1, 0, none⟩ = some (.int .i64 m)) => split_mx T W hTs hmW
        rw [hTl] at hsp
        obtain ⟨wa, hwa⟩ : ∃ wa, wa = (((Tx.words t).map Tx.mkB).map Value.string).toArray := ⟨_, rfl⟩
        rw [← hwa] at hsp
        have HSP := Lib.hid hsp
        have HWA := Lib.hid hwa
        clear hsp hwa
        have HRR := Lib.hid (And.intro hRl hRs)
        have hki : (k : Int) ≤ 1000000 := by omega
        have HQ := Lib.hid (And.intro hb (And.intro hm (And.intro hk1 (And.intro hk2 (And.intro hk3 hj)))))
        clear he hc hd e1 HCUT hb hm hm' hk1 hk2 hk3 hj hT hR hsz hTl hTs hRl hRs
        gi_wp2_with first
          | (refine ⟨trivial, ?_⟩; gi_at_call 51; refine (callsIn_wide.2 HCU.out).mono ?_; rintro e w2 ⟨rfl, nn, rfl⟩; have hbd : Below wr.heap.size wr (wr.drewN nn) := below_drewN wr nn; have HB2 := Lib.hid (And.intro (HQ.out.1.older hbd HQ.out.1.lt) (And.intro ((hbd.cell (p := ⟨1, 0, none⟩) (World.block_lt_of_cell? wr _ HQ.out.2.1)).trans HQ.out.2.1) ((HM.out.1 k).drewN nn HQ.out.2.2.2.2.2))); clear hbd)
          | (refine ⟨trivial, ?_⟩; gi_at_call 52; refine (callsIn_wide.2 (HSP.out _ HB2.out.2.1)).mono ?_; rintro e w3 ⟨rfl, rfl⟩; have hbd := (Below.refl (wr.drewN nn).heap.size (wr.drewN nn)).alloc (Nat.le_refl _) (.cells wa 9); have HB3 := Lib.hid (And.intro (HB2.out.1.older hbd HB2.out.1.lt) (And.intro ((hbd.cell (p := ⟨1, 0, none⟩) (World.block_lt_of_cell? _ _ HB2.out.2.1)).trans HB2.out.2.1) ((HM.out.1 k).alloc (.cells wa 9) HB2.out.2.2))); clear hbd; obtain ⟨fn, tmps, assign, body, hy, hR⟩ := HM.out.2.2 k #[.int .i64 ((k : Int) + 1), .slice (some ⟨wr.heap.size, 0, none⟩) (Tx.words t).length (Tx.words t).length] _ HB3.out.2.2 ⟨_, some t, rfl, HQ.out.2.2.1, wr.heap.size, rfl, by rw [← HWA.out]; exact heap_alloc_new (wr.drewN nn) _⟩; have HR := Lib.hid hR; clear hR)
        refine HR.out.mono ?_
        rintro e W3 (⟨rfl, hJ3, hk3⟩ | ⟨rfl, hJx3⟩)
        · have hb3 : Blk W3 Bn 9 #[.string r] := HB3.out.1.move (hk3 Bn (.inl rfl))
          have hm3 := (cell_of_block_eq (hk3 1 (.inr rfl)) 0).trans HB3.out.2.1
          have s0 := hb3.cell 0
          have s1 := hb3.frozen 0
          have HE := Lib.hid (And.intro (hb3.set_one (.string R)) (And.intro ((World.cell?_setCell_far W3 ⟨Bn, 0, none⟩ ⟨1, 0, none⟩ (.string R) hne).trans hm3) ((HM.out.1 (k + 1)).set Bn 0 (.string R) hJ3 rfl)))
          clear hb3 hm3 hJ3 hk3
          gi_wp2
          go_roundw
          case rel => exact ⟨k + 1, R, by go_num, HRR.out.2, by rw [HRR.out.1]; exact HQ.out.2.2.2.1, HQ.out.2.2.2.2.1, HE.out⟩
          case measure => have := HQ.out.2.2.2.2.1; simp [intOf]; omega
        · have HX := Lib.hid hJx3
          clear hJx3
          gi_wp2
          refine bodyPost_ret (results_none rfl _ _ _) rfl ?_
          exact ⟨⟨_, rfl⟩, .inr HX.out⟩
end Go.Proofs.YtcoehmmiplffgaaDoor
