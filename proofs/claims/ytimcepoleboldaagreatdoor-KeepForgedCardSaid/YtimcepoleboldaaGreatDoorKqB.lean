/- KeepForged is true of every input: over a log whose records are any bytes, a store has what the document says. Conditions: the three variables of Go's library that the row lists (strconv's and bits' tables, which no call here reads otherwise) start as the program's text lays them; the card ties that; beside it none. -/
import Derived.Test.YtimcepoleboldaaGreatDoorKqA
import Derived.Test.YtimcepoleboldaaGreatDoorKpD
import Derived.Test.YtimcepoleboldaaGreatDoorKpC
import Derived.Test.YtimcepoleboldaaGreatDoorKeepEnts
import Derived.Test.YtimcepoleboldaaGreatDoorKeepAll
import Derived.Deep.RegionWith
import Derived.Test.YtimcepoleboldaaGreatDoorRows
import Derived.Test.YtimcepoleboldaaGreatDoorCards
import Derived.Test.YtimcepoleboldaaGreatDoorTie
import Derived.Handy
import Derived.Lay
import Derived.SevenTiedAt
import Derived.WalkKit
import Derived.ProofKit
import Derived.OpenShut
import Derived.ShutString
import Derived.Below
import Derived.Carry
/- The document's Unbatch, of any bytes. -/
namespace Go.Proofs.YtimcepoleboldaaGreatDoor
open Go.RowKit Go.Deep

/-- What the document's loop knows. -/
structure RnAt (w : World) (N : Nat) (L : List UInt8) (S j : Nat) (R : List Kp.Rc) (sj : ByteArray) (v : Value) (wr : World) : Prop where
  row : RowR wr (w.heap.size + 1) v R
  rd : Blk wr w.heap.size 169 #[.string sj]
  below : Below w.heap.size w wr
  run : Kp.unb N L = (Kp.unb (N - j) sj.data.toList).map fun r => (R ++ r.1, r.2)
  few : R.length + sj.size ≤ S
  kinds : ∀ x ∈ R, x.wf
theorem RnAt.next {w wr w2 : World} {N S j : Nat} {L : List UInt8} {R : List Kp.Rc} {sj s1 : ByteArray} {v v' : Value} {x : Kp.Rc} (h : RnAt w N L S j R sj v wr) (hj : j < N) (hx : nextRc sj.data.toList = some (x, s1.data.toList))
    (hr : RowR w2 (w.heap.size + 1) v' (R ++ [x])) (hrd : Blk w2 w.heap.size 169 #[.string s1]) (hb : Below w.heap.size w w2) : RnAt w N L S (j + 1) (R ++ [x]) s1 v' w2 := by
  refine ⟨hr, hrd, hb, ?_, ?_, ?_⟩
  · rw [h.run, show N - j = (N - (j + 1)) + 1 by omega, unb_next, hx]
    simp only [Option.map_map]
    congr 1
    funext r
    simp
  · have h1 := next_shorter hx
    have e1 : s1.data.toList.length = s1.size := Array.length_toList
    have e2 : sj.data.toList.length = sj.size := Array.length_toList
    have := h.few
    rw [List.length_append]
    simp only [List.length_cons, List.length_nil]
    omega
  · intro y hy
    rcases List.mem_append.mp hy with hy | hy
    · exact h.kinds y hy
    · have : y = x := by simpa using hy
      rw [this]
      rcases next_kind hx with h1 | h1 <;> (unfold Kp.Rc.wf; rw [h1]; decide)
theorem RnAt.fails {w wr : World} {N S j : Nat} {L : List UInt8} {R : List Kp.Rc} {sj : ByteArray} {v : Value} (h : RnAt w N L S j R sj v wr) (hj : j < N) (hx : nextRc sj.data.toList = none) : Kp.unb N L = none := by
  rw [h.run, show N - j = (N - (j + 1)) + 1 by omega, unb_next, hx]
  rfl

theorem next_of {L L1 : List UInt8} {d : ByteArray} {k : Int} {key val : ByteArray} (ht : Pk.text L = (d.data.toList, 0, L1)) (hu : (Pk.unrec d.data.toList).2.2.2 = 0) (h1 : k = ((Pk.unrec d.data.toList).1 : Int)) (h2 : key.data.toList = (Pk.unrec d.data.toList).2.1) (h3 : val.data.toList = (Pk.unrec d.data.toList).2.2.1) :
    nextRc L = some (⟨k, key, val⟩, L1) := by
  unfold nextRc
  rw [ht, if_pos ⟨rfl, hu⟩, ← h1, ← mkb_of h2, ← mkb_of h3]
theorem next_bad1 {L L1 d : List UInt8} {m : Nat} (ht : Pk.text L = (d, m, L1)) (hm : m ≠ 0) : nextRc L = none := by
  unfold nextRc
  rw [ht, if_neg (fun h => hm h.1)]
theorem next_bad2 {L L1 d : List UInt8} (ht : Pk.text L = (d, 0, L1)) (hu : (Pk.unrec d).2.2.2 ≠ 0) : nextRc L = none := by
  unfold nextRc
  rw [ht, if_neg (fun h => hu h.2)]
theorem text_small {s d s' : ByteArray} {m : Nat} (h : Pk.text s.data.toList = (d.data.toList, m, s'.data.toList)) : d.size ≤ s.size := by
  have h1 : (Pk.text s.data.toList).1.length ≤ s.data.toList.length := by
    unfold Pk.text
    split
    · split
      · simp only [List.length_take]
        have := Pk.num_len s.data.toList
        omega
      · simp
    · simp
  rw [h] at h1
  simp only [toList_len] at h1
  omega

set_option maxRecDepth 20000 in
set_option maxHeartbeats 3200000 in
theorem refunbatch_any (s : ByteArray) (w : World) (hs : s.size ≤ 1000000) : Calls Tryz.prog 53 #[.string s] w (UnbatchPost s.data.toList w) := by
  have hrd := Blk.new w 169 #[.string s]
  have hb1 : Below w.heap.size w (w.alloc (.cells #[.string s] 169)) := (Below.refl _ _).alloc (Nat.le_refl _) _
  have HB1 := Lib.hid hb1
  have HS := Lib.hid hs
  have HN := Lib.hid (refnum_any w.heap.size s _ hrd (by omega))
  have HZ1 := Lib.hid (show w.heap.size + 1 ≤ (w.alloc (.cells #[.string s] 169)).heap.size by simp)
  clear hb1 hs hrd
  go_enter Tryz.func53, Tryz.ntmps53
  go_wp2_with fail
  refine (refread_any s w).mono ?_
  rintro e w2 ⟨rfl, rfl⟩
  go_wp2_with fail
  refine HN.out.mono ?_
  rintro e w3 ⟨N, m, s0, rfl, hrd3, hg3, hnum⟩
  have HB3 := Lib.hid (gr_to_below (gr_new (gr_of_below HB1.out none) hg3 (Nat.le_refl _)))
  have HR3 := Lib.hid hrd3
  have HZ3 := Lib.hid (show w.heap.size + 1 ≤ w3.heap.size by have := HZ1.out; have := hg3.size; omega)
  have HNUM := Lib.hid hnum
  have hshort := num_short hnum
  have hmost : (N : Int) ≤ 72057594037927935 := by have := Pk.num_most s.data.toList; rw [hnum] at this; simp only at this; omega
  clear hrd3 hg3 hnum HN
  by_cases hm : m = 0
  · subst hm
    have HU := Lib.hid (show Kp.unbatch s.data.toList = match Kp.unb N s0.data.toList with | some (l, []) => l | _ => [] by
      unfold Kp.unbatch
      rw [HNUM.out, if_pos rfl]
      rfl)
    have hba : Below w3.heap.size w3 (w3.alloc (.cells #[] 32)) := (Below.refl _ _).alloc (Nat.le_refl _) _
    have H0 := Lib.hid (show RnAt w N s0.data.toList s.size 0 [] s0 (.slice (some ⟨w3.heap.size, 0, none⟩) 0 0) (w3.alloc (.cells #[] 32)) from ⟨World.ownsRow_made w3 #[] 0 HZ3.out (by unfold maxLen; omega) rfl, HR3.out.older hba HR3.out.lt, HB3.out.trans (hba.mono HB3.out.size), by
      show Kp.unb N s0.data.toList = (Kp.unb N s0.data.toList).map fun r => ([] ++ r.1, r.2)
      cases Kp.unb N s0.data.toList <;> rfl, by simpa using hshort, fun x hx => by simp at hx⟩)
    clear hshort hba
    go_wp2_with fail
    go_loopw [6, 7] (fun v i wr => ∃ (j : Nat) (R : List Kp.Rc) (sj : ByteArray), j ≤ N ∧ i = .int .i64 (j : Int) ∧ RnAt w N s0.data.toList s.size j R sj v wr ∧ w.heap.size + 1 ≤ wr.heap.size) (fun _ i _ => N - (intOf i).toNat)
    case atStart => exact ⟨0, [], s0, Nat.zero_le _, rfl, H0.out, by simp; have := HZ3.out; omega⟩
    case round =>
      obtain ⟨j, R, sj, hj, rfl, hU, hz1⟩ := hrel
      have HUA := Lib.hid hU
      have HZ := Lib.hid hz1
      have hfew := hU.few
      have HF := Lib.hid (show R.length ≤ 1048576 ∧ sj.size ≤ 1048576 from by have := HS.out; omega)
      clear hU hz1 hfew H0
      by_cases hlt : j < N
      · have hji : (j : Int) < (N : Int) := by omega
        have HLT := Lib.hid hlt
        go_wp2_with fail
        refine (reftext_any w.heap.size sj wr HUA.out.rd HF.out.2).mono ?_
        rintro e w4 ⟨d, m, s1, rfl, hrd4, hg4, ht⟩
        have hrow4 : RowR w4 (w.heap.size + 1) _ R := World.ownsRow.kept HUA.out.row hg4 (.inr (fun e' => by have := (HUA.out.row.lt e').1; omega))
        have HROW4 := Lib.hid hrow4
        have HRD4 := Lib.hid hrd4
        have HB4 := Lib.hid (gr_to_below (gr_new (gr_of_below (Below.refl w.heap.size w) none) (gr_trans (gr_of_below HUA.out.below _) hg4) (Nat.le_refl _)))
        have HZ4 := Lib.hid (show w.heap.size + 1 ≤ w4.heap.size by have := HZ.out; have := hg4.size; omega)
        have HT := Lib.hid ht
        have hds := text_small ht
        clear hrow4 hrd4 hg4 ht
        go_wp2_with fail
        refine (refunrec_any d w4 (by have := HF.out.2; omega)).mono ?_
        rintro e w5 ⟨k, key, val, rfl, hz, hn, hb5⟩
        have HROW5 := Lib.hid (HROW4.out.below hb5)
        have HRD5 := Lib.hid (HRD4.out.older hb5 HRD4.out.lt)
        have HB5 := Lib.hid (HB4.out.trans (hb5.mono HB4.out.size))
        have HZ5 := Lib.hid (show w.heap.size + 1 ≤ w5.heap.size by have := HZ4.out; have := hb5.size; omega)
        have HZN := Lib.hid hz
        clear hz hn hb5 HROW4 HRD4 HB4 HZ4 hds
        by_cases hm : m = 0
        · subst hm
          by_cases hu : (Pk.unrec d.data.toList).2.2.2 = 0
          · have hu' : ((Pk.unrec d.data.toList).2.2.2 : Int) = 0 := by omega
            have HX := Lib.hid (next_of HT.out hu (HZN.out hu).1 (HZN.out hu).2.1 (HZN.out hu).2.2)
            clear hu
            go_wp2_with (at_builtin; refine wpList_append_rec rfl (.tmp 45) (.tmp 47) rfl (z := ⟨k, key, val⟩) (HROW5.out.below (((Below.refl _ _).alloc (Nat.le_refl _) _).alloc (by simp) _)) (boxed w5 _ _ _ _ _).1 (boxed w5 _ _ _ _ _).2.1 (boxed w5 _ _ _ _ _).2.2 HF.out.1 (by have := HZ5.out; simp; omega) rfl rfl ?_; intro v7 w7 hrow7 hgrow7; have hlt7 := (fun g hg' => (HROW5.out.lt (g := g) hg').1); have hb7 := ((Below.refl w5.heap.size w5).alloc (Nat.le_refl _) (.cells #[.int .i64 k, .string key, .string val] 32)).alloc (by simp) (.cells #[.int .i64 k, .string key, .string val] 32); have HN := Lib.hid (And.intro (HUA.out.next HLT.out HX.out hrow7 ((HRD5.out.older hb7 HRD5.out.lt).grown hgrow7 (fun e => by have := hlt7 _ e.symm; omega)) (gr_to_below (gr_row (gr_trans (gr_of_below HB5.out none) (gr_of_below hb7 none)) hgrow7 (fun g hg' => by have := hlt7 g hg'; omega)))) (show w.heap.size + 1 ≤ w7.heap.size by have h1 := hgrow7.size; have h2 := HZ5.out; simp at h1; omega)); clear hrow7 hgrow7 hlt7 hb7)
            go_roundw
            case rel => exact ⟨j + 1, _, _, by omega, by go_num, HN.out.1, HN.out.2⟩
            case measure => simp [intOf]; omega
          · have hu' : (((Pk.unrec d.data.toList).2.2.2 : Int) != 0) = true := by rw [bne_iff_ne]; omega
            have HX := Lib.hid (HUA.out.fails HLT.out (next_bad2 HT.out hu))
            clear hu
            go_wp2_with fail
            go_ret
            refine ⟨_, rfl, ?_, HB5.out.alloc HB5.out.size _⟩
            rw [HU.out, HX.out]
            exact recs_nil _
        · have hm' : ((m : Int) != 0) = true := by rw [bne_iff_ne]; omega
          have HX := Lib.hid (HUA.out.fails HLT.out (next_bad1 HT.out hm))
          clear hm
          go_wp2_with fail
          go_ret
          refine ⟨_, rfl, ?_, HB5.out.alloc HB5.out.size _⟩
          rw [HU.out, HX.out]
          exact recs_nil _
      · obtain rfl : j = N := by omega
        have hrun := HUA.out.run
        rw [Nat.sub_self] at hrun
        have HRUN := Lib.hid hrun
        have HE := Lib.hid (refend_any w.heap.size sj wr HUA.out.rd)
        clear hrun
        by_cases hend : sj.data.toList = []
        · have HEND := Lib.hid hend
          simp only [if_pos hend] at HE
          clear hend
          go_wp2_with fail
          refine HE.out.mono ?_
          rintro e w5 ⟨rfl, rfl⟩
          go_wp2_with fail
          go_ret
          refine ⟨_, rfl, ?_, HUA.out.below⟩
          rw [HU.out, HRUN.out, HEND.out]
          show Recs _ _ (R ++ [])
          rw [List.append_nil]
          exact HUA.out.row.recs HUA.out.kinds
        · have HEND := Lib.hid hend
          simp only [if_neg hend] at HE
          clear hend
          go_wp2_with fail
          refine HE.out.mono ?_
          rintro e w5 ⟨rfl, rfl⟩
          go_wp2_with fail
          go_ret
          refine ⟨_, rfl, ?_, HUA.out.below⟩
          have hnil : Kp.unbatch s.data.toList = [] := by
            rw [HU.out, HRUN.out]
            cases hl : sj.data.toList with
            | nil => exact absurd hl HEND.out
            | cons b t => rfl
          rw [hnil]
          exact recs_nil _
  · have hm' : ((m : Int) != 0) = true := by rw [bne_iff_ne]; omega
    have hm2 : ((m : Int) == 0) = false := by rw [beq_eq_false_iff_ne]; omega
    have HU := Lib.hid (show Kp.unbatch s.data.toList = [] by unfold Kp.unbatch; rw [HNUM.out, if_neg hm])
    clear hm
    by_cases hN0 : 0 < N
    · have hN1 : (0 : Int) < (N : Int) := by omega
      go_wp2_with fail
      refine wp_loop_rounds 1 ?_
      rw [rounds_succ]
      go_wp2_with fail
      go_ret
      refine ⟨_, rfl, ?_, HB3.out.alloc HB3.out.size _⟩
      rw [HU.out]
      exact recs_nil _
    · have hN1 : ¬ (0 : Int) < (N : Int) := by omega
      go_wp2_with fail
      refine wp_loop_rounds 1 ?_
      rw [rounds_succ]
      go_wp2_with fail
      go_ret
      refine ⟨_, rfl, ?_, HB3.out.alloc HB3.out.size _⟩
      rw [HU.out]
      exact recs_nil _
end Go.Proofs.YtimcepoleboldaaGreatDoor

/- The document's store in memory: Bytes, Get, Keys. -/
namespace Go.Proofs.YtimcepoleboldaaGreatDoor
open Go.RowKit Go.Deep

/-- Block s is the document's store: its log, its room, its map m. -/
structure Rst (w : World) (s q : Nat) (room : Int) (v : Value) (m : Kp.Mp) : Prop where
  blk : Blk w s 106 #[.pointer (some ⟨q, 0, none⟩), .int .i64 room, v]
  ents : Ents w v m
theorem Rst.below {w w' : World} {s q : Nat} {room : Int} {v : Value} {m : Kp.Mp} (h : Rst w s q room v m) (hb : Below w.heap.size w w') : Rst w' s q room v m := ⟨h.blk.older hb h.blk.lt, h.ents.below hb⟩

/-- The document's Get takes the first entry of that key. -/
theorem look_first {m : Kp.Mp} {j : Nat} {e : ByteArray × ByteArray} {k : ByteArray} (h : m[j]? = some e) (hn : Kp.look (m.take j) k = none) (he : e.1 ≠ k) : Kp.look (m.take (j + 1)) k = none := by
  rw [Kp.look_take h k hn, if_neg he]

theorem rbytes_any (s q : Nat) (room : Int) (v : Value) (m : Kp.Mp) (w : World) (h : Rst w s q room v m) (hm : m.length ≤ 1000000) (hs : Kp.size m ≤ 1000000000) :
    Calls Tryz.prog 55 #[.pointer (some ⟨s, 0, none⟩)] w (ESizePost m w) := by
  obtain ⟨-, -, c2⟩ := cells_three h.blk
  have HE := Lib.hid (esize_any v m w h.ents hm hs)
  clear h
  go_enter Tryz.func55, Tryz.ntmps55
  go_wp2_with fail
  refine HE.out.mono ?_
  rintro e w2 ⟨rfl, hq⟩
  go_wp2_with fail
  go_ret
  exact ⟨rfl, hq⟩

def RGetPost (o : Option ByteArray) (w : World) (e : Ending) (w' : World) : Prop := e = .returned (.tuple #[.string (o.getD ByteArray.empty), .bool o.isSome]) ∧ Quiet w w'

set_option maxRecDepth 20000 in
set_option maxHeartbeats 800000 in
theorem rget_any (s q : Nat) (room : Int) (v : Value) (m : Kp.Mp) (key : ByteArray) (w : World) (h : Rst w s q room v m) (hm : m.length ≤ 1000000) :
    Calls Tryz.prog 57 #[.pointer (some ⟨s, 0, none⟩), .string key] w (RGetPost (Kp.look m key) w) := by
  have HB := Lib.hid h.blk
  obtain ⟨A, cap, rfl, hat⟩ := h.ents
  have HA := Lib.hid hat
  have hmi : (m.length : Int) ≤ 1000000 := by omega
  clear h hat
  go_enter Tryz.func57, Tryz.ntmps57
  go_wp2_with fail
  go_loopw [6] (fun i wr => ∃ j : Nat, j ≤ m.length ∧ i = .int .i64 (j : Int) ∧ Kp.look (m.take j) key = none ∧ Quiet w wr) (fun i _ => m.length - (intOf i).toNat)
  case atStart => exact ⟨0, Nat.zero_le _, rfl, rfl, Quiet.refl _⟩
  case round =>
    obtain ⟨j, hj, rfl, hno, hq⟩ := hrel
    have HQ := Lib.hid hq
    have HN := Lib.hid hno
    obtain ⟨-, -, c2⟩ := cells_three (HB.out.older hq.below HB.out.lt)
    clear hq hno
    by_cases hlt : j < m.length
    · obtain ⟨x, hx⟩ : ∃ x, m[j]? = some x := ⟨_, List.getElem?_eq_getElem hlt⟩
      obtain ⟨b1, o1, rfl, l1, e0, e1⟩ := HA.out j x hx
      have d0 := (HQ.out.below.cell (p := ⟨b1, o1 + j * 2, none⟩) l1).trans e0
      have d1 := (HQ.out.below.cell (p := ⟨b1, o1 + j * 2 + 1, none⟩) l1).trans e1
      have hji : (j : Int) < (m.length : Int) := by omega
      have HX := Lib.hid hx
      clear e0 e1 hx
      by_cases hk : x.1 = key
      · have f1 : (x.1.toList == key.toList) = true := by rw [hk]; simp
        have HF := Lib.hid (look_pref HX.out HN.out hk)
        clear hk
        go_wp2_with fail
        all_goals
          go_ret2
          exact ⟨by rw [HF.out]; rfl, HQ.out⟩
      · have f1 : (x.1.toList == key.toList) = false := by
          rw [beq_eq_false_iff_ne]
          intro e'
          rw [Lib.toList_data, Lib.toList_data] at e'
          exact hk (Kp.data_inj e')
        have HF := Lib.hid (look_first HX.out HN.out hk)
        clear hk
        go_wp2_with fail
        go_roundw
        case rel => exact ⟨j + 1, by omega, by go_num, HF.out, HQ.out⟩
        case measure => simp [intOf]; omega
    · have he : m.take j = m := List.take_of_length_le (by omega)
      rw [he] at HN
      go_wp2_with fail
      go_ret2
      exact ⟨by rw [HN.out]; rfl, HQ.out⟩
end Go.Proofs.YtimcepoleboldaaGreatDoor

/- The document's Open of a store, whatever its disk has. -/
namespace Go.Proofs.YtimcepoleboldaaGreatDoor
open Go.RowKit Go.Deep

def RkOpenPost (B : Nat) (st : Dk.St) (room : Int) (w : World) (e : Ending) (w' : World) : Prop :=
  Ch Tr B w w' ∧
  (((Lg.openR st).1 = 0 ∧ ∃ r q v, e = .returned (.tuple #[.pointer (some ⟨r, 0, none⟩), .int .i64 0]) ∧ Rst w' r q room v (Kp.mapOf (Lg.openRecs st)) ∧ w'.cell? ⟨q, 5, none⟩ = some (.int .i64 0) ∧ q < w'.heap.size) ∨
   ((Lg.openR st).1 ≠ 0 ∧ e = .returned (.tuple #[.pointer none, .int .i64 (Lg.openR st).1])))

theorem solid_nil (w : World) (base : Nat) : Solid w base (.slice none 0 0) [] := ⟨⟨none, 0, rfl, fun j e h => by simp at h⟩, .inl rfl⟩

def Tst : Obj → Bool
  | .cells _ t _ => t == 106
  | _ => false

/-- What the loop knows. -/
structure RkAt (w1 : World) (sb q : Nat) (room : Int) (m : Kp.Mp) (wr : World) : Prop where
  st : ∃ v, Blk wr sb 106 #[.pointer (some ⟨q, 0, none⟩), .int .i64 room, v] ∧ Solid wr w1.heap.size v m
  below : Below w1.heap.size w1 wr

set_option maxRecDepth 20000 in
set_option maxHeartbeats 4000000 in
theorem rkopen_any (B g b : Nat) (st : Dk.St) (lv : Value) (room : Int) (w : World) (h : RefAt w B g st b lv) (hm : st.many ≤ 1000000) (h0 : 0 ≤ room) (h1 : room ≤ 1048576) :
    Calls Tryz.prog 22 #[.pointer (some ⟨g, 0, none⟩), .int .i64 room] w (RkOpenPost B st room w) := by
  have HO := Lib.hid (ropen_log B g b st lv w h hm)
  clear h hm
  go_enter Tryz.func22, Tryz.ntmps22
  go_wp2_with fail
  refine HO.out.mono ?_
  rintro e w1 ⟨-, hc, hcase⟩
  have HC := Lib.hid hc
  clear hc HO
  rcases hcase with ⟨hE, q, v, rfl, hst, hq, hl⟩ | ⟨hE, v, rfl, hst⟩
  · have HE := Lib.hid hE
    have HL := Lib.hid hl
    have HST := Lib.hid hst
    have HTT := Lib.hid (open_total st)
    have hrl := open_few st
    obtain ⟨R, hR⟩ : ∃ R, R = Lg.openRecs st := ⟨_, rfl⟩
    have HRR := Lib.hid hR
    rw [← hR] at HST HTT hrl
    obtain ⟨A, cap, hv, -, hat⟩ := HST.out
    subst hv
    have hml : (mks R).length = R.length := by unfold mks; rw [List.length_map]
    rw [hml]
    have hri : (R.length : Int) ≤ 1000000 := by omega
    have HAT := Lib.hid hat
    have hba : Below w1.heap.size w1 (w1.alloc (.cells #[.pointer (some ⟨q, 0, none⟩), .int .i64 room, .slice none 0 0] 106)) := (Below.refl _ _).alloc (Nat.le_refl _) _
    have H0 := Lib.hid (show RkAt w1 w1.heap.size q room (Kp.mapOf (R.take 0)) (w1.alloc (.cells #[.pointer (some ⟨q, 0, none⟩), .int .i64 room, .slice none 0 0] 106)) from ⟨⟨_, Blk.new _ _ _, by rw [List.take_zero]; exact solid_nil _ _⟩, hba⟩)
    clear hat hml hE hst hR hl hba
    go_wp2_with fail
    go_loopw [10] (fun i wr => ∃ j : Nat, j ≤ R.length ∧ i = .int .i64 (j : Int) ∧ RkAt w1 w1.heap.size q room (Kp.mapOf (R.take j)) wr) (fun i _ => R.length - (intOf i).toNat)
    case atStart => exact ⟨0, Nat.zero_le _, rfl, H0.out⟩
    case round =>
      obtain ⟨j, hj, rfl, hA⟩ := hrel
      have HA := Lib.hid hA
      obtain ⟨v, hb, hso⟩ := hA.st
      have HBK := Lib.hid hb
      have HSO := Lib.hid hso
      clear hA H0 hso
      by_cases hlt : j < R.length
      · obtain ⟨x, hx⟩ : ∃ x, R[j]? = some x := ⟨_, List.getElem?_eq_getElem hlt⟩
        obtain ⟨b1, o1, rfl, l1, d0⟩ := HAT.out j (Kp.mkb x) (by unfold mks; rw [List.getElem?_map, hx]; rfl)
        have hji : (j : Int) < (R.length : Int) := by omega
        have d0' := (HA.out.below.cell (p := ⟨b1, o1 + j, none⟩) l1).trans d0
        obtain ⟨t1, t2, t3⟩ := total_take R j hx
        have HX := Lib.hid (show total (R.take (j + 1)) = total (R.take j) + x.length ∧ total (R.take (j + 1)) ≤ 12192 ∧ R.take (j + 1) = R.take j ++ [x] from ⟨t1, Nat.le_trans t2 HTT.out, t3⟩)
        obtain ⟨-, -, c2⟩ := cells_three hb
        have hxl : (Kp.mkb x).size ≤ 1000000 := by rw [mkb_len]; have := HX.out; omega
        have HU := Lib.hid (refunbatch_any (Kp.mkb x) wr.drew hxl)
        have HXX := Lib.hid (show (Kp.mkb x).data.toList = x by simp [Kp.mkb])
        obtain ⟨u1, -⟩ := unbatch_heavy x
        obtain ⟨m1, m2⟩ := mapOf_total (R.take j)
        have HSZ := Lib.hid (show (Kp.mapOf (R.take j)).length + (Kp.unbatch x).length ≤ 1000000 by have := HX.out; omega)
        have HMX := Lib.hid (show Kp.mapOf (R.take (j + 1)) = Kp.all (Kp.mapOf (R.take j)) (Kp.unbatch x) by rw [HX.out.2.2, Kp.mapOf_one])
        have HUPM := Lib.hid (Kp.up_mapOf (R.take j))
        clear hx d0 t1 t2 t3 hxl u1 m1 m2 hb
        go_upto_region 10 with fail
        go_region_with (first
          | (go_at_call 53; refine HU.out.mono ?_; rintro e w3 ⟨v3, rfl, hr3, hb3⟩; rw [HXX.out] at hr3; have HR3 := Lib.hid hr3; have HB3 := Lib.hid hb3; have c3 := (cells_three (HBK.out.drew.older hb3 HBK.out.drew.lt)).2.2; clear hr3 hb3)
          | (go_at_call 25; refine (sall_any v v3 w1.heap.size (Kp.mapOf (R.take j)) (Kp.unbatch x) w3 ((HSO.out.below (Below.refl _ _).drew).below HB3.out) (Nat.le_trans HA.out.below.size HB3.out.size) HR3.out HUPM.out HSZ.out).mono ?_; rintro e w4 ⟨v4, rfl, hso4, hb4⟩; obtain ⟨A4, cap4, rfl, -⟩ := id hso4.1; have HSO4 := Lib.hid hso4; have HB4 := Lib.hid hb4; have HK4 := Lib.hid ((HBK.out.drew.older HB3.out HBK.out.drew.lt).older hb4 (HBK.out.drew.older HB3.out HBK.out.drew.lt).lt); have c4 := (cells_three HK4.out).2.2; have f4 := HK4.out.frozen 2; clear hso4 hb4))
        all_goals
          have HN := Lib.hid (show RkAt w1 w1.heap.size q room (Kp.mapOf (R.take (j + 1))) (w4.setCell ⟨w1.heap.size, 2, none⟩ (.slice A4 (Kp.all (Kp.mapOf (R.take j)) (Kp.unbatch x)).length cap4)) by
            have hcs : Ch Tst 0 w4 (w4.setCell ⟨w1.heap.size, 2, none⟩ (.slice A4 (Kp.all (Kp.mapOf (R.take j)) (Kp.unbatch x)).length cap4)) := Ch.set HK4.out (Nat.zero_le _) rfl 2 _
            have hb4 : Below w1.heap.size w1 w4 := ((HA.out.below.drew).trans (HB3.out.mono HA.out.below.size)).trans (HB4.out.mono (Nat.le_trans HA.out.below.size HB3.out.size))
            refine ⟨⟨_, HK4.out.s2 _, ?_⟩, gr_to_below (gr_set_new (gr_of_below hb4 none) (Nat.le_refl _) 2 _)⟩
            rw [HMX.out]
            exact HSO4.out.kept hcs (fun _ => rfl))
          go_wp2_with fail
          go_roundw
          case rel => exact ⟨j + 1, by omega, by go_num, HN.out⟩
          case measure => simp [intOf]; omega
      · have he : R.take j = R := List.take_of_length_le (by omega)
        rw [he] at HA HSO
        have HQ := Lib.hid (show wr.cell? ⟨q, 5, none⟩ = some (.int .i64 0) ∧ q < wr.heap.size from by
          obtain ⟨⟨-, -, -, -, -, a5⟩, -⟩ := six HL.out
          exact ⟨(HA.out.below.cell (p := ⟨q, 5, none⟩) HL.out.lt).trans a5, Nat.lt_of_lt_of_le HL.out.lt HA.out.below.size⟩)
        clear hb
        go_wp2_with fail
        go_ret2
        exact ⟨HC.out.ch.trans (Ch.of_below HA.out.below), .inl ⟨HE.out, _, q, v, rfl, ⟨HBK.out, by rw [← HRR.out]; exact HSO.out.1⟩, HQ.out.1, HQ.out.2⟩⟩
  · have hEb : ((Lg.openR st).1 != 0) = true := by rw [bne_iff_ne]; exact hE
    have HE := Lib.hid hE
    have HP := Lib.hid (show RkOpenPost B st room w (.returned (.tuple #[.pointer none, .int .i64 (Lg.openR st).1])) w1 from ⟨HC.out.ch, .inr ⟨HE.out, rfl⟩⟩)
    generalize (Lg.openR st).1 = E at *
    go_wp2_with fail
    go_ret2
    exact HP.out
end Go.Proofs.YtimcepoleboldaaGreatDoor

/- Keys of the document's store. -/
namespace Go.Proofs.YtimcepoleboldaaGreatDoor
open Go.RowKit Go.Deep

theorem texts_new (w : World) : RowS (w.alloc (.cells #[] 9)) w.heap.size (.slice (some ⟨w.heap.size, 0, none⟩) 0 0) [] :=
  ⟨rfl, .inr ⟨w.heap.size, 0, #[], rfl, Nat.le_refl _, heap_alloc_new w _, Nat.le_refl _, Nat.zero_le _, rfl, rfl⟩⟩

set_option maxRecDepth 20000 in
set_option maxHeartbeats 800000 in
theorem rkeys_any (s q : Nat) (room : Int) (v : Value) (m : Kp.Mp) (w : World) (h : Rst w s q room v m) (hm : m.length ≤ 1000000) :
    Calls Tryz.prog 54 #[.pointer (some ⟨s, 0, none⟩)] w (KeysPost m w) := by
  have HB := Lib.hid h.blk
  obtain ⟨A, cap, rfl, hat⟩ := h.ents
  have HA := Lib.hid hat
  have hmi : (m.length : Int) ≤ 1000000 := by omega
  have HN0 := Lib.hid (texts_new w)
  have HB0 := Lib.hid (show Below w.heap.size w (w.alloc (.cells #[] 9)) from (Below.refl _ _).alloc (Nat.le_refl _) _)
  clear h hat
  go_enter Tryz.func54, Tryz.ntmps54
  go_wp2_with fail
  go_loopw [3, 4] (fun v i wr => ∃ j : Nat, j ≤ m.length ∧ i = .int .i64 (j : Int) ∧ RowS wr w.heap.size v ((m.take j).map (·.1)) ∧ Below w.heap.size w wr) (fun _ i _ => m.length - (intOf i).toNat)
  case atStart => exact ⟨0, Nat.zero_le _, rfl, HN0.out, HB0.out⟩
  case round =>
    obtain ⟨j, hj, rfl, hR, hb⟩ := hrel
    have HR := Lib.hid hR
    have HC := Lib.hid hb
    obtain ⟨-, -, c2⟩ := cells_three (HB.out.older hb HB.out.lt)
    clear hR hb
    by_cases hlt : j < m.length
    · obtain ⟨x, hx⟩ : ∃ x, m[j]? = some x := ⟨_, List.getElem?_eq_getElem hlt⟩
      obtain ⟨b1, o1, rfl, l1, e0, -⟩ := HA.out j x hx
      have d0 := (HC.out.cell (p := ⟨b1, o1 + j * 2, none⟩) l1).trans e0
      have hji : (j : Int) < (m.length : Int) := by omega
      have HX := Lib.hid hx
      have HLT := Lib.hid (show ((m.take j).map (·.1)).length + 1 ≤ 1048576 ∧ w.heap.size ≤ wr.heap.size from ⟨by simp; omega, HC.out.size⟩)
      clear e0 hx
      go_wp2_with (at_builtin; refine wpList_append_texts rfl (.tmp 15) (.tmp 24) rfl (World.ownsRow.alloc HR.out _) (key_one wr x.1) HLT.out.1 (by have := HLT.out.2; simp; omega) rfl rfl ?_; intro v7 w7 hrow7 hgrow7; have HN := Lib.hid (show RowS w7 w.heap.size v7 ((m.take (j + 1)).map (·.1)) by rw [keys_up HX.out]; exact hrow7); have HD := Lib.hid (gr_to_below (gr_row (gr_trans (gr_of_below HC.out none) (gr_of_below ((Below.refl wr.heap.size wr).alloc (Nat.le_refl _) (.cells #[.string x.1] 9)) none)) hgrow7 (fun g hg' => rows_lt HR.out hg'))); clear hrow7 hgrow7)
      go_roundw
      case rel => exact ⟨j + 1, by omega, by go_num, HN.out, HD.out⟩
      case measure => simp [intOf]; omega
    · have he : m.take j = m := List.take_of_length_le (by omega)
      rw [he] at HR
      go_wp2_with fail
      go_ret
      exact ⟨_, rfl, HR.out, HC.out⟩
end Go.Proofs.YtimcepoleboldaaGreatDoor

/- same of the law of layer 6, of two stores that have the same. -/
namespace Go.Proofs.YtimcepoleboldaaGreatDoor
open Go.RowKit Go.Deep

theorem rlerr_any (q : Nat) (E : Int) (w : World) (h : w.cell? ⟨q, 5, none⟩ = some (.int .i64 E)) : Calls Tryz.prog 88 #[.pointer (some ⟨q, 0, none⟩)] w fun e w' => e = .returned (.int .i64 E) ∧ w = w' := by
  go_enter Tryz.func88, Tryz.ntmps88
  go_wp2_with fail
  go_ret
  exact ⟨rfl, rfl⟩
theorem rserr_any (s q : Nat) (room : Int) (v : Value) (m : Kp.Mp) (E : Int) (w : World) (h : Rst w s q room v m) (hq : w.cell? ⟨q, 5, none⟩ = some (.int .i64 E)) : Calls Tryz.prog 56 #[.pointer (some ⟨s, 0, none⟩)] w fun e w' => e = .returned (.int .i64 E) ∧ w = w' := by
  obtain ⟨c0, -, -⟩ := cells_three h.blk
  have HE := Lib.hid (rlerr_any q E w hq)
  clear h hq
  go_enter Tryz.func56, Tryz.ntmps56
  go_wp2_with fail
  refine HE.out.mono ?_
  rintro e w' ⟨rfl, rfl⟩
  go_wp2_with fail
  go_ret
  exact ⟨rfl, rfl⟩

set_option maxRecDepth 20000 in
set_option maxHeartbeats 4000000 in
theorem ksame_any [R : Rows] (K : Keep) (B s q g tb mb n r q2 : Nat) (ks : Kp.Ks) (room : Int) (v : Value) (w : World) (h : Kpwg K w B s q g tb mb n ks) (h2 : Rst w r q2 room v ks.m) (hq : w.cell? ⟨q2, 5, none⟩ = some (.int .i64 0)) (hq2 : q2 < w.heap.size) (he : ks.lo.wrong = 0) (hm : ks.m.length ≤ 1000000) (hs : Kp.size ks.m ≤ 1000000) :
    Calls Tryz.prog 23 #[.pointer (some ⟨s, 0, none⟩), .pointer (some ⟨r, 0, none⟩)] w fun e w' => e = .returned (.bool true) ∧ Below w.heap.size w w' := by
  have HK := Lib.hid h
  have HR := Lib.hid h2
  have HQ := Lib.hid (And.intro hq hq2)
  have HE := Lib.hid he
  have HS := Lib.hid (And.intro hm hs)
  have HU := Lib.hid (show Kp.Up ks.m from by obtain ⟨_, _, ht⟩ := h.tab; exact ht.up)
  obtain ⟨m, hmm⟩ : ∃ m, m = ks.m := ⟨_, rfl⟩
  have HM := Lib.hid hmm
  have hmi : (m.length : Int) ≤ 1000000 := by rw [hmm]; omega
  rw [← hmm] at HR HS HU
  clear h h2 hq hq2 he hm hs hmm
  go_enter Tryz.func23, Tryz.ntmps23
  go_wp2_with fail
  refine (@skeys_any K _ B s q g tb mb n ks w HK.out (by rw [← HM.out]; exact HS.out.1)).mono ?_
  rintro e w1 ⟨v1, rfl, hr1, hb1⟩
  rw [← HM.out] at hr1
  have HB1 := Lib.hid hb1
  obtain ⟨A1, c1, hv1, -, hk1⟩ := Strs.of_row hr1
  subst hv1
  rw [List.length_map] at *
  have HK1 := Lib.hid hk1
  clear hr1 hb1 hk1
  go_wp2_with fail
  refine (rkeys_any r q2 room v m w1 (HR.out.below HB1.out) HS.out.1).mono ?_
  rintro e w2 ⟨v2, rfl, hr2, hb2⟩
  obtain ⟨A2, c2, hv2, -, hk2⟩ := Strs.of_row hr2
  subst hv2
  rw [List.length_map] at *
  have HK2 := Lib.hid hk2
  have HB12 := Lib.hid hb2
  have HB2 := Lib.hid (HB1.out.trans (hb2.mono HB1.out.size))
  clear hr2 hb2 hk2
  have hl : ((m.length : Int) != (m.length : Int)) = false := by simp
  go_wp2_with fail
  refine (@sbytes_any K _ B s q g tb mb n ks w2 (HK.out.below HB2.out)).mono ?_
  rintro e w' ⟨rfl, rfl⟩
  rw [← HM.out]
  go_wp2_with fail
  refine (rbytes_any r q2 room v m w2 (HR.out.below HB2.out) HS.out.1 (by have := HS.out; omega)).mono ?_
  rintro e w3 ⟨rfl, hq3⟩
  have HB23 := Lib.hid hq3.below
  have HB3 := Lib.hid (HB2.out.trans (hq3.below.mono HB2.out.size))
  have hz : (((Kp.size m : Nat) : Int) != ((Kp.size m : Nat) : Int)) = false := by simp
  clear hq3
  generalize Kp.size m = zm at hz ⊢
  go_wp2_with fail
  refine (@serr_any K _ B s q g tb mb n ks w3 (HK.out.below HB3.out)).mono ?_
  rintro e w' ⟨rfl, rfl⟩
  rw [HE.out]
  go_wp2_with fail
  refine (rserr_any r q2 room v m 0 w3 (HR.out.below HB3.out) ((HB3.out.cell (p := ⟨q2, 5, none⟩) HQ.out.2).trans HQ.out.1)).mono ?_
  rintro e w' ⟨rfl, rfl⟩
  go_wp2_with fail
  go_loopw [7] (fun i wr => ∃ j : Nat, j ≤ m.length ∧ i = .int .i64 (j : Int) ∧ Below w3.heap.size w3 wr) (fun i _ => m.length - (intOf i).toNat)
  case atStart => exact ⟨0, Nat.zero_le _, rfl, Below.refl _ _⟩
  case round =>
    obtain ⟨j, hj, rfl, hb⟩ := hrel
    have HBR := Lib.hid hb
    have HBW := Lib.hid (HB3.out.trans (hb.mono HB3.out.size))
    clear hb
    by_cases hlt : j < m.length
    · obtain ⟨x, hx⟩ : ∃ x, m[j]? = some x := ⟨_, List.getElem?_eq_getElem hlt⟩
      obtain ⟨b1, o1, rfl, l1, e1⟩ := HK1.out j x.1 (by rw [List.getElem?_map, hx]; rfl)
      obtain ⟨b2, o2, rfl, l2, e2⟩ := HK2.out j x.1 (by rw [List.getElem?_map, hx]; rfl)
      have hB13 := HB12.out.trans (HB23.out.mono HB12.out.size)
      have HB1r := Lib.hid (hB13.trans (HBR.out.mono hB13.size))
      have HB2r := Lib.hid (HB23.out.trans (HBR.out.mono HB23.out.size))
      have HL := Lib.hid (And.intro l1 l2)
      have d1 := (HB1r.out.cell (p := ⟨b1, o1 + j, none⟩) l1).trans e1
      have d2 := (HB2r.out.cell (p := ⟨b2, o2 + j, none⟩) l2).trans e2
      have hji : (j : Int) < (m.length : Int) := by omega
      have h3 := size_up hx
      have h4 := size_take_le m (j + 1)
      have HZ := Lib.hid (show x.1.size ≤ maxLen from by have := HS.out; unfold maxLen; omega)
      have hlook : Kp.look m x.1 = some x.2 := Kp.look_mem HU.out (List.mem_of_getElem? hx)
      have HLK := Lib.hid hlook
      clear hB13 e1 e2 l1 l2 h3 h4 hlook hx
      go_wp2_with fail
      refine (@sget_any K _ B s q g tb mb n ks x.1 wr (HK.out.below HBW.out) HZ.out (by rw [← HM.out]; exact HS.out.1)).mono ?_
      rintro e w4 ⟨rfl, hb4⟩
      rw [← HM.out, HLK.out]
      have d2' := (hb4.cell (p := ⟨b2, o2 + j, none⟩) (Nat.lt_of_lt_of_le HL.out.2 HB2r.out.size)).trans d2
      have d1' := (hb4.cell (p := ⟨b1, o1 + j, none⟩) (Nat.lt_of_lt_of_le HL.out.1 HB1r.out.size)).trans d1
      have HB4 := Lib.hid (HBW.out.trans (hb4.mono HBW.out.size))
      have HB34 := Lib.hid (HBR.out.trans (hb4.mono HBR.out.size))
      have HL4 := Lib.hid (show b1 < w4.heap.size ∧ b2 < w4.heap.size from ⟨Nat.lt_of_lt_of_le HL.out.1 (Nat.le_trans HB1r.out.size hb4.size), Nat.lt_of_lt_of_le HL.out.2 (Nat.le_trans HB2r.out.size hb4.size)⟩)
      clear hb4 d1 d2
      go_wp2_with fail
      refine (rget_any r q2 room v m x.1 w4 (HR.out.below HB4.out) HS.out.1).mono ?_
      rintro e w5 ⟨rfl, hq5⟩
      rw [HLK.out]
      have k1 := (hq5.below.cell (p := ⟨b1, o1 + j, none⟩) HL4.out.1).trans d1'
      have k2 := (hq5.below.cell (p := ⟨b2, o2 + j, none⟩) HL4.out.2).trans d2'
      have HB35 := Lib.hid (HB34.out.trans (hq5.below.mono HB34.out.size))
      have f1 : (x.1.toList == x.1.toList) = true := by simp
      have f2 : (x.2.toList == x.2.toList) = true := by simp
      clear hq5 d1' d2'
      generalize x.2 = xv at *
      go_wp2_with fail
      go_quiet (fail)
      go_wp2_with fail
      go_roundw
      case rel => exact ⟨j + 1, by omega, by go_num, HB35.out.trans ((Quiet.drewN _ _).below.mono HB35.out.size)⟩
      case measure => simp [intOf]; omega
    · obtain rfl : j = m.length := by omega
      go_wp2_with fail
      refine (@sget_any K _ B s q g tb mb n ks ⟨#[110, 111, 32, 115, 117, 99, 104, 32, 107, 101, 121]⟩ wr (HK.out.below HBW.out) (by decide) (by rw [← HM.out]; exact HS.out.1)).mono ?_
      rintro e w4 ⟨rfl, hb4⟩
      rw [← HM.out]
      have HB4 := Lib.hid (HBW.out.trans (hb4.mono HBW.out.size))
      clear hb4
      go_wp2_with fail
      refine (rget_any r q2 room v m ⟨#[110, 111, 32, 115, 117, 99, 104, 32, 107, 101, 121]⟩ w4 (HR.out.below HB4.out) HS.out.1).mono ?_
      rintro e w5 ⟨rfl, hq5⟩
      have HB5 := Lib.hid (HB4.out.trans (hq5.below.mono HB4.out.size))
      clear hq5
      generalize (Kp.look m ⟨#[110, 111, 32, 115, 117, 99, 104, 32, 107, 101, 121]⟩).isSome = is at *
      generalize (Kp.look m ⟨#[110, 111, 32, 115, 117, 99, 104, 32, 107, 101, 121]⟩).getD ByteArray.empty = sv at *
      have hii : (is == is) = true := by simp
      go_wp2_with fail
      go_ret
      exact ⟨rfl, HB5.out⟩
end Go.Proofs.YtimcepoleboldaaGreatDoor

/- The walk of KeepForged: true of any records. -/
namespace Go.Proofs.YtimcepoleboldaaGreatDoor
open Go.RowKit Go.Deep

def fsum : List ByteArray → Nat
  | [] => 0
  | v :: l => min v.size 1048576 + fsum l
theorem fsum_append : ∀ a b : List ByteArray, fsum (a ++ b) = fsum a + fsum b
  | [], b => by simp [fsum]
  | v :: a, b => by
    show min v.size 1048576 + fsum (a ++ b) = min v.size 1048576 + fsum a + fsum b
    rw [fsum_append a b]
    omega
theorem fsum_up {l : List ByteArray} {k : Nat} {v : ByteArray} (h : l[k]? = some v) : fsum (l.take (k + 1)) = fsum (l.take k) + min v.size 1048576 := by
  obtain ⟨h1, rfl⟩ := List.getElem?_eq_some_iff.1 h
  rw [List.take_succ_eq_append_getElem h1, fsum_append]
  show _ + (_ + 0) = _
  omega
theorem fsum_small : ∀ l : List ByteArray, fsum l ≤ 8192 → (l.map ByteArray.size).sum = fsum l
  | [], _ => rfl
  | v :: l, h => by
    have h' : min v.size 1048576 + fsum l ≤ 8192 := h
    have := fsum_small l (by omega)
    show v.size + (l.map ByteArray.size).sum = min v.size 1048576 + fsum l
    rw [this]
    omega

theorem Chg.but {T : Obj → Bool} {B mb : Nat} {w w' : World} (hc : @Ch noKeep T B w w') (hb : ∃ es c, w.heap[mb]? = some (.map es c)) (hT : ∀ es c, T (.map es c) = false) : @Ch ⟨fun i => i = mb⟩ T B w w' :=
  ⟨hc.os, hc.tape, hc.output, hc.size, fun i hi hk => hc.all i hi (fun hB _ o ho => by
    by_cases hi2 : i = mb
    · subst hi2
      obtain ⟨es, c, h1⟩ := hb
      rw [h1] at ho
      injection ho with ho
      rw [← ho]
      exact hT es c
    · exact hk hB hi2 o ho)⟩
/-- A store that is idle while the document's disk is worked on. -/
theorem kpwg_beside {K : Keep} {T : Obj → Bool} {w w' : World} {B B' s q g tb mb n : Nat} {ks : Kp.Ks} (h : Kpwg K w B s q g tb mb n ks) (hc : @Ch noKeep T B' w w') (h1 : ∀ cs, T (.cells cs 86 (0, 0)) = false) (h2 : ∀ cs, T (.cells cs 32 (0, 0)) = false) (h3 : ∀ es c, T (.map es c) = false)
    (h4 : ∀ cs, T (.cells cs 76 (0, 0)) = false) (h5 : ∀ cs, T (.cells cs 114 (0, 0)) = false) : Kpwg K w' B s q g tb mb n ks := by
  obtain ⟨G, D, ht⟩ := h.tab
  exact ⟨hc.blk h.blk (h4 _), h.ats, h.free, h.log.kept hc h5, h.tab.kept (hc.but ht.map.block h3) rfl h1 h2, h.kept⟩

/-- What the loop of writes knows. -/
structure FgAt (w0 w2 : World) (gd g b : Nat) (str : Dk.St) (i : Nat) (wr : World) : Prop where
  dsk : ∃ st, @Dsk noKeep wr w0.heap.size gd st ∧ Dk.Well st ∧ st.many ≤ i ∧ ∀ j, j < i → st.is j = str.is j
  ref : ∃ lv, RefAt wr w2.heap.size g str b lv
  below : Below w0.heap.size w0 wr

set_option maxRecDepth 20000 in
set_option maxHeartbeats 8000000 in
theorem forged_walk (v : Value) (l : List ByteArray) (w : World) (hl : Strs w v l) :
    Calls Tryz.prog 5 #[v] w fun x w' => x = .returned (.bool true) ∧ Below w.heap.size w w' := by
  obtain ⟨A, cap, rfl, -, hA⟩ := id hl
  have HL := Lib.hid hl
  have HA := Lib.hid hA
  clear hl hA
  by_cases hbig : 1048576 < l.length
  · have hb1 : 1048576 < (l.length : Int) := by omega
    go_enter Tryz.func5, Tryz.ntmps5
    go_wp2_with fail
    refine wp_loop_rounds 1 ?_
    rw [rounds_succ]
    go_wp2_with fail
    go_ret
    exact ⟨rfl, Below.refl _ _⟩
  have hb1 : (l.length : Int) ≤ 1048576 := by omega
  go_enter Tryz.func5, Tryz.ntmps5
  go_wp2_with fail
  go_loop [3, 4] (fun n i => ∃ k : Nat, k ≤ l.length ∧ l.length + fsum (l.take k) ≤ 4000000 ∧ i = .int .i64 (k : Int) ∧ n = .int .i64 ((l.length + fsum (l.take k) : Nat) : Int)) (fun _ i => l.length - (intOf i).toNat)
  case atStart => exact ⟨0, Nat.zero_le _, by simp [fsum]; omega, rfl, by first | (simp [fsum]; done) | (simp [fsum]; omega)⟩
  case round =>
    obtain ⟨k, hk, hsz, rfl, rfl⟩ := hrel
    by_cases hlt : k < l.length ∧ l.length + fsum (l.take k) ≤ 4096
    · obtain ⟨hlt1, hlt2⟩ := hlt
      obtain ⟨x, hx⟩ : ∃ x, l[k]? = some x := ⟨_, List.getElem?_eq_getElem hlt1⟩
      obtain ⟨b1, o1, rfl, l1, d1⟩ := HA.out k x hx
      have hup := Lib.hid (fsum_up hx)
      have hki : (k : Int) < (l.length : Int) := by omega
      have hn2 : ((l.length + fsum (l.take k) : Nat) : Int) ≤ 4096 := by omega
      clear hx
      obtain ⟨n, hn⟩ : ∃ n, l.length + fsum (l.take k) = n := ⟨_, rfl⟩
      rw [hn] at hlt2 hsz hn2
      have HN := Lib.hid hn
      rw [hn]
      clear hn
      go_wp2_with fail
      go_round
      case rel => exact ⟨k + 1, by omega, by rw [hup.out]; have := HN.out; omega, by go_num, congrArg (Value.int .i64) (by rw [hup.out]; have := HN.out; omega)⟩
      case measure => simp [intOf]; omega
    · by_cases hn : 4096 < l.length + fsum (l.take k)
      · have hn2 : (4096 : Int) < ((l.length + fsum (l.take k) : Nat) : Int) := by omega
        generalize l.length + fsum (l.take k) = n at *
        clear hlt
        by_cases hk2 : k < l.length
        · have hki : (k : Int) < (l.length : Int) := by omega
          go_wp2_with fail
          go_ret
          exact ⟨rfl, Below.refl _ _⟩
        · have hki : ¬ (k : Int) < (l.length : Int) := by omega
          go_wp2_with fail
          go_ret
          exact ⟨rfl, Below.refl _ _⟩
      · have hkl : k = l.length := by omega
        subst hkl
        have HV := Lib.hid (show size l ≤ 8192 by
          rw [List.take_of_length_le (Nat.le_refl _)] at hn
          have := fsum_small l (by omega)
          unfold size
          omega)
        have hn2 : ((l.length + fsum (l.take l.length) : Nat) : Int) ≤ 4096 := by omega
        generalize l.length + fsum (l.take l.length) = n at *
        clear hlt hn
        go_wp2_with fail
        refine (disk_new w).mono ?_
        rintro e w1 ⟨rfl, hd1, hb1'⟩
        obtain ⟨gd, hgd⟩ : ∃ g, g = w.heap.size + 1 := ⟨_, rfl⟩
        rw [← hgd] at hd1 ⊢
        have HB1 := Lib.hid hb1'
        have HD1 := Lib.hid hd1
        clear hgd hb1' hd1
        go_wp2_with fail
        refine (rnew_at w1).mono ?_
        rintro e w2 ⟨rfl, ⟨lv, hr2⟩, hc2⟩
        obtain ⟨g, hg⟩ : ∃ g, g = w1.heap.size + 1 := ⟨_, rfl⟩
        obtain ⟨b, hb⟩ : ∃ b, b = w1.heap.size := ⟨_, rfl⟩
        rw [← hg] at hr2 ⊢
        have hD2 : @Dsk noKeep w2 w.heap.size gd Dk.St.new := HD1.out.kept hc2 (fun _ => rfl) (fun _ _ => rfl) (fun _ => rfl)
        have hB2 : Below w.heap.size w w2 := HB1.out.trans ((hc2.to_below (Nat.le_refl _)).mono HB1.out.size)
        have HD2 := Lib.hid hD2
        have HB2 := Lib.hid hB2
        have HR2 := Lib.hid hr2
        have HZ2 := Lib.hid (show w1.heap.size ≤ w2.heap.size ∧ w.heap.size ≤ w1.heap.size from ⟨hc2.size, HB1.out.size⟩)
        clear hg hb hr2 hc2 hD2 hB2 HD1
        go_wp2_with fail
        refine (ropen_log w1.heap.size g w1.heap.size Dk.St.new lv w2 HR2.out (by show 0 ≤ _; omega)).mono ?_
        rintro e w3 ⟨⟨lv3, hr3⟩, hc3, hcase⟩
        have HD3 := Lib.hid (show @Dsk noKeep w3 w.heap.size gd Dk.St.new from HD2.out.kept hc3.ch (fun _ => rfl) (fun _ _ => rfl) (fun _ => rfl))
        have HB3 := Lib.hid (show Below w.heap.size w w3 from HB2.out.trans ((hc3.ch.to_below HZ2.out.1).mono HZ2.out.2))
        have HR3 := Lib.hid hr3
        have HZ3 := Lib.hid (show w1.heap.size ≤ w3.heap.size from Nat.le_trans HZ2.out.1 hc3.ch.size)
        have HW3 := Lib.hid (Dk.Well.openR Dk.Well.new)
        have HM3 := Lib.hid (show (Lg.openR Dk.St.new).2.many ≤ 2 from Lg.many_open Dk.St.new)
        clear hr3
        rcases hcase with ⟨hE, q, vr, rfl, hst, hq, hlg⟩ | ⟨hE, -⟩
        · have HLG := Lib.hid hlg
          have HQ := Lib.hid (show w1.heap.size ≤ q from Nat.le_trans HZ2.out.1 hq)
          have HTG := Lib.hid (show (Lg.openTop Dk.St.new).h ≤ 1 from (top_good Dk.St.new.is).2.2.2)
          have HNX := Lib.hid (show (Lg.scan Dk.St.new.is (Lg.top Dk.St.new.is)).2 ≤ 127 by
            have h1 : Lg.scan Dk.St.new.is (Lg.top Dk.St.new.is) = ([], 0) := by
              rw [show Lg.top Dk.St.new.is = ⟨0, 0, 0⟩ from Lg.Good.zero.top]
              exact Lg.Good.zero.scan
            rw [h1]
            exact Nat.zero_le _)
          clear hst hq hlg hE hc3
          generalize (Lg.openR Dk.St.new).2 = str at *
          generalize Lg.openTop Dk.St.new = tt at *
          generalize (Lg.scan Dk.St.new.is (Lg.top Dk.St.new.is)).2 = nx at *
          have HAP := Lib.hid (rappend_any w1.heap.size g w1.heap.size q tt nx str lv3 l (.slice A l.length cap) w3 HR3.out HLG.out HW3.out (fun W hW => HL.out.below (HB3.out.trans ((hW.ch.to_below HZ3.out).mono HZ2.out.2))) HV.out HTG.out HNX.out (by have := HM3.out; omega) HQ.out)
          go_wp2_with fail
          refine HAP.out.mono ?_
          rintro e w4 ⟨E, rfl, hc4, hok⟩
          have HD4 := Lib.hid (show @Dsk noKeep w4 w.heap.size gd Dk.St.new from HD3.out.kept hc4 (fun _ => rfl) (fun _ _ => rfl) (fun _ => rfl))
          have HB4 := Lib.hid (show Below w.heap.size w w4 from HB3.out.trans ((hc4.to_below HZ3.out).mono HZ2.out.2))
          clear hc4 HAP
          by_cases hE0 : E = 0
          · subst hE0
            obtain ⟨lv4, st4, hr4, hw4, hl4, hm4⟩ := hok rfl
            have HR4 := Lib.hid hr4
            have HW4 := Lib.hid hw4
            have HM4 := Lib.hid (show st4.many ≤ 8195 by have := HM3.out; omega)
            clear hok hr4 hw4 hl4 hm4
            go_wp2_with fail
            have HF0 := Lib.hid (show FgAt w w1 gd g w1.heap.size st4 0 w4 from ⟨⟨_, HD4.out, Dk.Well.new, Nat.le_refl _, fun j hj => absurd hj (Nat.not_lt_zero _)⟩, ⟨lv4, HR4.out⟩, HB4.out⟩)
            go_loopw [10] (fun vi wr => ∃ i : Nat, i ≤ 256 ∧ vi = .int .i64 (i : Int) ∧ FgAt w w1 gd g w1.heap.size st4 i wr) (fun vi _ => 256 - (intOf vi).toNat)
            case atStart => exact ⟨0, by omega, rfl, HF0.out⟩
            case round =>
              obtain ⟨i, hi, rfl, hF⟩ := hrel
              have HF := Lib.hid hF
              clear HF0 hF
              by_cases hlt : i < 256
              · have hii : (i : Int) < 256 := by omega
                obtain ⟨std, hd, hwd, hmd, hsd⟩ := HF.out.dsk
                obtain ⟨lv5, hr5⟩ := HF.out.ref
                have c0 : wr.cell? ⟨g, 0, none⟩ = some (.slice (some ⟨w1.heap.size, 0, none⟩) 256 256) := hr5.blk.cell 0
                have c1 := hr5.sector hlt
                obtain ⟨sc, hsc⟩ : ∃ sc, sc = st4.is i := ⟨_, rfl⟩
                rw [← hsc] at c1
                obtain ⟨k1, k2⟩ := hwd.written (s := sc) hlt (by rw [hsc]; exact hr5.inv.texts i)
                have HN := Lib.hid (fun (W : World) (hd5 : @Dsk noKeep W w.heap.size gd (std.write (i : Int) sc)) (hc5 : @Ch noKeep Td w.heap.size wr W) => (show FgAt w w1 gd g w1.heap.size st4 (i + 1) W from
                  ⟨⟨_, hd5, hwd.write _ _, by have := Dk.many_write std (i : Int) sc; omega, fun j hj => by
                    rw [k2]
                    unfold Dk.up
                    by_cases hji : j = i
                    · rw [if_pos hji, hji, hsc]
                    · rw [if_neg hji]
                      exact hsd j (by omega)⟩, ⟨lv5, hr5.kept hc5 (fun _ => rfl) (fun _ => rfl) (fun _ => rfl)⟩, HF.out.below.trans (hc5.to_below HF.out.below.size)⟩))
                have HWR := Lib.hid (@write_any noKeep w.heap.size gd std (i : Int) sc wr hd (by omega))
                clear hd hwd hmd hsd hr5 hsc k2
                go_wp2_with fail
                refine HWR.out.mono ?_
                rintro e w5 ⟨rfl, hd5, hc5⟩
                rw [k1]
                have HN5 := Lib.hid (HN.out w5 hd5 hc5)
                clear hd5 hc5 HN HWR k1
                go_wp2_with fail
                go_roundw
                case rel => exact ⟨i + 1, by omega, by go_num, HN5.out⟩
                case measure => simp [intOf]; omega
              · obtain rfl : i = 256 := by omega
                obtain ⟨std, hd, hwd, hmd, hsd⟩ := HF.out.dsk
                obtain ⟨lv5, hr5⟩ := HF.out.ref
                have his : std.is = st4.is := by
                  funext j
                  rcases Nat.lt_or_ge j 256 with h | h
                  · exact hsd j h
                  · rw [hwd.out j h, HW4.out.out j h]
                obtain ⟨hwb, -, hlb, hib⟩ := hwd.barrier
                obtain ⟨e1, e2⟩ := hwb.same HW4.out (hib.trans his)
                have HSM := Lib.hid (And.intro e1 e2)
                have HR5 := Lib.hid hr5
                have HMB := Lib.hid (Dk.many_barrier std)
                have HMD := Lib.hid hmd
                have HBA := Lib.hid (@barrier_any noKeep w.heap.size gd std wr hd (by omega))
                have HZR := Lib.hid (show w.heap.size ≤ wr.heap.size from HF.out.below.size)
                clear hd hwd hmd hsd hr5 his hwb hlb hib e1 e2
                go_wp2_with fail
                refine HBA.out.mono ?_
                rintro e w6 ⟨rfl, hd6, hc6⟩
                have HD6 := Lib.hid hd6
                have HR6 := Lib.hid (HR5.out.kept hc6 (fun _ => rfl) (fun _ => rfl) (fun _ => rfl))
                have HB6 := Lib.hid (HF.out.below.trans (hc6.to_below HZR.out))
                clear hd6 hc6 HBA
                generalize std.barrier = st6 at *
                have HOP := Lib.hid (open_store noKeep w.heap.size gd st6 100 w6 HD6.out (by have := HMB.out; have := HMD.out; omega))
                go_wp2_with fail
                refine HOP.out.mono ?_
                rintro e w7 ⟨hc7, hcase⟩
                rw [Kp.openK_in (by decide) (by decide)] at hcase
                have HR7 := Lib.hid (HR6.out.kept hc7 (fun _ => rfl) (fun _ => rfl) (fun _ => rfl))
                have HB7 := Lib.hid (HB6.out.trans (hc7.to_below HB6.out.size))
                have HRK := Lib.hid (rkopen_any w1.heap.size g w1.heap.size st4 lv5 100 w7 HR7.out (by have := HM4.out; omega) (by decide) (by decide))
                have HZ7 := Lib.hid (show w1.heap.size ≤ w7.heap.size from by
                  have h1 := HB7.out.size
                  have h2 := HR7.out.sec.lt
                  omega)
                clear hc7 HOP
                rcases hcase with ⟨hE1, K', s, qs, tb, mb, ns, rfl, -, -, hkp, -⟩ | ⟨hE1, rfl, -⟩
                · have HKP := Lib.hid hkp
                  have HE1 := Lib.hid hE1
                  clear hkp hE1
                  go_wp2_with fail
                  refine HRK.out.mono ?_
                  rintro e w8 ⟨hc8, hcase8⟩
                  rcases hcase8 with ⟨-, r, q2, vm, rfl, hrst, hq5, hq2⟩ | ⟨hE2, -⟩
                  · have HSA := Lib.hid (ksame_any K' w.heap.size s qs gd tb mb ns r q2 (Kp.openS st6 100) 100 vm w8 (kpwg_beside HKP.out hc8 (fun _ => rfl) (fun _ => rfl) (fun _ _ => rfl) (fun _ => rfl) (fun _ => rfl)) (by show Rst w8 r q2 100 vm (Kp.mapOf (Lg.openRecs st6)); rw [HSM.out.2]; exact hrst) hq5 hq2 rfl (Nat.le_trans (openS_le st6 100).2 (by decide)) (Nat.le_trans (openS_le st6 100).1 (by decide)))
                    have HB8 := Lib.hid (HB7.out.trans ((hc8.to_below HZ7.out).mono HZ2.out.2))
                    clear hrst hq5 hq2 hc8
                    go_wp2_with fail
                    refine HSA.out.mono ?_
                    rintro e w9 ⟨rfl, hb9⟩
                    have HB9 := Lib.hid hb9
                    clear hb9
                    go_wp2_with fail
                    go_ret
                    exact ⟨rfl, HB8.out.trans (HB9.out.mono HB8.out.size)⟩
                  · exact absurd (HSM.out.1.symm.trans HE1.out) hE2
                · have HE1 := Lib.hid hE1
                  clear hE1
                  go_wp2_with fail
                  refine HRK.out.mono ?_
                  rintro e w8 ⟨hc8, hcase8⟩
                  rcases hcase8 with ⟨hE2, -⟩ | ⟨hE2, rfl⟩
                  · exact absurd (HSM.out.1.trans hE2) HE1.out
                  · have HB8 := Lib.hid (HB7.out.trans ((hc8.to_below HZ7.out).mono HZ2.out.2))
                    rw [← HSM.out.1]
                    clear hE2 hc8
                    obtain ⟨E6, hE6⟩ : ∃ E6, (Lg.openR st6).1 = E6 := ⟨_, rfl⟩
                    rw [hE6]
                    have hself : (E6 == E6) = true := beq_self_eq_true _
                    clear hE6
                    go_wp2_with fail
                    go_ret
                    exact ⟨rfl, HB8.out⟩
          · have hEb : (E != 0) = true := by rw [bne_iff_ne]; exact hE0
            clear hok hE0
            go_wp2_with fail
            go_ret
            exact ⟨rfl, HB4.out⟩
        · exfalso
          apply hE
          obtain ⟨-, -, h3⟩ := Lg.open_run Lg.Still.new Lg.Good.zero (by show (0 : Int) < _; omega)
          have h4 : Dk.St.new.cuts = 0 := rfl
          rcases h3 with ⟨g1, -⟩ | ⟨_, g2, g3, _⟩
          · exact g1
          · omega
end Go.Proofs.YtimcepoleboldaaGreatDoor

/- KeepForged is true of every input: over a log whose records are any bytes, a store has what the document says. Conditions: the three variables of Go's library that the row lists (strconv's and bits' tables, which no call here reads otherwise) start as the program's text lays them; the card ties that; beside it none. -/
namespace Go.Proofs.YtimcepoleboldaaGreatDoor.keepForged
open Go.ChangeShapes Go.WideShapes Go.ChangeAt Go.RowKit
open Go.ChangeMaps (open_string shut_string)

theorem own : ownKnob Tryz.prog.godebug = none := by kernel_rfl
theorem laidOut : laidOutB Tryz.prog = true := by kernel_rfl

set_option maxRecDepth 100000 in
theorem lifted (os : Os) (started : os.Started) (H : Type) (enc : TypeId × Value → H) :
    ReturnsInHanded {} Tryz.checked os 5 .any (fun w args => (Rows.keepForgedSpec.pre enc Tryz.prog Tryz.f5 Rows.keepForgedRow.domain false w args ∧ laidMetH Tryz.prog Rows.keepForgedRow.laid w) ∧ sizedMet enc Tryz.prog Tryz.f5 (OpenSpec.ofChange Rows.keepForgedSpec) false w args) (Rows.keepForgedSpec.post enc Tryz.prog Tryz.f5 false true false false) := by
  refine returnsInHanded_of_change_and (C := Tryz.checked) (X := fun w _ => laidMetH Tryz.prog Rows.keepForgedRow.laid w) (fun _ _ _ hh h => h.of_heap hh) own started (by kernel_rfl) Tryz.func5
    (ChangeSpec.witness_shaped (enc := enc) (C := Tryz.checked) (os := os) (X := fun w _ => laidMetH Tryz.prog Rows.keepForgedRow.laid w) false (World.laidAll Tryz.prog os Rows.keepForgedRow.laid) #[.slice none 0 0] 8 (World.laidAll_os _ _ _)
      (World.shaped_of_ZipB (by kernel_rfl) (by kernel_rfl)) (by kernel_rfl) (by kernel_rfl) (by kernel_rfl)
      (by rw [MakeChecks.laidMetH_plain _ _ _ (by kernel_rfl)]; exact laidMet_laidAll _ (by kernel_rfl) (by kernel_rfl))) ?_
  intro W base args ds gs before hval0 hW _ _ hL _
  have hval : ∀ (j : Nat) t v, Tryz.f5.params[j]? = some t → args[j]? = some v → Value.okWide Tryz.prog W .any base t v := hval0
  have hW' := hW
  obtain ⟨p, q, hA0, hV, rfl, _, _⟩ := hW
  have hA : DataW.TrodAll enc Tryz.prog W 0 (fun _ => true) true Tryz.f5.params.toList args.toList ds p := hA0
  rw [Tryz.params5] at hA hval
  obtain ⟨v0, vs0, d0, ds0, p0, q0, hargs, rfl, rfl, h0, r0⟩ := trodAll_cons hA
  obtain ⟨rfl, rfl, rfl⟩ := trodAll_nil r0
  obtain rfl : args = #[v0] := by cases args; simp_all
  obtain ⟨rfl, rfl⟩ := trodVars_none hV
  obtain ⟨A0, len0, cap0, rfl⟩ := okWide_slice Tryz.underlying22 (hval 0 22 v0 rfl rfl)
  clear hA0 hval0
  simp only [List.append_nil] at hW'
  have hlt0 : ∀ x ∈ p0, x.block < W.heap.size := fun x hx => hW'.lt x (by simp [hx])
  obtain ⟨l0, hl0⟩ := open_strs h0 hlt0 ⟨_, _, _, rfl⟩
  have hwalk := forged_walk (.slice A0 len0 cap0) l0 W hl0
  refine hwalk.mono fun e W' ⟨he, bel⟩ => ?_
  subst he
  exact ⟨_, rfl, _, _, _, [], _, [], hW', trodAll_mk1 (shut_bool Tryz.underlying4 _), (trodAll_cons_mk (Below.trod laidOut (by kernel_rfl) (of_decide_eq_true (by kernel_rfl)) h0 bel hlt0) trodAll_mk0), rfl, bel.frame _, fun h => by cases h⟩

theorem over : Rows.keepForgedRow.holds Tryz.pinned (OpenSpec.ofChange Rows.keepForgedSpec) :=
  OpenClaim.holds_of_wide 5 Tryz.f5 rfl rfl rfl rfl rfl rfl rfl ⟨rfl, rfl, rfl, rfl, rfl⟩ rfl rfl rfl rfl rfl (by kernel_rfl) Tryz.func5 (by kernel_rfl)
    (of_decide_eq_true (by kernel_rfl)) (by unfold Func.isWrapper; first | (rw [if_pos (by decide +kernel)]; kernel_rfl) | (rw [if_neg (by decide +kernel)]; exact ⟨rfl, rfl⟩))
    (fun os started H enc _ => lifted os started H enc)

/-- THE STATEMENT -/
theorem proved : Rows.KeepForgedCardSaid :=
  Claim7.holds_tied_plain_at .later [] Rows.keepForgedCard.laidKinds true Rows.keepForgedCard.stood.harness Rows.keepForgedCard.stood.looks over (fun _ h => by cases h) (by kernel_rfl) (fun _ h => by cases h) keepForged_row_tie rfl ⟨rfl, rfl⟩ (by kernel_rfl) rfl
    (fun f fn hf hfn => by
      obtain rfl : f = 5 := Option.some.inj ((show Tryz.prog.funcNamed "cubby/cubbylaw06.KeepForged" = some 5 by kernel_rfl).symm.trans hf) |>.symm
      obtain rfl : fn = Tryz.f5 := (Option.some.inj (Tryz.func5.symm.trans hfn)).symm
      exact ⟨by kernel_rfl, fun j t ht => by
        rw [Tryz.params5] at ht
        have hm : t ∈ [22] := by simpa using Array.mem_of_getElem? ht
        have hall : ([22].all fun u => !Tryz.prog.wantsStandIn u) = true := by kernel_rfl
        exact (show Tryz.prog.wantsStandIn t = false by simpa using List.all_eq_true.1 hall t hm)⟩)
    (by kernel_rfl)
#print axioms proved
end Go.Proofs.YtimcepoleboldaaGreatDoor.keepForged
