/- What (*Reader).Text comes to, whatever bytes are left. -/
import Derived.Test.YtimcepoleboldaaGreatDoorPackRead
import Derived.Outline
import Derived.RegionTactic
import Derived.BigRegion
namespace Go.Proofs.YtimcepoleboldaaGreatDoor
open Go.RowKit

theorem read_any (s : ByteArray) (w : World) : Calls Tryz.prog 63 #[.string s] w fun e w' => e = .returned (.pointer (some ⟨w.heap.size, 0, none⟩)) ∧ w' = w.alloc (.cells #[.string s] 148) := by
  go_enter Tryz.func63, Tryz.ntmps63
  go_wp2_with fail
  go_ret
  exact ⟨rfl, rfl⟩

/-- What the closure of Text leaves: the error; the Reader's rest and the text, where there is none; seen from the world w0, in which the text's block was not there. -/
def CloPost (br b2 : Nat) (L : List UInt8) (s0 : ByteArray) (w0 : World) (e : Ending) (w' : World) : Prop :=
  ∃ s1 s2 : ByteArray, e = .returned (.int .i64 ((Pk.text L).2.1 : Int)) ∧ Blk w' br 148 #[.string s1] ∧ Blk w' b2 9 #[.string s2] ∧
    ((Pk.text L).2.1 = 0 → s1.data.toList = (Pk.text L).2.2 ∧ s2.data.toList = (Pk.text L).1) ∧ ((Pk.text L).2.1 ≠ 0 → s2 = s0) ∧ w0.grownBy w' (some br)

set_option maxRecDepth 20000 in
set_option maxHeartbeats 400000 in
theorem clo_any (br b1 b2 : Nat) (s s0 : ByteArray) (w0 w : World) (h1 : Blk w b1 118 #[.pointer (some ⟨br, 0, none⟩)]) (h2 : Blk w b2 9 #[.string s0]) (h : Blk w br 148 #[.string s])
    (hbr : br < w0.heap.size) (hn1 : w0.heap.size ≤ b1) (hn2 : w0.heap.size ≤ b2) (h0 : w0.grownBy w (some br)) (hs : s.size ≤ 1099511627776) :
    Calls Tryz.prog 120 #[.pointer (some ⟨b1, 0, none⟩), .pointer (some ⟨b2, 0, none⟩)] w (CloPost br b2 s.data.toList s0 w0) := by
  have hrd := readnum_any br s w h hs
  have c1 := h1.cell 0
  simp at c1
  have HR := Lib.hid hrd
  clear hrd
  go_enter Tryz.func120, Tryz.ntmps120
  go_wp2_with fail
  refine HR.out.mono ?_
  rintro e w1 ⟨s1, rfl, hs1, hb, hg⟩
  clear HR c1
  have k1 := h1.grown hg (by intro e; injection e; omega)
  have k2 := h2.grown hg (by intro e; injection e; omega)
  have hg1 := gr_trans h0 hg
  have c0 := hb.cell 0
  have c1 := k1.cell 0
  simp at c0 c1
  clear h h1 h2 h0 hg
  by_cases he : (Pk.num s.data.toList).2.1 = 0
  · have he' : ((Pk.num s.data.toList).2.1 : Int) = 0 := by omega
    by_cases hn : (Pk.num s.data.toList).1 ≤ s1.size
    · have ht : Pk.text s.data.toList = (s1.data.toList.take (Pk.num s.data.toList).1, 0, s1.data.toList.drop (Pk.num s.data.toList).1) := by
        unfold Pk.text
        rw [if_pos he, ← hs1, if_pos (by simpa using hn)]
      have HT := Lib.hid ht
      clear ht hs1 he
      generalize (Pk.num s.data.toList).1 = n at *
      generalize (Pk.num s.data.toList).2.1 = en at *
      have hne1 : b2 ≠ b1 := by
        rintro rfl
        unfold Blk at k1 k2
        rw [k1] at k2
        simp at k2
      have n1 : (n : Int) ≤ (s1.size : Int) := by omega
      have e2 := k2.cell 0
      simp at e2
      have g2 := k2.frozen 0
      have g0 := hb.frozen 0
      have d0 : ∀ u, (w1.setCell ⟨b2, 0, none⟩ u).cell? ⟨br, 0, none⟩ = some (.string s1) := fun u => by
        have := (hb.apart (p := ⟨b2, 0, none⟩) (by show br ≠ b2; omega) u).cell 0
        simpa using this
      have d1 : ∀ u, (w1.setCell ⟨b2, 0, none⟩ u).cell? ⟨b1, 0, none⟩ = some (.pointer (some ⟨br, 0, none⟩)) := fun u => by
        have := (k1.apart (p := ⟨b2, 0, none⟩) (by show b1 ≠ b2; omega) u).cell 0
        simpa using this
      have HK := Lib.hid k1; have HK2 := Lib.hid k2; have HB := Lib.hid hb
      clear k1 k2 hb
      go_wp2_with fail
      go_region
      go_wp2_with fail
      go_ret
      unfold CloPost
      rw [HT.out]
      have m2 := (HK2.out.set_one (.string (s1.extract 0 n))).apart (p := ⟨br, 0, none⟩) (by show b2 ≠ br; omega) (.string (s1.extract n s1.size))
      have m0 := (HB.out.apart (p := ⟨b2, 0, none⟩) (by show br ≠ b2; omega) (.string (s1.extract 0 n))).set_one (.string (s1.extract n s1.size))
      have mg := gr_set (gr_set_new hg1 hn2 0 (.string (s1.extract 0 n))) 0 (.string (s1.extract n s1.size))
      exact ⟨_, _, rfl, m0.drew, m2.drew, fun _ => ⟨tail_list s1 n, head_list s1 n⟩, fun h => absurd rfl h, gr_drew mg⟩
    · have ht : Pk.text s.data.toList = ([], 20, s.data.toList) := by
        unfold Pk.text
        rw [if_pos he, ← hs1, if_neg (by simpa using hn)]
      have HT := Lib.hid ht
      clear ht hs1 he
      go_wp2_with fail
      go_ret
      unfold CloPost
      rw [HT.out]
      exact ⟨s1, s0, rfl, hb, k2, fun h => absurd h (by simp), fun _ => rfl, hg1⟩
  · have ht : Pk.text s.data.toList = ([], (Pk.num s.data.toList).2.1, s.data.toList) := by
      unfold Pk.text
      rw [if_neg he]
    have HT := Lib.hid ht
    clear ht hs1
    generalize (Pk.num s.data.toList).2.1 = en at *
    have he' : ((en : Int) != 0) = true := by rw [bne_iff_ne]; omega
    go_wp2_with fail
    go_ret
    unfold CloPost
    rw [HT.out]
    exact ⟨s1, s0, rfl, hb, k2, fun h => absurd h he, fun _ => rfl, hg1⟩

/-- What whole leaves: the error; the Reader's rest and the text. -/
def WholePost (br b2 : Nat) (L : List UInt8) (w0 : World) (e : Ending) (w' : World) : Prop :=
  ∃ s1 s2 : ByteArray, e = .returned (.int .i64 ((Pk.text L).2.1 : Int)) ∧ Blk w' br 148 #[.string s1] ∧ Blk w' b2 9 #[.string s2] ∧
    s1.data.toList = (Pk.text L).2.2 ∧ s2.data.toList = (Pk.text L).1 ∧ w0.grownBy w' (some br)

theorem whole_any (br b1 b2 : Nat) (s : ByteArray) (w0 w : World) (h1 : Blk w b1 118 #[.pointer (some ⟨br, 0, none⟩)]) (h2 : Blk w b2 9 #[.string ByteArray.empty]) (h : Blk w br 148 #[.string s])
    (hbr : br < w0.heap.size) (hn1 : w0.heap.size ≤ b1) (hn2 : w0.heap.size ≤ b2) (h0 : w0.grownBy w (some br)) (hs : s.size ≤ 1099511627776) :
    Calls Tryz.prog 119 #[.pointer (some ⟨br, 0, none⟩), .func (Fn.func 120) #[] #[.pointer (some ⟨b1, 0, none⟩), .pointer (some ⟨b2, 0, none⟩)]] w
      (WholePost br b2 s.data.toList w0) := by
  have H := Lib.hid (clo_any br b1 b2 s ByteArray.empty w0 w h1 h2 h hbr hn1 hn2 h0 hs)
  have c0 := h.cell 0
  simp at c0
  clear h1 h2 h h0
  go_enter Tryz.func119, Tryz.ntmps119
  go_wp2_with fail
  refine H.out.mono ?_
  rintro e w1 ⟨s1, s2, rfl, hb, hb2, hz, hnz, hg⟩
  clear H c0
  by_cases he : (Pk.text s.data.toList).2.1 = 0
  · obtain ⟨z1, z2⟩ := hz he
    have HZ1 := Lib.hid z1; have HZ2 := Lib.hid z2
    clear z1 z2 hz hnz
    have he' : (((Pk.text s.data.toList).2.1 : Int) != 0) = false := by rw [bne_eq_false_iff_eq]; omega
    have HE := Lib.hid he; clear he
    go_wp2_with fail
    go_ret
    exact ⟨s1, s2, rfl, hb, hb2, HZ1.out, HZ2.out, hg⟩
  · obtain rfl := hnz he
    obtain ⟨t1, t2⟩ := Pk.text_wrong _ he
    have HT1 := Lib.hid t1; have HT2 := Lib.hid t2
    clear t1 t2 hz hnz
    have he' : (((Pk.text s.data.toList).2.1 : Int) != 0) = true := by rw [bne_iff_ne]; omega
    have HE := Lib.hid he; clear he
    have c1 := hb.cell 0
    have f1 := hb.frozen 0
    simp at c1
    go_wp2_with fail
    go_ret
    exact ⟨s, _, rfl, hb.set_one _, hb2.apart (p := ⟨br, 0, none⟩) (by show b2 ≠ br; omega) _, HT2.out.symm, HT1.out.symm, gr_set hg 0 _⟩

theorem readtext_any (br : Nat) (s : ByteArray) (w : World) (h : Blk w br 148 #[.string s]) (hs : s.size ≤ 1099511627776) :
    Calls Tryz.prog 98 #[.pointer (some ⟨br, 0, none⟩)] w fun e w' => ∃ s1 s2 : ByteArray, e = .returned (.tuple #[.string s2, .int .i64 ((Pk.text s.data.toList).2.1 : Int)]) ∧ Blk w' br 148 #[.string s1] ∧
      s1.data.toList = (Pk.text s.data.toList).2.2 ∧ s2.data.toList = (Pk.text s.data.toList).1 ∧ w.grownBy w' (some br) := by
  have hlt := h.lt
  have k1 := (Blk.new w 118 #[.pointer (some ⟨br, 0, none⟩)]).alloc (.cells #[.string ByteArray.empty] 9)
  have k2 := Blk.new (w.alloc (.cells #[.pointer (some ⟨br, 0, none⟩)] 118)) 9 #[.string ByteArray.empty]
  have kr := (h.alloc (.cells #[.pointer (some ⟨br, 0, none⟩)] 118)).alloc (.cells #[.string ByteArray.empty] 9)
  have hz : (w.alloc (.cells #[.pointer (some ⟨br, 0, none⟩)] 118)).heap.size = w.heap.size + 1 := by simp
  rw [hz] at k2
  have hg : w.grownBy ((w.alloc (.cells #[.pointer (some ⟨br, 0, none⟩)] 118)).alloc (.cells #[.string ByteArray.empty] 9)) (some br) := gr_alloc (gr_alloc (gr_refl w _) _) _
  have H := Lib.hid (whole_any br w.heap.size (w.heap.size + 1) s w _ k1 k2 kr hlt (Nat.le_refl _) (by omega) hg hs)
  clear k1 k2 kr hg h hz
  go_enter Tryz.func98, Tryz.ntmps98
  go_wp2_with fail
  refine H.out.mono ?_
  rintro e w1 ⟨s1, s2, rfl, hb, hb2, h1, h2, hg⟩
  have c2 := hb2.cell 0
  simp at c2
  have H1 := Lib.hid h1; have H2 := Lib.hid h2
  clear H h1 h2
  go_wp2_with fail
  go_ret2
  exact ⟨s1, s2, rfl, hb, H1.out, H2.out, hg⟩

end Go.Proofs.YtimcepoleboldaaGreatDoor
