/- What Unrecord comes to, whatever bytes: the error that the document's order of looks gives. -/
import Derived.Test.YtgpijnfddjpmmaaPackReadText
import Derived.Test.YtgpijnfddjpmmaaPackBytes
import Derived.Deep.RegionWith
namespace Go.Proofs.Ytgpijnfddjpmmaa
open Go.RowKit

/-- What record leaves beside the error: some record; where there is no error, the document's. -/
def RecPost (br : Nat) (L : List UInt8) (w : World) (e : Ending) (w' : World) : Prop :=
  ∃ (k : Int) (key val : ByteArray) (err : Int), e = .returned (.tuple #[.agg #[.int .i64 k, .string key, .string val], .int .i64 err]) ∧ err = ((Pk.unrec L).2.2.2 : Int) ∧
    ((Pk.unrec L).2.2.2 = 0 → k = ((Pk.unrec L).1 : Int) ∧ key.data.toList = (Pk.unrec L).2.1 ∧ val.data.toList = (Pk.unrec L).2.2.1) ∧ w.grownBy w' (some br)

theorem info_rec : (Try.prog.info? 25).map (·.size) = some 3 := by kernel_rfl

/-- The two results: what the block holds, and the error. -/
theorem results_rec {fn : Func} (h : fn.results = #[.cell 2 25, .tmp 3]) (tmps : Array Value) (W : World) (B : Nat) (x y z : Value)
    (hp : tmps.getD 2 undef = .pointer (some ⟨B, 0, none⟩)) (hb : Blk W B 25 #[x, y, z]) :
    (results fn tmps).run Try.prog W = .ok (.tuple #[.agg #[x, y, z], tmps.getD 3 undef]) W := by
  have hp' : tmps[2]?.getD undef = .pointer (some ⟨B, 0, none⟩) := by simpa using hp
  simp [results, h, hp', asAddr, run_loadVar_row W B 25 25 #[x, y, z] (0, 0) _ hb Try.underlying25 rfl info_rec]

section
variable {w : World} {g : Nat} {t : TypeId} {x y z : Value}
theorem Blk.s0 (h : Blk w g t #[x, y, z]) (u : Value) : Blk (w.setCell ⟨g, 0, none⟩ u) g t #[u, y, z] := by
  have e := heap_setCell_same w g 0 _ t u h
  simpa [Blk] using e
theorem Blk.s1 (h : Blk w g t #[x, y, z]) (u : Value) : Blk (w.setCell ⟨g, 1, none⟩ u) g t #[x, u, z] := by
  have e := heap_setCell_same w g 1 _ t u h
  simpa [Blk] using e
theorem Blk.s2 (h : Blk w g t #[x, y, z]) (u : Value) : Blk (w.setCell ⟨g, 2, none⟩ u) g t #[x, y, u] := by
  have e := heap_setCell_same w g 2 _ t u h
  simpa [Blk] using e
/-- A struct written whole. -/
theorem Blk.s3 (h : Blk w g t #[x, y, z]) (a b c : Value) : Blk (((w.setCell ⟨g, 0, none⟩ a).setCell ⟨g, 1, none⟩ b).setCell ⟨g, 2, none⟩ c) g t #[a, b, c] := ((h.s0 a).s1 b).s2 c
end
theorem gr_s3 {a b : World} {row : Option Nat} {g : Nat} (h : a.grownBy b row) (hg : a.heap.size ≤ g) (x y z : Value) : a.grownBy (((b.setCell ⟨g, 0, none⟩ x).setCell ⟨g, 1, none⟩ y).setCell ⟨g, 2, none⟩ z) row :=
  gr_set_new (gr_set_new (gr_set_new h hg 0 x) hg 1 y) hg 2 z

theorem three_cells {w : World} {g : Nat} {t : TypeId} {x y z : Value} (h : Blk w g t #[x, y, z]) :
    (w.cell? ⟨g, 0, none⟩ = some x ∧ w.cell? ⟨g, 1, none⟩ = some y ∧ w.cell? ⟨g, 2, none⟩ = some z) ∧ w.frozen? ⟨g, 0, none⟩ = false ∧ w.frozen? ⟨g, 1, none⟩ = false ∧ w.frozen? ⟨g, 2, none⟩ = false := by
  have c0 := h.cell 0
  have c1 := h.cell 1
  have c2 := h.cell 2
  simp at c0 c1 c2
  exact ⟨⟨c0, c1, c2⟩, h.frozen 0, h.frozen 1, h.frozen 2⟩

theorem end_del {L : List UInt8} {s key : ByteArray} (h : Pk.unrec L = if s.data.toList ≠ [] then (0, [], [], 21) else (2, key.data.toList, [], 0)) : endE s = ((Pk.unrec L).2.2.2 : Int) := by
  rw [h]
  unfold endE
  by_cases hn : s.data.toList = []
  · rw [if_pos hn, if_neg (fun h => h hn)]; rfl
  · rw [if_neg hn, if_pos hn]; rfl
theorem end_del0 {L : List UInt8} {s key : ByteArray} (h : Pk.unrec L = if s.data.toList ≠ [] then (0, [], [], 21) else (2, key.data.toList, [], 0)) :
    (Pk.unrec L).2.2.2 = 0 → (2 : Int) = ((Pk.unrec L).1 : Int) ∧ key.data.toList = (Pk.unrec L).2.1 ∧ (⟨#[]⟩ : ByteArray).data.toList = (Pk.unrec L).2.2.1 := by
  rw [h]
  by_cases hn : s.data.toList = []
  · rw [if_neg (fun h => h hn)]; intro _; exact ⟨rfl, rfl, rfl⟩
  · rw [if_pos hn]; intro h; exact absurd h (by decide)
theorem end_put {L : List UInt8} {s key val : ByteArray} (h : Pk.unrec L = if s.data.toList ≠ [] then (0, [], [], 21) else (1, key.data.toList, val.data.toList, 0)) : endE s = ((Pk.unrec L).2.2.2 : Int) := by
  rw [h]
  unfold endE
  by_cases hn : s.data.toList = []
  · rw [if_pos hn, if_neg (fun h => h hn)]; rfl
  · rw [if_neg hn, if_pos hn]; rfl
theorem end_put0 {L : List UInt8} {s key val : ByteArray} (h : Pk.unrec L = if s.data.toList ≠ [] then (0, [], [], 21) else (1, key.data.toList, val.data.toList, 0)) :
    (Pk.unrec L).2.2.2 = 0 → (1 : Int) = ((Pk.unrec L).1 : Int) ∧ key.data.toList = (Pk.unrec L).2.1 ∧ val.data.toList = (Pk.unrec L).2.2.1 := by
  rw [h]
  by_cases hn : s.data.toList = []
  · rw [if_neg (fun h => h hn)]; intro _; exact ⟨rfl, rfl, rfl⟩
  · rw [if_pos hn]; intro h; exact absurd h (by decide)

set_option maxRecDepth 20000 in
set_option maxHeartbeats 1000000 in
theorem rec_any (br : Nat) (s : ByteArray) (w : World) (h : Blk w br 55 #[.string s]) (hs : s.size ≤ 1048576) :
    Calls Try.prog 21 #[.pointer (some ⟨br, 0, none⟩)] w (RecPost br s.data.toList w) := by
  have hlt := h.lt
  have hB := Blk.new w 25 #[.int .i64 0, .string ⟨#[]⟩, .string ⟨#[]⟩]
  have hr := h.alloc (.cells #[.int .i64 0, .string ⟨#[]⟩, .string ⟨#[]⟩] 25)
  have hg : w.grownBy (w.alloc (.cells #[.int .i64 0, .string ⟨#[]⟩, .string ⟨#[]⟩] 25)) (some br) := gr_alloc (gr_refl w _) _
  go_enter Try.func21, Try.ntmps21
  go_wp2_with fail
  generalize w.alloc (.cells #[.int .i64 0, .string ⟨#[]⟩, .string ⟨#[]⟩] 25) = w1 at *
  generalize hBB : w.heap.size = B at *
  have HBB := Lib.hid hBB; clear hBB
  refine (readnum_any br s w1 hr (by omega)).mono ?_
  rintro e w2 ⟨s1, rfl, hs1, hr2, hg2⟩
  have hB2 := hB.grown hg2 (by intro e; injection e; omega)
  have hgg := gr_trans hg hg2
  obtain ⟨⟨c0, c1, c2⟩, f0, f1, f2⟩ := three_cells hB2
  have HB2 := Lib.hid hB2; have HR2 := Lib.hid hr2; have HS1 := Lib.hid hs1
  clear hB hr hg hg2 hB2 hr2 hs1 h
  by_cases h1 : (Pk.num s.data.toList).2.1 = 0
  · by_cases hk1 : (Pk.num s.data.toList).1 = 1
    · have hwB : w.heap.size ≤ B := Nat.le_of_eq HBB.out
      have h1' : ((Pk.num s.data.toList).2.1 : Int) = 0 := by omega
      have hkk : ((Pk.num s.data.toList).1 : Int) = 1 := by omega
      have hz := Lib.hid h1; have hk := Lib.hid hk1
      clear h1 hk1
      go_wp2_with fail
      have hb3 := HB2.out.s0 (.int .i64 1)
      have hr3 := HR2.out.apart (p := ⟨B, 0, none⟩) (by show br ≠ B; omega) (.int .i64 1)
      have hg3 := gr_set_new hgg hwB 0 (.int .i64 1)
      generalize w2.setCell ⟨B, 0, none⟩ (.int .i64 1) = w3 at *
      have hsz1 : s1.size ≤ 1099511627776 := by have := Pk.num_len s.data.toList; rw [← HS1.out, toList_len, toList_len] at this; omega
      have H := readtext_any br s1 w3 hr3 hsz1
      rw [HS1.out] at H
      refine H.mono ?_
      rintro e w4 ⟨s2, key, rfl, hr4, hs2, hkey, hg4⟩
      have hb4 := hb3.grown hg4 (by intro e; injection e; omega)
      have hgg4 := gr_trans hg3 hg4
      clear c0 c1 c2 f0 f1 f2
      obtain ⟨⟨c0, c1, c2⟩, f0, f1, f2⟩ := three_cells hb4
      have HB4 := Lib.hid hb4; have HR4 := Lib.hid hr4; have HS2 := Lib.hid hs2; have HKEY := Lib.hid hkey
      clear H hb3 hr3 hg3 hb4 hr4 hs2 hkey hg4 HB2 HR2 hgg h1' hkk
      by_cases h2 : (Pk.text (Pk.num s.data.toList).2.2).2.1 = 0
      · have h2' : ((Pk.text (Pk.num s.data.toList).2.2).2.1 : Int) = 0 := by omega
        have H2 := Lib.hid h2
        clear h2
        go_wp2_with fail
        have hb5 := HB4.out.s1 (.string key)
        have hr5 := HR4.out.apart (p := ⟨B, 1, none⟩) (by show br ≠ B; omega) (.string key)
        have hg5 := gr_set_new hgg4 hwB 1 (.string key)
        generalize w4.setCell ⟨B, 1, none⟩ (.string key) = w5 at *
        have hsz2 : s2.size ≤ 1099511627776 := by have := Pk.text_len (Pk.num s.data.toList).2.2; rw [← HS2.out, ← HS1.out, toList_len, toList_len] at this; omega
        have H := readtext_any br s2 w5 hr5 hsz2
        rw [HS2.out] at H
        refine H.mono ?_
        rintro e w6 ⟨s3, val, rfl, hr6, hs3, hval, hg6⟩
        have hb6 := hb5.grown hg6 (by intro e; injection e; omega)
        have hgg6 := gr_trans hg5 hg6
        clear c0 c1 c2 f0 f1 f2
        obtain ⟨⟨c0, c1, c2⟩, f0, f1, f2⟩ := three_cells hb6
        have HB6 := Lib.hid hb6; have HR6 := Lib.hid hr6; have HS3 := Lib.hid hs3; have HVAL := Lib.hid hval
        clear H hb5 hr5 hg5 hb6 hr6 hs3 hval hg6 HB4 HR4 hgg4 h2'
        by_cases h3 : (Pk.text (Pk.text (Pk.num s.data.toList).2.2).2.2).2.1 = 0
        · have hu := Pk.unrec_put hz.out hk.out H2.out h3
          have h3' : ((Pk.text (Pk.text (Pk.num s.data.toList).2.2).2.2).2.1 : Int) = 0 := by omega
          rw [← HS3.out, ← HVAL.out, ← HKEY.out] at hu
          have HU := Lib.hid hu
          clear h3 hu
          go_wp2_with fail
          have hb7 := HB6.out.s2 (.string val)
          have hr7 := HR6.out.apart (p := ⟨B, 2, none⟩) (by show br ≠ B; omega) (.string val)
          have hg7 := gr_set_new hgg6 hwB 2 (.string val)
          generalize w6.setCell ⟨B, 2, none⟩ (.string val) = w7 at *
          clear c0 c1 c2 f0 f1 f2
          obtain ⟨⟨c0, c1, c2⟩, f0, f1, f2⟩ := three_cells hb7
          have HB7 := Lib.hid hb7; have HR7 := Lib.hid hr7
          clear hb7 hr7 h3'
          go_region_with (go_at_call 20; refine (end_any br s3 _ HR7.out.drew).mono ?_; rintro e w' ⟨rfl, rfl⟩)
          all_goals
            go_wp2_with fail
            refine bodyPost_ret (results_rec rfl _ _ B _ _ _ rfl ((HB7.out.s3 _ _ _).drew)) rfl ⟨_, _, _, _, rfl, end_put HU.out, end_put0 HU.out, gr_drew (gr_s3 hg7 hwB _ _ _)⟩
        · have hu := Lib.hid (Pk.unrec_val hz.out hk.out H2.out h3)
          have h3' : (((Pk.text (Pk.text (Pk.num s.data.toList).2.2).2.2).2.1 : Int) != 0) = true := by rw [bne_iff_ne]; omega
          have H3 := Lib.hid h3; clear h3
          go_wp2_with fail
          refine bodyPost_ret (results_rec rfl _ _ B _ _ _ rfl ((HB6.out.s2 _).s3 _ _ _)) rfl ⟨_, _, _, _, rfl, by rw [hu.out], fun h => ?_, gr_s3 (gr_set_new hgg6 hwB 2 _) hwB _ _ _⟩
          rw [hu.out] at h
          exact absurd h H3.out
      · have hu := Lib.hid (Pk.unrec_key hz.out (.inl hk.out) h2)
        have h2' : (((Pk.text (Pk.num s.data.toList).2.2).2.1 : Int) != 0) = true := by rw [bne_iff_ne]; omega
        have H2 := Lib.hid h2; clear h2
        go_wp2_with fail
        refine bodyPost_ret (results_rec rfl _ _ B _ _ _ rfl ((HB4.out.s1 _).s3 _ _ _)) rfl ⟨_, _, _, _, rfl, by rw [hu.out], fun h => ?_, gr_s3 (gr_set_new hgg4 hwB 1 _) hwB _ _ _⟩
        rw [hu.out] at h
        exact absurd h H2.out
    · by_cases hk2 : (Pk.num s.data.toList).1 = 2
      · have hwB : w.heap.size ≤ B := Nat.le_of_eq HBB.out
        have h1' : ((Pk.num s.data.toList).2.1 : Int) = 0 := by omega
        have hkk : ((Pk.num s.data.toList).1 : Int) = 2 := by omega
        have hz := Lib.hid h1; have hk := Lib.hid hk2
        clear h1 hk2
        go_wp2_with fail
        have hb3 := HB2.out.s0 (.int .i64 2)
        have hr3 := HR2.out.apart (p := ⟨B, 0, none⟩) (by show br ≠ B; omega) (.int .i64 2)
        have hg3 := gr_set_new hgg hwB 0 (.int .i64 2)
        generalize w2.setCell ⟨B, 0, none⟩ (.int .i64 2) = w3 at *
        have hsz1 : s1.size ≤ 1099511627776 := by have := Pk.num_len s.data.toList; rw [← HS1.out, toList_len, toList_len] at this; omega
        have H := readtext_any br s1 w3 hr3 hsz1
        rw [HS1.out] at H
        refine H.mono ?_
        rintro e w4 ⟨s2, key, rfl, hr4, hs2, hkey, hg4⟩
        have hb4 := hb3.grown hg4 (by intro e; injection e; omega)
        have hgg4 := gr_trans hg3 hg4
        clear c0 c1 c2 f0 f1 f2
        obtain ⟨⟨c0, c1, c2⟩, f0, f1, f2⟩ := three_cells hb4
        have HB4 := Lib.hid hb4; have HR4 := Lib.hid hr4; have HS2 := Lib.hid hs2; have HKEY := Lib.hid hkey
        clear H hb3 hr3 hg3 hb4 hr4 hs2 hkey hg4 HB2 HR2 hgg h1' hkk
        by_cases h2 : (Pk.text (Pk.num s.data.toList).2.2).2.1 = 0
        · have hu := Pk.unrec_del hz.out hk.out h2
          have h2' : ((Pk.text (Pk.num s.data.toList).2.2).2.1 : Int) = 0 := by omega
          rw [← HS2.out, ← HKEY.out] at hu
          have HU := Lib.hid hu
          clear h2 hu
          go_wp2_with fail
          have hb5 := HB4.out.s1 (.string key)
          have hr5 := HR4.out.apart (p := ⟨B, 1, none⟩) (by show br ≠ B; omega) (.string key)
          have hg5 := gr_set_new hgg4 hwB 1 (.string key)
          generalize w4.setCell ⟨B, 1, none⟩ (.string key) = w5 at *
          clear c0 c1 c2 f0 f1 f2
          obtain ⟨⟨c0, c1, c2⟩, f0, f1, f2⟩ := three_cells hb5
          have HB5 := Lib.hid hb5; have HR5 := Lib.hid hr5
          clear hb5 hr5 h2'
          go_region_with (go_at_call 20; refine (end_any br s2 _ HR5.out.drew).mono ?_; rintro e w' ⟨rfl, rfl⟩)
          all_goals
            go_wp2_with fail
            refine bodyPost_ret (results_rec rfl _ _ B _ _ _ rfl ((HB5.out.s3 _ _ _).drew)) rfl ⟨_, _, _, _, rfl, end_del HU.out, end_del0 HU.out, gr_drew (gr_s3 hg5 hwB _ _ _)⟩
        · have hu := Lib.hid (Pk.unrec_key hz.out (.inr hk.out) h2)
          have h2' : (((Pk.text (Pk.num s.data.toList).2.2).2.1 : Int) != 0) = true := by rw [bne_iff_ne]; omega
          have H2 := Lib.hid h2; clear h2
          go_wp2_with fail
          refine bodyPost_ret (results_rec rfl _ _ B _ _ _ rfl ((HB4.out.s1 _).s3 _ _ _)) rfl ⟨_, _, _, _, rfl, by rw [hu.out], fun h => ?_, gr_s3 (gr_set_new hgg4 hwB 1 _) hwB _ _ _⟩
          rw [hu.out] at h
          exact absurd h H2.out
      · have hu := Lib.hid (Pk.unrec_kind h1 hk1 hk2)
        have hz := Lib.hid h1
        have h1' : ((Pk.num s.data.toList).2.1 : Int) = 0 := by omega
        have hk1' : (((Pk.num s.data.toList).1 : Int) != 1) = true := by rw [bne_iff_ne]; omega
        have hk2' : (((Pk.num s.data.toList).1 : Int) != 2) = true := by rw [bne_iff_ne]; omega
        clear h1 hk1 hk2
        go_wp2_with fail
        refine bodyPost_ret (results_rec rfl _ _ B _ _ _ rfl ((HB2.out.s0 _).s3 _ _ _)) rfl ⟨_, _, _, _, rfl, by rw [hu.out]; rfl, fun h => ?_, gr_s3 (gr_set_new hgg (by have := HBB.out; omega) 0 _) (by have := HBB.out; omega) _ _ _⟩
        rw [hu.out] at h
        exact absurd h (by decide)
  · have hu := Lib.hid (Pk.unrec_num h1)
    have h1' : (((Pk.num s.data.toList).2.1 : Int) != 0) = true := by rw [bne_iff_ne]; omega
    have H1 := Lib.hid h1; clear h1
    go_wp2_with fail
    refine bodyPost_ret (results_rec rfl _ _ B _ _ _ rfl ((HB2.out.s0 _).s3 _ _ _)) rfl ⟨_, _, _, _, rfl, by rw [hu.out], fun h => ?_, gr_s3 (gr_set_new hgg (by have := HBB.out; omega) 0 _) (by have := HBB.out; omega) _ _ _⟩
    rw [hu.out] at h
    exact absurd h H1.out

end Go.Proofs.Ytgpijnfddjpmmaa
