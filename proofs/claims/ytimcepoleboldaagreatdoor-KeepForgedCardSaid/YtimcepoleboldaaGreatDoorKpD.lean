/- Several texts in one: KeepUnbW, KeepOpen, KeepHas, KeepNice, DiskMany, KeepShop. -/
import Derived.Test.YtimcepoleboldaaGreatDoorKpC
import Derived.Test.YtimcepoleboldaaGreatDoorKeepEnts
import Derived.Test.YtimcepoleboldaaGreatDoorKeepDisk
import Derived.Test.YtimcepoleboldaaGreatDoorKpB
import Derived.Test.YtimcepoleboldaaGreatDoorKpA
/- unbatch, walked. -/
namespace Go.Proofs.YtimcepoleboldaaGreatDoor
open Go.RowKit Go.Deep

/-! ### Rows of records of any kind -/
def flatR (m : List Kp.Rc) : List Value := (m.map fun e => [Value.int .i64 e.k, Value.string e.key, Value.string e.val]).flatten
theorem flatR_length : ∀ m : List Kp.Rc, (flatR m).length = m.length * 3
  | [] => rfl
  | e :: m => by
    show (Value.int .i64 e.k :: Value.string e.key :: Value.string e.val :: flatR m).length = (m.length + 1) * 3
    simp only [List.length_cons, flatR_length m]
    omega
theorem flatR_append (m n : List Kp.Rc) : flatR (m ++ n) = flatR m ++ flatR n := by unfold flatR; rw [List.map_append, List.flatten_append]
theorem flatR_at : ∀ {m : List Kp.Rc} {j : Nat} {e : Kp.Rc}, m[j]? = some e → (flatR m)[j * 3]? = some (.int .i64 e.k) ∧ (flatR m)[j * 3 + 1]? = some (.string e.key) ∧ (flatR m)[j * 3 + 2]? = some (.string e.val)
  | [], j, e, h => by simp at h
  | f :: m, 0, e, h => by
    simp at h
    subst h
    exact ⟨rfl, rfl, rfl⟩
  | f :: m, j + 1, e, h => by
    have h1 : m[j]? = some e := by simpa using h
    have h2 := flatR_at h1
    have e1 : (j + 1) * 3 = j * 3 + 1 + 1 + 1 := by omega
    rw [e1]
    exact h2
theorem flatR_one (m : List Kp.Rc) : ∀ u ∈ flatR m, u.oneCell' = true := by
  intro u hu
  unfold flatR at hu
  simp only [List.mem_flatten, List.mem_map] at hu
  obtain ⟨l, ⟨e, _, rfl⟩, hu⟩ := hu
  simp at hu
  rcases hu with rfl | rfl | rfl <;> rfl
def RowR (w : World) (base : Nat) (v : Value) (m : List Kp.Rc) : Prop := w.ownsRow base 32 3 v m.length (flatR m)
theorem RowR.nil (w : World) (base : Nat) : RowR w base (.slice none 0 0) [] := World.ownsRow_nil _ _ _ _
section
variable {w w' : World} {base : Nat} {v : Value} {m : List Kp.Rc}
theorem RowR.below (h : RowR w base v m) (hb : Below w.heap.size w w') : RowR w' base v m := owns_ch (T := fun _ => false) h (Ch.of_below (K := noKeep) (B := 0) hb) (fun _ => rfl)
theorem RowR.lt (h : RowR w base v m) {g : Nat} (hv : v.ownBlock = some g) : base ≤ g ∧ g < w.heap.size := by
  rcases h.2 with ⟨rfl, _⟩ | ⟨g', cap, cur, rfl, hb, hg, _⟩
  · cases hv
  · simp [Value.ownBlock] at hv
    subst hv
    exact ⟨hb, (Array.getElem?_eq_some_iff.1 hg).1⟩
theorem RowR.recs (h : RowR w base v m) (hw : ∀ x ∈ m, x.wf) : Recs w v m := by
  have hrow : w.ownsRow base 32 3 v m.length (flatR m) := h
  rcases hrow.2 with ⟨rfl, h0⟩ | ⟨g, cap, cur, rfl, _, hg, _⟩
  · have : m = [] := List.length_eq_zero_iff.mp h0
    subst this
    exact ⟨none, 0, rfl, fun j e hj => by simp at hj⟩
  · refine ⟨some ⟨g, 0, none⟩, cap, rfl, fun j x hj => ?_⟩
    obtain ⟨h0, h1, h2⟩ := flatR_at hj
    have c0 := World.ownsRow.cells hrow (g := g) rfl _ _ h0
    have c1 := World.ownsRow.cells hrow (g := g) rfl _ _ h1
    have c2 := World.ownsRow.cells hrow (g := g) rfl _ _ h2
    have hadd : ∀ k, (⟨g, 0, none⟩ : Addr).add k = ⟨g, 0 + k, none⟩ := fun k => by unfold Addr.add; split <;> simp_all
    rw [hadd] at c0 c1 c2
    exact ⟨hw x (List.mem_of_getElem? hj), g, 0, rfl, (Array.getElem?_eq_some_iff.1 hg).1, c0, c1, c2⟩
end
set_option maxRecDepth 20000 in
theorem wpList_append_rec {ops : Array Oper} {rest : List Oper} {o : Oper} {a : Act} {w : World} {Q : Exit → Act → World → Prop} (hg : o.guard = none) (s x : Operand)
    (ho : o.op = .call { callee := .builtin .append, args := #[s, x], argTypes := #[29, 29] })
    {base g c : Nat} {v1 : Value} {l : List Kp.Rc} {z : Kp.Rc} (h : RowR w base v1 l) (h0 : w.cell? ⟨g, 0, none⟩ = some (.int .i64 z.k)) (h1 : w.cell? ⟨g, 1, none⟩ = some (.string z.key)) (h2 : w.cell? ⟨g, 2, none⟩ = some (.string z.val)) (hl : l.length ≤ 1048576) (hb : base ≤ w.heap.size) (hs : a.eval s = v1) (hx : a.eval x = .slice (some ⟨g, 0, none⟩) 1 c)
    (hK : ∀ v3 w', RowR w' base v3 (l ++ [z]) → w.grownBy w' v1.ownBlock → wpList Tryz.prog ops Q rest (a.put o.dst v3) w') : wpList Tryz.prog ops Q (o :: rest) a w := by
  obtain ⟨i0, hi, hz0, hz1, hz2⟩ := info_parts info_record
  refine wpList_append_own (P := Tryz.prog) w hg s x 29 ho base 32 i0 (.agg #[.int .i64 0, .string ⟨#[]⟩, .string ⟨#[]⟩]) 3 40 Tryz.underlying29 hi hz0 hz1 hz2 rfl (by decide) v1 l.length (flatR l) hs h ⟨g, 0, none⟩ 1 c (flatR [z]) hx rfl ?_ (flatR_one _) (by unfold maxLen; omega) (by omega) hb ?_
  · intro j u hj
    rw [Addr.add_lit]
    match j, hj with
    | 0, hj => rw [h0]; simpa [flatR] using hj
    | 1, hj => rw [h1]; simpa [flatR] using hj
    | 2, hj => rw [h2]; simpa [flatR] using hj
    | j + 3, hj => simp [flatR] at hj
  · intro v' w' h2 h3 _
    refine hK v' w' ?_ h3
    unfold RowR
    rw [List.length_append, flatR_append]
    exact h2

/-! ### record -/
def NextPost (br : Nat) (L : List UInt8) (w : World) (e : Ending) (w' : World) : Prop :=
  ∃ (x : Kp.Rc) (err : Int) (s1 : ByteArray), e = .returned (.tuple #[.agg #[.int .i64 x.k, .string x.key, .string x.val], .int .i64 err]) ∧ Blk w' br 148 #[.string s1] ∧ w.grownBy w' (some br) ∧
    ((err = 0 ∧ nextRc L = some (x, s1.data.toList)) ∨ (err ≠ 0 ∧ nextRc L = none))

theorem s3_apart {w : World} {g b : Nat} {t : TypeId} {cs : Array Value} (h : Blk w b t cs) (hne : b ≠ g) (x y z : Value) : Blk (((w.setCell ⟨g, 0, none⟩ x).setCell ⟨g, 1, none⟩ y).setCell ⟨g, 2, none⟩ z) b t cs :=
  ((h.apart (p := ⟨g, 0, none⟩) hne x).apart (p := ⟨g, 1, none⟩) hne y).apart (p := ⟨g, 2, none⟩) hne z
theorem mkb_of {a : ByteArray} {l : List UInt8} (h : a.data.toList = l) : a = Kp.mkb l := by rw [← h, Kp.mkb_back]

set_option maxRecDepth 20000 in
set_option maxHeartbeats 1000000 in
theorem krecord_any (br : Nat) (s : ByteArray) (w : World) (h : Blk w br 148 #[.string s]) (hs : s.size ≤ 1048576) :
    Calls Tryz.prog 65 #[.pointer (some ⟨br, 0, none⟩)] w (NextPost br s.data.toList w) := by
  have hlt := h.lt
  have hB := Blk.new w 32 #[.int .i64 0, .string ⟨#[]⟩, .string ⟨#[]⟩]
  have hr := h.alloc (.cells #[.int .i64 0, .string ⟨#[]⟩, .string ⟨#[]⟩] 32)
  have hg : w.grownBy (w.alloc (.cells #[.int .i64 0, .string ⟨#[]⟩, .string ⟨#[]⟩] 32)) (some br) := gr_alloc (gr_refl w _) _
  have HLT := Lib.hid hlt
  go_enter Tryz.func65, Tryz.ntmps65
  go_wp2_with fail
  generalize w.alloc (.cells #[.int .i64 0, .string ⟨#[]⟩, .string ⟨#[]⟩] 32) = w1 at *
  have HB1 := Lib.hid hB
  have HG1 := Lib.hid hg
  generalize hBB : w.heap.size = B at *
  have HBB := Lib.hid hBB
  refine (readtext_any br s w1 hr (by omega)).mono ?_
  rintro e w2 ⟨s1, s2, rfl, hr2, h1, h2, hg2⟩
  have hb2 := HB1.out.grown hg2 (by intro e; injection e; omega)
  have HB2 := Lib.hid hb2
  have HR2 := Lib.hid hr2
  have HG2 := Lib.hid (gr_trans HG1.out hg2)
  have H12 := Lib.hid (And.intro h1 h2)
  have hz2 : s2.size ≤ 1048576 := by
    have e1 : s2.data.toList.length = s2.size := Array.length_toList
    have e2 : s.data.toList.length = s.size := Array.length_toList
    rw [← e1, h2]
    have h3 : (Pk.text s.data.toList).1.length ≤ s.data.toList.length := by
      unfold Pk.text
      split
      · split
        · simp only [List.length_take]
          have := Pk.num_len s.data.toList
          omega
        · simp
      · simp
    omega
  have HZ2 := Lib.hid hz2
  clear h hB hr hg hBB hr2 h1 h2 hg2 hb2 hz2 hlt
  obtain ⟨c0, c1, c2⟩ := cells_three HB2.out
  have f0 := HB2.out.frozen 0
  have f1 := HB2.out.frozen 1
  have f2 := HB2.out.frozen 2
  by_cases ht : (Pk.text s.data.toList).2.1 = 0
  · have ht' : ((Pk.text s.data.toList).2.1 : Int) = 0 := by omega
    have HT := Lib.hid ht
    have HU := Lib.hid (fun W : World => unrec_any s2 W HZ2.out)
    clear ht
    go_wp2_with fail
    refine (HU.out _).mono ?_
    rintro e w3 ⟨k, key, val, rfl, hz, hn, hb3⟩
    have HB3 := Lib.hid (HB2.out.older hb3 HB2.out.lt)
    have HR3 := Lib.hid (HR2.out.older hb3 HR2.out.lt)
    have HG3 := Lib.hid (gr_trans HG2.out (gr_of_below hb3 _))
    have HZ := Lib.hid (And.intro hz hn)
    clear c0 c1 c2 f0 f1 f2 hz hn hb3
    obtain ⟨c0, c1, c2⟩ := cells_three HB3.out
    have f0 := HB3.out.frozen 0
    have f1 := HB3.out.frozen 1
    have f2 := HB3.out.frozen 2
    go_wp2_with fail
    refine bodyPost_ret (results_rec rfl _ _ B _ _ _ rfl (HB3.out.s3 _ _ _)) rfl ⟨⟨k, key, val⟩, _, s1, rfl, s3_apart HR3.out (by have := HLT.out; omega) _ _ _, gr_s3 HG3.out (by have := HBB.out; omega) _ _ _, ?_⟩
    have hl2 : s2.data.toList = (Pk.text s.data.toList).1 := H12.out.2
    by_cases hu : (Pk.unrec s2.data.toList).2.2.2 = 0
    · refine .inl ⟨by rw [hu]; rfl, ?_⟩
      obtain ⟨h1, h2, h3⟩ := HZ.out.1 hu
      unfold nextRc
      rw [← hl2, if_pos ⟨HT.out, hu⟩, H12.out.1, ← h1, ← mkb_of h2, ← mkb_of h3]
    · refine .inr ⟨by omega, ?_⟩
      unfold nextRc
      rw [← hl2, if_neg (fun h => hu h.2)]
  · have ht' : (((Pk.text s.data.toList).2.1 : Int) != 0) = true := by rw [bne_iff_ne]; omega
    have HT := Lib.hid ht
    clear ht
    go_wp2_with fail
    refine bodyPost_ret (results_rec rfl _ _ B _ _ _ rfl (HB2.out.s3 _ _ _)) rfl ⟨⟨0, ⟨#[]⟩, ⟨#[]⟩⟩, _, s1, rfl, s3_apart HR2.out (by have := HLT.out; omega) _ _ _, gr_s3 HG2.out (by have := HBB.out; omega) _ _ _, .inr ⟨by have := HT.out; omega, ?_⟩⟩
    unfold nextRc
    rw [if_neg (fun h => HT.out h.1)]

/-! ### unbatch -/
def UnbatchPost (L : List UInt8) (w : World) (e : Ending) (w' : World) : Prop := ∃ v, e = .returned v ∧ Recs w' v (Kp.unbatch L) ∧ Below w.heap.size w w'
theorem recs_nil (w : World) : Recs w (.slice none 0 0) [] := ⟨none, 0, rfl, fun j x hj => by simp at hj⟩

/-- What unbatch's loop knows. -/
structure UnAt (w : World) (N : Nat) (L : List UInt8) (S j : Nat) (R : List Kp.Rc) (sj : ByteArray) (v : Value) (wr : World) : Prop where
  row : RowR wr (w.heap.size + 1) v R
  rd : Blk wr w.heap.size 148 #[.string sj]
  below : Below w.heap.size w wr
  run : Kp.unb N L = (Kp.unb (N - j) sj.data.toList).map fun r => (R ++ r.1, r.2)
  few : R.length + sj.size ≤ S
  kinds : ∀ x ∈ R, x.wf

theorem UnAt.next {w wr w2 : World} {N S j : Nat} {L : List UInt8} {R : List Kp.Rc} {sj s1 : ByteArray} {v v' : Value} {x : Kp.Rc} (h : UnAt w N L S j R sj v wr) (hj : j < N) (hx : nextRc sj.data.toList = some (x, s1.data.toList))
    (hr : RowR w2 (w.heap.size + 1) v' (R ++ [x])) (hrd : Blk w2 w.heap.size 148 #[.string s1]) (hb : Below w.heap.size w w2) : UnAt w N L S (j + 1) (R ++ [x]) s1 v' w2 := by
  refine ⟨hr, hrd, hb, ?_, ?_, ?_⟩
  · rw [h.run, show N - j = (N - (j + 1)) + 1 by omega, unb_next, hx]
    simp only [Option.map_map]
    congr 1
    funext r
    simp
  · have h1 := next_shorter hx
    have e1 : s1.data.toList.length = s1.size := Array.length_toList
    have e2 : sj.data.toList.length = sj.size := Array.length_toList
    have := h.few
    rw [List.length_append]
    simp only [List.length_cons, List.length_nil]
    omega
  · intro y hy
    rcases List.mem_append.mp hy with hy | hy
    · exact h.kinds y hy
    · have : y = x := by simpa using hy
      rw [this]
      rcases next_kind hx with h1 | h1 <;> (unfold Kp.Rc.wf; rw [h1]; decide)
theorem UnAt.fails {w wr : World} {N S j : Nat} {L : List UInt8} {R : List Kp.Rc} {sj : ByteArray} {v : Value} (h : UnAt w N L S j R sj v wr) (hj : j < N) (hx : nextRc sj.data.toList = none) : Kp.unb N L = none := by
  rw [h.run, show N - j = (N - (j + 1)) + 1 by omega, unb_next, hx]
  rfl

set_option maxRecDepth 20000 in
set_option maxHeartbeats 1600000 in
theorem unbatch_any (s : ByteArray) (w : World) (hs : s.size ≤ 1000000) : Calls Tryz.prog 32 #[.string s] w (UnbatchPost s.data.toList w) := by
  have hrd := Blk.new w 148 #[.string s]
  have hb1 : Below w.heap.size w (w.alloc (.cells #[.string s] 148)) := (Below.refl _ _).alloc (Nat.le_refl _) _
  have HB1 := Lib.hid hb1
  have HS := Lib.hid hs
  have HN := Lib.hid (readnum_any w.heap.size s _ hrd (by omega))
  have HZ1 := Lib.hid (show w.heap.size + 1 ≤ (w.alloc (.cells #[.string s] 148)).heap.size by simp)
  clear hb1 hs hrd
  go_enter Tryz.func32, Tryz.ntmps32
  go_wp2_with fail
  refine (read_any s w).mono ?_
  rintro e w2 ⟨rfl, hw2⟩
  subst hw2
  go_wp2_with fail
  refine HN.out.mono ?_
  rintro e w3 ⟨s0, rfl, hs0, hrd3, hg3⟩
  have HB3 := Lib.hid (gr_to_below (gr_new (gr_of_below HB1.out none) hg3 (Nat.le_refl _)))
  have HR3 := Lib.hid hrd3
  have HS0 := Lib.hid hs0
  have HZ3 := Lib.hid (show w.heap.size + 1 ≤ w3.heap.size by have := HZ1.out; have := hg3.size; omega)
  clear hrd3 hg3 hs0 HN
  have HMX := Lib.hid (Pk.num_most s.data.toList)
  by_cases hnum : (Pk.num s.data.toList).2.1 = 0
  · have hz : ((Pk.num s.data.toList).2.1 : Int) = 0 := by omega
    have HNUM := Lib.hid hnum
    obtain ⟨N, hN⟩ : ∃ N, N = (Pk.num s.data.toList).1 := ⟨_, rfl⟩
    obtain ⟨L, hL⟩ : ∃ L, L = (Pk.num s.data.toList).2.2 := ⟨_, rfl⟩
    rw [← hN] at HMX ⊢
    rw [← hL] at HS0
    have hmost : (N : Int) ≤ 72057594037927935 := by have := HMX.out; omega
    have hshort : s0.size ≤ s.size := by
      have := Pk.num_len s.data.toList
      rw [← hL, ← HS0.out] at this
      have e1 : s0.data.toList.length = s0.size := Array.length_toList
      have e2 : s.data.toList.length = s.size := Array.length_toList
      omega
    have hU : Kp.unbatch s.data.toList = match Kp.unb N L with | some (l, []) => l | _ => [] := by
      unfold Kp.unbatch
      rw [if_pos hnum, ← hN, ← hL]
      rfl
    have HU := Lib.hid hU
    have h0 : UnAt w N L s.size 0 [] s0 (.slice none 0 0) w3 := ⟨RowR.nil _ _, HR3.out, HB3.out, by
      show Kp.unb N L = (Kp.unb N s0.data.toList).map fun r => ([] ++ r.1, r.2)
      rw [HS0.out]
      cases Kp.unb N L <;> rfl, by simpa using hshort, fun x hx => by simp at hx⟩
    have H0 := Lib.hid h0
    clear hnum hN hL hU h0 hshort
    go_wp2_with fail
    go_loopw [6, 19] (fun v i wr => ∃ (j : Nat) (R : List Kp.Rc) (sj : ByteArray), j ≤ N ∧ i = .int .i64 (j : Int) ∧ UnAt w N L s.size j R sj v wr ∧ w.heap.size + 1 ≤ wr.heap.size) (fun _ i _ => N - (intOf i).toNat)
    case atStart => exact ⟨0, [], s0, Nat.zero_le _, rfl, H0.out, HZ3.out⟩
    case round =>
      obtain ⟨j, R, sj, hj, rfl, hU, hz1⟩ := hrel
      have HUA := Lib.hid hU
      have HZ := Lib.hid hz1
      have hfew := hU.few
      have HF := Lib.hid (show R.length ≤ 1048576 ∧ sj.size ≤ 1048576 from by have := HS.out; omega)
      clear hU hz1 hfew
      by_cases hlt : j < N
      · have hji : (j : Int) < (N : Int) := by omega
        have HLT := Lib.hid hlt
        go_wp2_with fail
        refine (krecord_any w.heap.size sj wr HUA.out.rd HF.out.2).mono ?_
        rintro e w4 ⟨x, err, s1, rfl, hrd4, hg4, hcase⟩
        have hrow4 : RowR w4 (w.heap.size + 1) _ R := World.ownsRow.kept HUA.out.row hg4 (.inr (fun e' => by have := (HUA.out.row.lt e').1; omega))
        have HROW4 := Lib.hid hrow4
        have HRD4 := Lib.hid hrd4
        have HB4 := Lib.hid (gr_to_below (gr_new (gr_of_below (Below.refl w.heap.size w) none) (gr_trans (gr_of_below HUA.out.below _) hg4) (Nat.le_refl _)))
        have HZ4 := Lib.hid (show w.heap.size + 1 ≤ w4.heap.size by have := HZ.out; have := hg4.size; omega)
        clear hrow4 hrd4 hg4
        rcases hcase with ⟨rfl, hx⟩ | ⟨herr, hx⟩
        · have HX := Lib.hid hx
          clear hx
          go_wp2_with (at_builtin; refine wpList_append_rec rfl (.tmp 28) (.tmp 30) rfl (z := x) (HROW4.out.below (((Below.refl _ _).alloc (Nat.le_refl _) _).alloc (by simp) _)) (boxed w4 _ _ _ _ _).1 (boxed w4 _ _ _ _ _).2.1 (boxed w4 _ _ _ _ _).2.2 HF.out.1 (by have := HZ4.out; simp; omega) rfl rfl ?_; intro v7 w7 hrow7 hgrow7; have hlt7 := (fun g hg' => (HROW4.out.lt (g := g) hg').1); have hb7 := ((Below.refl w4.heap.size w4).alloc (Nat.le_refl _) (.cells #[.int .i64 x.k, .string x.key, .string x.val] 32)).alloc (by simp) (.cells #[.int .i64 x.k, .string x.key, .string x.val] 32); have HN := Lib.hid (And.intro (HUA.out.next HLT.out HX.out hrow7 ((HRD4.out.older hb7 HRD4.out.lt).grown hgrow7 (fun e => by have := hlt7 _ e.symm; omega)) (gr_to_below (gr_row (gr_trans (gr_of_below HB4.out none) (gr_of_below hb7 none)) hgrow7 (fun g hg' => by have := hlt7 g hg'; omega)))) (show w.heap.size + 1 ≤ w7.heap.size by have h1 := hgrow7.size; have h2 := HZ4.out; simp at h1; omega)); clear hrow7 hgrow7 hlt7 hb7)
          go_roundw
          case rel => exact ⟨j + 1, _, _, by omega, by go_num, HN.out.1, HN.out.2⟩
          case measure => simp [intOf]; omega
        · have he : (err != 0) = true := by rw [bne_iff_ne]; exact herr
          have HX := Lib.hid (HUA.out.fails HLT.out hx)
          clear hx herr
          go_wp2_with fail
          go_ret
          refine ⟨_, rfl, ?_, HB4.out.alloc HB4.out.size _⟩
          rw [HU.out, HX.out]
          exact recs_nil _
      · obtain rfl : j = N := by omega
        have hrun := HUA.out.run
        rw [Nat.sub_self] at hrun
        have HRUN := Lib.hid hrun
        have HE := Lib.hid (end_any w.heap.size sj wr HUA.out.rd)
        clear hrun
        go_wp2_with fail
        refine HE.out.mono ?_
        rintro e w5 ⟨rfl, rfl⟩
        by_cases hend : sj.data.toList = []
        · have he : endE sj = 0 := by unfold endE; rw [if_pos hend]
          rw [he]
          have HEND := Lib.hid hend
          clear hend he
          go_wp2_with fail
          go_ret
          refine ⟨_, rfl, ?_, HUA.out.below⟩
          rw [HU.out, HRUN.out, HEND.out]
          show Recs _ _ (R ++ [])
          rw [List.append_nil]
          exact HUA.out.row.recs HUA.out.kinds
        · have he : endE sj = 21 := by unfold endE; rw [if_neg hend]
          rw [he]
          have HEND := Lib.hid hend
          clear hend he
          go_wp2_with fail
          go_ret
          refine ⟨_, rfl, ?_, HUA.out.below⟩
          have hnil : Kp.unbatch s.data.toList = [] := by
            rw [HU.out, HRUN.out]
            cases hl : sj.data.toList with
            | nil => exact absurd hl HEND.out
            | cons b t => rfl
          rw [hnil]
          exact recs_nil _
  · have hz : (((Pk.num s.data.toList).2.1 : Int) != 0) = true := by rw [bne_iff_ne]; omega
    have HU := Lib.hid (show Kp.unbatch s.data.toList = [] by unfold Kp.unbatch; rw [if_neg hnum])
    clear hnum
    go_wp2_with fail
    go_ret
    refine ⟨_, rfl, ?_, HB3.out⟩
    rw [HU.out]
    exact recs_nil _
end Go.Proofs.YtimcepoleboldaaGreatDoor

/- What Open of the program's store comes to. -/
namespace Go.Proofs.YtimcepoleboldaaGreatDoor
open Go.RowKit Go.Deep

/-! ### How much an opening finds -/
theorem text_all {l : List UInt8} (h : (Pk.text l).2.1 = 0) : (Pk.text l).1.length + (Pk.text l).2.2.length < l.length := by
  unfold Pk.text at h ⊢
  split at h
  · rename_i h1
    rw [if_pos h1]
    have := num_shorter h1
    split at h
    · rename_i h2
      rw [if_pos h2]
      simp only [List.length_drop, List.length_take]
      omega
    · simp at h
  · rename_i h1
    exact absurd h h1
theorem unrec_all (L : List UInt8) : (Pk.unrec L).2.1.length + (Pk.unrec L).2.2.1.length ≤ L.length := by
  have h0 := Pk.num_len L
  unfold Pk.unrec
  split
  · simp
  · split
    · simp
    · split
      · simp
      · rename_i h1 h2 h3
        have a := text_all (l := (Pk.num L).2.2) (by omega)
        split
        · split
          · simp
          · rename_i h4 h5
            have b := text_all (l := (Pk.text (Pk.num L).2.2).2.2) (by omega)
            split
            · simp
            · show (Pk.text (Pk.num L).2.2).1.length + (Pk.text (Pk.text (Pk.num L).2.2).2.2).1.length ≤ _
              omega
        · split
          · simp
          · show (Pk.text (Pk.num L).2.2).1.length + 0 ≤ _
            omega
theorem mkb_len (l : List UInt8) : (Kp.mkb l).size = l.length := by simp [Kp.mkb, ByteArray.size]
theorem next_all {L s : List UInt8} {x : Kp.Rc} (h : nextRc L = some (x, s)) : x.key.size + x.val.size + s.length + 1 ≤ L.length := by
  unfold nextRc at h
  split at h
  · rename_i h1
    simp only [Option.some.injEq, Prod.mk.injEq] at h
    rw [← h.1, ← h.2]
    show (Kp.mkb _).size + (Kp.mkb _).size + _ + 1 ≤ _
    rw [mkb_len, mkb_len]
    have a := text_all h1.1
    have b := unrec_all (Pk.text L).1
    omega
  · cases h
theorem unb_heavy : ∀ (n : Nat) (L : List UInt8) (l : List Kp.Rc) (r : List UInt8), Kp.unb n L = some (l, r) → Kp.heavy l + l.length + r.length ≤ L.length
  | 0, L, l, r, h => by
    simp only [Kp.unb, Option.some.injEq, Prod.mk.injEq] at h
    obtain ⟨rfl, rfl⟩ := h
    simp [Kp.heavy]
  | n + 1, L, l, r, h => by
    rw [unb_next] at h
    cases hn : nextRc L with
    | none => rw [hn] at h; cases h
    | some p =>
      obtain ⟨x, s⟩ := p
      rw [hn] at h
      simp only [Option.map_eq_some_iff] at h
      obtain ⟨⟨l', r'⟩, h1, h2⟩ := h
      simp only [Prod.mk.injEq] at h2
      obtain ⟨rfl, rfl⟩ := h2
      have k := unb_heavy n s l' r' h1
      have := next_all hn
      show x.key.size + x.val.size + Kp.heavy l' + (l'.length + 1) + _ ≤ _
      omega
/-- What a batch holds is no more than its bytes. -/
theorem unbatch_heavy (L : List UInt8) : Kp.heavy (Kp.unbatch L) + (Kp.unbatch L).length ≤ L.length ∧ ∀ x ∈ Kp.unbatch L, x.k = 1 ∨ x.k = 2 := by
  have h0 := Pk.num_len L
  unfold Kp.unbatch
  split
  · split
    · rename_i l h1
      have a := unb_heavy _ _ _ _ h1
      have b := unb_fits _ _ _ _ h1
      exact ⟨by omega, b.1⟩
    · exact ⟨Nat.zero_le _, fun x hx => by simp at hx⟩
  · exact ⟨Nat.zero_le _, fun x hx => by simp at hx⟩

def total : List (List UInt8) → Nat
  | [] => 0
  | s :: R => s.length + total R
theorem total_take (R : List (List UInt8)) : ∀ (j : Nat) {s : List UInt8}, R[j]? = some s → total (R.take (j + 1)) = total (R.take j) + s.length ∧ total (R.take (j + 1)) ≤ total R ∧ R.take (j + 1) = R.take j ++ [s] := by
  induction R with
  | nil => intro j s h; simp at h
  | cons y R ih =>
    intro j s h
    match j, h with
    | 0, h =>
      simp at h
      subst h
      simp [total]
    | j + 1, h =>
      obtain ⟨a, b, c⟩ := ih j (by simpa using h)
      rw [List.take_succ_cons, List.take_succ_cons, c]
      rw [c] at a b
      refine ⟨?_, ?_, rfl⟩
      · show y.length + _ = y.length + _ + _
        omega
      · show y.length + _ ≤ y.length + _
        omega
/-- A map's records are no more than what it was made of. -/
theorem map_total : ∀ (R : List (List UInt8)) (m : Kp.Mp), Kp.size (R.foldl (fun m s => Kp.all m (Kp.unbatch s)) m) ≤ Kp.size m + total R ∧ (R.foldl (fun m s => Kp.all m (Kp.unbatch s)) m).length ≤ m.length + total R
  | [], m => by simp [total]
  | s :: R, m => by
    have h := map_total R (Kp.all m (Kp.unbatch s))
    have h1 := Kp.size_all_le (Kp.unbatch s) m
    have h2 := Kp.length_all_le (Kp.unbatch s) m
    have h3 := (unbatch_heavy s).1
    simp only [List.foldl_cons]
    show _ ≤ _ + (s.length + total R) ∧ _ ≤ _ + (s.length + total R)
    omega
theorem mapOf_total (R : List (List UInt8)) : Kp.size (Kp.mapOf R) ≤ total R ∧ (Kp.mapOf R).length ≤ total R := by
  have := map_total R []
  simpa [Kp.mapOf, Kp.size] using this

theorem scan_total {g : Nat → Option Cn.Chu} (hg : ∀ p c, g p = some c → c.d.length ≤ 96) (E : Int) : ∀ (n p : Nat) (ep : Int) (op : Option (List UInt8)) (nx : Nat), total (Lg.scanGo g E n p ep op nx).1 ≤ (op.getD []).length + 96 * n := by
  intro n
  induction n with
  | zero => intro p ep op nx; exact Nat.zero_le _
  | succ n ih =>
    intro p ep op nx
    unfold Lg.scanGo
    cases hp : g p with
    | none => exact Nat.zero_le _
    | some c =>
      have hd := hg p c hp
      simp only
      split
      · split
        · have := ih (p + 1) c.e none (p + 1)
          show ((op.getD []) ++ c.d).length + total _ ≤ _
          rw [List.length_append]
          simp at this
          omega
        · have := ih (p + 1) c.e (some (op.getD [] ++ c.d)) nx
          simp only [Option.getD_some, List.length_append] at this
          omega
      · exact Nat.zero_le _
theorem open_total (st : Dk.St) : total (Lg.openRecs st) ≤ 12192 := by
  unfold Lg.openRecs Lg.scan
  have := scan_total (g := Lg.half st.is (Lg.top st.is).h) (fun p c h => (Lg.chk_ok h).2.2.2.2) (Lg.top st.is).e 127 0 (Lg.top st.is).b none 0
  simpa using this
theorem scan_few (g : Nat → Option Cn.Chu) (E : Int) : ∀ (n p : Nat) (ep : Int) (op : Option (List UInt8)) (nx : Nat), (Lg.scanGo g E n p ep op nx).1.length ≤ n := by
  intro n
  induction n with
  | zero => intro p ep op nx; exact Nat.le_refl _
  | succ n ih =>
    intro p ep op nx
    unfold Lg.scanGo
    cases g p with
    | none => exact Nat.zero_le _
    | some c =>
      simp only
      split
      · split
        · have := ih (p + 1) c.e none (p + 1)
          simp only [List.length_cons]
          omega
        · have := ih (p + 1) c.e (some (op.getD [] ++ c.d)) nx
          omega
      · exact Nat.zero_le _
theorem open_few (st : Dk.St) : (Lg.openRecs st).length ≤ 127 := scan_few _ _ _ _ _ _ _
theorem openS_le (st : Dk.St) (room : Int) : Kp.size (Kp.openS st room).m ≤ 12192 ∧ (Kp.openS st room).m.length ≤ 12192 := by
  have h := mapOf_total (Lg.openRecs st)
  have := open_total st
  exact ⟨Nat.le_trans h.1 this, Nat.le_trans h.2 this⟩
theorem total_one {R : List (List UInt8)} {j : Nat} {s : List UInt8} (h : R[j]? = some s) : s.length ≤ total R := by
  have := total_take R j h
  omega

/-- What Open leaves. -/
def OpenKPost [R : Rows] (K : Keep) (B g : Nat) (st : Dk.St) (room : Int) (w : World) (e : Ending) (w' : World) : Prop :=
  @Ch K Td B w w' ∧
  (((Kp.openK st room).1 = 0 ∧ ∃ (K' : Keep) (s q tb mb n : Nat), e = .returned (.tuple #[.pointer (some ⟨s, 0, none⟩), .int .i64 0]) ∧ (∀ i, K.p i → K'.p i) ∧ @Dsk K' w' B g (Kp.openK st room).2 ∧ Kpwg K' w' B s q g tb mb n (Kp.openS st room) ∧ n ≤ 12192 ∧ w.heap.size ≤ mb) ∨
   ((Kp.openK st room).1 ≠ 0 ∧ e = .returned (.tuple #[.pointer none, .int .i64 (Kp.openK st room).1]) ∧ @Dsk K w' B g (Kp.openK st room).2))

theorem openK_arg {st : Dk.St} {room : Int} (h : room < 0 ∨ 1048576 < room) : Kp.openK st room = (1, st) := by unfold Kp.openK; rw [if_pos h]

/-- The end of a good opening. -/
theorem open_end [R : Rows] {K : Keep} {B g q tb mb n : Nat} {st : Dk.St} {room : Int} {w w1 w4 : World} (h0 : 0 ≤ room ∧ room ≤ 1048576) (hB : B ≤ w.heap.size) (hE : (Lg.openR st).1 = 0) (hd : @Dsk K w1 B g (Lg.openR st).2) (hc : @Ch K Td B w w1) (hl : @Lgw K w1 B q g (Lg.openLog st))
    (hb : Below w1.heap.size w1 w4) (ht : Tab w4 tb mb n (Kp.mapOf (Lg.openRecs st))) (hm : w1.heap.size ≤ mb ∧ mb < w4.heap.size) (hn : n ≤ total (Lg.openRecs st)) :
    OpenKPost K B g st room w (.returned (.tuple #[.pointer (some ⟨w4.heap.size, 0, none⟩), .int .i64 0])) (w4.alloc (.cells #[.pointer (some ⟨q, 0, none⟩), .pointer (some ⟨tb, 0, none⟩), .int .i64 room] 76)) := by
  have hk : Kp.openK st room = Lg.openR st := Kp.openK_in h0.1 h0.2
  have hne := Blk.new w4 76 #[.pointer (some ⟨q, 0, none⟩), .pointer (some ⟨tb, 0, none⟩), .int .i64 room]
  have hb5 : Below w4.heap.size w4 (w4.alloc (.cells #[.pointer (some ⟨q, 0, none⟩), .pointer (some ⟨tb, 0, none⟩), .int .i64 room] 76)) := (Below.refl _ _).alloc (Nat.le_refl _) _
  have hd4 := dsk_more hd hb.size (fun i _ hi => hb.block i hi)
  have hl4 := lgw_more (w' := w4) hl (fun i _ hi => hb.block i hi)
  have h1 : w.heap.size ≤ w1.heap.size := hc.size
  have h2 : w1.heap.size ≤ w4.heap.size := hb.size
  have htot := open_total st
  unfold OpenKPost
  rw [hk]
  refine ⟨Chg.trans hc (Ch.of_below (hb.trans (hb5.mono h2))), .inl ⟨hE, more K w1.heap.size w4.heap.size, w4.heap.size, q, tb, mb, n, rfl, fun i h => (Or.inl h : K.p i ∨ _), dsk_below hd4 hb5, ⟨hne, by omega, ?_, lgw_below hl4 hb5, ht.below hb5, .inr hm⟩, by omega, by omega⟩⟩
  rintro (h | ⟨_, h⟩)
  · obtain ⟨_, _, _, _, _, hda, _⟩ := hd
    have := (hda.free _ h).1
    omega
  · omega

set_option maxRecDepth 20000 in
set_option maxHeartbeats 2000000 in
theorem open_store [R : Rows] (K : Keep) (B g : Nat) (st : Dk.St) (room : Int) (w : World) (hd : @Dsk K w B g st) (hm : st.many ≤ 1000000) (hR : ∀ g, w.heap.size ≤ g → R.p g := by exact fun _ _ => trivial) :
    Calls Tryz.prog 9 #[.pointer (some ⟨g, 0, none⟩), .int .i64 room] w (OpenKPost K B g st room w) := by
  have HRW := Lib.hid hR
  clear hR
  have HD := Lib.hid hd
  have HO := Lib.hid (@open_any K B g st w hd hm)
  have HB := Lib.hid (show B ≤ w.heap.size by obtain ⟨_, _, _, _, _, h, _⟩ := hd; exact Nat.le_trans h.atg (Nat.le_of_lt h.blk.lt))
  have HQ := Lib.hid (fun (h : room < 0 ∨ 1048576 < room) => (show OpenKPost K B g st room w (.returned (.tuple #[.pointer none, .int .i64 1])) w by unfold OpenKPost; rw [openK_arg h]; exact ⟨Ch.refl _ _ _, .inr ⟨by simp, rfl, hd⟩⟩))
  clear hd hm
  go_enter Tryz.func9, Tryz.ntmps9
  by_cases hr0 : room < 0
  · go_wp2_with fail
    go_ret2
    exact HQ.out (.inl hr0)
  · by_cases hr1 : 1048576 < room
    · go_wp2_with fail
      go_ret2
      exact HQ.out (.inr hr1)
    · have H0 := Lib.hid (show 0 ≤ room ∧ room ≤ 1048576 by omega)
      go_wp2_with fail
      refine HO.out.mono ?_
      rintro e w1 ⟨hd1, hc1, hcase⟩
      have HD1 := Lib.hid hd1
      have HC1 := Lib.hid hc1
      clear hd1 hc1
      rcases hcase with ⟨hE, q, v, rfl, hl, hrow⟩ | ⟨hE, v, rfl, _⟩
      · have HE := Lib.hid hE
        have HL := Lib.hid hl
        have HST := Lib.hid (Strs.of_row hrow)
        have hE' : ((Lg.openR st).1 != 0) = false := by rw [hE]; rfl
        have HTT := Lib.hid (open_total st)
        have hrl := open_few st
        obtain ⟨R, hR⟩ : ∃ R, R = Lg.openRecs st := ⟨_, rfl⟩
        have HRR := Lib.hid hR
        rw [← hR] at HST HTT hrl
        have HT0 := Lib.hid (newtable_any w1)
        clear hE hl hrow hR
        go_wp2_with fail
        refine HT0.out.mono ?_
        rintro e w2 ⟨rfl, ht2, hb2⟩
        have HT2 := Lib.hid ht2
        have HB2 := Lib.hid hb2
        obtain ⟨tb, htb⟩ : ∃ tb, tb = w1.heap.size + 1 := ⟨_, rfl⟩
        obtain ⟨mb, hmb⟩ : ∃ mb, mb = w1.heap.size := ⟨_, rfl⟩
        rw [← htb, ← hmb] at HT2
        rw [← htb]
        have HNW := Lib.hid (show w1.heap.size ≤ tb ∧ w1.heap.size ≤ mb by omega)
        clear htb hmb ht2 hb2 HT0
        obtain ⟨A, cap, hv, -, hat⟩ := HST.out
        subst hv
        have hml : (mks R).length = R.length := by unfold mks; rw [List.length_map]
        rw [hml]
        have hri : (R.length : Int) ≤ 1000000 := by omega
        have HAT := Lib.hid hat
        clear hat hml
        go_wp2_with fail
        go_loopw [30] (fun i wr => ∃ j n : Nat, j ≤ R.length ∧ i = .int .i64 (j : Int) ∧ Tab wr tb mb n (Kp.mapOf (R.take j)) ∧ n ≤ total (R.take j) ∧ Below w1.heap.size w1 wr) (fun i _ => R.length - (intOf i).toNat)
        case atStart => exact ⟨0, 0, Nat.zero_le _, rfl, HT2.out, Nat.zero_le _, HB2.out⟩
        case round =>
          obtain ⟨j, n, hj, rfl, hT, hn, hC⟩ := hrel
          have HT := Lib.hid hT
          have HC := Lib.hid hC
          have HN := Lib.hid hn
          clear hT hC hn
          by_cases hlt : j < R.length
          · obtain ⟨x, hx⟩ : ∃ x, R[j]? = some x := ⟨_, List.getElem?_eq_getElem hlt⟩
            obtain ⟨b1, o1, rfl, l1, d0⟩ := HAT.out j (Kp.mkb x) (by unfold mks; rw [List.getElem?_map, hx]; rfl)
            have hji : (j : Int) < (R.length : Int) := by omega
            have d0' := (HC.out.cell (p := ⟨b1, o1 + j, none⟩) l1).trans d0
            obtain ⟨t1, t2, t3⟩ := total_take R j hx
            have HX := Lib.hid (show total (R.take (j + 1)) = total (R.take j) + x.length ∧ total (R.take (j + 1)) ≤ 12192 ∧ R.take (j + 1) = R.take j ++ [x] from ⟨t1, Nat.le_trans t2 HTT.out, t3⟩)
            clear d0 t1 t2 t3 hx
            go_wp2_with fail
            refine (unbatch_any (Kp.mkb x) wr (by rw [mkb_len]; have := HX.out; omega)).mono ?_
            rintro e w3 ⟨v3, rfl, hr3, hb3⟩
            have hxx : (Kp.mkb x).data.toList = x := by simp [Kp.mkb]
            rw [hxx] at hr3
            have HR3 := Lib.hid hr3
            have HB3 := Lib.hid hb3
            obtain ⟨u1, u2⟩ := unbatch_heavy x
            obtain ⟨m1, m2⟩ := mapOf_total (R.take j)
            have HU := Lib.hid u2
            have HSZ := Lib.hid (show Kp.size (Kp.mapOf (R.take j)) + Kp.heavy (Kp.unbatch x) ≤ 1000000 ∧ (Kp.mapOf (R.take j)).length + (Kp.unbatch x).length ≤ 1000000 ∧ n + (Kp.unbatch x).length ≤ total (R.take (j + 1)) ∧ total (R.take (j + 1)) ≤ 12192 by have := HX.out; have := HN.out; omega)
            clear hr3 hb3 hxx u1 u2 m1 m2
            go_wp2_with fail
            refine (take_any tb mb n _ (Kp.unbatch x) v3 w3 (HT.out.below HB3.out) HR3.out HU.out HSZ.out.1 HSZ.out.2.1 (by have := HSZ.out; omega) (fun g hg => HRW.out g (Nat.le_trans (Nat.le_trans HC1.out.size (Nat.le_trans HC.out.size HB3.out.size)) hg))).mono ?_
            rintro e w4 ⟨rfl, ht4, hc4⟩
            have HT4 := Lib.hid (show Tab w4 tb mb (n + (Kp.unbatch x).length) (Kp.mapOf (R.take (j + 1))) by rw [HX.out.2.2, Kp.mapOf_one]; exact ht4)
            have hz : w1.heap.size ≤ w3.heap.size := Nat.le_trans HC.out.size HB3.out.size
            have HC4 := Lib.hid ((HC.out.trans (HB3.out.mono HC.out.size)).trans (hc4.below hz HNW.out.1 HNW.out.2))
            clear ht4 hc4 hz d0'
            go_wp2_with fail
            go_roundw
            case rel => exact ⟨j + 1, _, by omega, by go_num, HT4.out, HSZ.out.2.2.1, HC4.out⟩
            case measure => simp [intOf]; omega
          · obtain rfl : j = R.length := by omega
            go_wp2_with fail
            go_ret2
            have ht := HT.out
            have hn := HN.out
            rw [List.take_length] at ht hn
            rw [HRR.out] at ht hn
            exact open_end H0.out HB.out HE.out HD1.out HC1.out HL.out HC.out ht ⟨HNW.out.2, ht.lt.2⟩ hn
      · have hE' : ((Lg.openR st).1 != 0) = true := by rw [bne_iff_ne]; exact hE
        have HE := Lib.hid hE
        clear hE
        have HK := Lib.hid (show OpenKPost K B g st room w (.returned (.tuple #[.pointer none, .int .i64 (Lg.openR st).1])) w1 by
          unfold OpenKPost
          rw [Kp.openK_in H0.out.1 H0.out.2]
          exact ⟨HC1.out, .inr ⟨HE.out, rfl, HD1.out⟩⟩)
        generalize (Lg.openR st).1 = E at *
        go_wp2_with fail
        go_ret2
        exact HK.out
end Go.Proofs.YtimcepoleboldaaGreatDoor

/- has of the law of layer 6. -/
namespace Go.Proofs.YtimcepoleboldaaGreatDoor
open Go.RowKit Go.Deep

def HasPost (a m : Kp.Mp) (w : World) (e : Ending) (w' : World) : Prop := ∃ b : Bool, e = .returned (.bool b) ∧ (a = m → b = true) ∧ Below w.heap.size w w'

theorem ent_size {m : Kp.Mp} {j : Nat} {x : ByteArray × ByteArray} (h : m[j]? = some x) : x.1.size + x.2.size ≤ Kp.size m := by
  have h1 := size_up h
  have h2 := size_take_le m (j + 1)
  omega

set_option maxRecDepth 20000 in
set_option maxHeartbeats 2000000 in
theorem has_any [R : Rows] (K : Keep) (B s q g tb mb n : Nat) (ks : Kp.Ks) (va : Value) (m : Kp.Mp) (w : World) (h : Kpwg K w B s q g tb mb n ks) (hm : Ents w va m) (h1 : ks.m.length ≤ 1000000) (h2 : m.length ≤ 1000000) (h4 : Kp.size m ≤ 1000000) :
    Calls Tryz.prog 13 #[.pointer (some ⟨s, 0, none⟩), va] w (HasPost ks.m m w) := by
  have HK := Lib.hid h
  have HE := Lib.hid hm
  have HL := Lib.hid h1
  have HS := Lib.hid h4
  have HEX := Lib.hid (show ∀ (j : Nat) (x : ByteArray × ByteArray), m[j]? = some x → x.1.size ≤ 1000000 from fun j x hx => by have := ent_size hx; omega)
  have HY := Lib.hid (skeys_any B s q g tb mb n ks w h h1)
  have HU := Lib.hid (show Kp.Up ks.m from by obtain ⟨_, _, ht⟩ := h.tab; exact ht.up)
  obtain ⟨a, ha⟩ : ∃ a, a = ks.m := ⟨_, rfl⟩
  have HA := Lib.hid ha
  have hai : (a.length : Int) ≤ 1000000 := by rw [ha]; omega
  have hmi : (m.length : Int) ≤ 1000000 := by omega
  rw [← ha]
  rw [← ha] at HY HU HL
  obtain ⟨A, ca, rfl, hat⟩ := hm
  have HM := Lib.hid hat
  clear h ha h1 h2 h4 hat
  go_enter Tryz.func13, Tryz.ntmps13
  go_wp2_with fail
  refine HY.out.mono ?_
  rintro e w1 ⟨v, rfl, hrow, hb1⟩
  have HB1 := Lib.hid hb1
  have HSTR := Lib.hid (Strs.of_row hrow)
  obtain ⟨K1, ck, hv, -, hk1⟩ := Strs.of_row hrow
  subst hv
  rw [List.length_map] at *
  have HK1 := Lib.hid hk1
  clear hb1 hrow hk1 HY
  by_cases hl : a.length = m.length
  · have hl' : ((a.length : Int) != (m.length : Int)) = false := by rw [hl]; simp
    have HLE := Lib.hid hl
    go_wp2_with fail
    refine (sbytes_any B s q g tb mb n ks w1 (HK.out.below HB1.out)).mono ?_
    rintro e w2 ⟨rfl, rfl⟩
    go_wp2_with fail
    refine (esize_any _ m w1 (HE.out.below HB1.out) (by omega) (by have := HS.out; omega)).mono ?_
    rintro e w2 ⟨rfl, hq2⟩
    have HB2 := Lib.hid (HB1.out.trans (hq2.below.mono HB1.out.size))
    have HQ2 := Lib.hid hq2
    clear hq2
    rw [← HA.out]
    by_cases hz : Kp.size a = Kp.size m
    · have hz' : (((Kp.size a : Nat) : Int) != ((Kp.size m : Nat) : Int)) = false := by rw [hz]; simp
      clear hz
      generalize Kp.size a = za at hz' ⊢
      generalize hzm : Kp.size m = zm at hz' HS ⊢
      clear hzm
      go_wp2_with fail
      go_loopw [6] (fun i wr => ∃ j : Nat, j ≤ m.length ∧ i = .int .i64 (j : Int) ∧ Below w1.heap.size w1 wr) (fun i _ => m.length - (intOf i).toNat)
      case atStart => exact ⟨0, Nat.zero_le _, rfl, HQ2.out.below⟩
      case round =>
        obtain ⟨j, hj, rfl, hb⟩ := hrel
        have HB := Lib.hid hb
        by_cases hlt : j < m.length
        · obtain ⟨x, hx⟩ : ∃ x, m[j]? = some x := ⟨_, List.getElem?_eq_getElem hlt⟩
          obtain ⟨y, hy⟩ : ∃ y, a[j]? = some y := ⟨_, List.getElem?_eq_getElem (by have := HLE.out; omega)⟩
          have hbw : Below w.heap.size w wr := HB1.out.trans (hb.mono HB1.out.size)
          have HBW := Lib.hid hbw
          obtain ⟨b1, o1, rfl, l1, e0, e1⟩ := HM.out j x hx
          obtain ⟨b2, o2, rfl, l2, e2⟩ := HK1.out j y.1 (by rw [List.getElem?_map, hy]; rfl)
          have d0 := (hbw.cell (p := ⟨b1, o1 + j * 2, none⟩) l1).trans e0
          have D1 := Lib.hid e1
          have D2 := Lib.hid e2
          have L := Lib.hid (And.intro l1 l2)
          have HX := Lib.hid (And.intro hx hy)
          have hji : (j : Int) < (m.length : Int) := by omega
          have hja : (j : Int) < (a.length : Int) := by have := HLE.out; omega
          have HZ := Lib.hid (show x.1.size ≤ maxLen from by have := HEX.out j x hx; unfold maxLen; omega)
          clear e0 e1 e2 l1 l2 hx hy hbw hb
          go_wp2_with fail
          refine (sget_any B s q g tb mb n ks x.1 wr (HK.out.below HBW.out) HZ.out (by rw [← HA.out]; exact HL.out)).mono ?_
          rintro e w3 ⟨rfl, hb3⟩
          have HB3 := Lib.hid (HB.out.trans (hb3.mono HB.out.size))
          have hbw3 := HBW.out.trans (hb3.mono HBW.out.size)
          have k0 := (hb3.cell (p := ⟨b1, o1 + j * 2, none⟩) (Nat.lt_of_lt_of_le L.out.1 HBW.out.size)).trans d0
          have k1 := (hbw3.cell (p := ⟨b1, o1 + j * 2 + 1, none⟩) L.out.1).trans D1.out
          have k2 := (HB3.out.cell (p := ⟨b2, o2 + j, none⟩) L.out.2).trans D2.out
          rw [← HA.out]
          clear hb3 hbw3 d0
          obtain ⟨p, hp⟩ : ∃ p, p = Kp.look a x.1 := ⟨_, rfl⟩
          rw [← hp]
          have HP := Lib.hid hp
          clear hp
          by_cases hk : y.1 = x.1
          · have f1 : (y.1.toList == x.1.toList) = true := by rw [hk]; simp
            have HKE := Lib.hid hk
            clear hk
            by_cases hv : p.getD ByteArray.empty = x.2
            · have f2 : ((p.getD ByteArray.empty).toList == x.2.toList) = true := by rw [hv]; simp
              have HVE := Lib.hid hv
              clear hv
              by_cases hs : p.isSome = true
              · generalize p.getD ByteArray.empty = s5 at *
                generalize p.isSome = t5 at *
                subst hs
                go_wp2_with fail
                go_quiet (fail)
                go_wp2_with fail
                go_roundw
                case rel => exact ⟨j + 1, by omega, by go_num, HB3.out.trans ((Quiet.drewN _ _).below.mono HB3.out.size)⟩
                case measure => simp [intOf]; omega
              · have HNE := Lib.hid (show a ≠ m from fun e => hs (by rw [HP.out, Kp.look_mem HU.out (e ▸ List.mem_of_getElem? HX.out.1 : (x.1, x.2) ∈ a)]; rfl))
                have hs' : p.isSome = false := by simpa using hs
                clear hs
                generalize p.getD ByteArray.empty = s5 at *
                generalize p.isSome = t5 at *
                subst hs'
                go_wp2_with fail
                go_quiet (fail)
                go_wp2_with fail
                go_ret
                exact ⟨false, rfl, fun e => absurd e HNE.out, HB1.out.trans ((HB3.out.trans ((Quiet.drewN _ _).below.mono HB3.out.size)).mono HB1.out.size)⟩
            · have HNE := Lib.hid (show a ≠ m from fun e => hv (by rw [HP.out, Kp.look_mem HU.out (e ▸ List.mem_of_getElem? HX.out.1 : (x.1, x.2) ∈ a)]; rfl))
              have f2 : ((p.getD ByteArray.empty).toList == x.2.toList) = false := by
                rw [beq_eq_false_iff_ne]
                intro e'
                rw [Lib.toList_data, Lib.toList_data] at e'
                exact hv (Kp.data_inj e')
              clear hv
              generalize p.getD ByteArray.empty = s5 at *
              generalize p.isSome = t5 at *
              go_wp2_with fail
              go_quiet (fail)
              go_wp2_with fail
              go_ret
              exact ⟨false, rfl, fun e => absurd e HNE.out, HB1.out.trans ((HB3.out.trans ((Quiet.drewN _ _).below.mono HB3.out.size)).mono HB1.out.size)⟩
          · have HNE := Lib.hid (show a ≠ m from fun e => hk (by have h1 := HX.out.1; have h2 := HX.out.2; rw [e, h1] at h2; injection h2 with h2; rw [h2]))
            have f1 : (y.1.toList == x.1.toList) = false := by
              rw [beq_eq_false_iff_ne]
              intro e'
              rw [Lib.toList_data, Lib.toList_data] at e'
              exact hk (Kp.data_inj e')
            clear hk
            generalize p.getD ByteArray.empty = s5 at *
            generalize p.isSome = t5 at *
            go_wp2_with fail
            go_quiet (fail)
            go_wp2_with fail
            go_ret
            exact ⟨false, rfl, fun e => absurd e HNE.out, HB1.out.trans ((HB3.out.trans ((Quiet.drewN _ _).below.mono HB3.out.size)).mono HB1.out.size)⟩
        · have HB2 := Lib.hid (HB1.out.trans (hb.mono HB1.out.size))
          go_wp2_with fail
          go_ret
          exact ⟨true, rfl, fun _ => rfl, HB2.out⟩
    · have hz' : (((Kp.size a : Nat) : Int) != ((Kp.size m : Nat) : Int)) = true := by rw [bne_iff_ne]; omega
      have HZ := Lib.hid (show a ≠ m from fun e => hz (by rw [e]))
      clear hz
      generalize Kp.size a = za at hz' ⊢
      generalize hzm : Kp.size m = zm at hz' HS ⊢
      clear hzm
      go_wp2_with fail
      go_ret
      exact ⟨false, rfl, fun e => absurd e HZ.out, HB2.out⟩
  · have hl' : ((a.length : Int) != (m.length : Int)) = true := by rw [bne_iff_ne]; omega
    go_wp2_with fail
    go_ret
    exact ⟨false, rfl, fun e => absurd (congrArg List.length e) hl, HB1.out⟩
end Go.Proofs.YtimcepoleboldaaGreatDoor

/- Plain mathematics of layer 6, third part: a store whose power stays; how long a batch is. It speaks of no program. -/
namespace Go.Proofs.YtimcepoleboldaaGreatDoor.Kp
open Lg Dk

theorem code_short (n : Nat) (h : n ≤ 1048576) : (Pk.code n).length ≤ 1 + n / 128 := by
  by_cases h1 : n < 128
  · have := Pk.code_len 0 n (by omega)
    omega
  · by_cases h2 : n < 16384
    · have := Pk.code_len 1 n (by omega)
      omega
    · have := Pk.code_len 2 n (by omega)
      omega
theorem enc1_short {x : Rc} (hk : x.k = 1) (h : x.key.size + x.val.size ≤ 100000) : (enc1 x).length ≤ 4 + (x.key.size + x.val.size) + (x.key.size + x.val.size) / 32 := by
  have l1 := data_len x.key
  have l2 := data_len x.val
  have c1 := code_short x.key.data.toList.length (by omega)
  have c2 := code_short x.val.data.toList.length (by omega)
  have h0 : (Pk.code (Pk.cl x.k)).length = 1 := by rw [hk]; rfl
  have hr : (Pk.recd x.k x.key.data.toList x.val.data.toList).length = 1 + ((Pk.code x.key.data.toList.length).length + x.key.size) + ((Pk.code x.val.data.toList.length).length + x.val.size) := by
    unfold Pk.recd Pk.texted
    rw [if_pos hk]
    simp only [List.length_append, h0]
    omega
  have c3 := code_short (Pk.recd x.k x.key.data.toList x.val.data.toList).length (by omega)
  unfold enc1 Pk.texted
  rw [List.length_append]
  rw [l1] at c1 hr
  rw [l2] at c2 hr
  omega
theorem encs_short : ∀ (m : Mp), size m ≤ 100000 → (((puts m).map enc1).flatten).length ≤ 4 * m.length + size m + size m / 32
  | [], _ => Nat.zero_le _
  | e :: m, h => by
    have hs : size (e :: m) = e.1.size + e.2.size + size m := rfl
    rw [hs] at h ⊢
    have h1 := encs_short m (by omega)
    have h2 := enc1_short (x := ⟨1, e.1, e.2⟩) rfl (by show e.1.size + e.2.size ≤ _; omega)
    show (enc1 ⟨1, e.1, e.2⟩ ++ ((puts m).map enc1).flatten).length ≤ 4 * (m.length + 1) + _ + _
    rw [List.length_append]
    change (enc1 ⟨1, e.1, e.2⟩).length ≤ 4 + (e.1.size + e.2.size) + (e.1.size + e.2.size) / 32 at h2
    omega
theorem puts_len (m : Mp) : (puts m).length = m.length := by unfold puts; rw [List.length_map]
theorem batch_short {m : Mp} (h : size m ≤ 100000) (hl : m.length ≤ 100000) : (batch (puts m)).length ≤ 1 + m.length / 128 + 4 * m.length + size m + size m / 32 := by
  have h1 := encs_short m h
  have h2 := code_short (puts m).length (by rw [puts_len]; omega)
  rw [puts_len] at h2
  unfold batch
  rw [List.length_append, puts_len]
  omega
theorem lt_pos {a b : ByteArray} (h : lt a b = true) : 0 < b.size := by
  rcases Nat.eq_zero_or_pos b.size with h0 | h0
  · have hd : b.data.toList = [] := List.length_eq_zero_iff.mp (by rw [data_len]; exact h0)
    unfold lt at h
    rw [hd] at h
    cases ha : a.data.toList with
    | nil => rw [ha] at h; cases h
    | cons x y => rw [ha] at h; cases h
  · exact h0
theorem full_length : ∀ {m : Mp}, (∀ x ∈ m, 0 < x.1.size) → m.length ≤ size m
  | [], _ => Nat.zero_le _
  | e :: m, h => by
    have h1 := full_length (m := m) fun x hx => h x (List.mem_cons_of_mem _ hx)
    have h2 := h e List.mem_cons_self
    show m.length + 1 ≤ e.1.size + e.2.size + size m
    omega
/-- Keys that rise: one of them at most is empty. -/
theorem up_length : ∀ {m : Mp}, Up m → m.length ≤ 1 + size m
  | [], _ => Nat.zero_le _
  | e :: m, h => by
    have h1 := full_length (m := m) fun x hx => lt_pos (h.1 x hx)
    show m.length + 1 ≤ 1 + (e.1.size + e.2.size + size m)
    omega
theorem one_many {r : List UInt8} (h : r.length ≤ 12192) : many [r] ≤ 127 := by
  have e : many [r] = plc r + 0 := rfl
  rw [e, plc_eq _ r (Nat.le_refl _)]
  split <;> omega

variable {st : St} {t : Top} {L : List (Int × List UInt8)} {N : Nat} {ep : Int}

/-- A write, where the power stays. -/
theorem write_calm (hs : Still st) (h : Live st.is t L N ep) (he : t.e < 1099511627776) (hc : st.cuts = 0) (room : Int) (m : Mp) (l : List Rc) :
    ((writeK ⟨⟨t, N, 0⟩, room, m⟩ st l).1 = 0 ∨ (writeK ⟨⟨t, N, 0⟩, room, m⟩ st l).1 = 50) ∧ (writeK ⟨⟨t, N, 0⟩, room, m⟩ st l).2.1.cuts = 0 ∧
      ((writeK ⟨⟨t, N, 0⟩, room, m⟩ st l).1 = 50 → 12192 < (batch (puts (all m l))).length) := by
  unfold writeK
  rcases append_run hs h (Int.le_of_lt he) [batch l] with ⟨_, h2⟩ | ⟨_, h2, _, h4, h5, h6, _⟩ | ⟨_, h2, h3, _⟩
  · simp only [h2, if_true]
    rcases renew_run hs h he [batch (puts (all m l))] with ⟨r1, r2⟩ | ⟨_, r2, _, r4, r5, r6, r7⟩ | ⟨_, r2, r3, _⟩
    · simp only [r2]
      exact ⟨.inr trivial, hc, fun _ => Nat.lt_of_not_le fun h => by have := one_many h; omega⟩
    · simp only [r2]
      exact ⟨.inl trivial, by rw [r6, hc]; omega, fun h => by simp at h⟩
    · omega
  · simp only [h2]
    refine ⟨.inl (by simp), by simp [h6, hc], fun h => by simp at h⟩
  · omega
theorem many_writeK (s : Ks) (st : St) (l : List Rc) : (writeK s st l).2.1.many ≤ st.many + 258 := by
  have h1 := many_appendR s.lo st [batch l]
  have h2 := many_renewR (appendR s.lo st [batch l]).2.2 (appendR s.lo st [batch l]).2.1 [batch (puts (all s.m l))]
  unfold writeK
  by_cases h : (appendR s.lo st [batch l]).1 = 50
  · simp only [h, if_true]
    omega
  · simp only [h, if_false]
    omega
theorem many_putK (s : Ks) (st : St) (l : List Rc) : (putK s st l).2.1.many ≤ st.many + 258 := by
  have := many_writeK s st l
  unfold putK
  repeat' split
  all_goals first | exact this | (show st.many ≤ _; omega)

/-- A Put, where the power stays. -/
def Calm (s : Ks) (st : St) (t : Top) (room : Int) (m : Mp) (l : List Rc) (E : Int) (st' : St) (s' : Ks) : Prop :=
  (∃ t' L' N' ep', s' = ⟨⟨t', N', 0⟩, room, if E = 0 then all m l else m⟩ ∧ Still st' ∧ Live st'.is t' L' N' ep' ∧ mapOf (L'.map (·.2)) = (if E = 0 then all m l else m) ∧ t.e ≤ t'.e ∧ t'.e ≤ t.e + 1) ∧ st'.cuts = 0 ∧ st'.many ≤ st.many + 258 ∧
    (E = 0 ∨ (E = 1 ∧ odd l) ∨ (E = 50 ∧ ¬ odd l ∧ ((room < (size (all m l) : Int) ∧ size m < size (all m l)) ∨ 12192 < (batch (puts (all m l))).length))) ∧
    (E = 0 → (size (all m l) : Int) ≤ room ∨ size (all m l) ≤ size m) ∧ (¬ odd l → all m l = m → E = 0 ∧ st' = st) ∧ s = s
theorem put_calm (hs : Still st) (h : Live st.is t L N ep) (he : t.e < 1099511627776) (hc : st.cuts = 0) (room : Int) {m : Mp} (hm : mapOf (L.map (·.2)) = m) {l : List Rc}
    (hz : size m + heavy l ≤ 1000000) (hn : m.length + l.length ≤ 1000000) {s : Ks} (hks : s = ⟨⟨t, N, 0⟩, room, m⟩) : Calm s st t room m l (putK s st l).1 (putK s st l).2.1 (putK s st l).2.2 := by
  have hmany := many_putK s st l
  rcases put_run hs h he room hm hz hn hks with ⟨h1, h2⟩ | ⟨h1, h2, h3⟩ | ⟨h1, h2, h3, h4, h5⟩ | ⟨h1, h2, h3, h4⟩
  · rw [h2]
    subst hks
    exact ⟨⟨t, L, N, ep, by simp, hs, h, by simpa using hm, Int.le_refl _, by omega⟩, hc, Nat.le_add_right _ _, .inr (.inl ⟨rfl, h1⟩), fun h => by simp at h, fun h => absurd h1 h, rfl⟩
  · rw [h3]
    subst hks
    exact ⟨⟨t, L, N, ep, by simp [h2], hs, h, by simp [h2, hm], Int.le_refl _, by omega⟩, hc, Nat.le_add_right _ _, .inl rfl, fun _ => .inr (by rw [h2]; exact Nat.le_refl _), fun _ _ => ⟨rfl, rfl⟩, rfl⟩
  · rw [h5]
    subst hks
    exact ⟨⟨t, L, N, ep, by simp, hs, h, by simpa using hm, Int.le_refl _, by omega⟩, hc, Nat.le_add_right _ _, .inr (.inr ⟨rfl, h1, .inl ⟨h3, h4⟩⟩), fun h => by simp at h, fun _ h => absurd h h2, rfl⟩
  · have hp : putK s st l = writeK s st l := by
      subst hks
      unfold putK
      rw [if_neg (by simp), if_neg h1, if_neg h2, if_neg (show ¬ (room < (size (all m l) : Int) ∧ size m < size (all m l)) from fun hh => by rcases h3 with h3 | h3 <;> omega)]
    have hw := write_calm hs h he hc room m l
    rw [hp] at h4 hmany ⊢
    rw [← hks] at hw
    rcases h4 with ⟨e1, e2, e3⟩ | ⟨e1, e2, t', L', N', ep', e3, e4, e5, e6, e7⟩ | ⟨_, e2, _⟩
    · have h50 := hw.2.2 e1
      refine ⟨?_, hw.2.1, hmany, .inr (.inr ⟨e1, h1, .inr h50⟩), fun h => by omega, fun _ h => absurd h h2, rfl⟩
      rw [e1, e2, e3, hks]
      exact ⟨t, L, N, ep, by simp, hs, h, by simpa using hm, Int.le_refl _, by omega⟩
    · refine ⟨?_, hw.2.1, hmany, .inl e1, fun _ => h3, fun _ h => absurd h h2, rfl⟩
      exact ⟨t', L', N', ep', by rw [e1, if_pos rfl, e3, hks], e2, e4, by rw [e1, if_pos rfl]; exact e5, e6, e7⟩
    · omega
end Go.Proofs.YtimcepoleboldaaGreatDoor.Kp

/- What the program's Calls comes to. -/
namespace Go.Proofs.YtimcepoleboldaaGreatDoor
open Go.RowKit

set_option maxHeartbeats 400000 in
theorem calls_any [Keep] (B g : Nat) (st : Dk.St) (w : World) (h : Dsk w B g st) :
    Calls Tryz.prog 28 #[.pointer (some ⟨g, 0, none⟩)] w fun e w' => e = .returned (.int .i64 (st.many : Int)) ∧ w = w' := by
  obtain ⟨m, lv, tc, tf, n, h, -⟩ := h
  obtain ⟨-, -, -, c2, -⟩ := dk_cells h.blk
  clear h
  go_enter Tryz.func28, Tryz.ntmps28
  go_wp2_with fail
  go_ret
  exact ⟨rfl, rfl⟩

end Go.Proofs.YtimcepoleboldaaGreatDoor

/- A store whose power stays: each call of the laws of layer 6, with what is told then. -/
namespace Go.Proofs.YtimcepoleboldaaGreatDoor
open Go.RowKit Go.Deep

/-- Block s is the program's store, of the map m, on the disk at block g that is as st and whose power stays; e is the log's epoch. -/
def Shop [R : Rows] (K : Keep) (w : World) (B g s mb n : Nat) (room : Int) (m : Kp.Mp) (st : Dk.St) (e : Int) : Prop :=
  ∃ (q tb : Nat) (t : Lg.Top) (L : List (Int × List UInt8)) (N : Nat) (ep : Int), t.e = e ∧ @Dsk K w B g st ∧ Kpwg K w B s q g tb mb n ⟨⟨t, N, 0⟩, room, m⟩ ∧ Lg.Still st ∧ Lg.Live st.is t L N ep ∧ Kp.mapOf (L.map (·.2)) = m ∧ st.cuts = 0

section
variable [R : Rows] {K : Keep} {w w' : World} {B g s mb n : Nat} {room : Int} {m : Kp.Mp} {st : Dk.St} {e : Int}

theorem Shop.below (h : Shop K w B g s mb n room m st e) (hb : Below w.heap.size w w') : Shop K w' B g s mb n room m st e := by
  obtain ⟨q, tb, t, L, N, ep, h1, h2, h3, h4⟩ := h
  exact ⟨q, tb, t, L, N, ep, h1, dsk_below h2 hb, h3.below hb, h4⟩
theorem Shop.up (h : Shop K w B g s mb n room m st e) : Kp.Up m := by
  obtain ⟨_, _, _, _, _, _, _, _, h3, _⟩ := h
  obtain ⟨_, _, ht⟩ := h3.tab
  exact ht.up
theorem Shop.lt (h : Shop K w B g s mb n room m st e) : mb < w.heap.size := by
  obtain ⟨_, _, _, _, _, _, _, _, h3, _⟩ := h
  exact h3.tab.lt.2

/-- Open, where the power stays. -/
def ShopOpened [R : Rows] (K : Keep) (B g : Nat) (room : Int) (m : Kp.Mp) (st : Dk.St) (e0 : Int) (w : World) (e : Ending) (w' : World) : Prop :=
  ∃ (K' : Keep) (s mb n : Nat) (st' : Dk.St), e = .returned (.tuple #[.pointer (some ⟨s, 0, none⟩), .int .i64 0]) ∧ (∀ i, K.p i → K'.p i) ∧ Shop K' w' B g s mb n room m st' (e0 + 1) ∧ n ≤ 12192 ∧ @Ch K Td B w w' ∧ st'.many ≤ st.many + 2
theorem shop_open {t : Lg.Top} {L : List (Int × List UInt8)} {N : Nat} {ep : Int} (hd : @Dsk K w B g st) (hs : Lg.Still st) (hg : Lg.Good st.is t L N ep) (he : t.e < 1099511627776) (hc : st.cuts = 0) (hm : st.many ≤ 1000000) (h0 : 0 ≤ room) (h1 : room ≤ 1048576) (hR : ∀ g, w.heap.size ≤ g → R.p g := by exact fun _ _ => trivial) :
    Calls Tryz.prog 9 #[.pointer (some ⟨g, 0, none⟩), .int .i64 room] w (ShopOpened K B g room (Kp.mapOf (L.map (·.2))) st t.e w) := by
  obtain ⟨-, -, h3⟩ := Lg.open_run hs hg he
  have h4 := Lg.many_open st
  have h5 := Kp.openS_run hs hg he room
  have h6 := Kp.openK_in (st := st) h0 h1
  refine (open_store K B g st room w hd hm hR).mono ?_
  rintro e w' ⟨hch, hcase⟩
  rw [h6, h5] at hcase
  rcases h3 with ⟨g1, _, g3, g4, g5⟩ | ⟨_, g2, g3, _⟩
  · rcases hcase with ⟨_, K', s, q, tb, mb, n, rfl, hK, hd', hk, hn, -⟩ | ⟨hne, _⟩
    · exact ⟨K', s, mb, n, _, rfl, hK, ⟨q, tb, _, L, N, ep, rfl, hd', hk, g3, g4, rfl, by omega⟩, hn, hch, h4⟩
    · exact absurd g1 hne
  · omega
/-- Open of the disk that a store is on. -/
theorem shop_again (h : Shop K w B g s mb n room m st e) (he : e < 1099511627776) (hm : st.many ≤ 1000000) {room' : Int} (h0 : 0 ≤ room') (h1 : room' ≤ 1048576) (hR : ∀ g, w.heap.size ≤ g → R.p g := by exact fun _ _ => trivial) :
    Calls Tryz.prog 9 #[.pointer (some ⟨g, 0, none⟩), .int .i64 room'] w (ShopOpened K B g room' m st e w) := by
  obtain ⟨q, tb, t, L, N, ep, rfl, hd, hk, hs, hl, rfl, hc⟩ := h
  exact shop_open hd hs hl.good he hc hm h0 h1 hR

/-- Put, where the power stays. -/
def ShopPost [R : Rows] (K : Keep) (B g s mb0 n : Nat) (room : Int) (m : Kp.Mp) (st : Dk.St) (e0 : Int) (l : List Kp.Rc) (w : World) (e : Ending) (w' : World) : Prop :=
  ∃ (E : Int) (K' : Keep) (mb n' : Nat) (st' : Dk.St) (e' : Int), e = .returned (.int .i64 E) ∧ (∀ i, K.p i → K'.p i) ∧ Shop K' w' B g s mb n' room (if E = 0 then Kp.all m l else m) st' e' ∧ e0 ≤ e' ∧ e' ≤ e0 + 1 ∧ n' ≤ n + l.length ∧ @Ch K Tk B w w' ∧ (mb = mb0 ∨ w.heap.size ≤ mb) ∧ st'.many ≤ st.many + 258 ∧
    (E = 0 ∨ (E = 1 ∧ Kp.odd l) ∨ (E = 50 ∧ ¬ Kp.odd l ∧ ((room < (Kp.size (Kp.all m l) : Int) ∧ Kp.size m < Kp.size (Kp.all m l)) ∨ 12192 < (Kp.batch (Kp.puts (Kp.all m l))).length))) ∧
    (E = 0 → (Kp.size (Kp.all m l) : Int) ≤ room ∨ Kp.size (Kp.all m l) ≤ Kp.size m) ∧ (¬ Kp.odd l → Kp.all m l = m → E = 0 ∧ st' = st)
theorem shop_put (h : Shop K w B g s mb n room m st e) (he : e < 1099511627776) {l : List Kp.Rc} {vl : Value} (hl : Recs w vl l) (hs : Kp.size m + Kp.heavy l ≤ 200000) (hm : m.length + l.length ≤ 20000) (hn : st.many ≤ 900000) (hnn : n + l.length ≤ 1000000000) (hR : ∀ g, w.heap.size ≤ g → R.p g := by exact fun _ _ => trivial) :
    Calls Tryz.prog 11 #[.pointer (some ⟨s, 0, none⟩), vl] w (ShopPost K B g s mb n room m st e l w) := by
  obtain ⟨q, tb, t, L, N, ep, rfl, hd, hk, hst, hlv, hmap, hc⟩ := h
  have hcalm := Kp.put_calm hst hlv he hc room hmap (l := l) (by omega) (by omega) rfl
  refine (put_store K B s q g tb mb n _ st l vl w hd hk hl hs hm hn hnn hR).mono ?_
  rintro e w' ⟨rfl, K', tb', mb', n', hK, hd', hk', hn', hch, hmb⟩
  obtain ⟨⟨t', L', N', ep', c1, c2, c3, c4, c5, c6⟩, c7, c8, c9, c10, c11, -⟩ := hcalm
  rw [c1] at hk'
  exact ⟨_, K', mb', n', _, t'.e, rfl, hK, ⟨q, tb', t', L', N', ep', rfl, hd', hk', c2, c3, c4, c7⟩, c5, c6, hn', hch, hmb, c8, c9, c10, c11⟩

theorem shop_get (h : Shop K w B g s mb n room m st e) {key : ByteArray} (hk : key.size ≤ maxLen) (hm : m.length ≤ 1000000) :
    Calls Tryz.prog 16 #[.pointer (some ⟨s, 0, none⟩), .string key] w (GetPost (Kp.look m key) w) := by
  obtain ⟨q, tb, t, L, N, ep, rfl, hd, hk', _⟩ := h
  exact @sget_any K _ B s q g tb mb n _ key w hk' hk hm
theorem shop_bytes (h : Shop K w B g s mb n room m st e) : Calls Tryz.prog 15 #[.pointer (some ⟨s, 0, none⟩)] w fun e w' => e = .returned (.int .i64 ((Kp.size m : Nat) : Int)) ∧ w = w' := by
  obtain ⟨q, tb, t, L, N, ep, rfl, hd, hk', _⟩ := h
  exact @sbytes_any K _ B s q g tb mb n _ w hk'
theorem shop_keys (h : Shop K w B g s mb n room m st e) (hm : m.length ≤ 1000000) : Calls Tryz.prog 14 #[.pointer (some ⟨s, 0, none⟩)] w (KeysPost m w) := by
  obtain ⟨q, tb, t, L, N, ep, rfl, hd, hk', _⟩ := h
  exact @skeys_any K _ B s q g tb mb n _ w hk' hm
theorem shop_has (h : Shop K w B g s mb n room m st e) {va : Value} {m' : Kp.Mp} (hm : Ents w va m') (h1 : m.length ≤ 1000000) (h2 : m'.length ≤ 1000000) (h3 : Kp.size m' ≤ 1000000) :
    Calls Tryz.prog 13 #[.pointer (some ⟨s, 0, none⟩), va] w (HasPost m m' w) := by
  obtain ⟨q, tb, t, L, N, ep, rfl, hd, hk', _⟩ := h
  exact has_any K B s q g tb mb n _ va m' w hk' hm h1 h2 h3
theorem shop_calls (h : Shop K w B g s mb n room m st e) : Calls Tryz.prog 28 #[.pointer (some ⟨g, 0, none⟩)] w fun e w' => e = .returned (.int .i64 (st.many : Int)) ∧ w = w' := by
  obtain ⟨q, tb, t, L, N, ep, rfl, hd, _⟩ := h
  exact @calls_any K B g st w hd
end

/-- A new disk. -/
theorem disk_new (w : World) : Calls Tryz.prog 10 #[] w fun e w' => e = .returned (.pointer (some ⟨w.heap.size + 1, 0, none⟩)) ∧ @Dsk noKeep w' w.heap.size (w.heap.size + 1) Dk.St.new ∧ Below w.heap.size w w' :=
  (new_any w).mono fun _ _ h => ⟨h.1, h.2.1, h.2.2.to_below (Nat.le_refl _)⟩
/-- A store on a new disk. -/
theorem shop_new {w : World} {B g : Nat} {room : Int} (h : @Dsk noKeep w B g Dk.St.new) (h0 : 0 ≤ room) (h1 : room ≤ 1048576) :
    Calls Tryz.prog 9 #[.pointer (some ⟨g, 0, none⟩), .int .i64 room] w (ShopOpened noKeep B g room [] Dk.St.new 0 w) :=
  shop_open h Lg.Still.new Lg.Good.zero (by show (0 : Int) < _; omega) rfl (by show 0 ≤ _; omega) h0 h1
end Go.Proofs.YtimcepoleboldaaGreatDoor
