/- What read and Decode come to, the program's, whatever bytes. -/
import Derived.Test.YtimcepoleboldaaGreatDoorChunkEncode
import Derived.Test.YtimcepoleboldaaGreatDoorPackReadText
namespace Go.Proofs.YtimcepoleboldaaGreatDoor
open Go.RowKit

theorem info_chu : (Tryz.prog.info? 95).map (·.size) = some 5 := by kernel_rfl

/-- A result that is what the block holds. -/
theorem result_chu {fn : Func} (h : fn.results = #[.cell 2 95]) (tmps : Array Value) (W : World) (B : Nat) (a b c d e : Value)
    (hp : tmps.getD 2 undef = .pointer (some ⟨B, 0, none⟩)) (hb : Blk W B 95 #[a, b, c, d, e]) :
    (results fn tmps).run Tryz.prog W = .ok (.agg #[a, b, c, d, e]) W := by
  have hp' : tmps[2]?.getD undef = .pointer (some ⟨B, 0, none⟩) := by simpa using hp
  simp [results, h, hp', asAddr, run_loadVar_row W B 95 95 #[a, b, c, d, e] (0, 0) _ hb Tryz.underlying95 rfl info_chu]

/-- The two results: what the block holds, and the error. -/
theorem results_chu {fn : Func} (h : fn.results = #[.cell 2 95, .tmp 3]) (tmps : Array Value) (W : World) (B : Nat) (a b c d e : Value)
    (hp : tmps.getD 2 undef = .pointer (some ⟨B, 0, none⟩)) (hb : Blk W B 95 #[a, b, c, d, e]) :
    (results fn tmps).run Tryz.prog W = .ok (.tuple #[.agg #[a, b, c, d, e], tmps.getD 3 undef]) W := by
  have hp' : tmps[2]?.getD undef = .pointer (some ⟨B, 0, none⟩) := by simpa using hp
  simp [results, h, hp', asAddr, run_loadVar_row W B 95 95 #[a, b, c, d, e] (0, 0) _ hb Tryz.underlying95 rfl info_chu]

section
variable {w : World} {g : Nat} {t : TypeId} {a b c d e : Value}
theorem Blk.t0 (h : Blk w g t #[a, b, c, d, e]) (u : Value) : Blk (w.setCell ⟨g, 0, none⟩ u) g t #[u, b, c, d, e] := by
  have e := heap_setCell_same w g 0 _ t u h
  simpa [Blk] using e
theorem Blk.t1 (h : Blk w g t #[a, b, c, d, e]) (u : Value) : Blk (w.setCell ⟨g, 1, none⟩ u) g t #[a, u, c, d, e] := by
  have e := heap_setCell_same w g 1 _ t u h
  simpa [Blk] using e
theorem Blk.t2 (h : Blk w g t #[a, b, c, d, e]) (u : Value) : Blk (w.setCell ⟨g, 2, none⟩ u) g t #[a, b, u, d, e] := by
  have e := heap_setCell_same w g 2 _ t u h
  simpa [Blk] using e
theorem Blk.t3 (h : Blk w g t #[a, b, c, d, e]) (u : Value) : Blk (w.setCell ⟨g, 3, none⟩ u) g t #[a, b, c, u, e] := by
  have e := heap_setCell_same w g 3 _ t u h
  simpa [Blk] using e
theorem Blk.t4 (h : Blk w g t #[a, b, c, d, e]) (u : Value) : Blk (w.setCell ⟨g, 4, none⟩ u) g t #[a, b, c, d, u] := by
  have e := heap_setCell_same w g 4 _ t u h
  simpa [Blk] using e
/-- A struct written whole. -/
theorem Blk.t5 (h : Blk w g t #[a, b, c, d, e]) (a' b' c' d' e' : Value) : Blk (((((w.setCell ⟨g, 0, none⟩ a').setCell ⟨g, 1, none⟩ b').setCell ⟨g, 2, none⟩ c').setCell ⟨g, 3, none⟩ d').setCell ⟨g, 4, none⟩ e') g t #[a', b', c', d', e'] := ((((h.t0 a').t1 b').t2 c').t3 d').t4 e'
end
theorem gr_t5 {a b : World} {row : Option Nat} {g : Nat} (h : a.grownBy b row) (hg : a.heap.size ≤ g) (v x y z u : Value) : a.grownBy (((((b.setCell ⟨g, 0, none⟩ v).setCell ⟨g, 1, none⟩ x).setCell ⟨g, 2, none⟩ y).setCell ⟨g, 3, none⟩ z).setCell ⟨g, 4, none⟩ u) row :=
  gr_set_new (gr_set_new (gr_set_new (gr_set_new (gr_set_new h hg 0 v) hg 1 x) hg 2 y) hg 3 z) hg 4 u

theorem five_cells {w : World} {g : Nat} {t : TypeId} {a b c d e : Value} (h : Blk w g t #[a, b, c, d, e]) :
    (w.cell? ⟨g, 0, none⟩ = some a ∧ w.cell? ⟨g, 1, none⟩ = some b ∧ w.cell? ⟨g, 2, none⟩ = some c ∧ w.cell? ⟨g, 3, none⟩ = some d ∧ w.cell? ⟨g, 4, none⟩ = some e) ∧
    w.frozen? ⟨g, 0, none⟩ = false ∧ w.frozen? ⟨g, 1, none⟩ = false ∧ w.frozen? ⟨g, 2, none⟩ = false ∧ w.frozen? ⟨g, 3, none⟩ = false ∧ w.frozen? ⟨g, 4, none⟩ = false :=
  ⟨five h, h.frozen 0, h.frozen 1, h.frozen 2, h.frozen 3, h.frozen 4⟩

theorem i64_and_nat (a b : Nat) (ha : a < 9223372036854775808) (hb : b < 9223372036854775808) : bits .and .i64 (a : Int) (b : Int) = ((a &&& b : Nat) : Int) := by
  have hx : a &&& b < 2 ^ 63 := Nat.and_lt_two_pow _ (by omega)
  have ha' : (BitVec.ofInt 64 (a : Int)).toNat = a := by rw [BitVec.ofInt_natCast, BitVec.toNat_ofNat]; exact Nat.mod_eq_of_lt (by omega)
  have hb' : (BitVec.ofInt 64 (b : Int)).toNat = b := by rw [BitVec.ofInt_natCast, BitVec.toNat_ofNat]; exact Nat.mod_eq_of_lt (by omega)
  show IntKind.i64.wrap ((BitVec.ofInt 64 (a : Int) &&& BitVec.ofInt 64 (b : Int)).toNat : Int) = _
  rw [BitVec.toNat_and, ha', hb', IntKind.wrap_i64]
  omega

theorem first_bit (n : Nat) (h : n ≤ 72057594037927935) : (bits .and .i64 (n : Int) 1 != 0) = decide (n % 2 = 1) := by
  have e : bits .and .i64 (n : Int) 1 = ((n % 2 : Nat) : Int) := by
    have := i64_and_nat n 1 (by omega) (by omega)
    rw [Nat.and_one_is_mod] at this
    exact this
  rw [e]
  rcases Nat.mod_two_eq_zero_or_one n with h | h <;> rw [h] <;> rfl

theorem last_bit (n : Nat) (h : n ≤ 72057594037927935) : (bits .and .i64 (n : Int) 2 != 0) = decide (n / 2 % 2 = 1) := by
  have e : bits .and .i64 (n : Int) 2 = ((n &&& 2 : Nat) : Int) := i64_and_nat n 2 (by omega) (by omega)
  have h1 : (n &&& 2) / 2 = n / 2 % 2 := by rw [Nat.and_div_two]; exact Nat.and_one_is_mod _
  have h2 : (n &&& 2) % 2 = 0 := by
    have := @Nat.and_mod_two_eq_one n 2
    omega
  rw [e]
  have h3 : n &&& 2 = 2 * (n / 2 % 2) := by omega
  rw [h3]
  rcases Nat.mod_two_eq_zero_or_one (n / 2) with h | h <;> rw [h] <;> rfl

/-- A chunk's parts are those of c. -/
def Is (e q : Int) (f l : Bool) (d : ByteArray) (c : Cn.Chu) : Prop := (⟨e, q, f, l, d.data.toList⟩ : Cn.Chu) = c

/-- A number read, in letters. -/
theorem readnum_in (br : Nat) (s : ByteArray) (w : World) (h : Blk w br 148 #[.string s]) (hs : s.size ≤ 1048576) :
    Calls Tryz.prog 64 #[.pointer (some ⟨br, 0, none⟩)] w fun x w' => ∃ (n m : Nat) (s' : ByteArray), x = .returned (.tuple #[.int .i64 (n : Int), .int .i64 (m : Int)]) ∧ Blk w' br 148 #[.string s'] ∧
      w.grownBy w' (some br) ∧ s'.size ≤ 1048576 ∧ n ≤ 72057594037927935 ∧ Pk.num s.data.toList = (n, m, s'.data.toList) := by
  refine (readnum_any br s w h (by omega)).mono ?_
  rintro x w' ⟨s', rfl, hs', hb, hg⟩
  refine ⟨_, _, s', rfl, hb, hg, ?_, Pk.num_most _, by rw [hs']⟩
  rw [← toList_len, hs']
  exact Nat.le_trans (Pk.num_len _) (by rw [toList_len]; exact hs)

/-- A text read, in letters. -/
theorem readtext_in (br : Nat) (s : ByteArray) (w : World) (h : Blk w br 148 #[.string s]) (hs : s.size ≤ 1048576) :
    Calls Tryz.prog 98 #[.pointer (some ⟨br, 0, none⟩)] w fun x w' => ∃ (d : ByteArray) (m : Nat) (s' : ByteArray), x = .returned (.tuple #[.string d, .int .i64 (m : Int)]) ∧ Blk w' br 148 #[.string s'] ∧
      w.grownBy w' (some br) ∧ Pk.text s.data.toList = (d.data.toList, m, s'.data.toList) := by
  refine (readtext_any br s w h (by omega)).mono ?_
  rintro x w' ⟨s1, s2, rfl, hb, h1, h2, hg⟩
  exact ⟨s2, _, s1, rfl, hb, hg, by rw [h1, h2]⟩

theorem got_letters {s s1 s2 s3 s4 d : ByteArray} {n1 m1 n2 m2 n3 m3 m4 : Nat} (h1 : Pk.num s.data.toList = (n1, m1, s1.data.toList)) (h2 : Pk.num s1.data.toList = (n2, m2, s2.data.toList))
    (h3 : Pk.num s2.data.toList = (n3, m3, s3.data.toList)) (h4 : Pk.text s3.data.toList = (d.data.toList, m4, s4.data.toList)) :
    Cn.got s.data.toList = ⟨(n1 : Int), (n2 : Int), decide (n3 % 2 = 1), decide (n3 / 2 % 2 = 1), d.data.toList⟩ := by
  unfold Cn.got Cn.r4 Cn.r3 Cn.r2 Cn.r1
  rw [h1]
  simp only [h2, h3, h4]

/-- What read leaves. -/
def GotPost (s : List UInt8) (w : World) (x : Ending) (w' : World) : Prop :=
  ∃ (e q : Int) (f l : Bool) (d : ByteArray), x = .returned (ChV e q f l d) ∧ Is e q f l d (Cn.got s) ∧ Below w.heap.size w w'

set_option maxRecDepth 20000 in
set_option maxHeartbeats 1000000 in
theorem readchunk_any (s : ByteArray) (w : World) (hs : s.size ≤ 1048576) :
    Calls Tryz.prog 115 #[.string s] w (GotPost s.data.toList w) := by
  have hB := Blk.new w 95 #[.int .i64 0, .int .i64 0, .bool false, .bool false, .string ⟨#[]⟩]
  have hg : w.grownBy (w.alloc (.cells #[.int .i64 0, .int .i64 0, .bool false, .bool false, .string ⟨#[]⟩] 95)) none := gr_alloc (gr_refl w _) _
  have hsz : (w.alloc (.cells #[.int .i64 0, .int .i64 0, .bool false, .bool false, .string ⟨#[]⟩] 95)).heap.size = w.heap.size + 1 := by simp
  go_enter Tryz.func115, Tryz.ntmps115
  go_wp2_with fail
  generalize w.alloc (.cells #[.int .i64 0, .int .i64 0, .bool false, .bool false, .string ⟨#[]⟩] 95) = w1 at *
  generalize hBB : w.heap.size = B at *
  have HBB := Lib.hid hBB; clear hBB
  refine (read_any s w1).mono ?_
  rintro x w2 ⟨rfl, hw2⟩
  have hr2 : Blk w2 w1.heap.size 148 #[.string s] := by rw [hw2]; exact Blk.new _ _ _
  have hB2 : Blk w2 B 95 #[.int .i64 0, .int .i64 0, .bool false, .bool false, .string ⟨#[]⟩] := by rw [hw2]; exact hB.alloc _
  have hg2 : w.grownBy w2 none := by rw [hw2]; exact gr_alloc hg _
  rw [hsz] at hr2
  clear hw2 hB hg
  rw [hsz]
  have hnew : w.heap.size ≤ B + 1 := by have := HBB.out; omega
  clear hsz
  go_wp2_with fail
  refine (readnum_in (B + 1) s w2 hr2 hs).mono ?_
  rintro x w3 ⟨n1, m1, s1, rfl, hr3, hg3, hz1, hn1, h1⟩
  have hB3 := hB2.grown hg3 (by intro e; injection e; omega)
  have hgg3 := gr_new hg2 hg3 hnew
  have H1 := Lib.hid h1
  clear h1 hr2 hB2 hg2 hg3 hn1
  go_wp2_with fail
  refine (readnum_in (B + 1) s1 w3 hr3 hz1).mono ?_
  rintro x w4 ⟨n2, m2, s2, rfl, hr4, hg4, hz2, hn2, h2⟩
  have hB4 := hB3.grown hg4 (by intro e; injection e; omega)
  have hgg4 := gr_new hgg3 hg4 hnew
  have H2 := Lib.hid h2
  clear h2 hr3 hB3 hgg3 hg4 hn2 hz1
  go_wp2_with fail
  refine (readnum_in (B + 1) s2 w4 hr4 hz2).mono ?_
  rintro x w5 ⟨n3, m3, s3, rfl, hr5, hg5, hz3, hn3, h3⟩
  have hB5 := hB4.grown hg5 (by intro e; injection e; omega)
  have hgg5 := gr_new hgg4 hg5 hnew
  have H3 := Lib.hid h3
  clear h3 hr4 hB4 hgg4 hg5 hz2
  go_wp2_with fail
  refine (readtext_in (B + 1) s3 w5 hr5 hz3).mono ?_
  rintro x w6 ⟨d, m4, s4, rfl, hr6, hg6, h4⟩
  have hB6 := hB5.grown hg6 (by intro e; injection e; omega)
  have hgg6 := gr_new hgg5 hg6 hnew
  have HG := Lib.hid (got_letters H1.out H2.out H3.out h4)
  clear h4 hr5 hB5 hgg5 hg6 hz3 hr6 H1 H2 H3
  obtain ⟨⟨c0, c1, c2, c3, c4⟩, f0, f1, f2, f3, f4⟩ := five_cells hB6
  have hlt := hB6.lt
  have HB6 := Lib.hid hB6
  clear hB6
  go_wp2_with fail
  refine bodyPost_ret (result_chu rfl _ _ B _ _ _ _ _ rfl (HB6.out.t5 _ _ _ _ _)) rfl ⟨_, _, _, _, d, rfl, ?_, gr_to_below (gr_t5 hgg6 (Nat.le_of_eq HBB.out) _ _ _ _ _)⟩
  unfold Is
  rw [HG.out, first_bit n3 hn3, last_bit n3 hn3]

theorem neq_list {a b : ByteArray} (h : ¬ a = b) : (a.toList == b.toList) = false := by
  rw [beq_eq_false_iff_ne, ByteArray.toList_eq, ByteArray.toList_eq]
  intro e
  exact h (by rw [← mk_toList a, e, mk_toList])
theorem eq_list (a : ByteArray) : (a.toList == a.toList) = true := beq_self_eq_true _

/-- The ways of decoding. -/
theorem dec_cases (s : List UInt8) (c : Cn.Chu) (h : c = Cn.got s) :
    (Cn.encE c = 0 ∧ Cn.encB c = s ∧ Cn.decE s = 0 ∧ Cn.decC s = c) ∨ (Cn.encE c ≠ 0 ∧ Cn.decE s = 21 ∧ Cn.decC s = Cn.zero) ∨ (Cn.encE c = 0 ∧ Cn.encB c ≠ s ∧ Cn.decE s = 21 ∧ Cn.decC s = Cn.zero) := by
  subst h
  by_cases hi : Cn.isC s
  · refine .inl ⟨hi.1, hi.2, ?_, ?_⟩
    · unfold Cn.decE; rw [if_pos hi]
    · unfold Cn.decC; rw [if_pos hi]
  · have h1 : Cn.decE s = 21 := by unfold Cn.decE; rw [if_neg hi]
    have h2 : Cn.decC s = Cn.zero := by unfold Cn.decC; rw [if_neg hi]
    by_cases hE : Cn.encE (Cn.got s) = 0
    · exact .inr (.inr ⟨hE, fun hB => hi ⟨hE, hB⟩, h1, h2⟩)
    · exact .inr (.inl ⟨hE, h1, h2⟩)

/-- What Decode leaves. -/
def DecPost (s : List UInt8) (w : World) (x : Ending) (w' : World) : Prop :=
  ∃ (e q : Int) (f l : Bool) (d : ByteArray), x = .returned (.tuple #[ChV e q f l d, .int .i64 ((Cn.decE s : Nat) : Int)]) ∧ Is e q f l d (Cn.decC s) ∧ Below w.heap.size w w'

set_option maxRecDepth 20000 in
set_option maxHeartbeats 1000000 in
theorem decode_any (s : ByteArray) (w : World) (hs : s.size ≤ 1048576) :
    Calls Tryz.prog 92 #[.string s] w (DecPost s.data.toList w) := by
  have hB := Blk.new w 95 #[.int .i64 0, .int .i64 0, .bool false, .bool false, .string ⟨#[]⟩]
  have hg : w.grownBy (w.alloc (.cells #[.int .i64 0, .int .i64 0, .bool false, .bool false, .string ⟨#[]⟩] 95)) none := gr_alloc (gr_refl w _) _
  go_enter Tryz.func92, Tryz.ntmps92
  go_wp2_with fail
  generalize w.alloc (.cells #[.int .i64 0, .int .i64 0, .bool false, .bool false, .string ⟨#[]⟩] 95) = w1 at *
  generalize hBB : w.heap.size = B at *
  have HBB := Lib.hid hBB; clear hBB
  refine (readchunk_any s w1 hs).mono ?_
  rintro x w2 ⟨e, q, f, l, d, rfl, his, hb⟩
  have hB2 := hB.older hb hB.lt
  have hg2 := gr_trans hg (gr_of_below hb none)
  have HIS := Lib.hid his
  clear his hB hg hb
  go_wp2_with fail
  have hb4 := (Blk.new w2 95 (ChC e q f l d))
  have hB4 := hB2.alloc (.cells (ChC e q f l d) 95)
  have hg4 := gr_alloc hg2 (.cells (ChC e q f l d) 95)
  have hn4 : w.heap.size ≤ w2.heap.size := hg2.size
  have hne : B ≠ w2.heap.size := by have := hB2.lt; omega
  generalize w2.alloc (.cells (ChC e q f l d) 95) = w3 at *
  generalize w2.heap.size = B2 at *
  clear hB2 hg2
  refine (encode_any e q f l d w3).mono ?_
  rintro x w4 ⟨rfl, hb⟩
  have hB5 := hB4.older hb hB4.lt
  have hb5 := hb4.older hb hb4.lt
  have hg5 := gr_trans hg4 (gr_of_below hb none)
  have hd := dec_cases s.data.toList (⟨e, q, f, l, d.data.toList⟩ : Cn.Chu) HIS.out
  clear hB4 hb4 hg4 hb
  unfold EncV
  generalize Cn.encE (⟨e, q, f, l, d.data.toList⟩ : Cn.Chu) = E at *
  generalize hS : (⟨(Cn.encB (⟨e, q, f, l, d.data.toList⟩ : Cn.Chu)).toArray⟩ : ByteArray) = S at *
  have hSl : Cn.encB (⟨e, q, f, l, d.data.toList⟩ : Cn.Chu) = S.data.toList := by rw [← hS]
  rw [hSl] at hd
  clear hS hSl
  obtain ⟨⟨c0, c1, c2, c3, c4⟩, f0, f1, f2, f3, f4⟩ := five_cells hB5
  obtain ⟨a0, a1, a2, a3, a4⟩ := five hb5
  have HB5 := Lib.hid hB5
  have hlt := hB5.lt
  clear hB5 hb5
  rcases hd with ⟨hE, hSs, hdE, hdC⟩ | ⟨hE, hdE, hdC⟩ | ⟨hE, hSs, hdE, hdC⟩
  · subst hE
    have e1 : S = s := by rw [← mk_toList S, hSs, mk_toList]
    subst e1
    have HD := Lib.hid (And.intro hdE hdC)
    clear hSs hdE hdC
    go_wp2_with fail
    refine bodyPost_ret (results_chu rfl _ _ B _ _ _ _ _ rfl (HB5.out.t5 _ _ _ _ _)) rfl ⟨e, q, f, l, d, ?_, ?_, gr_to_below (gr_t5 hg5 (Nat.le_of_eq HBB.out) _ _ _ _ _)⟩
    · rw [HD.out.1]; rfl
    · unfold Is; rw [HD.out.2]
  · have HD := Lib.hid (And.intro hdE hdC)
    have hE' : ((E : Int) != 0) = true := by rw [bne_iff_ne]; omega
    have hE2 : ¬ (E : Int) = 0 := by omega
    clear hE hdE hdC
    go_wp2_with fail
    refine bodyPost_ret (results_chu rfl _ _ B _ _ _ _ _ rfl (HB5.out.t5 _ _ _ _ _)) rfl ⟨0, 0, false, false, ⟨#[]⟩, ?_, ?_, gr_to_below (gr_t5 hg5 (Nat.le_of_eq HBB.out) _ _ _ _ _)⟩
    · rw [HD.out.1]; rfl
    · unfold Is; rw [HD.out.2]; rfl
  · subst hE
    have e1 : (S.toList == s.toList) = false := neq_list (fun h => hSs (by rw [h]))
    have HD := Lib.hid (And.intro hdE hdC)
    clear hSs hdE hdC
    go_wp2_with fail
    refine bodyPost_ret (results_chu rfl _ _ B _ _ _ _ _ rfl (HB5.out.t5 _ _ _ _ _)) rfl ⟨0, 0, false, false, ⟨#[]⟩, ?_, ?_, gr_to_below (gr_t5 hg5 (Nat.le_of_eq HBB.out) _ _ _ _ _)⟩
    · rw [HD.out.1]; rfl
    · unfold Is; rw [HD.out.2]; rfl

end Go.Proofs.YtimcepoleboldaaGreatDoor
