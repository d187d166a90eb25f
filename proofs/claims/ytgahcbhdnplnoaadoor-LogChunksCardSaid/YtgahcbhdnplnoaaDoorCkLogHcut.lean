/- What a head's cut comes to, the program's: records as chunks, if there are as many places. -/
import Derived.Test.YtgahcbhdnplnoaaDoorCkLogSmall
import Derived.Test.YtgahcbhdnplnoaaDoorCkLogMany
import Derived.Test.YtgahcbhdnplnoaaDoorCkChunkCut
import Derived.Deep.AppendLies
import Derived.OwnWalk
namespace Go.Proofs.YtgahcbhdnplnoaaDoor
open Go.RowKit

/-- A chunk's cells, in a row. -/
def chC (c : Cn.Chu) : List Value := [.int .i64 c.e, .int .i64 c.q, .bool c.f, .bool c.l, .string ⟨c.d.toArray⟩]
def chCs (l : List Cn.Chu) : List Value := l.flatMap chC
theorem chCs_append (l : List Cn.Chu) (c : Cn.Chu) : chCs (l ++ [c]) = chCs l ++ chC c := by simp [chCs]
theorem chCs_length (l : List Cn.Chu) : (chCs l).length = l.length * 5 := by
  induction l with
  | nil => rfl
  | cons c l ih =>
    show (chC c ++ chCs l).length = _
    rw [List.length_append, ih, List.length_cons]
    show 5 + _ = _
    omega
theorem chCs_get {l : List Cn.Chu} {j : Nat} {c : Cn.Chu} (h : l[j]? = some c) (i : Nat) (hi : i < 5) : (chCs l)[j * 5 + i]? = (chC c)[i]? := by
  induction l generalizing j with
  | nil => simp at h
  | cons x l ih =>
    show (chC x ++ chCs l)[j * 5 + i]? = _
    cases j with
    | zero =>
      simp only [List.getElem?_cons_zero, Option.some.injEq] at h
      subst h
      rw [List.getElem?_append_left (by show _ < 5; omega)]
      simp
    | succ j =>
      rw [List.getElem?_append_right (by show 5 ≤ _; omega)]
      have e : (j + 1) * 5 + i - (chC x).length = j * 5 + i := by show (j + 1) * 5 + i - 5 = _; omega
      rw [e]
      exact ih (by simpa using h)

/-- A row of chunks that a call has made. -/
def RowC (w : World) (base : Nat) (v : Value) (l : List Cn.Chu) : Prop := w.ownsRow base 45 5 v l.length (chCs l)

theorem owns_slice {w : World} {base size n : Nat} {e : TypeId} {v : Value} {xs : List Value} (h : w.ownsRow base e size v n xs) : ∃ A cap, v = .slice A n cap := by
  rcases h.2 with ⟨rfl, h0⟩ | ⟨g, cap, cur, rfl, _⟩
  · exact ⟨none, 0, by rw [h0]⟩
  · exact ⟨some ⟨g, 0, none⟩, cap, rfl⟩

/-- Blocks of chunks. -/
def Tc : Obj → Bool
  | .cells _ t _ => t == 45
  | _ => false

theorem info_chunk : (Tryd.prog.info? 45).map (fun i => (i.zero, i.size, i.bytes)) = some (some (.agg #[.int .i64 0, .int .i64 0, .bool false, .bool false, .string ⟨#[]⟩]), 5, 40) := by kernel_rfl
theorem cell_five_new (w : World) (a b c d e : Value) (t : TypeId) : ∀ j u, [a, b, c, d, e][j]? = some u → (w.alloc (.cells #[a, b, c, d, e] t)).cell? ((⟨w.heap.size, 0, none⟩ : Addr).add j) = some u := by
  intro j u hj
  have h := (Blk.new w t #[a, b, c, d, e]).cell j
  rw [Addr.add_lit, Nat.zero_add, h]
  simpa using hj
theorem chC_one (c : Cn.Chu) : ∀ u ∈ chC c, u.oneCell' = true := by
  intro u hu
  simp only [chC, List.mem_cons, List.not_mem_nil, or_false] at hu
  rcases hu with rfl | rfl | rfl | rfl | rfl <;> rfl

/-! ### Pieces as chunks -/
theorem cksGo_get (e : Int) : ∀ (ds : List (List UInt8)) (p : Nat) (fst : Bool) (i : Nat) (d : List UInt8), ds[i]? = some d → (Lg.cksGo e p fst ds)[i]? = some ⟨e, ((p + i : Nat) : Int), fst && decide (i = 0), decide (i + 1 = ds.length), d⟩ := by
  intro ds
  induction ds with
  | nil => intro p fst i d h; simp at h
  | cons x ds ih =>
    intro p fst i d h
    cases i with
    | zero =>
      simp only [List.getElem?_cons_zero, Option.some.injEq] at h
      subst h
      show some (⟨e, (p : Int), fst, ds.isEmpty, x⟩ : Cn.Chu) = _
      congr 1
      ext1
      · rfl
      · rfl
      · simp
      · show ds.isEmpty = decide (0 + 1 = (x :: ds).length)
        cases ds <;> simp
      · rfl
    | succ i =>
      show (Lg.cksGo e (p + 1) false ds)[i]? = _
      rw [ih (p + 1) false i d (by simpa using h)]
      congr 1
      ext1
      · rfl
      · show ((p + 1 + i : Nat) : Int) = ((p + (i + 1) : Nat) : Int); congr 1; omega
      · simp
      · show decide (i + 1 = ds.length) = decide (i + 1 + 1 = (x :: ds).length); simp
      · rfl
theorem cks_get (e : Int) (p : Nat) (r : List UInt8) (i : Nat) (d : List UInt8) (h : (Cn.cut r)[i]? = some d) : (Lg.cks e p r)[i]? = some ⟨e, ((p + i : Nat) : Int), decide (i = 0), decide (i + 1 = (Cn.cut r).length), d⟩ := by
  have := cksGo_get e (Cn.cut r) p true i d h
  rwa [Bool.true_and] at this

theorem cksAll_append (e : Int) : ∀ (rs : List (List UInt8)) (p : Nat) (r : List UInt8), Lg.cksAll e p (rs ++ [r]) = Lg.cksAll e p rs ++ Lg.cks e (p + Lg.many rs) r := by
  intro rs
  induction rs with
  | nil => intro p r; simp [Lg.cksAll, Lg.many]
  | cons x rs ih =>
    intro p r
    show Lg.cks e p x ++ Lg.cksAll e (p + Lg.plc x) (rs ++ [r]) = Lg.cks e p x ++ Lg.cksAll e (p + Lg.plc x) rs ++ _
    rw [ih, List.append_assoc]
    congr 2
    show Lg.cks e (p + Lg.plc x + Lg.many rs) r = Lg.cks e (p + (Lg.plc x + Lg.many rs)) r
    rw [Nat.add_assoc]

theorem bls_take_up {l : List ByteArray} {k : Nat} {x : ByteArray} (h : l[k]? = some x) : bls (l.take (k + 1)) = bls (l.take k) ++ [bl x] := by
  obtain ⟨h1, rfl⟩ := List.getElem?_eq_some_iff.1 h
  rw [List.take_succ_eq_append_getElem h1, bls_append]
  rfl

theorem cutB_at {x : ByteArray} {j : Nat} {y : ByteArray} (h : (cutB x)[j]? = some y) : (Cn.cut (bl x))[j]? = some y.data.toList := by
  unfold cutB at h
  rw [List.getElem?_map] at h
  cases hd : (Cn.cut x.data.toList)[j]? with
  | none => rw [hd] at h; cases h
  | some d =>
    rw [hd] at h
    simp only [Option.map_some, Option.some.injEq] at h
    subst h
    rfl

/-- What cut's outer loop knows behind k records. -/
structure CutAt (t : Lg.Top) (p : Nat) (R : List ByteArray) (w : World) (k : Nat) (v : Value) (wr : World) : Prop where
  row : RowC wr w.heap.size v (Lg.cksAll t.e p (bls (R.take k)))
  hd : Blk wr w.heap.size 63 (HdC t)
  below : Below w.heap.size w wr
  fit : p + manyB (R.take k) ≤ 127

/-- What its inner loop knows behind j pieces of the record x. -/
structure PieceAt (t : Lg.Top) (p : Nat) (R : List ByteArray) (w w2 : World) (k j : Nat) (x : ByteArray) (v : Value) (wr : World) : Prop where
  row : RowC wr w.heap.size v (Lg.cksAll t.e p (bls (R.take k)) ++ (Lg.cks t.e (p + manyB (R.take k)) (bl x)).take j)
  ch : Ch Tc w.heap.size w2 wr

theorem CutAt.length (t : Lg.Top) (p : Nat) (R : List ByteArray) (k : Nat) : (Lg.cksAll t.e p (bls (R.take k))).length = manyB (R.take k) := Lg.cksAll_length _ _ _
theorem CutAt.row' {t : Lg.Top} {p : Nat} {R : List ByteArray} {w : World} {k : Nat} {v : Value} {wr : World} (h : CutAt t p R w k v wr) : wr.ownsRow w.heap.size 45 5 v (manyB (R.take k)) (chCs (Lg.cksAll t.e p (bls (R.take k)))) := by
  have := h.row
  unfold RowC at this
  rwa [CutAt.length] at this

section
variable {t : Lg.Top} {p : Nat} {R : List ByteArray} {w w2 w4 wr : World} {k j : Nat} {x y : ByteArray} {v v4 : Value}
/-- The chunks so far. -/
def soFar (t : Lg.Top) (p : Nat) (R : List ByteArray) (k j : Nat) (x : ByteArray) : List Cn.Chu := Lg.cksAll t.e p (bls (R.take k)) ++ (Lg.cks t.e (p + manyB (R.take k)) (bl x)).take j
theorem soFar_length (hj : j ≤ (cutB x).length) : (soFar t p R k j x).length = manyB (R.take k) + j := by
  unfold soFar
  rw [List.length_append, CutAt.length, List.length_take, Lg.cks_length, ← cutB_plc]
  omega
theorem PieceAt.row' (h : PieceAt t p R w w2 k j x v wr) (hj : j ≤ (cutB x).length) : wr.ownsRow w.heap.size 45 5 v (manyB (R.take k) + j) (chCs (soFar t p R k j x)) := by
  have := h.row
  unfold RowC at this
  rw [show Lg.cksAll t.e p (bls (R.take k)) ++ (Lg.cks t.e (p + manyB (R.take k)) (bl x)).take j = soFar t p R k j x from rfl, soFar_length hj] at this
  exact this
theorem soFar_next (hy : (cutB x)[j]? = some y) : soFar t p R k (j + 1) x = soFar t p R k j x ++ [⟨t.e, ((p + manyB (R.take k) + j : Nat) : Int), decide (j = 0), decide (j + 1 = (cutB x).length), y.data.toList⟩] := by
  unfold soFar
  have h1 := cks_get t.e (p + manyB (R.take k)) (bl x) j _ (cutB_at hy)
  have h2 : (cutB x).length = (Cn.cut (bl x)).length := by unfold cutB; rw [List.length_map]
  rw [List.take_add_one, h1, ← List.append_assoc, h2]
  rfl
theorem PieceAt.next (hy : (cutB x)[j]? = some y) (hch0 : Ch Tc w.heap.size w2 wr) (hch : Ch Tc w.heap.size wr w4) {z : Int} {fb lb : Bool} {q : Nat} (hq : q = manyB (R.take k) + j) (hz : z = (p : Int) + (q : Int)) (hfb : decide (j = 0) = fb) (hlb : decide (j + 1 = (cutB x).length) = lb)
    (hown : w4.ownsRow w.heap.size 45 5 v4 (q + 1) (chCs (soFar t p R k j x) ++ [.int .i64 t.e, .int .i64 z, .bool fb, .bool lb, .string y])) : PieceAt t p R w w2 k (j + 1) x v4 w4 := by
  have hjl : j + 1 ≤ (cutB x).length := (List.getElem?_eq_some_iff.1 hy).1
  refine ⟨?_, hch0.trans hch⟩
  show w4.ownsRow w.heap.size 45 5 v4 (soFar t p R k (j + 1) x).length (chCs (soFar t p R k (j + 1) x))
  rw [soFar_length hjl, soFar_next hy, chCs_append]
  have e : chC ⟨t.e, ((p + manyB (R.take k) + j : Nat) : Int), decide (j = 0), decide (j + 1 = (cutB x).length), y.data.toList⟩ = [.int .i64 t.e, .int .i64 z, .bool fb, .bool lb, .string y] := by
    unfold chC
    rw [hfb, hlb, hz, hq]
    have e2 : (⟨y.data.toList.toArray⟩ : ByteArray) = y := by simp
    rw [e2]
    have e3 : ((p + manyB (R.take k) + j : Nat) : Int) = (p : Int) + ((manyB (R.take k) + j : Nat) : Int) := by omega
    rw [e3]
  rw [e, show manyB (R.take k) + (j + 1) = q + 1 by omega]
  exact hown
theorem PieceAt.done (h : PieceAt t p R w w2 k (cutB x).length x v wr) (hx : R[k]? = some x) (hd : Blk w2 w.heap.size 63 (HdC t)) (hb : Below w.heap.size w w2) (hfit : p + manyB (R.take k) + (cutB x).length ≤ 127) : CutAt t p R w (k + 1) v wr where
  row := by
    have := h.row
    have e : (Lg.cks t.e (p + manyB (R.take k)) (bl x)).take (cutB x).length = Lg.cks t.e (p + manyB (R.take k)) (bl x) := List.take_of_length_le (by rw [Lg.cks_length, ← cutB_plc]; exact Nat.le_refl _)
    rw [e] at this
    rw [bls_take_up hx, cksAll_append]
    exact this
  hd := h.ch.blk hd rfl
  below := hb.trans (h.ch.to_below hb.size)
  fit := by rw [many_take_up hx, ← cutB_plc]; omega
end

def HcutPost (t : Lg.Top) (p : Nat) (R : List ByteArray) (w : World) (x : Ending) (w' : World) : Prop :=
  Below w.heap.size w w' ∧ ((p + manyB R ≤ 127 ∧ ∃ v, x = .returned (.tuple #[v, .bool true]) ∧ RowC w' w.heap.size v (Lg.cksAll t.e p (bls R))) ∨ (¬ p + manyB R ≤ 127 ∧ x = .returned (.tuple #[.slice none 0 0, .bool false])))

theorem five_one (a b : Int) (c d : Bool) (e : ByteArray) : ∀ u ∈ [Value.int .i64 a, .int .i64 b, .bool c, .bool d, .string e], u.oneCell' = true := by
  intro u hu
  simp only [List.mem_cons, List.not_mem_nil, or_false] at hu
  rcases hu with rfl | rfl | rfl | rfl | rfl <;> rfl
theorem room_c {q : Nat} (h : q ≤ 127) : q + 1 ≤ maxLen := by unfold maxLen; omega
theorem bytes_c {q : Nat} (h : q ≤ 127) : (q + 1) * 40 ≤ 140737488355328 := by omega
theorem base_c {b : Nat} {w : World} (h : b ≤ w.heap.size) (o : Obj) : b ≤ (w.alloc o).heap.size := by
  show b ≤ (w.heap.push o).size
  rw [Array.size_push]; omega

set_option maxRecDepth 20000 in
set_option maxHeartbeats 2000000 in
theorem hcut_any (t : Lg.Top) (p : Nat) (v : Value) (R : List ByteArray) (w : World) (hr : Strs w v R) (hs : size R ≤ 1048576) (hp : p ≤ 127) :
    Calls Tryd.prog 58 #[HdV t, v, .int .i64 (p : Int)] w (HcutPost t p R w) := by
  obtain ⟨A, ca, rfl, hca, hA⟩ := hr
  have HA := Lib.hid hA
  have HS := Lib.hid hs
  have hlen : R.length ≤ 1048576 := by unfold size at hs; omega
  have h0 : CutAt t p R w 0 (.slice none 0 0) (w.alloc (.cells (HdC t) 63)) :=
    { row := World.ownsRow_nil _ _ _ _, hd := Blk.new w 63 (HdC t), below := (Below.refl _ _).alloc (Nat.le_refl _) _, fit := by show p + 0 ≤ 127; omega }
  clear hA hs
  obtain ⟨i0, hin, hz0, hz1, hz2⟩ := info_parts info_chunk
  go_enter Tryd.func58, Tryd.ntmps58
  go_wp2_with fail
  go_loopw [8, 16] (fun v8 v16 wr => ∃ k : Nat, k ≤ R.length ∧ v16 = .int .i64 (k : Int) ∧ CutAt t p R w k v8 wr) (fun _ v _ => R.length - (intOf v).toNat)
  case atStart => exact ⟨0, Nat.zero_le _, rfl, h0⟩
  case round =>
    obtain ⟨k, hk, rfl, hL⟩ := hrel
    clear h0
    have HL := Lib.hid hL
    by_cases hlt : k < R.length
    · obtain ⟨x, hx⟩ : ∃ x, R[k]? = some x := ⟨_, List.getElem?_eq_getElem hlt⟩
      obtain ⟨b1, o1, rfl, l1, c1⟩ := HA.out k x hx
      have d1 := (hL.below.cell (p := ⟨b1, o1 + k, none⟩) l1).trans c1
      have hxs : x.size ≤ 1048576 := by have := HS.out; have := size_mem hx; omega
      obtain ⟨A8, cap8, rfl⟩ := owns_slice hL.row'
      have HX := Lib.hid hx
      have hfit := hL.fit
      obtain ⟨m, hm⟩ : ∃ m, m = manyB (R.take k) := ⟨_, rfl⟩
      have HM := Lib.hid hm
      rw [← hm] at hfit
      clear hL c1 hx
      go_wp2_with fail
      refine (chunkcut_any x wr hxs).mono ?_
      rintro e w2 ⟨v11, rfl, hpc, hb2⟩
      obtain ⟨n, hn⟩ : ∃ n, n = (cutB x).length := ⟨_, rfl⟩
      have HNN := Lib.hid hn
      have hn2 : n ≤ 1048576 := by
        have h1 := many_take_up HX.out
        have h2 := many_take R (k + 1)
        have h3 := many_le R
        have h4 := HS.out
        rw [hn, cutB_plc]
        omega
      have hpc' := hpc
      rw [← hn] at hpc'
      obtain ⟨A11, cap11, rfl⟩ := owns_slice hpc'
      have HPC := Lib.hid hpc
      have HB2 := Lib.hid hb2
      have HL2 := Lib.hid (And.intro (HL.out.hd.older hb2 HL.out.hd.lt) (HL.out.below.trans (hb2.mono HL.out.below.size)))
      have HP0 := Lib.hid (show PieceAt t p R w w2 k 0 x (.slice A8 (manyB (R.take k)) cap8) w2 from ⟨by
        show w2.ownsRow _ _ _ _ _ _
        rw [List.take_zero, List.append_nil]
        exact owns_ch (T := fun _ => false) (B := 0) HL.out.row (Ch.of_below hb2) (fun _ => rfl), Ch.refl _ _ _⟩)
      rw [← hm] at HP0 ⊢
      clear hpc hpc' hb2 hn hm d1
      by_cases hf : p + m + n ≤ 127
      · go_wp2_with fail
        go_loopw [8, 32] (fun v8 v32 wr2 => ∃ j : Nat, j ≤ n ∧ v32 = .int .i64 (j : Int) ∧ PieceAt t p R w w2 k j x v8 wr2) (fun _ v _ => n - (intOf v).toNat)
        case atStart => exact ⟨0, Nat.zero_le _, rfl, HP0.out⟩
        case round =>
          obtain ⟨j, hj, rfl, hP⟩ := hrel
          clear HP0
          have HP := Lib.hid hP
          have hrow := hP.row' (by rw [← HNN.out]; exact hj)
          rw [← HM.out] at hrow
          obtain ⟨q, hq⟩ : ∃ q, q = m + j := ⟨_, rfl⟩
          have HQ := Lib.hid hq
          rw [← hq] at hrow
          have hq2 : q ≤ 127 := by omega
          obtain ⟨A9, cap9, rfl⟩ := owns_slice hrow
          by_cases hlt2 : j < n
          · obtain ⟨y, hy⟩ : ∃ y, (cutB x)[j]? = some y := ⟨_, List.getElem?_eq_getElem (by rw [← HNN.out]; exact hlt2)⟩
            obtain ⟨A', cap', e, -, hat⟩ := Strs.of_row (owns_ch (T := Tc) HPC.out hP.ch (fun _ => rfl))
            injection e with e1 e2 e3
            subst e1 e3
            obtain ⟨b2, o2, rfl, l2, c2⟩ := hat j y hy
            obtain ⟨⟨e0, -, -⟩, -⟩ := three (hP.ch.blk HL2.out.1 rfl)
            obtain ⟨z, hz⟩ : ∃ z, (p : Int) + (q : Int) = z := ⟨_, rfl⟩
            obtain ⟨fb, hfb⟩ : ∃ b, ((j : Int) == 0) = b := ⟨_, rfl⟩
            obtain ⟨lb, hlb⟩ : ∃ b, ((j : Int) == (n : Int) - 1) = b := ⟨_, rfl⟩
            have HZ := Lib.hid hz
            have HFB := Lib.hid (show decide (j = 0) = fb by rw [← hfb, Bool.eq_iff_iff]; simp)
            have HLB := Lib.hid (show decide (j + 1 = (cutB x).length) = lb by rw [← hlb, ← HNN.out, Bool.eq_iff_iff]; simp; omega)
            have HY := Lib.hid hy
            have HCH := Lib.hid hP.ch
            have HSZ := Lib.hid (show w.heap.size ≤ wr.heap.size from Nat.le_trans HL2.out.2.size hP.ch.size)
            have HROW := Lib.hid hrow
            clear hP hrow hq hat e2 hy
            go_wp2_with (at_builtin; refine wpList_append_lies _ rfl (.tmp 37) (.tmp 53) 43 rfl w.heap.size 45 i0 (.agg #[.int .i64 0, .int .i64 0, .bool false, .bool false, .string ⟨#[]⟩]) 5 40 Tryd.underlying43 hin hz0 hz1 hz2 rfl (by decide) (.slice A9 q cap9) q _ rfl (HROW.out.alloc _) ⟨wr.heap.size, 0, none⟩ 1 1 [.int .i64 t.e, .int .i64 z, .bool fb, .bool lb, .string y] rfl rfl (cell_five_new wr _ _ _ _ _ 45) (five_one _ _ _ _ _) (by decide) (room_c hq2) (bytes_c hq2) (base_c HSZ.out _) _ rfl ?_; intro g1 cap1 w4 hown4 hgrow4 _ _; have hch4 := ((Ch.refl Tc w.heap.size wr).alloc (.cells #[.int .i64 t.e, .int .i64 z, .bool fb, .bool lb, .string y] 45)).trans (ch_of_append (T := Tc) (HROW.out.alloc _) hgrow4 (fun _ => rfl)); have HN := Lib.hid (PieceAt.next (v4 := .slice (some ⟨g1, 0, none⟩) (q + 1) cap1) HY.out HCH.out hch4 (HQ.out.trans (by rw [HM.out])) HZ.out.symm HFB.out HLB.out hown4); clear hown4 hgrow4 hch4)
            go_roundw
            case rel => exact ⟨j + 1, by omega, by go_num, HN.out⟩
            case measure => simp [intOf]; omega
          · obtain rfl : j = n := by omega
            have HC := Lib.hid (show CutAt t p R w (k + 1) (.slice A9 q cap9) _ from PieceAt.done (by rw [← HNN.out]; exact hP) HX.out HL2.out.1 HL2.out.2 (by rw [← HM.out, ← HNN.out]; exact hf))
            clear hP hrow hq
            go_wp2_with fail
            go_roundw
            case rel => exact ⟨k + 1, by omega, by go_num, HC.out⟩
            case measure => simp [intOf]; omega
      · have HNO := Lib.hid (show ¬ p + manyB R ≤ 127 by
          have h1 := many_take_up HX.out
          have h2 := many_take R (k + 1)
          rw [← cutB_plc, ← HNN.out, ← HM.out] at h1
          omega)
        go_wp2_with fail
        go_ret2
        exact ⟨HL2.out.2, .inr ⟨HNO.out, rfl⟩⟩
    · obtain rfl : k = R.length := by omega
      have hrow := hL.row
      have hfit := hL.fit
      rw [List.take_length] at hrow hfit
      have HF := Lib.hid (And.intro hL.below (And.intro hfit hrow))
      obtain ⟨A8, cap8, rfl⟩ := owns_slice hrow
      clear hL hrow hfit HL
      go_wp2_with fail
      go_ret2
      exact ⟨HF.out.1, .inl ⟨HF.out.2.1, _, rfl, HF.out.2.2⟩⟩

end Go.Proofs.YtgahcbhdnplnoaaDoor
