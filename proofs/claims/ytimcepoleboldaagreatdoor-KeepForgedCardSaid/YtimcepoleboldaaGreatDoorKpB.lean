/- Several texts in one: LogBls, LogHcut, LogPutHead, LogPut, LogPutWalk, LogAppendC, LogRenewC, LogHead, LogNewest. -/
import Derived.Test.YtimcepoleboldaaGreatDoorStrs
import Derived.Test.YtimcepoleboldaaGreatDoorLogScan
import Derived.Test.YtimcepoleboldaaGreatDoorKpA
import Derived.Test.YtimcepoleboldaaGreatDoorLogSmall
import Derived.Deep.AppendLies
import Derived.OwnWalk
import Derived.Deep.RegionWith
import Derived.RegionTactic
import Derived.Deep.RegionHeld3
/- How many places texts take. -/
namespace Go.Proofs.YtimcepoleboldaaGreatDoor
open Go.RowKit

/-- A text as its bytes. -/
abbrev bl (s : ByteArray) : List UInt8 := s.data.toList
/-- Texts as their bytes. -/
def bls (l : List ByteArray) : List (List UInt8) := l.map bl
/-- Bytes as texts. -/
def mks (l : List (List UInt8)) : List ByteArray := l.map fun b => ⟨b.toArray⟩

theorem mks_bls (l : List ByteArray) : mks (bls l) = l := by
  unfold mks bls
  rw [List.map_map]
  conv => rhs; rw [← List.map_id l]
  apply List.map_congr_left
  intro s _
  show (⟨s.data.toList.toArray⟩ : ByteArray) = s
  simp
theorem bls_mks (l : List (List UInt8)) : bls (mks l) = l := by
  unfold mks bls
  rw [List.map_map]
  conv => rhs; rw [← List.map_id l]
  apply List.map_congr_left
  intro s _
  show (⟨s.toArray⟩ : ByteArray).data.toList = s
  simp
theorem bls_append (a b : List ByteArray) : bls (a ++ b) = bls a ++ bls b := by simp [bls]
theorem mks_append (a b : List (List UInt8)) : mks (a ++ b) = mks a ++ mks b := by simp [mks]

theorem cutB_plc (s : ByteArray) : (cutB s).length = Lg.plc (bl s) := by unfold cutB Lg.plc; rw [List.length_map]

/-- How many places texts take. -/
def manyB (l : List ByteArray) : Nat := Lg.many (bls l)

theorem many_take_up {l : List ByteArray} {k : Nat} {x : ByteArray} (h : l[k]? = some x) : manyB (l.take (k + 1)) = manyB (l.take k) + Lg.plc (bl x) := by
  obtain ⟨h1, rfl⟩ := List.getElem?_eq_some_iff.1 h
  unfold manyB
  rw [List.take_succ_eq_append_getElem h1, bls_append, Lg.many_append]
  rfl
theorem many_take (l : List ByteArray) (k : Nat) : manyB (l.take k) ≤ manyB l := by
  conv => rhs; rw [← List.take_append_drop k l]
  unfold manyB
  rw [bls_append, Lg.many_append]
  omega

theorem plc_eq (n : Nat) : ∀ (s : List UInt8), s.length ≤ n → Lg.plc s = if s.length = 0 then 1 else (s.length + 95) / 96 := by
  induction n using Nat.strongRecOn with
  | _ n ih =>
    intro s hs
    unfold Lg.plc
    by_cases h : 96 < s.length
    · have h1 := ih (n - 96) (by omega) (s.drop 96) (by rw [List.length_drop]; omega)
      unfold Lg.plc at h1
      rw [Cn.cut_long s h, List.length_cons, h1, List.length_drop]
      rw [if_neg (by omega), if_neg (by omega)]
      omega
    · rw [Cn.cut_short s (by omega)]
      show 1 = _
      split
      · rfl
      · omega

theorem plc_size (s : ByteArray) : Lg.plc (bl s) = if s.size = 0 then 1 else (s.size + 95) / 96 := by
  have e : (bl s).length = s.size := Array.length_toList
  rw [plc_eq _ (bl s) (Nat.le_refl _), e]

theorem plc_le (s : ByteArray) : Lg.plc (bl s) ≤ s.size + 1 := by
  rw [plc_size]
  split <;> omega

theorem many_le (l : List ByteArray) : manyB l ≤ size l := by
  induction l with
  | nil => exact Nat.le_refl _
  | cons s l ih =>
    have h := plc_le s
    have e : manyB (s :: l) = Lg.plc (bl s) + manyB l := rfl
    unfold size at ih ⊢
    rw [e, List.map_cons, List.sum_cons, List.length_cons]
    omega
theorem many_ge (l : List ByteArray) : l.length ≤ manyB l := by
  induction l with
  | nil => exact Nat.le_refl _
  | cons s l ih =>
    have h := Lg.plc_pos (bl s)
    have e : manyB (s :: l) = Lg.plc (bl s) + manyB l := rfl
    rw [e, List.length_cons]
    omega

theorem size_mem {l : List ByteArray} {s : ByteArray} {k : Nat} (h : l[k]? = some s) : s.size ≤ size l := by
  have h1 := List.mem_of_getElem? h
  unfold size
  have : s.size ≤ (l.map ByteArray.size).sum := by
    clear h
    induction l with
    | nil => cases h1
    | cons x l ih =>
      rw [List.map_cons, List.sum_cons]
      rcases List.mem_cons.1 h1 with rfl | h1
      · omega
      · have := ih h1; omega
  omega

end Go.Proofs.YtimcepoleboldaaGreatDoor

/- What a head's cut comes to, the program's: records as chunks, if there are as many places. -/
namespace Go.Proofs.YtimcepoleboldaaGreatDoor
open Go.RowKit

/-- A chunk's cells, in a row. -/
def chC (c : Cn.Chu) : List Value := [.int .i64 c.e, .int .i64 c.q, .bool c.f, .bool c.l, .string ⟨c.d.toArray⟩]
def chCs (l : List Cn.Chu) : List Value := l.flatMap chC
theorem chCs_append (l : List Cn.Chu) (c : Cn.Chu) : chCs (l ++ [c]) = chCs l ++ chC c := by simp [chCs]
theorem chCs_length (l : List Cn.Chu) : (chCs l).length = l.length * 5 := by
  induction l with
  | nil => rfl
  | cons c l ih =>
    show (chC c ++ chCs l).length = _
    rw [List.length_append, ih, List.length_cons]
    show 5 + _ = _
    omega
theorem chCs_get {l : List Cn.Chu} {j : Nat} {c : Cn.Chu} (h : l[j]? = some c) (i : Nat) (hi : i < 5) : (chCs l)[j * 5 + i]? = (chC c)[i]? := by
  induction l generalizing j with
  | nil => simp at h
  | cons x l ih =>
    show (chC x ++ chCs l)[j * 5 + i]? = _
    cases j with
    | zero =>
      simp only [List.getElem?_cons_zero, Option.some.injEq] at h
      subst h
      rw [List.getElem?_append_left (by show _ < 5; omega)]
      simp
    | succ j =>
      rw [List.getElem?_append_right (by show 5 ≤ _; omega)]
      have e : (j + 1) * 5 + i - (chC x).length = j * 5 + i := by show (j + 1) * 5 + i - 5 = _; omega
      rw [e]
      exact ih (by simpa using h)

/-- A row of chunks that a call has made. -/
def RowC (w : World) (base : Nat) (v : Value) (l : List Cn.Chu) : Prop := w.ownsRow base 95 5 v l.length (chCs l)

theorem owns_slice {w : World} {base size n : Nat} {e : TypeId} {v : Value} {xs : List Value} (h : w.ownsRow base e size v n xs) : ∃ A cap, v = .slice A n cap := by
  rcases h.2 with ⟨rfl, h0⟩ | ⟨g, cap, cur, rfl, _⟩
  · exact ⟨none, 0, by rw [h0]⟩
  · exact ⟨some ⟨g, 0, none⟩, cap, rfl⟩

/-- Blocks of chunks. -/
def Tc : Obj → Bool
  | .cells _ t _ => t == 95
  | _ => false

theorem info_chunk : (Tryz.prog.info? 95).map (fun i => (i.zero, i.size, i.bytes)) = some (some (.agg #[.int .i64 0, .int .i64 0, .bool false, .bool false, .string ⟨#[]⟩]), 5, 40) := by kernel_rfl
theorem cell_five_new (w : World) (a b c d e : Value) (t : TypeId) : ∀ j u, [a, b, c, d, e][j]? = some u → (w.alloc (.cells #[a, b, c, d, e] t)).cell? ((⟨w.heap.size, 0, none⟩ : Addr).add j) = some u := by
  intro j u hj
  have h := (Blk.new w t #[a, b, c, d, e]).cell j
  rw [Addr.add_lit, Nat.zero_add, h]
  simpa using hj
theorem chC_one (c : Cn.Chu) : ∀ u ∈ chC c, u.oneCell' = true := by
  intro u hu
  simp only [chC, List.mem_cons, List.not_mem_nil, or_false] at hu
  rcases hu with rfl | rfl | rfl | rfl | rfl <;> rfl

/-! ### Pieces as chunks -/
theorem cksGo_get (e : Int) : ∀ (ds : List (List UInt8)) (p : Nat) (fst : Bool) (i : Nat) (d : List UInt8), ds[i]? = some d → (Lg.cksGo e p fst ds)[i]? = some ⟨e, ((p + i : Nat) : Int), fst && decide (i = 0), decide (i + 1 = ds.length), d⟩ := by
  intro ds
  induction ds with
  | nil => intro p fst i d h; simp at h
  | cons x ds ih =>
    intro p fst i d h
    cases i with
    | zero =>
      simp only [List.getElem?_cons_zero, Option.some.injEq] at h
      subst h
      show some (⟨e, (p : Int), fst, ds.isEmpty, x⟩ : Cn.Chu) = _
      congr 1
      ext1
      · rfl
      · rfl
      · simp
      · show ds.isEmpty = decide (0 + 1 = (x :: ds).length)
        cases ds <;> simp
      · rfl
    | succ i =>
      show (Lg.cksGo e (p + 1) false ds)[i]? = _
      rw [ih (p + 1) false i d (by simpa using h)]
      congr 1
      ext1
      · rfl
      · show ((p + 1 + i : Nat) : Int) = ((p + (i + 1) : Nat) : Int); congr 1; omega
      · simp
      · show decide (i + 1 = ds.length) = decide (i + 1 + 1 = (x :: ds).length); simp
      · rfl
theorem cks_get (e : Int) (p : Nat) (r : List UInt8) (i : Nat) (d : List UInt8) (h : (Cn.cut r)[i]? = some d) : (Lg.cks e p r)[i]? = some ⟨e, ((p + i : Nat) : Int), decide (i = 0), decide (i + 1 = (Cn.cut r).length), d⟩ := by
  have := cksGo_get e (Cn.cut r) p true i d h
  rwa [Bool.true_and] at this

theorem cksAll_append (e : Int) : ∀ (rs : List (List UInt8)) (p : Nat) (r : List UInt8), Lg.cksAll e p (rs ++ [r]) = Lg.cksAll e p rs ++ Lg.cks e (p + Lg.many rs) r := by
  intro rs
  induction rs with
  | nil => intro p r; simp [Lg.cksAll, Lg.many]
  | cons x rs ih =>
    intro p r
    show Lg.cks e p x ++ Lg.cksAll e (p + Lg.plc x) (rs ++ [r]) = Lg.cks e p x ++ Lg.cksAll e (p + Lg.plc x) rs ++ _
    rw [ih, List.append_assoc]
    congr 2
    show Lg.cks e (p + Lg.plc x + Lg.many rs) r = Lg.cks e (p + (Lg.plc x + Lg.many rs)) r
    rw [Nat.add_assoc]

theorem bls_take_up {l : List ByteArray} {k : Nat} {x : ByteArray} (h : l[k]? = some x) : bls (l.take (k + 1)) = bls (l.take k) ++ [bl x] := by
  obtain ⟨h1, rfl⟩ := List.getElem?_eq_some_iff.1 h
  rw [List.take_succ_eq_append_getElem h1, bls_append]
  rfl

theorem cutB_at {x : ByteArray} {j : Nat} {y : ByteArray} (h : (cutB x)[j]? = some y) : (Cn.cut (bl x))[j]? = some y.data.toList := by
  unfold cutB at h
  rw [List.getElem?_map] at h
  cases hd : (Cn.cut x.data.toList)[j]? with
  | none => rw [hd] at h; cases h
  | some d =>
    rw [hd] at h
    simp only [Option.map_some, Option.some.injEq] at h
    subst h
    rfl

/-- What cut's outer loop knows behind k records. -/
structure CutAt (t : Lg.Top) (p : Nat) (R : List ByteArray) (w : World) (k : Nat) (v : Value) (wr : World) : Prop where
  row : RowC wr w.heap.size v (Lg.cksAll t.e p (bls (R.take k)))
  hd : Blk wr w.heap.size 108 (HdC t)
  below : Below w.heap.size w wr
  fit : p + manyB (R.take k) ≤ 127

/-- What its inner loop knows behind j pieces of the record x. -/
structure PieceAt (t : Lg.Top) (p : Nat) (R : List ByteArray) (w w2 : World) (k j : Nat) (x : ByteArray) (v : Value) (wr : World) : Prop where
  row : RowC wr w.heap.size v (Lg.cksAll t.e p (bls (R.take k)) ++ (Lg.cks t.e (p + manyB (R.take k)) (bl x)).take j)
  ch : Ch Tc w.heap.size w2 wr

theorem CutAt.length (t : Lg.Top) (p : Nat) (R : List ByteArray) (k : Nat) : (Lg.cksAll t.e p (bls (R.take k))).length = manyB (R.take k) := Lg.cksAll_length _ _ _
theorem CutAt.row' {t : Lg.Top} {p : Nat} {R : List ByteArray} {w : World} {k : Nat} {v : Value} {wr : World} (h : CutAt t p R w k v wr) : wr.ownsRow w.heap.size 95 5 v (manyB (R.take k)) (chCs (Lg.cksAll t.e p (bls (R.take k)))) := by
  have := h.row
  unfold RowC at this
  rwa [CutAt.length] at this

section
variable {t : Lg.Top} {p : Nat} {R : List ByteArray} {w w2 w4 wr : World} {k j : Nat} {x y : ByteArray} {v v4 : Value}
/-- The chunks so far. -/
def soFar (t : Lg.Top) (p : Nat) (R : List ByteArray) (k j : Nat) (x : ByteArray) : List Cn.Chu := Lg.cksAll t.e p (bls (R.take k)) ++ (Lg.cks t.e (p + manyB (R.take k)) (bl x)).take j
theorem soFar_length (hj : j ≤ (cutB x).length) : (soFar t p R k j x).length = manyB (R.take k) + j := by
  unfold soFar
  rw [List.length_append, CutAt.length, List.length_take, Lg.cks_length, ← cutB_plc]
  omega
theorem PieceAt.row' (h : PieceAt t p R w w2 k j x v wr) (hj : j ≤ (cutB x).length) : wr.ownsRow w.heap.size 95 5 v (manyB (R.take k) + j) (chCs (soFar t p R k j x)) := by
  have := h.row
  unfold RowC at this
  rw [show Lg.cksAll t.e p (bls (R.take k)) ++ (Lg.cks t.e (p + manyB (R.take k)) (bl x)).take j = soFar t p R k j x from rfl, soFar_length hj] at this
  exact this
theorem soFar_next (hy : (cutB x)[j]? = some y) : soFar t p R k (j + 1) x = soFar t p R k j x ++ [⟨t.e, ((p + manyB (R.take k) + j : Nat) : Int), decide (j = 0), decide (j + 1 = (cutB x).length), y.data.toList⟩] := by
  unfold soFar
  have h1 := cks_get t.e (p + manyB (R.take k)) (bl x) j _ (cutB_at hy)
  have h2 : (cutB x).length = (Cn.cut (bl x)).length := by unfold cutB; rw [List.length_map]
  rw [List.take_add_one, h1, ← List.append_assoc, h2]
  rfl
theorem PieceAt.next (hy : (cutB x)[j]? = some y) (hch0 : Ch Tc w.heap.size w2 wr) (hch : Ch Tc w.heap.size wr w4) {z : Int} {fb lb : Bool} {q : Nat} (hq : q = manyB (R.take k) + j) (hz : z = (p : Int) + (q : Int)) (hfb : decide (j = 0) = fb) (hlb : decide (j + 1 = (cutB x).length) = lb)
    (hown : w4.ownsRow w.heap.size 95 5 v4 (q + 1) (chCs (soFar t p R k j x) ++ [.int .i64 t.e, .int .i64 z, .bool fb, .bool lb, .string y])) : PieceAt t p R w w2 k (j + 1) x v4 w4 := by
  have hjl : j + 1 ≤ (cutB x).length := (List.getElem?_eq_some_iff.1 hy).1
  refine ⟨?_, hch0.trans hch⟩
  show w4.ownsRow w.heap.size 95 5 v4 (soFar t p R k (j + 1) x).length (chCs (soFar t p R k (j + 1) x))
  rw [soFar_length hjl, soFar_next hy, chCs_append]
  have e : chC ⟨t.e, ((p + manyB (R.take k) + j : Nat) : Int), decide (j = 0), decide (j + 1 = (cutB x).length), y.data.toList⟩ = [.int .i64 t.e, .int .i64 z, .bool fb, .bool lb, .string y] := by
    unfold chC
    rw [hfb, hlb, hz, hq]
    have e2 : (⟨y.data.toList.toArray⟩ : ByteArray) = y := by simp
    rw [e2]
    have e3 : ((p + manyB (R.take k) + j : Nat) : Int) = (p : Int) + ((manyB (R.take k) + j : Nat) : Int) := by omega
    rw [e3]
  rw [e, show manyB (R.take k) + (j + 1) = q + 1 by omega]
  exact hown
theorem PieceAt.done (h : PieceAt t p R w w2 k (cutB x).length x v wr) (hx : R[k]? = some x) (hd : Blk w2 w.heap.size 108 (HdC t)) (hb : Below w.heap.size w w2) (hfit : p + manyB (R.take k) + (cutB x).length ≤ 127) : CutAt t p R w (k + 1) v wr where
  row := by
    have := h.row
    have e : (Lg.cks t.e (p + manyB (R.take k)) (bl x)).take (cutB x).length = Lg.cks t.e (p + manyB (R.take k)) (bl x) := List.take_of_length_le (by rw [Lg.cks_length, ← cutB_plc]; exact Nat.le_refl _)
    rw [e] at this
    rw [bls_take_up hx, cksAll_append]
    exact this
  hd := h.ch.blk hd rfl
  below := hb.trans (h.ch.to_below hb.size)
  fit := by rw [many_take_up hx, ← cutB_plc]; omega
end

def HcutPost (t : Lg.Top) (p : Nat) (R : List ByteArray) (w : World) (x : Ending) (w' : World) : Prop :=
  Below w.heap.size w w' ∧ ((p + manyB R ≤ 127 ∧ ∃ v, x = .returned (.tuple #[v, .bool true]) ∧ RowC w' w.heap.size v (Lg.cksAll t.e p (bls R))) ∨ (¬ p + manyB R ≤ 127 ∧ x = .returned (.tuple #[.slice none 0 0, .bool false])))

theorem five_one (a b : Int) (c d : Bool) (e : ByteArray) : ∀ u ∈ [Value.int .i64 a, .int .i64 b, .bool c, .bool d, .string e], u.oneCell' = true := by
  intro u hu
  simp only [List.mem_cons, List.not_mem_nil, or_false] at hu
  rcases hu with rfl | rfl | rfl | rfl | rfl <;> rfl
theorem room_c {q : Nat} (h : q ≤ 127) : q + 1 ≤ maxLen := by unfold maxLen; omega
theorem bytes_c {q : Nat} (h : q ≤ 127) : (q + 1) * 40 ≤ 140737488355328 := by omega
theorem base_c {b : Nat} {w : World} (h : b ≤ w.heap.size) (o : Obj) : b ≤ (w.alloc o).heap.size := by
  show b ≤ (w.heap.push o).size
  rw [Array.size_push]; omega

set_option maxRecDepth 20000 in
set_option maxHeartbeats 2000000 in
theorem hcut_any (t : Lg.Top) (p : Nat) (v : Value) (R : List ByteArray) (w : World) (hr : Strs w v R) (hs : size R ≤ 1048576) (hp : p ≤ 127) :
    Calls Tryz.prog 122 #[HdV t, v, .int .i64 (p : Int)] w (HcutPost t p R w) := by
  obtain ⟨A, ca, rfl, hca, hA⟩ := hr
  have HA := Lib.hid hA
  have HS := Lib.hid hs
  have hlen : R.length ≤ 1048576 := by unfold size at hs; omega
  have h0 : CutAt t p R w 0 (.slice none 0 0) (w.alloc (.cells (HdC t) 108)) :=
    { row := World.ownsRow_nil _ _ _ _, hd := Blk.new w 108 (HdC t), below := (Below.refl _ _).alloc (Nat.le_refl _) _, fit := by show p + 0 ≤ 127; omega }
  clear hA hs
  obtain ⟨i0, hin, hz0, hz1, hz2⟩ := info_parts info_chunk
  go_enter Tryz.func122, Tryz.ntmps122
  go_wp2_with fail
  go_loopw [8, 16] (fun v8 v16 wr => ∃ k : Nat, k ≤ R.length ∧ v16 = .int .i64 (k : Int) ∧ CutAt t p R w k v8 wr) (fun _ v _ => R.length - (intOf v).toNat)
  case atStart => exact ⟨0, Nat.zero_le _, rfl, h0⟩
  case round =>
    obtain ⟨k, hk, rfl, hL⟩ := hrel
    clear h0
    have HL := Lib.hid hL
    by_cases hlt : k < R.length
    · obtain ⟨x, hx⟩ : ∃ x, R[k]? = some x := ⟨_, List.getElem?_eq_getElem hlt⟩
      obtain ⟨b1, o1, rfl, l1, c1⟩ := HA.out k x hx
      have d1 := (hL.below.cell (p := ⟨b1, o1 + k, none⟩) l1).trans c1
      have hxs : x.size ≤ 1048576 := by have := HS.out; have := size_mem hx; omega
      obtain ⟨A8, cap8, rfl⟩ := owns_slice hL.row'
      have HX := Lib.hid hx
      have hfit := hL.fit
      obtain ⟨m, hm⟩ : ∃ m, m = manyB (R.take k) := ⟨_, rfl⟩
      have HM := Lib.hid hm
      rw [← hm] at hfit
      clear hL c1 hx
      go_wp2_with fail
      refine (chunkcut_any x wr hxs).mono ?_
      rintro e w2 ⟨v11, rfl, hpc, hb2⟩
      obtain ⟨n, hn⟩ : ∃ n, n = (cutB x).length := ⟨_, rfl⟩
      have HNN := Lib.hid hn
      have hn2 : n ≤ 1048576 := by
        have h1 := many_take_up HX.out
        have h2 := many_take R (k + 1)
        have h3 := many_le R
        have h4 := HS.out
        rw [hn, cutB_plc]
        omega
      have hpc' := hpc
      rw [← hn] at hpc'
      obtain ⟨A11, cap11, rfl⟩ := owns_slice hpc'
      have HPC := Lib.hid hpc
      have HB2 := Lib.hid hb2
      have HL2 := Lib.hid (And.intro (HL.out.hd.older hb2 HL.out.hd.lt) (HL.out.below.trans (hb2.mono HL.out.below.size)))
      have HP0 := Lib.hid (show PieceAt t p R w w2 k 0 x (.slice A8 (manyB (R.take k)) cap8) w2 from ⟨by
        show w2.ownsRow _ _ _ _ _ _
        rw [List.take_zero, List.append_nil]
        exact owns_ch (T := fun _ => false) (B := 0) HL.out.row (Ch.of_below hb2) (fun _ => rfl), Ch.refl _ _ _⟩)
      rw [← hm] at HP0 ⊢
      clear hpc hpc' hb2 hn hm d1
      by_cases hf : p + m + n ≤ 127
      · go_wp2_with fail
        go_loopw [8, 32] (fun v8 v32 wr2 => ∃ j : Nat, j ≤ n ∧ v32 = .int .i64 (j : Int) ∧ PieceAt t p R w w2 k j x v8 wr2) (fun _ v _ => n - (intOf v).toNat)
        case atStart => exact ⟨0, Nat.zero_le _, rfl, HP0.out⟩
        case round =>
          obtain ⟨j, hj, rfl, hP⟩ := hrel
          clear HP0
          have HP := Lib.hid hP
          have hrow := hP.row' (by rw [← HNN.out]; exact hj)
          rw [← HM.out] at hrow
          obtain ⟨q, hq⟩ : ∃ q, q = m + j := ⟨_, rfl⟩
          have HQ := Lib.hid hq
          rw [← hq] at hrow
          have hq2 : q ≤ 127 := by omega
          obtain ⟨A9, cap9, rfl⟩ := owns_slice hrow
          by_cases hlt2 : j < n
          · obtain ⟨y, hy⟩ : ∃ y, (cutB x)[j]? = some y := ⟨_, List.getElem?_eq_getElem (by rw [← HNN.out]; exact hlt2)⟩
            obtain ⟨A', cap', e, -, hat⟩ := Strs.of_row (owns_ch (T := Tc) HPC.out hP.ch (fun _ => rfl))
            injection e with e1 e2 e3
            subst e1 e3
            obtain ⟨b2, o2, rfl, l2, c2⟩ := hat j y hy
            obtain ⟨⟨e0, -, -⟩, -⟩ := three (hP.ch.blk HL2.out.1 rfl)
            obtain ⟨z, hz⟩ : ∃ z, (p : Int) + (q : Int) = z := ⟨_, rfl⟩
            obtain ⟨fb, hfb⟩ : ∃ b, ((j : Int) == 0) = b := ⟨_, rfl⟩
            obtain ⟨lb, hlb⟩ : ∃ b, ((j : Int) == (n : Int) - 1) = b := ⟨_, rfl⟩
            have HZ := Lib.hid hz
            have HFB := Lib.hid (show decide (j = 0) = fb by rw [← hfb, Bool.eq_iff_iff]; simp)
            have HLB := Lib.hid (show decide (j + 1 = (cutB x).length) = lb by rw [← hlb, ← HNN.out, Bool.eq_iff_iff]; simp; omega)
            have HY := Lib.hid hy
            have HCH := Lib.hid hP.ch
            have HSZ := Lib.hid (show w.heap.size ≤ wr.heap.size from Nat.le_trans HL2.out.2.size hP.ch.size)
            have HROW := Lib.hid hrow
            clear hP hrow hq hat e2 hy
            go_wp2_with (at_builtin; refine wpList_append_lies _ rfl (.tmp 37) (.tmp 53) 172 rfl w.heap.size 95 i0 (.agg #[.int .i64 0, .int .i64 0, .bool false, .bool false, .string ⟨#[]⟩]) 5 40 Tryz.underlying172 hin hz0 hz1 hz2 rfl (by decide) (.slice A9 q cap9) q _ rfl (HROW.out.alloc _) ⟨wr.heap.size, 0, none⟩ 1 1 [.int .i64 t.e, .int .i64 z, .bool fb, .bool lb, .string y] rfl rfl (cell_five_new wr _ _ _ _ _ 95) (five_one _ _ _ _ _) (by decide) (room_c hq2) (bytes_c hq2) (base_c HSZ.out _) _ rfl ?_; intro g1 cap1 w4 hown4 hgrow4 _ _; have hch4 := ((Ch.refl Tc w.heap.size wr).alloc (.cells #[.int .i64 t.e, .int .i64 z, .bool fb, .bool lb, .string y] 95)).trans (ch_of_append (T := Tc) (HROW.out.alloc _) hgrow4 (fun _ => rfl)); have HN := Lib.hid (PieceAt.next (v4 := .slice (some ⟨g1, 0, none⟩) (q + 1) cap1) HY.out HCH.out hch4 (HQ.out.trans (by rw [HM.out])) HZ.out.symm HFB.out HLB.out hown4); clear hown4 hgrow4 hch4)
            go_roundw
            case rel => exact ⟨j + 1, by omega, by go_num, HN.out⟩
            case measure => simp [intOf]; omega
          · obtain rfl : j = n := by omega
            have HC := Lib.hid (show CutAt t p R w (k + 1) (.slice A9 q cap9) _ from PieceAt.done (by rw [← HNN.out]; exact hP) HX.out HL2.out.1 HL2.out.2 (by rw [← HM.out, ← HNN.out]; exact hf))
            clear hP hrow hq
            go_wp2_with fail
            go_roundw
            case rel => exact ⟨k + 1, by omega, by go_num, HC.out⟩
            case measure => simp [intOf]; omega
      · have HNO := Lib.hid (show ¬ p + manyB R ≤ 127 by
          have h1 := many_take_up HX.out
          have h2 := many_take R (k + 1)
          rw [← cutB_plc, ← HNN.out, ← HM.out] at h1
          omega)
        go_wp2_with fail
        go_ret2
        exact ⟨HL2.out.2, .inr ⟨HNO.out, rfl⟩⟩
    · obtain rfl : k = R.length := by omega
      have hrow := hL.row
      have hfit := hL.fit
      rw [List.take_length] at hrow hfit
      have HF := Lib.hid (And.intro hL.below (And.intro hfit hrow))
      obtain ⟨A8, cap8, rfl⟩ := owns_slice hrow
      clear hL hrow hfit HL
      go_wp2_with fail
      go_ret2
      exact ⟨HF.out.1, .inl ⟨HF.out.2.1, _, rfl, HF.out.2.2⟩⟩

end Go.Proofs.YtimcepoleboldaaGreatDoor

/- What putHead comes to, the program's: the call that writes a head. -/
namespace Go.Proofs.YtimcepoleboldaaGreatDoor
open Go.RowKit

/-- Blocks that are P's, or new between two worlds. -/
def New (P : Nat → Prop) (w w' : World) : Nat → Prop := fun k => P k ∨ w.heap.size ≤ k ∧ k < w'.heap.size

def PhPost (P : Nat → Prop) (q g : Nat) (t : Lg.Top) (w : World) (x : Ending) (w' : World) : Prop :=
  ∃ v, x = .returned v ∧ IsCl (New P w w') w' q g v (.wr (Lg.hsec t.e) (Lg.hd t)) ∧ Below w.heap.size w w'

set_option maxRecDepth 20000 in
set_option maxHeartbeats 1000000 in
theorem puthead_any (P : Nat → Prop) (q g : Nat) (t : Lg.Top) (w : World) (h0 : 0 ≤ t.e) (h1 : t.h ≤ 1) :
    Calls Tryz.prog 61 #[.pointer (some ⟨q, 0, none⟩), HdV t] w (PhPost P q g t w) := by
  have hn := Blk.new w 108 (HdC t)
  have hb : Below w.heap.size w (w.alloc (.cells (HdC t) 108)) := (Below.refl _ _).alloc (Nat.le_refl _) _
  have hz : t.e % 2 = ((Lg.hsec t.e : Nat) : Int) := by unfold Lg.hsec; omega
  have HH := Lib.hid h1
  have HZ := Lib.hid hz
  clear h1 hz
  go_enter Tryz.func61, Tryz.ntmps61
  go_wp2_with fail
  generalize w.alloc (.cells (HdC t) 108) = w1 at *
  obtain ⟨⟨c0, c1, c2⟩, -⟩ := three hn
  have HB := Lib.hid (And.intro hn hb)
  clear hn hb
  have e0 := World.new_ne w1 ⟨w.heap.size, 0, none⟩ c0
  have e1 := World.new_ne w1 ⟨w.heap.size, 1, none⟩ c1
  have e2 := World.new_ne w1 ⟨w.heap.size, 2, none⟩ c2
  go_region_held3 (fun W => W.cell? ⟨w.heap.size, 0, none⟩ = some (.int .i64 t.e) ∧ W.cell? ⟨w.heap.size, 1, none⟩ = some (.int .i64 t.b) ∧ W.cell? ⟨w.heap.size, 2, none⟩ = some (.int .i64 (t.h : Int))) (first | assumption | exact ⟨c0, c1, c2⟩ | go_keep)
    (first
      | (go_at_call 95; refine (itoa_any t.h _ HH.out).mono ?_; rintro x w' ⟨rfl, rfl⟩))
  all_goals
    have hC := (Blk.new w1 95 (ChC t.e t.b true true (hafB t.h))).drew
    have hH := (HB.out.1.alloc (.cells (ChC t.e t.b true true (hafB t.h)) 95)).drew
    have hb2 : Below w.heap.size w (w1.alloc (.cells (ChC t.e t.b true true (hafB t.h)) 95)).drew := (HB.out.2.alloc HB.out.2.size _).drew
    have HSZ := HB.out.1.lt
    clear c0 c1 c2 e0 e1 e2 HB
    rename_i hheld
    clear hheld
    generalize (w1.alloc (.cells (ChC t.e t.b true true (hafB t.h)) 95)).drew = w2 at *
    obtain ⟨⟨c0, -, -⟩, -⟩ := three hH
    obtain ⟨d0, d1, d2, d3, d4⟩ := five hC
    have HB2 := Lib.hid (And.intro hb2 HSZ)
    obtain ⟨z, hz⟩ : ∃ z, z = Lg.hsec t.e := ⟨_, rfl⟩
    have hzz : t.e % 2 = (z : Int) := by rw [hz]; exact HZ.out
    have HZ2 := Lib.hid hz
    clear hC hH hb2 HSZ hz HZ
    go_wp2_with fail
    refine (putchunk_any q g z (Lg.hd t) (hafB t.h) (hafB_list t.h) w2 (fun k => w2.heap.size ≤ k ∧ k < w2.heap.size + 3) ⟨by omega, by omega⟩).mono ?_
    rintro x w3 ⟨v, rfl, h3, hb3, hs3⟩
    go_wp2_with fail
    go_ret
    refine ⟨v, rfl, ?_, HB2.out.1.trans (hb3.mono HB2.out.1.size)⟩
    rw [← HZ2.out]
    refine h3.up (Below.refl _ _) (fun j hj => .inr ⟨?_, ?_⟩)
    · have := HB2.out.1.size; omega
    · omega

end Go.Proofs.YtimcepoleboldaaGreatDoor

/- What put comes to, the program's: records as chunks into a half, a barrier, and the calls behind that. -/
namespace Go.Proofs.YtimcepoleboldaaGreatDoor
open Go.RowKit

/-! ### Rows of calls -/
theorem info_fn : (Tryz.prog.info? 54).map (fun i => (i.zero, i.size, i.bytes)) = some (some .nilFunc, 1, 8) := by kernel_rfl

/-- Blocks of calls. -/
def Tf : Obj → Bool
  | .cells _ t _ => t == 54
  | _ => false

theorem IsCl.one {P : Nat → Prop} {w : World} {q g : Nat} {u : Value} {k : Cl} (h : IsCl P w q g u k) : u.oneCell' = true := by
  cases k with
  | ba => rw [show u = _ from h]; rfl
  | wr i c => obtain ⟨a, b, n, s, rfl, _⟩ := h; rfl

set_option maxRecDepth 20000 in
theorem run_append_fn {w : World} {base base2 : Nat} {v1 v2 : Value} {xs ys : List Value} (h : w.ownsRow base 54 1 v1 xs.length xs) (hm : w.ownsRow base2 54 1 v2 ys.length ys) (h1 : ∀ u ∈ ys, u.oneCell' = true) (hl : xs.length + ys.length ≤ 1048576) (hb : base ≤ w.heap.size) (ty : TypeId) :
    ∃ v3 w', (Builtin.append_ #[143, 143] ty #[v1, v2]).run Tryz.prog w = .ok v3 w' ∧ w'.ownsRow base 54 1 v3 (xs ++ ys).length (xs ++ ys) ∧ w.grownBy w' v1.ownBlock := by
  obtain ⟨i0, hi, hz0, hz1, hz2⟩ := info_parts info_fn
  have hm' := hm
  rcases hm.2 with ⟨rfl, h0⟩ | ⟨g, cap, cur, rfl, _⟩
  · have hm0 : ys = [] := List.eq_nil_of_length_eq_zero h0
    subst hm0
    exact ⟨v1, w, run_append_owned_none w base 143 ty 54 i0 1 Tryz.underlying143 hi v1 xs.length _ h, by simpa using h, gr_refl w _⟩
  · obtain ⟨v3, w', hr, h2, h3, _⟩ := run_append_own_at (P := Tryz.prog) w base 143 ty 54 i0 .nilFunc 1 8 Tryz.underlying143 hi hz0 hz1 hz2 rfl (by decide) v1 xs.length _ h ⟨g, 0, none⟩ ys.length cap ys (by simp) (fun j u hj => hm'.cells (g := g) rfl j u hj) h1 (by unfold maxLen; omega) (by omega) hb
    exact ⟨v3, w', hr, by simpa using h2, h3⟩
theorem wpList_append_fn {ops : Array Oper} {rest : List Oper} {o : Oper} {a : Act} {w : World} {Q : Exit → Act → World → Prop} (hg : o.guard = none) (s x : Operand)
    (ho : o.op = .call { callee := .builtin .append, args := #[s, x], argTypes := #[143, 143] })
    {base base2 : Nat} {v1 v2 : Value} {xs ys : List Value} (h : w.ownsRow base 54 1 v1 xs.length xs) (hm : w.ownsRow base2 54 1 v2 ys.length ys) (h1 : ∀ u ∈ ys, u.oneCell' = true) (hl : xs.length + ys.length ≤ 1048576) (hb : base ≤ w.heap.size) (hs : a.eval s = v1) (hx : a.eval x = v2)
    (hK : ∀ v3 w', w'.ownsRow base 54 1 v3 (xs ++ ys).length (xs ++ ys) → w.grownBy w' v1.ownBlock → wpList Tryz.prog ops Q rest (a.put o.dst v3) w') : wpList Tryz.prog ops Q (o :: rest) a w := by
  refine wpList_plain hg fun K' hK' => ?_
  obtain ⟨v3, w', hrun, r1, r2⟩ := run_append_fn h hm h1 hl hb o.type
  unfold Oper.wp
  simp [execOp, ho, resolve, invoke, builtin, hs, hx, hrun, Result.andThen]
  exact hK' _ _ (hK v3 w' r1 r2)

theorem fn_new (w : World) (u : Value) : (w.alloc (.cells #[u] 54)).ownsRow w.heap.size 54 1 (.slice (some ⟨w.heap.size, 0, none⟩) 1 1) [u].length [u] :=
  ⟨rfl, .inr ⟨w.heap.size, 1, #[u], rfl, Nat.le_refl _, Blk.new w _ _, Nat.le_refl _, by decide, rfl, rfl⟩⟩
theorem fn_two (w : World) (u x : Value) : (w.alloc (.cells #[u, x] 54)).ownsRow w.heap.size 54 1 (.slice (some ⟨w.heap.size, 0, none⟩) 2 2) [u, x].length [u, x] :=
  ⟨rfl, .inr ⟨w.heap.size, 2, #[u, x], rfl, Nat.le_refl _, Blk.new w _ _, Nat.le_refl _, by decide, rfl, rfl⟩⟩

/-- Chunks as calls. -/
def putCl (h : Nat) (cs : List Cn.Chu) : List Cl := cs.map fun c => .wr (Lg.sec h c.q.toNat) c

/-! ### What calls come to -/
theorem clR_append : ∀ (a b : List Cl) (st : Dk.St), clR st (a ++ b) = if (clR st a).1 = 0 then clR (clR st a).2 b else clR st a := by
  intro a
  induction a with
  | nil => intro b st; rfl
  | cons k a ih =>
    intro b st
    rw [List.cons_append]
    cases k with
    | wr i c =>
      by_cases h : st.writeE (i : Int) (Lg.encs c) = 0
      · rw [clR_wr h, clR_wr h, ih]
      · rw [clR_wr_no h, clR_wr_no h, if_neg h]
    | ba =>
      by_cases h : st.barrierE = 0
      · rw [clR_ba h, clR_ba h, ih]
      · rw [clR_ba_no h, clR_ba_no h, if_neg h]
theorem clR_puts (h : Nat) : ∀ (cs : List Cn.Chu) (st : Dk.St), clR st (putCl h cs) = Lg.wr st (Lg.puts h cs) := by
  intro cs
  induction cs with
  | nil => intro st; rfl
  | cons c cs ih =>
    intro st
    show clR st (.wr (Lg.sec h c.q.toNat) c :: putCl h cs) = Lg.wr st ((Lg.sec h c.q.toNat, Lg.encs c) :: Lg.puts h cs)
    show _ = if st.writeE ((Lg.sec h c.q.toNat : Nat) : Int) (Lg.encs c) = 0 then Lg.wr (st.write ((Lg.sec h c.q.toNat : Nat) : Int) (Lg.encs c)) (Lg.puts h cs) else (st.writeE ((Lg.sec h c.q.toNat : Nat) : Int) (Lg.encs c), st.write ((Lg.sec h c.q.toNat : Nat) : Int) (Lg.encs c))
    by_cases he : st.writeE ((Lg.sec h c.q.toNat : Nat) : Int) (Lg.encs c) = 0
    · rw [clR_wr he, if_pos he, ih]
    · rw [clR_wr_no he, if_neg he]
theorem clR_one_ba (st : Dk.St) : clR st [.ba] = (st.barrierE, st.barrier) := by
  by_cases h : st.barrierE = 0
  · rw [clR_ba h, h]; rfl
  · exact clR_ba_no h
theorem clR_wrb (h : Nat) (cs : List Cn.Chu) (st : Dk.St) : clR st (putCl h cs ++ [.ba]) = Lg.wrb st (Lg.puts h cs) := by
  rw [clR_append, clR_puts, clR_one_ba]
  rfl
theorem clR_head (t : Lg.Top) (st : Dk.St) : clR st [.wr (Lg.hsec t.e) (Lg.hd t), .ba] = Lg.wrb st [(Lg.hsec t.e, Lg.encs (Lg.hd t))] := by
  show clR st ([.wr (Lg.hsec t.e) (Lg.hd t)] ++ [.ba]) = _
  rw [clR_append, clR_one_ba]
  unfold Lg.wrb
  have e : clR st [.wr (Lg.hsec t.e) (Lg.hd t)] = Lg.wr st [(Lg.hsec t.e, Lg.encs (Lg.hd t))] := by
    show _ = if st.writeE ((Lg.hsec t.e : Nat) : Int) (Lg.encs (Lg.hd t)) = 0 then Lg.wr (st.write ((Lg.hsec t.e : Nat) : Int) (Lg.encs (Lg.hd t))) [] else (st.writeE ((Lg.hsec t.e : Nat) : Int) (Lg.encs (Lg.hd t)), st.write ((Lg.hsec t.e : Nat) : Int) (Lg.encs (Lg.hd t)))
    by_cases h : st.writeE ((Lg.hsec t.e : Nat) : Int) (Lg.encs (Lg.hd t)) = 0
    · rw [clR_wr h, if_pos h]; rfl
    · rw [clR_wr_no h, if_neg h]
  rw [e]

/-! ### put's loop -/
theorem RowC.at {w : World} {base k : Nat} {v : Value} {cs : List Cn.Chu} {c : Cn.Chu} (h : RowC w base v cs) (hk : cs[k]? = some c) :
    ∃ b cap, v = .slice (some ⟨b, 0, none⟩) cs.length cap ∧ w.cell? ⟨b, k * 5, none⟩ = some (.int .i64 c.e) ∧ w.cell? ⟨b, k * 5 + 1, none⟩ = some (.int .i64 c.q) ∧ w.cell? ⟨b, k * 5 + 2, none⟩ = some (.bool c.f) ∧ w.cell? ⟨b, k * 5 + 3, none⟩ = some (.bool c.l) ∧ w.cell? ⟨b, k * 5 + 4, none⟩ = some (.string ⟨c.d.toArray⟩) := by
  have h' : w.ownsRow base 95 5 v cs.length (chCs cs) := h
  rcases h'.2 with ⟨rfl, h0⟩ | ⟨b, cap, cur, rfl, _⟩
  · have := (List.getElem?_eq_some_iff.1 hk).1
    omega
  · have hc : ∀ i, i < 5 → ∀ u, (chC c)[i]? = some u → w.cell? ⟨b, k * 5 + i, none⟩ = some u := fun i hi u hu => by
      have e := h'.cells (g := b) rfl (k * 5 + i) u (by rw [chCs_get hk i hi, hu])
      rwa [Addr.add_lit, Nat.zero_add] at e
    exact ⟨b, cap, rfl, hc 0 (by decide) _ rfl, hc 1 (by decide) _ rfl, hc 2 (by decide) _ rfl, hc 3 (by decide) _ rfl, hc 4 (by decide) _ rfl⟩

/-- What put's loop knows behind k chunks. -/
structure PutAt (P : Nat → Prop) (q g : Nat) (t : Lg.Top) (cs : List Cn.Chu) (w w2 : World) (k : Nat) (v : Value) (wr : World) : Prop where
  row : ∃ vals : List Value, wr.ownsRow w.heap.size 54 1 v vals.length vals ∧ vals.length = k ∧ ∀ (j : Nat) (u : Value) (c : Cn.Chu), vals[j]? = some u → cs[j]? = some c → IsCl (New P w wr) wr q g u (.wr (Lg.sec t.h c.q.toNat) c)
  ch : Ch Tf w.heap.size w2 wr

section
variable {P : Nat → Prop} {w w2 wr w1 : World} {q g k : Nat} {t : Lg.Top} {cs : List Cn.Chu} {v : Value} {u : Value} {kk : Cl}
theorem New.up (h : wr.heap.size ≤ w1.heap.size) : ∀ j, New P w wr j → New P w w1 j := fun j hj => hj.imp id fun h2 => ⟨h2.1, by omega⟩
theorem SameI.tf {B : Nat} (hc : Ch Tf B wr w1) : SameI P wr w1 := fun j _ cs z ho => (hc.block j (lt_of_at ho) (fun _ o h => by rw [ho] at h; injection h with h; rw [← h]; rfl)).trans ho
theorem IsCl.tf {B : Nat} (h : IsCl (New P w wr) wr q g u kk) (hc : Ch Tf B wr w1) : IsCl (New P w w1) w1 q g u kk :=
  (h.kept hc (SameI.tf hc) (fun _ => rfl) (fun _ => rfl)).up (Below.refl _ _) (New.up hc.size)
theorem Ch.tf_below (h : Below wr.heap.size wr w1) (B : Nat) : Ch Tf B wr w1 := Ch.of_below h

theorem eight {W : World} {b1 b2 : Nat} {t : Lg.Top} {e n : Int} {f l : Bool} {s : ByteArray} (h1 : Blk W b1 108 (HdC t)) (h2 : Blk W b2 95 (ChC e n f l s)) :
    W.cell? ⟨b1, 0, none⟩ = some (.int .i64 t.e) ∧ W.cell? ⟨b1, 1, none⟩ = some (.int .i64 t.b) ∧ W.cell? ⟨b1, 2, none⟩ = some (.int .i64 (t.h : Int)) ∧
    W.cell? ⟨b2, 0, none⟩ = some (.int .i64 e) ∧ W.cell? ⟨b2, 1, none⟩ = some (.int .i64 n) ∧ W.cell? ⟨b2, 2, none⟩ = some (.bool f) ∧ W.cell? ⟨b2, 3, none⟩ = some (.bool l) ∧ W.cell? ⟨b2, 4, none⟩ = some (.string s) := by
  obtain ⟨⟨a0, a1, a2⟩, -⟩ := three h1
  obtain ⟨c0, c1, c2, c3, c4⟩ := five h2
  exact ⟨a0, a1, a2, c0, c1, c2, c3, c4⟩
end

end Go.Proofs.YtimcepoleboldaaGreatDoor

/- What put comes to, the program's: the walk. -/
namespace Go.Proofs.YtimcepoleboldaaGreatDoor
open Go.RowKit

/-- All that put hands to do. -/
def putAll (t : Lg.Top) (p : Nat) (R : List ByteArray) (lb : List Cl) : List Cl := putCl t.h (Lg.cksAll t.e p (bls R)) ++ [.ba] ++ lb

def LputPost [Keep] (P : Nat → Prop) (B q g : Nat) (lo : Lg.Lo) (st : Dk.St) (t : Lg.Top) (p : Nat) (R : List ByteArray) (lb : List Cl) (w : World) (e : Ending) (w' : World) : Prop :=
  (lo.wrong ≠ 0 ∧ e = .returned (.int .i64 lo.wrong) ∧ Below w.heap.size w w') ∨
  (lo.wrong = 0 ∧ (127 < p + manyB R ∨ 1099511627776 < t.e) ∧ e = .returned (.int .i64 50) ∧ Below w.heap.size w w') ∨
  (lo.wrong = 0 ∧ p + manyB R ≤ 127 ∧ t.e ≤ 1099511627776 ∧ e = .returned (.int .i64 (clR st (putAll t p R lb)).1) ∧ DskP P w' B g (clR st (putAll t p R lb)).2 ∧
    Lgw w' B q g (if (clR st (putAll t p R lb)).1 = 0 then ⟨t, p + manyB R, 0⟩ else { lo with wrong := (clR st (putAll t p R lb)).1 }) ∧ Ch Tl B w w')

theorem putAll_fit {t : Lg.Top} {p : Nat} {R : List ByteArray} {lb : List Cl} (h0 : 0 ≤ t.e) (h1 : t.e ≤ 1099511627776) (hh : t.h ≤ 1) (hfit : p + manyB R ≤ 127) (hb : ∀ k ∈ lb, k.fit) : ∀ k ∈ putAll t p R lb, k.fit := by
  intro k hk
  unfold putAll putCl at hk
  simp only [List.mem_append, List.mem_map, List.mem_singleton] at hk
  rcases hk with (⟨c, hc, rfl⟩ | rfl) | hk
  · obtain ⟨i, hi, hg⟩ := List.getElem_of_mem hc
    have hg' : (Lg.cksAll t.e p (bls R))[i]? = some c := by rw [List.getElem?_eq_getElem hi, hg]
    rw [Lg.cksAll_length] at hi
    have hq := (Lg.cksAll_at t.e (bls R) p i c hg').2.1
    have hm : manyB R = Lg.many (bls R) := rfl
    refine ⟨Lg.sec_lt hh (by rw [hq]; omega), Lg.cksAll_ok h0 h1 hfit hg'⟩
  · trivial
  · exact hb k hk
theorem putAll_length (t : Lg.Top) (p : Nat) (R : List ByteArray) (lb : List Cl) : (putAll t p R lb).length = manyB R + 1 + lb.length := by
  unfold putAll putCl
  rw [List.length_append, List.length_append, List.length_map, Lg.cksAll_length]
  rfl

/-- The whole row, when the loop is over. -/
theorem all_row {P : Nat → Prop} {wr : World} {base q g : Nat} {v : Value} {cs : List Cn.Chu} {h : Nat} {lb : List Cl} {vals vb : List Value} {u : Value} (hv : vals.length = cs.length) (hvb : vb.length = lb.length)
    (hrow : wr.ownsRow base 54 1 v (vals ++ [u] ++ vb).length (vals ++ [u] ++ vb)) (h1 : ∀ (j : Nat) (x : Value) (c : Cn.Chu), vals[j]? = some x → cs[j]? = some c → IsCl P wr q g x (.wr (Lg.sec h c.q.toNat) c)) (h2 : IsCl P wr q g u .ba)
    (h3 : ∀ (j : Nat) (x : Value) (k : Cl), vb[j]? = some x → lb[j]? = some k → IsCl P wr q g x k) : ClRow P wr base q g v (putCl h cs ++ [.ba] ++ lb) := by
  refine ⟨_, hrow, by unfold putCl; simp [hv, hvb], fun j x k hx hk => ?_⟩
  have hl : (putCl h cs).length = cs.length := by unfold putCl; rw [List.length_map]
  rw [List.append_assoc] at hx hk
  by_cases hj : j < cs.length
  · rw [List.getElem?_append_left (by omega)] at hx
    rw [List.getElem?_append_left (by omega)] at hk
    unfold putCl at hk
    rw [List.getElem?_map] at hk
    cases hc : cs[j]? with
    | none => rw [hc] at hk; cases hk
    | some c =>
      rw [hc] at hk
      simp only [Option.map_some, Option.some.injEq] at hk
      subst hk
      exact h1 j x c hx hc
  · rw [List.getElem?_append_right (by omega), hv] at hx
    rw [List.getElem?_append_right (by omega), hl] at hk
    obtain ⟨n, hn⟩ : ∃ n, n = j - cs.length := ⟨_, rfl⟩
    rw [← hn] at hx hk
    cases n with
    | zero =>
      simp only [List.cons_append, List.nil_append, List.getElem?_cons_zero, Option.some.injEq] at hx hk
      subst hx hk
      exact h2
    | succ n =>
      simp only [List.cons_append, List.nil_append, List.getElem?_cons_succ] at hx hk
      exact h3 n x k hx hk

/-- One chunk more. -/
theorem PutAt.next {P : Nat → Prop} {q g : Nat} {t : Lg.Top} {cs : List Cn.Chu} {w w2 wr w4 w5 : World} {k : Nat} {v5 u : Value} {vals : List Value} {c : Cn.Chu} (hl : vals.length = k)
    (hcl : ∀ (j : Nat) (u : Value) (c : Cn.Chu), vals[j]? = some u → cs[j]? = some c → IsCl (New P w wr) wr q g u (.wr (Lg.sec t.h c.q.toNat) c)) (hch0 : Ch Tf w.heap.size w2 wr) (hch : Ch Tf w.heap.size wr w5) (hc : cs[k]? = some c)
    (hu : IsCl (New P w w4) w4 q g u (.wr (Lg.sec t.h c.q.toNat) c)) (h45 : Ch Tf w.heap.size w4 w5) (hown : w5.ownsRow w.heap.size 54 1 v5 (k + 1) (vals ++ [u])) : PutAt P q g t cs w w2 (k + 1) v5 w5 where
  row := by
    have e : (vals ++ [u]).length = k + 1 := by rw [List.length_append, hl]; rfl
    refine ⟨vals ++ [u], by rw [e]; exact hown, e, fun j x c' hx hc' => ?_⟩
    by_cases hj : j < k
    · rw [List.getElem?_append_left (by omega)] at hx
      exact (hcl j x c' hx hc').tf hch
    · have hjk : j = k := by
        have := (List.getElem?_eq_some_iff.1 hx).1
        omega
      subst hjk
      rw [List.getElem?_append_right (by omega), hl, Nat.sub_self] at hx
      simp only [List.getElem?_cons_zero, Option.some.injEq] at hx
      subst hx
      rw [hc] at hc'
      injection hc' with hc'
      subst hc'
      exact hu.tf h45
  ch := hch0.trans hch

theorem one_fn {P : Nat → Prop} {w : World} {q g : Nat} {u : Value} {k : Cl} (h : IsCl P w q g u k) : ∀ x ∈ [u], x.oneCell' = true := by
  intro x hx
  simp at hx
  subst hx
  exact h.one
theorem cell_one_fn (w : World) (u : Value) : ∀ (j : Nat) (x : Value), [u][j]? = some x → (w.alloc (.cells #[u] 54)).cell? ((⟨w.heap.size, 0, none⟩ : Addr).add j) = some x := fun j x hj => by
  have h := (Blk.new w 54 #[u]).cell j
  rw [Addr.add_lit, Nat.zero_add, h]
  simpa using hj
theorem at_length {w : World} {base : Nat} {v : Value} {vals : List Value} {k : Nat} (h : w.ownsRow base 54 1 v vals.length vals) (hk : vals.length = k) : w.ownsRow base 54 1 v k vals := hk ▸ h
theorem len_at {w : World} {base : Nat} {v : Value} {vals : List Value} {k : Nat} (h : w.ownsRow base 54 1 v k vals) (hk : vals.length = k) : w.ownsRow base 54 1 v vals.length vals := hk ▸ h
theorem cl_ones {P : Nat → Prop} {w : World} {q g : Nat} {vbs : List Value} {lb : List Cl} (hl : vbs.length = lb.length) (h : ∀ (j : Nat) (u : Value) (k : Cl), vbs[j]? = some u → lb[j]? = some k → IsCl P w q g u k) : ∀ u ∈ vbs, u.oneCell' = true := by
  intro u hu
  obtain ⟨j, hj, hg⟩ := List.getElem_of_mem hu
  exact (h j u lb[j] (by rw [List.getElem?_eq_getElem hj, hg]) (List.getElem?_eq_getElem (by omega))).one
theorem owns_below {w w' : World} {base size n : Nat} {e : TypeId} {v : Value} {xs : List Value} (h : w.ownsRow base e size v n xs) (hb : Below w.heap.size w w') : w'.ownsRow base e size v n xs :=
  owns_ch (T := fun _ => false) (B := 0) h (Ch.of_below hb) (fun _ => rfl)

/-- What is left when a call has gone wrong; and when none has. -/
theorem put_wrong [Keep] {P : Nat → Prop} {B q g : Nat} {lo : Lg.Lo} {r : Int × Dk.St} {w w7 w8 : World} {e : Ending} (hl : Lgw w B q g lo) (hb : Below w.heap.size w w7)
    (h : DoPost (New P w w7) B q g r (.int .i64 lo.t.e) (.int .i64 lo.t.b) (.int .i64 (lo.t.h : Int)) (.int .i64 (lo.next : Int)) w7 e w8) : DskP P w8 B g r.2 ∧ Lgw w8 B q g { lo with wrong := r.1 } ∧ Ch Tl B w w8 :=
  ⟨h.disk.less fun _ hk => .inl hk, ⟨h.log, hl.2⟩, (Ch.of_below hb).trans h.ch⟩
theorem put_right [Keep] {P : Nat → Prop} {B q g : Nat} {lo : Lg.Lo} {r : Int × Dk.St} {w w7 w8 : World} {e : Ending} {t : Lg.Top} {p n : Nat} (hl : Lgw w B q g lo) (hb : Below w.heap.size w w7) (ht : 0 ≤ t.b ∧ t.b ≤ t.e ∧ t.h ≤ 1) (he : t.e ≤ 1099511627776) (hn : p + n ≤ 127)
    (h : DoPost (New P w w7) B q g r (.int .i64 lo.t.e) (.int .i64 lo.t.b) (.int .i64 (lo.t.h : Int)) (.int .i64 (lo.next : Int)) w7 e w8) (hr : r.1 = 0) (W : World)
    (hW : W = (((w8.setCell ⟨q, 1, none⟩ (.int .i64 t.e)).setCell ⟨q, 2, none⟩ (.int .i64 t.b)).setCell ⟨q, 3, none⟩ (.int .i64 (t.h : Int))).setCell ⟨q, 4, none⟩ (.int .i64 ((p : Int) + (n : Int)))) :
    DskP P W B g r.2 ∧ Lgw W B q g ⟨t, p + n, 0⟩ ∧ Ch Tl B w W := by
  subst hW
  have k1 := h.log.l1 (.int .i64 t.e)
  have k2 := k1.l2 (.int .i64 t.b)
  have k3 := k2.l3 (.int .i64 (t.h : Int))
  have k4 := k3.l4 (.int .i64 ((p : Int) + (n : Int)))
  have c1 : ∀ {W : World} {cs : Array Value} (i : Nat) (u : Value), Blk W q 114 cs → @Ch noKeep (fun o => match o with | .cells _ t _ => t == 114 | _ => false) B W (W.setCell ⟨q, i, none⟩ u) := fun i u hb => Ch.set hb hl.2.1.1 rfl i u
  have c2 : ∀ {W : World} {cs : Array Value} (i : Nat) (u : Value), Blk W q 114 cs → Ch Tl B W (W.setCell ⟨q, i, none⟩ u) := fun i u hb => Ch.setK hb hl.2.1.1 hl.2.1.2 rfl i u
  have cc := (((c1 1 (.int .i64 t.e) h.log).trans (c1 2 (.int .i64 t.b) k1)).trans (c1 3 (.int .i64 (t.h : Int)) k2)).trans (c1 4 (.int .i64 ((p : Int) + (n : Int))) k3)
  refine ⟨(h.disk.less fun _ hk => .inl hk).kept cc (fun _ => rfl) (fun _ _ => rfl) (fun _ => rfl), ⟨?_, hl.2.1, ht.1, ht.2.1, he, ht.2.2, hn⟩, (Ch.of_below hb).trans (h.ch.trans ((((c2 1 (.int .i64 t.e) h.log).trans (c2 2 (.int .i64 t.b) k1)).trans (c2 3 (.int .i64 (t.h : Int)) k2)).trans (c2 4 (.int .i64 ((p : Int) + (n : Int))) k3)))⟩
  rw [hr] at k4
  rw [show ((p + n : Nat) : Int) = (p : Int) + (n : Int) by omega]
  exact k4

theorem room_f {k : Nat} (h : k ≤ 1000) : k + 1 ≤ maxLen := by unfold maxLen; omega
theorem bytes_f {k : Nat} (h : k ≤ 1000) : (k + 1) * 8 ≤ 140737488355328 := by omega

set_option maxRecDepth 20000 in
set_option maxHeartbeats 2000000 in
theorem lput_any [Keep] (P : Nat → Prop) (B q g : Nat) (lo : Lg.Lo) (st : Dk.St) (t : Lg.Top) (p : Nat) (v : Value) (R : List ByteArray) (base : Nat) (vb : Value) (lb : List Cl) (w : World) (hd : DskP P w B g st) (hm : st.many ≤ 1000000) (hl : Lgw w B q g lo)
    (ht : 0 ≤ t.b ∧ t.b ≤ t.e ∧ t.h ≤ 1) (hp : p ≤ 127) (hr : Strs w v R) (hs : size R ≤ 1048576) (hb : ClRow P w base q g vb lb) (hbl : lb.length ≤ 2) (hbf : t.e ≤ 1099511627776 → ∀ k ∈ lb, k.fit) :
    Calls Tryz.prog 101 #[.pointer (some ⟨q, 0, none⟩), HdV t, .int .i64 (p : Int), v, vb] w (LputPost P B q g lo st t p R lb w) := by
  have hmf : ∀ (fn : Fn) (first cap : Array Value) (w : World), (Instr.makeFunc fn first cap).run Tryz.prog w = .ok (.func fn first cap) w := fun _ _ _ _ => rfl
  obtain ⟨i0, hin, hz0, hz1, hz2⟩ := info_parts info_fn
  have hH := Blk.new w 108 (HdC t)
  have hb1 : Below w.heap.size w (w.alloc (.cells (HdC t) 108)) := (Below.refl _ _).alloc (Nat.le_refl _) _
  have hs1 : (w.alloc (.cells (HdC t) 108)).heap.size = w.heap.size + 1 := by simp
  obtain ⟨⟨c0, -, -, -, -, c5⟩, -⟩ := six (hl.1.alloc (.cells (HdC t) 108))
  by_cases hw : lo.wrong = 0
  · rw [hw] at c5
    have HD := Lib.hid (And.intro hd (And.intro hm hl))
    have HT := Lib.hid ht
    have HB := Lib.hid (And.intro hb (And.intro hbl hbf))
    have HR := Lib.hid (hcut_any t p v R (w.alloc (.cells (HdC t) 108)) (hr.below hb1) hs hp)
    have HW := Lib.hid hw
    clear hd hm hl ht hr hs hb hbl hbf hw
    go_enter Tryz.func101, Tryz.ntmps101
    go_wp2_with fail
    generalize w.alloc (.cells (HdC t) 108) = w1 at *
    obtain ⟨⟨a0, a1, a2⟩, -⟩ := three hH
    have HH := Lib.hid (And.intro hH (And.intro hb1 hs1))
    clear hH hb1 hs1 c0
    go_wp2_with fail
    refine HR.out.mono ?_
    rintro x w2 ⟨hb2, hcase⟩
    have HH2 := Lib.hid (And.intro (HH.out.1.older hb2 HH.out.1.lt) (HH.out.2.1.trans (hb2.mono HH.out.2.1.size)))
    obtain ⟨⟨e0, e1, e2⟩, -⟩ := three HH2.out.1
    have HB2 := Lib.hid hb2
    clear a0 a1 a2 c5 hb2 HR
    rcases hcase with ⟨hfit, v11, rfl, hrow⟩ | ⟨hno, rfl⟩
    · by_cases hte : t.e ≤ 1099511627776
      · obtain ⟨A11, cap11, rfl⟩ := owns_slice hrow
        have hcl : (Lg.cksAll t.e p (bls R)).length = manyB R := Lg.cksAll_length _ _ _
        have HROW := Lib.hid hrow
        have HFIT := Lib.hid hfit
        have hn127 : manyB R ≤ 127 := by omega
        have HTE := Lib.hid hte
        clear hrow
        rw [hcl]
        have hP0 : PutAt P q g t (Lg.cksAll t.e p (bls R)) w w2 0 (.slice none 0 0) w2 := ⟨⟨[], World.ownsRow_nil _ _ _ _, rfl, fun j u c hj => by cases hj⟩, Ch.refl (K := noKeep) _ _ _⟩
        go_wp2_with fail
        go_loopw [13, 42] (fun v13 v42 wr => ∃ k : Nat, k ≤ manyB R ∧ v42 = .int .i64 (k : Int) ∧ PutAt P q g t (Lg.cksAll t.e p (bls R)) w w2 k v13 wr) (fun _ v _ => manyB R - (intOf v).toNat)
        case atStart => exact ⟨0, Nat.zero_le _, rfl, hP0⟩
        case round =>
          obtain ⟨k, hk, rfl, hP⟩ := hrel
          clear hP0
          obtain ⟨⟨vals, hvrow, hvl, hvcl⟩, hch⟩ := hP
          have HCH := Lib.hid hch
          have HVC := Lib.hid hvcl
          have HVR := Lib.hid hvrow
          have HVL := Lib.hid hvl
          have HBR := Lib.hid (show Below w.heap.size w wr from HH2.out.2.trans (hch.to_below HH2.out.2.size))
          by_cases hlt : k < manyB R
          · obtain ⟨c, hc⟩ : ∃ c, (Lg.cksAll t.e p (bls R))[k]? = some c := ⟨_, List.getElem?_eq_getElem (by rw [hcl]; exact hlt)⟩
            obtain ⟨h1, h2, h3⟩ := Lg.cksAll_at t.e (bls R) p k c hc
            obtain ⟨b, cap, e, d0, d1, d2, d3, d4⟩ := RowC.at (owns_ch (T := Tf) HROW.out hch (fun _ => rfl)) hc
            injection e with e3 e4 e5
            subst e3 e5
            obtain ⟨ce, cq, cf, cl, cd⟩ := c
            obtain ⟨nn, hnn⟩ : ∃ nn, nn = p + k := ⟨_, rfl⟩
            obtain ⟨s, hs⟩ : ∃ s : ByteArray, s = ⟨cd.toArray⟩ := ⟨_, rfl⟩
            simp only at h1 h2 d0 d1 d2 d3 d4
            rw [← hnn] at h2
            subst h1 h2
            rw [← hs] at d4
            have HC := Lib.hid hc
            have hnn2 : nn ≤ 127 := by omega
            have HS := Lib.hid (show s.data.toList = cd by rw [hs])
            have hHa := (hch.blk HH2.out.1 rfl).alloc (.cells (ChC t.e (nn : Int) cf cl s) 95)
            have hCa := Blk.new wr 95 (ChC t.e (nn : Int) cf cl s)
            have hba : Below wr.heap.size wr (wr.alloc (.cells (ChC t.e (nn : Int) cf cl s) 95)) := (Below.refl _ _).alloc (Nat.le_refl _) _
            have HT2 := Lib.hid HT.out.2.2
            clear hc h3 e4 hs hch hvrow hvl hvcl hcl hnn hfit
            go_wp2_with fail
            generalize wr.alloc (.cells (ChC t.e (nn : Int) cf cl s) 95) = wa at *
            obtain ⟨f0, f1, f2, f3, f4, f5, f6, f7⟩ := eight hHa hCa
            have hva := owns_below (at_length HVR.out HVL.out) hba
            have hsza := Nat.le_trans HBR.out.size hba.size
            clear d0 d1 d2 d3 d4 e0 e1 e2
            go_region_held3 (fun W => W.cell? ⟨w.heap.size, 0, none⟩ = some (.int .i64 t.e) ∧ W.cell? ⟨w.heap.size, 1, none⟩ = some (.int .i64 t.b) ∧ W.cell? ⟨w.heap.size, 2, none⟩ = some (.int .i64 (t.h : Int)) ∧ W.cell? ⟨wr.heap.size, 0, none⟩ = some (.int .i64 t.e) ∧ W.cell? ⟨wr.heap.size, 1, none⟩ = some (.int .i64 (nn : Int)) ∧ W.cell? ⟨wr.heap.size, 2, none⟩ = some (.bool cf) ∧ W.cell? ⟨wr.heap.size, 3, none⟩ = some (.bool cl) ∧ W.cell? ⟨wr.heap.size, 4, none⟩ = some (.string s)) (first | assumption | exact ⟨f0, f1, f2, f3, f4, f5, f6, f7⟩ | exact eight (hH4.alloc _) (hC4.alloc _) | go_keep)
              (first
                | (go_at_call 91; refine (hsector_any t nn _ HT2.out hnn2).mono ?_; rintro x w3 ⟨rfl, hb3⟩; have hH3 := hHa.drew.older hb3 hHa.drew.lt; have hC3 := hCa.drew.older hb3 hCa.drew.lt; have s3 := eight hH3 hC3; have hv3 := owns_below (w := wa.drew) hva hb3; have hz3 : w.heap.size ≤ w3.heap.size := Nat.le_trans hsza hb3.size)
                | (go_at_call 96; refine (putchunk_any q g (Lg.sec t.h nn) ⟨t.e, (nn : Int), cf, cl, cd⟩ s HS.out w3 (fun k => w3.heap.size ≤ k ∧ k < w3.heap.size + 3) ⟨by omega, by omega⟩).mono ?_; rintro x w4 ⟨u, rfl, hu4, hb4, hs4⟩; have HS4 := Lib.hid hs4; clear hs4; have hu5 := hu4; obtain ⟨ca, cb, cn, cs5, rfl, -⟩ := hu4; have hH4 := hH3.older hb4 hH3.lt; have hC4 := hC3.older hb4 hC3.lt; have s4 := eight hH4 hC4; have hv4 := owns_below hv3 hb4; have hz4 : w.heap.size ≤ w4.heap.size := Nat.le_trans hz3 hb4.size)
                | (refine step_append_lies _ rfl (.tmp 46) (.tmp 54) 143 rfl w.heap.size 54 i0 .nilFunc 1 8 Tryz.underlying143 hin hz0 hz1 hz2 rfl (by decide) _ k vals rfl (hv4.alloc _) ⟨w4.heap.size, 0, none⟩ 1 1 [.func (.func 118) #[] #[.pointer (some ⟨ca, 0, none⟩), .pointer (some ⟨cb, 0, none⟩), .pointer (some ⟨cn, 0, none⟩)]] rfl rfl (cell_one_fn w4 _) (one_fn hu5) (by decide) (room_f (by omega)) (bytes_f (by omega)) (base_c hz4 _) _ rfl ?_; intro g5 cap5 w5 hown5 hgrow5 _ _; have hc45 := ((Ch.refl (K := noKeep) Tf w.heap.size w4).alloc (.cells #[.func (.func 118) #[] #[.pointer (some ⟨ca, 0, none⟩), .pointer (some ⟨cb, 0, none⟩), .pointer (some ⟨cn, 0, none⟩)]] 54)).trans (ch_of_append (T := Tf) (hv4.alloc _) hgrow5 (fun _ => rfl)); have s5 := eight (hc45.blk hH4 rfl) (hc45.blk hC4 rfl)))
            have hu6 := hu5.up (R := New P w w4) (Below.refl _ _) (fun j hj => .inr ⟨Nat.le_trans hz3 hj.1, by have := HS4.out; omega⟩)
            have hcr := ((((HCH.out.trans (Ch.of_below (K := noKeep) hba)).drew.trans (Ch.of_below (K := noKeep) hb3)).trans (Ch.of_below (K := noKeep) hb4)).trans hc45)
            have hcw : @Ch noKeep Tf w.heap.size wr w5 := ((((Ch.of_below (K := noKeep) (T := Tf) (B := w.heap.size) hba).drew.trans (Ch.of_below (K := noKeep) hb3)).trans (Ch.of_below (K := noKeep) hb4)).trans hc45)
            have HN := Lib.hid (show PutAt P q g t (Lg.cksAll t.e p (bls R)) w w2 (k + 1) (.slice (some ⟨g5, 0, none⟩) (k + 1) cap5) w5 from PutAt.next HVL.out HVC.out HCH.out hcw HC.out hu6 hc45 hown5)
            clear hHa hCa hba hva hH3 hC3 s3 hv3 hH4 hC4 s4 hv4 hown5 hgrow5 hc45 s5 hu5 hu6 hcr hcw hb3 hb4 f0 f1 f2 f3 f4 f5 f6 f7
            go_wp2_with fail
            go_roundw
            case rel => exact ⟨k + 1, by omega, by go_num, HN.out⟩
            case measure => simp [intOf]; omega
          · obtain rfl : k = manyB R := by omega
            obtain ⟨⟨vbs, hbrow, hblen, hbcl⟩, hbl, hbf⟩ := HB.out
            have HBB := Lib.hid (And.intro hbrow (And.intro hblen (And.intro hbcl (And.intro hbl hbf))))
            have HBq := HD.out.2.2
            have hqr := HBq.1.older HBR.out HBq.1.lt
            obtain ⟨⟨k0, -, -, -, -, -⟩, -⟩ := six hqr
            have HQR := Lib.hid hqr
            have HLG := Lib.hid HBq
            have hva := at_length HVR.out HVL.out
            have hvlen2 : vbs.length ≤ 2 := by rw [hblen]; exact hbl
            have HV2 := Lib.hid hvlen2
            clear hqr HBq hbrow hblen hbcl hbl hbf hch hvrow hvl hvcl hcl hfit hvlen2 HROW
            go_wp2_with (first
              | (at_builtin; refine wpList_append_lies _ rfl (.tmp 57) (.tmp 63) 143 rfl w.heap.size 54 i0 .nilFunc 1 8 Tryz.underlying143 hin hz0 hz1 hz2 rfl (by decide) _ (manyB R) vals rfl (hva.alloc _) ⟨wr.heap.size, 0, none⟩ 1 1 [.func (.func 21) #[.pointer (some ⟨g, 0, none⟩)] #[]] rfl rfl (cell_one_fn wr _) (one_fn (P := P) (w := wr) (q := q) (g := g) (k := .ba) rfl) (by decide) (room_f (by omega)) (bytes_f (by omega)) (base_c HBR.out.size _) _ rfl ?_; intro g6 cap6 w6 hown6 hgrow6 _ _; have hc6 := ((Ch.refl (K := noKeep) Tf w.heap.size wr).alloc (.cells #[.func (.func 21) #[.pointer (some ⟨g, 0, none⟩)] #[]] 54)).trans (ch_of_append (T := Tf) (hva.alloc _) hgrow6 (fun _ => rfl)); have hb6 := HBR.out.trans (hc6.to_below HBR.out.size); have hown6' := len_at hown6 (show (vals ++ ([(.func (.func 21) #[.pointer (some ⟨g, 0, none⟩)] #[])] : List Value)).length = manyB R + 1 by rw [List.length_append, HVL.out]; rfl); have hvb6 := owns_below HBB.out.1 hb6; clear hown6 hgrow6 hva)
              | (at_builtin; refine wpList_append_fn rfl (.tmp 66) (.tmp 67) rfl hown6' hvb6 (cl_ones HBB.out.2.1 HBB.out.2.2.1) (by rw [List.length_append, HVL.out]; have := HV2.out; simp; omega) hb6.size rfl rfl ?_; intro v7 w7 hown7 hgrow7; have hc7 := ch_of_append (T := Tf) hown6' hgrow7 (fun _ => rfl); clear hgrow7 hown6' hvb6))
            have hb7 : Below w.heap.size w w7 := hb6.trans (hc7.to_below hb6.size)
            have hcr7 := hc6.trans hc7
            have hd7 : DskP (New P w w7) w7 B g st := HD.out.1.with_new hb7
            have hq7 := HLG.out.1.older hb7 HLG.out.1.lt
            have row7 : ClRow (New P w w7) w7 w.heap.size q g v7 (putAll t p R lb) :=
              all_row (by rw [HVL.out, Lg.cksAll_length]; rfl) HBB.out.2.1 hown7 (fun j x c hx hc => (HVC.out j x c hx hc).tf hcr7) rfl (fun j x k hx hk => (HBB.out.2.2.1 j x k hx hk).up hb7 (fun i hi => .inl hi))
            have HDO := Lib.hid (do_any (New P w w7) B w.heap.size q g st (putAll t p R lb) v7 _ _ _ _ _ w7 hd7 (by
              have h1 := HD.out.2.1
              have h2 := HBB.out.2.2.2.1
              rw [putAll_length]
              omega) hq7 HLG.out.2.1 row7 (putAll_fit (by have := HT.out; omega) HTE.out HT.out.2.2 HFIT.out (HBB.out.2.2.2.2 HTE.out)))
            have HH7 := Lib.hid ((HCH.out.trans hcr7).blk HH2.out.1 rfl)
            have HB7 := Lib.hid hb7
            obtain ⟨r, hr⟩ : ∃ r, r = clR st (putAll t p R lb) := ⟨_, rfl⟩
            rw [← hr] at HDO
            have HRR := Lib.hid hr
            clear hb6 hc6 hc7 hb7 hcr7 hd7 hq7 row7 hown7 hr k0 e0 e1 e2
            refine HDO.out.mono ?_
            rintro e w8 hpost
            have he := hpost.ret
            subst he
            obtain ⟨⟨q0, q1, q2, q3, q4, q5⟩, z0, z1, z2, z3, z4, z5⟩ := six hpost.log
            obtain ⟨⟨e0, e1, e2⟩, -⟩ := three (hpost.ch.blk HH7.out rfl)
            have HP := Lib.hid hpost
            clear hpost HDO
            by_cases hE : r.1 = 0
            · have HE := Lib.hid hE
              rw [hE] at q5 ⊢
              clear hE
              go_wp2_with fail
              go_ret
              refine .inr (.inr ⟨HW.out, HFIT.out, HTE.out, ?_⟩)
              have R := put_right HLG.out HB7.out HT.out HTE.out HFIT.out HP.out HE.out _ rfl
              rw [← HRR.out, if_pos HE.out, HE.out]
              exact ⟨rfl, R⟩
            · have hEb : (r.1 != 0) = true := by rw [bne_iff_ne]; exact hE
              have HE := Lib.hid hE
              go_wp2_with fail
              go_ret
              refine .inr (.inr ⟨HW.out, HFIT.out, HTE.out, ?_⟩)
              have R := put_wrong HLG.out HB7.out HP.out
              rw [← HRR.out, if_neg HE.out]
              exact ⟨rfl, R⟩
      · go_wp2_with fail
        go_ret
        exact .inr (.inl ⟨HW.out, .inr (by omega), rfl, HH2.out.2⟩)
    · go_wp2_with fail
      go_ret
      exact .inr (.inl ⟨HW.out, .inl (by omega), rfl, HH2.out.2⟩)
  · have hwb : (lo.wrong != 0) = true := by rw [bne_iff_ne]; exact hw
    have HB := Lib.hid (And.intro hw hb1)
    clear hd hm hl ht hr hs hb hbl hbf hH hb1 hs1 c0
    go_enter Tryz.func101, Tryz.ntmps101
    go_wp2_with fail
    go_ret
    exact .inl ⟨HB.out.1, rfl, HB.out.2⟩

end Go.Proofs.YtimcepoleboldaaGreatDoor

/- What Append comes to, the program's. -/
namespace Go.Proofs.YtimcepoleboldaaGreatDoor
open Go.RowKit

/-! ### Append -/
def AppendPost [Keep] (B q g : Nat) (lo : Lg.Lo) (st : Dk.St) (R : List ByteArray) (w : World) (e : Ending) (w' : World) : Prop :=
  e = .returned (.int .i64 (Lg.appendR lo st (bls R)).1) ∧ Dsk w' B g (Lg.appendR lo st (bls R)).2.1 ∧ Lgw w' B q g (Lg.appendR lo st (bls R)).2.2 ∧ Ch Tl B w w'

theorem Dsk.below [Keep] {w w' : World} {B g : Nat} {st : Dk.St} (h : Dsk w B g st) (hb : Below w.heap.size w w') : Dsk w' B g st := h.kept (T := fun _ => false) (B' := 0) (Ch.of_below hb) (fun _ => rfl) (fun _ _ => rfl) (fun _ => rfl)
theorem Lgw.below [Keep] {w w' : World} {B q g : Nat} {lo : Lg.Lo} (h : Lgw w B q g lo) (hb : Below w.heap.size w w') : Lgw w' B q g lo := h.kept (T := fun _ => false) (B' := 0) (Ch.of_below hb) (fun _ => rfl)

theorem append_end [Keep] {P : Nat → Prop} {B q g : Nat} {lo : Lg.Lo} {st : Dk.St} {R : List ByteArray} {w w' : World} {e : Ending} (hd : Dsk w B g st) (hl : Lgw w B q g lo) (h : LputPost P B q g lo st lo.t lo.next R [] w e w') : AppendPost B q g lo st R w e w' := by
  have hn := hl.2.2.2.2.2.2
  have he := hl.2.2.2.2.1
  have hm : manyB R = Lg.many (bls R) := rfl
  unfold AppendPost Lg.appendR
  rcases h with ⟨hw, rfl, hb⟩ | ⟨hw, hc, rfl, hb⟩ | ⟨hw, hf, ht, rfl, hd', hl', hc⟩
  · rw [if_pos hw]
    exact ⟨rfl, hd.below hb, hl.below hb, Ch.of_below hb⟩
  · rw [if_neg (fun h => h hw), if_pos (by omega)]
    exact ⟨rfl, hd.below hb, hl.below hb, Ch.of_below hb⟩
  · rw [if_neg (fun h => h hw), if_neg (by omega)]
    have e1 : clR st (putAll lo.t lo.next R []) = Lg.wrb st (Lg.puts lo.t.h (Lg.cksAll lo.t.e lo.next (bls R))) := by
      unfold putAll
      rw [List.append_nil, clR_wrb]
    rw [e1] at hd' hl' ⊢
    refine ⟨rfl, hd'.dsk, ?_, hc⟩
    by_cases h0 : (Lg.wrb st (Lg.puts lo.t.h (Lg.cksAll lo.t.e lo.next (bls R)))).1 = 0
    · rw [if_pos h0] at hl'
      show Lgw w' B q g (if _ then _ else _)
      rw [if_pos h0]
      have e2 : ({ lo with next := lo.next + Lg.many (bls R) } : Lg.Lo) = ⟨lo.t, lo.next + manyB R, 0⟩ := by
        cases lo
        simp only at hw
        subst hw
        rfl
      rw [e2]
      exact hl'
    · rw [if_neg h0] at hl'
      show Lgw w' B q g (if _ then _ else _)
      rw [if_neg h0]
      exact hl'

theorem no_calls (P : Nat → Prop) (w : World) (q g : Nat) : ClRow P w w.heap.size q g (.slice none 0 0) [] := ⟨[], World.ownsRow_nil _ _ _ _, rfl, fun j u k hj => by cases hj⟩

set_option maxRecDepth 20000 in
set_option maxHeartbeats 1000000 in
theorem append_any [Keep] (B q g : Nat) (lo : Lg.Lo) (st : Dk.St) (v : Value) (R : List ByteArray) (w : World) (h : Dsk w B g st) (hl : Lgw w B q g lo) (hr : Strs w v R) (hs : size R ≤ 1048576) (hm : st.many ≤ 1000000) :
    Calls Tryz.prog 69 #[.pointer (some ⟨q, 0, none⟩), v] w (AppendPost B q g lo st R w) := by
  have hg := hl.2.2
  have hd1 : Dsk w.drew B g st := h.below (Below.refl _ _).drew
  have hl1 : Lgw w.drew B q g lo := hl.below (Below.refl _ _).drew
  have HP := Lib.hid ((lput_any (fun _ => False) B q g lo st lo.t lo.next v R w.heap.size (.slice none 0 0) [] w.drew hd1.free hm hl1 ⟨hg.1, hg.2.1, hg.2.2.2.1⟩ hg.2.2.2.2 (hr.below (Below.refl _ _).drew) hs (no_calls _ w q g) (by decide) (fun _ k hk => by cases hk)).mono (fun _ _ h => append_end hd1 hl1 h))
  obtain ⟨⟨-, c1, c2, c3, c4, -⟩, -⟩ := six hl.1
  clear h hl hr hg hs hm hd1 hl1
  go_enter Tryz.func69, Tryz.ntmps69
  go_wp2_with fail
  go_region_with (go_at_call 101; refine HP.out.mono ?_; rintro e w2 ⟨rfl, hd2, hl2, hc2⟩)
  all_goals
    go_wp2_with fail
    go_ret
    exact ⟨rfl, hd2, hl2, (Ch.refl _ _ _).drew.trans hc2⟩

end Go.Proofs.YtimcepoleboldaaGreatDoor

/- What Renew comes to, the program's. -/
namespace Go.Proofs.YtimcepoleboldaaGreatDoor
open Go.RowKit

def RenewPost [Keep] (B q g : Nat) (lo : Lg.Lo) (st : Dk.St) (R : List ByteArray) (w : World) (e : Ending) (w' : World) : Prop :=
  e = .returned (.int .i64 (Lg.renewR lo st (bls R)).1) ∧ Dsk w' B g (Lg.renewR lo st (bls R)).2.1 ∧ Lgw w' B q g (Lg.renewR lo st (bls R)).2.2 ∧ Ch Tl B w w'

/-- The call of a head, and its barrier. -/
def headCl (t : Lg.Top) : List Cl := [.wr (Lg.hsec t.e) (Lg.hd t), .ba]
theorem headCl_fit {t : Lg.Top} (h0 : 0 ≤ t.b) (h1 : t.b ≤ t.e) (h2 : t.e ≤ 1099511627776) : ∀ k ∈ headCl t, k.fit := by
  intro k hk
  unfold headCl at hk
  simp only [List.mem_cons, List.not_mem_nil, or_false] at hk
  rcases hk with rfl | rfl
  · exact ⟨by have := Lg.hsec_lt t.e; omega, Lg.hd_ok t h0 h1 h2⟩
  · trivial

theorem renew_end [Keep] {P : Nat → Prop} {B q g : Nat} {lo : Lg.Lo} {st : Dk.St} {R : List ByteArray} {w w' : World} {e : Ending} (hd : Dsk w B g st) (hl : Lgw w B q g lo) (h : LputPost P B q g lo st (Lg.newTop lo.t) 0 R (headCl (Lg.newTop lo.t)) w e w') : RenewPost B q g lo st R w e w' := by
  have he := hl.2.2.2.2.1
  have hm : manyB R = Lg.many (bls R) := rfl
  have hte : (Lg.newTop lo.t).e = lo.t.e + 1 := rfl
  unfold RenewPost Lg.renewR
  rcases h with ⟨hw, rfl, hb⟩ | ⟨hw, hc, rfl, hb⟩ | ⟨hw, hf, ht, rfl, hd', hl', hc⟩
  · rw [if_pos hw]
    exact ⟨rfl, hd.below hb, hl.below hb, Ch.of_below hb⟩
  · rw [if_neg (fun h => h hw), if_pos (by rcases hc with hc | hc <;> omega)]
    exact ⟨rfl, hd.below hb, hl.below hb, Ch.of_below hb⟩
  · rw [if_neg (fun h => h hw), if_neg (by omega)]
    have e1 : clR st (putAll (Lg.newTop lo.t) 0 R (headCl (Lg.newTop lo.t))) = Lg.renew2 lo st (bls R) := by
      unfold putAll
      rw [clR_append, clR_wrb]
      show (if (Lg.renew1 lo st (bls R)).1 = 0 then clR (Lg.renew1 lo st (bls R)).2 (headCl (Lg.newTop lo.t)) else Lg.renew1 lo st (bls R)) = _
      unfold headCl
      rw [clR_head]
      rfl
    rw [e1] at hd' hl' ⊢
    refine ⟨rfl, hd'.dsk, ?_, hc⟩
    by_cases h0 : (Lg.renew2 lo st (bls R)).1 = 0
    · rw [if_pos h0] at hl'
      show Lgw w' B q g (if _ then _ else _)
      rw [if_pos h0]
      have e2 : (⟨Lg.newTop lo.t, Lg.many (bls R), 0⟩ : Lg.Lo) = ⟨Lg.newTop lo.t, 0 + manyB R, 0⟩ := by rw [Nat.zero_add]; rfl
      rw [e2]
      exact hl'
    · rw [if_neg h0] at hl'
      show Lgw w' B q g (if _ then _ else _)
      rw [if_neg h0]
      exact hl'

/-- A head's call and a barrier, in a row of their own. -/
theorem head_row {P : Nat → Prop} {w : World} {q g : Nat} {t : Lg.Top} {u : Value} (hu : IsCl P w q g u (.wr (Lg.hsec t.e) (Lg.hd t))) :
    ClRow P (w.alloc (.cells #[u, .func (.func 21) #[.pointer (some ⟨g, 0, none⟩)] #[]] 54)) w.heap.size q g (.slice (some ⟨w.heap.size, 0, none⟩) 2 2) (headCl t) := by
  refine ⟨_, fn_two w _ _, rfl, fun j x k hx hk => ?_⟩
  rcases j with _ | _ | j
  · simp only [headCl, List.getElem?_cons_zero, Option.some.injEq] at hx hk
    subst hx hk
    exact hu.up ((Below.refl _ _).alloc (Nat.le_refl _) _) (fun _ h => h)
  · simp only [headCl, List.getElem?_cons_succ, List.getElem?_cons_zero, Option.some.injEq] at hx hk
    subst hx hk
    rfl
  · simp [headCl] at hk

theorem hq_four {W : World} {b1 q g : Nat} {t : Lg.Top} {x1 x2 x3 x4 x5 : Value} (h1 : Blk W b1 108 (HdC t)) (h2 : Blk W q 114 #[.pointer (some ⟨g, 0, none⟩), x1, x2, x3, x4, x5]) :
    W.cell? ⟨b1, 0, none⟩ = some (.int .i64 t.e) ∧ W.cell? ⟨b1, 1, none⟩ = some (.int .i64 t.b) ∧ W.cell? ⟨b1, 2, none⟩ = some (.int .i64 (t.h : Int)) ∧ W.cell? ⟨q, 0, none⟩ = some (.pointer (some ⟨g, 0, none⟩)) := by
  obtain ⟨⟨a0, a1, a2⟩, -⟩ := three h1
  obtain ⟨⟨c0, -⟩, -⟩ := six h2
  exact ⟨a0, a1, a2, c0⟩

/-- put, as Renew calls it. -/
theorem renew_put [Keep] {B q g : Nat} {lo : Lg.Lo} {st : Dk.St} {v : Value} {R : List ByteArray} {w w1 w3 : World} {u : Value} (h : Dsk w B g st) (hl : Lgw w B q g lo) (hr : Strs w v R) (hs : size R ≤ 1048576) (hm : st.many ≤ 1000000) (hb1 : Below w.heap.size w w1) (hb3 : Below w1.heap.size w1 w3)
    (hu : IsCl (New (fun _ => False) w1 w3) w3 q g u (.wr (Lg.hsec (Lg.newTop lo.t).e) (Lg.hd (Lg.newTop lo.t)))) :
    Calls Tryz.prog 101 #[.pointer (some ⟨q, 0, none⟩), HdV (Lg.newTop lo.t), .int .i64 0, v, .slice (some ⟨w3.heap.size, 0, none⟩) 2 2] (w3.alloc (.cells #[u, .func (.func 21) #[.pointer (some ⟨g, 0, none⟩)] #[]] 54))
      (RenewPost B q g lo st R (w3.alloc (.cells #[u, .func (.func 21) #[.pointer (some ⟨g, 0, none⟩)] #[]] 54))) := by
  have hg := hl.2.2
  have hb4 : Below w3.heap.size w3 (w3.alloc (.cells #[u, .func (.func 21) #[.pointer (some ⟨g, 0, none⟩)] #[]] 54)) := (Below.refl _ _).alloc (Nat.le_refl _) _
  have hb2 : Below w.heap.size w w3 := hb1.trans (hb3.mono hb1.size)
  have hbW : Below w.heap.size w (w3.alloc (.cells #[u, .func (.func 21) #[.pointer (some ⟨g, 0, none⟩)] #[]] 54)) := hb2.trans (hb4.mono hb2.size)
  have hd1 : Dsk w1 B g st := h.below hb1
  have hd3 : DskP (New (fun _ => False) w1 w3) w3 B g st := hd1.free.with_new hb3
  have hdW : DskP (New (fun _ => False) w1 w3) (w3.alloc (.cells #[u, .func (.func 21) #[.pointer (some ⟨g, 0, none⟩)] #[]] 54)) B g st := hd3.kept (T := fun _ => false) (B' := 0) (Ch.of_below hb4) (fun _ => rfl) (fun _ _ => rfl) (fun _ => rfl)
  have hlW := hl.below hbW
  have hh : (Lg.newTop lo.t).h ≤ 1 := by show 1 - lo.t.h ≤ 1; omega
  have he : (Lg.newTop lo.t).e = lo.t.e + 1 := rfl
  have hbb : (Lg.newTop lo.t).b = lo.t.e + 1 := rfl
  exact (lput_any (New (fun _ => False) w1 w3) B q g lo st (Lg.newTop lo.t) 0 v R w3.heap.size _ (headCl (Lg.newTop lo.t)) _ hdW hm hlW ⟨by omega, by omega, hh⟩ (by omega) (hr.below hbW) hs (head_row hu) (Nat.le_refl _) (fun ht => headCl_fit (by omega) (by omega) ht)).mono (fun _ _ hp => renew_end hdW.dsk hlW hp)

set_option maxRecDepth 20000 in
set_option maxHeartbeats 2000000 in
theorem renew_any [Keep] (B q g : Nat) (lo : Lg.Lo) (st : Dk.St) (v : Value) (R : List ByteArray) (w : World) (h : Dsk w B g st) (hl : Lgw w B q g lo) (hr : Strs w v R) (hs : size R ≤ 1048576) (hm : st.many ≤ 1000000) :
    Calls Tryz.prog 71 #[.pointer (some ⟨q, 0, none⟩), v] w (RenewPost B q g lo st R w) := by
  have hmf : ∀ (fn : Fn) (first cap : Array Value) (w : World), (Instr.makeFunc fn first cap).run Tryz.prog w = .ok (.func fn first cap) w := fun _ _ _ _ => rfl
  have hg := hl.2.2
  obtain ⟨hh, hhe⟩ : ∃ hh : Nat, hh = 1 - lo.t.h := ⟨_, rfl⟩
  have hz : (1 : Int) - (lo.t.h : Int) = (hh : Int) := by omega
  have hnt : Lg.newTop lo.t = ⟨lo.t.e + 1, lo.t.e + 1, hh⟩ := by rw [hhe]; rfl
  have hb1 : Below w.heap.size w (w.alloc (.cells (HdC ⟨lo.t.e + 1, lo.t.e + 1, hh⟩) 108)) := (Below.refl _ _).alloc (Nat.le_refl _) _
  have hH1 := Blk.new w 108 (HdC ⟨lo.t.e + 1, lo.t.e + 1, hh⟩)
  have hQ1 := hl.1.alloc (.cells (HdC ⟨lo.t.e + 1, lo.t.e + 1, hh⟩) 108)
  have he1 := hg.2.2.1
  have he0 : 0 ≤ lo.t.e := by omega
  have HALL := Lib.hid (And.intro h (And.intro hl (And.intro hr (And.intro hs (And.intro hm hnt)))))
  have HG := Lib.hid hg
  have hhh : hh ≤ 1 := by omega
  obtain ⟨⟨c0, c1, -, c3, -, -⟩, -⟩ := six hl.1
  clear h hl hr hs hm hnt hg hhe
  go_enter Tryz.func71, Tryz.ntmps71
  go_wp2_with fail
  generalize hW1 : w.alloc (.cells (HdC ⟨lo.t.e + 1, lo.t.e + 1, hh⟩) 108) = w1 at *
  obtain ⟨f0, f1, f2, f3⟩ := hq_four hH1 hQ1
  simp only at f0 f1 f2
  have HB1 := Lib.hid hb1
  have HH1 := Lib.hid hH1
  have HQ1 := Lib.hid hQ1
  clear c0 c1 c3 hW1 hb1 hH1 hQ1
  go_region_held3 (fun W => W.cell? ⟨w.heap.size, 0, none⟩ = some (.int .i64 (lo.t.e + 1)) ∧ W.cell? ⟨w.heap.size, 1, none⟩ = some (.int .i64 (lo.t.e + 1)) ∧ W.cell? ⟨w.heap.size, 2, none⟩ = some (.int .i64 (hh : Int)) ∧ W.cell? ⟨q, 0, none⟩ = some (.pointer (some ⟨g, 0, none⟩))) (first | assumption | exact ⟨f0, f1, f2, f3⟩ | exact hq_four (H3.alloc _) (Q3.alloc _) | go_keep)
    (first
      | (go_at_call 61; refine (puthead_any (fun _ => False) q g ⟨lo.t.e + 1, lo.t.e + 1, hh⟩ _ (by show (0 : Int) ≤ lo.t.e + 1; omega) hhh).mono ?_; rintro x w3 ⟨u, rfl, hu3, hb3⟩; have hu4 := hu3; obtain ⟨ca, cb, cn, cs5, rfl, -⟩ := hu3; have H3 := HH1.out.drew.older hb3 HH1.out.drew.lt; have Q3 := HQ1.out.drew.older hb3 HQ1.out.drew.lt; have s3 := hq_four H3 Q3)
      | (go_at_call 101; have hcall := renew_put HALL.out.1 HALL.out.2.1 HALL.out.2.2.1 HALL.out.2.2.2.1 HALL.out.2.2.2.2.1 HB1.out.drew hb3 (by rw [HALL.out.2.2.2.2.2]; exact hu4); rw [HALL.out.2.2.2.2.2] at hcall; refine hcall.mono ?_; rintro x w5 ⟨rfl, hd5, hl5, hc5⟩; have s5 := hq_four (hc5.blk (H3.alloc _) rfl) hl5.1))
  all_goals
    have hcw := ((Ch.of_below (T := Tl) (B := B) HB1.out.drew).trans (Ch.of_below hb3)).trans ((Ch.refl Tl B w3).alloc (.cells #[.func (.func 118) #[] #[.pointer (some ⟨ca, 0, none⟩), .pointer (some ⟨cb, 0, none⟩), .pointer (some ⟨cn, 0, none⟩)], .func (.func 21) #[.pointer (some ⟨g, 0, none⟩)] #[]] 54))
    go_wp2_with fail
    go_ret
    exact ⟨rfl, hd5, hl5, hcw.trans hc5⟩

end Go.Proofs.YtimcepoleboldaaGreatDoor

/- What headOf comes to, the program's. -/
namespace Go.Proofs.YtimcepoleboldaaGreatDoor
open Go.RowKit

/-- The head that bytes are, in whatever sector. -/
def topIn (s : List UInt8) : Option Lg.Top :=
  if Cn.isC s ∧ (Cn.decC s).f = true ∧ (Cn.decC s).l = true ∧ ((Cn.decC s).d = [48] ∨ (Cn.decC s).d = [49]) ∧ (Cn.decC s).q ≤ (Cn.decC s).e then some (Lg.topOf (Cn.decC s)) else none

theorem topIn_not {s : List UInt8} (h : ¬ Cn.isC s) : topIn s = none := if_neg fun h2 => h h2.1
theorem topIn_no {s : List UInt8} {c : Cn.Chu} (hc : c = Cn.decC s) (h : ¬ (c.f = true ∧ c.l = true ∧ (c.d = [48] ∨ c.d = [49]) ∧ c.q ≤ c.e)) : topIn s = none := if_neg fun h2 => h (hc ▸ h2.2)
theorem topIn_yes {s : List UInt8} {c : Cn.Chu} (hC : Cn.isC s) (hc : c = Cn.decC s) (h : c.f = true ∧ c.l = true ∧ (c.d = [48] ∨ c.d = [49]) ∧ c.q ≤ c.e) : topIn s = some (Lg.topOf c) := by
  subst hc
  exact if_pos ⟨hC, h⟩

theorem info_head : (Tryz.prog.info? 108).map (·.size) = some 3 := by kernel_rfl
theorem results_head {fn : Func} (h : fn.results = #[.cell 2 108, .tmp 3]) (tmps : Array Value) (W : World) (B : Nat) (a b c : Value)
    (hp : tmps.getD 2 undef = .pointer (some ⟨B, 0, none⟩)) (hb : Blk W B 108 #[a, b, c]) :
    (results fn tmps).run Tryz.prog W = .ok (.tuple #[.agg #[a, b, c], tmps.getD 3 undef]) W := by
  have hp' : tmps[2]?.getD undef = .pointer (some ⟨B, 0, none⟩) := by simpa using hp
  simp [results, h, hp', asAddr, run_loadVar_row W B 108 108 #[a, b, c] (0, 0) _ hb Tryz.underlying108 rfl info_head]

theorem of_list' {d : ByteArray} {l : List UInt8} (h : d.data.toList = l) : d = ⟨l.toArray⟩ := by
  subst h
  simp

def HeadOfPost (s : ByteArray) (w : World) (x : Ending) (w' : World) : Prop :=
  x = .returned (.tuple #[HdV ((topIn s.data.toList).getD ⟨0, 0, 0⟩), .bool (topIn s.data.toList).isSome]) ∧ Below w.heap.size w w'

set_option maxRecDepth 20000 in
set_option maxHeartbeats 1000000 in
theorem headof_any (s : ByteArray) (w : World) (hs : s.size ≤ 1048576) :
    Calls Tryz.prog 90 #[.string s] w (HeadOfPost s w) := by
  have HD := Lib.hid (fun W : World => decode_any s W hs)
  have hB := Blk.new w 108 #[.int .i64 0, .int .i64 0, .int .i64 0]
  have hg : Below w.heap.size w (w.alloc (.cells #[.int .i64 0, .int .i64 0, .int .i64 0] 108)) := (Below.refl _ _).alloc (Nat.le_refl _) _
  go_enter Tryz.func90, Tryz.ntmps90
  go_wp2_with fail
  generalize w.alloc (.cells #[.int .i64 0, .int .i64 0, .int .i64 0] 108) = w1 at *
  refine (HD.out w1).mono ?_
  rintro x w2 ⟨e, q, f, l, d, rfl, his, hb2⟩
  have hB2 := hB.older hb2 hB.lt
  have hg2 := hg.trans (hb2.mono hg.size)
  have hg3 := hg2.alloc hg2.size (.cells (ChC e q f l d) 95)
  have hB3 := hB2.alloc (.cells (ChC e q f l d) 95)
  have hC3 := Blk.new w2 95 (ChC e q f l d)
  obtain ⟨c0, c1, c2, c3, c4⟩ := five hC3
  have hapart : w.heap.size ≠ w2.heap.size := fun e => Nat.lt_irrefl _ (e ▸ hB2.lt)
  obtain ⟨⟨a0, a1, a2⟩, b0, b1, b2⟩ := three hB3
  have his' : (⟨e, q, f, l, d.data.toList⟩ : Cn.Chu) = Cn.decC s.data.toList := his
  by_cases hC : Cn.isC s.data.toList
  · have hE : Cn.decE s.data.toList = 0 := by unfold Cn.decE; rw [if_pos hC]
    have hpos : 0 ≤ e ∧ e ≤ 1099511627776 := by
      have := (Cn.enc_dec _ hE).1
      rw [← his'] at this
      exact ⟨this.1, this.2.1⟩
    rw [hE]
    clear hE hB hg hB2 hg2 hb2
    cases f with
    | false =>
      have HN := Lib.hid (topIn_no his' (fun h => by cases h.1))
      clear his his'
      go_wp2_with fail
      refine bodyPost_ret (results_head rfl _ _ w.heap.size _ _ _ rfl (hB3.h3 _ _ _)) rfl ⟨?_, gr_to_below (gr_h3 (gr_of_below hg3 none) (Nat.le_refl _) _ _ _)⟩
      rw [HN.out]; rfl
    | true =>
      cases l with
      | false =>
        have HN := Lib.hid (topIn_no his' (fun h => by cases h.2.1))
        clear his his'
        go_wp2_with fail
        refine bodyPost_ret (results_head rfl _ _ w.heap.size _ _ _ rfl (hB3.h3 _ _ _)) rfl ⟨?_, gr_to_below (gr_h3 (gr_of_below hg3 none) (Nat.le_refl _) _ _ _)⟩
        rw [HN.out]; rfl
      | true =>
        by_cases hq : q ≤ e
        · by_cases h0 : d = ⟨#[48]⟩
          · subst h0
            have HN := Lib.hid (topIn_yes hC his' ⟨rfl, rfl, .inl rfl, hq⟩)
            clear his his'
            go_wp2_with fail
            refine bodyPost_ret (results_head rfl _ _ w.heap.size _ _ _ rfl (hB3.h3 _ _ _)) rfl ⟨?_, gr_to_below (gr_h3 (gr_of_below hg3 none) (Nat.le_refl _) _ _ _)⟩
            rw [HN.out]; rfl
          · have hn0 : ¬ d.toList = [48] := fun e => h0 (of_list' (by rw [← ByteArray.toList_eq]; exact e))
            by_cases h1 : d = ⟨#[49]⟩
            · subst h1
              have HN := Lib.hid (topIn_yes hC his' ⟨rfl, rfl, .inr rfl, hq⟩)
              clear his his'
              go_wp2_with fail
              refine bodyPost_ret (results_head rfl _ _ w.heap.size _ _ _ rfl (hB3.h3 _ _ _)) rfl ⟨?_, gr_to_below (gr_h3 (gr_of_below hg3 none) (Nat.le_refl _) _ _ _)⟩
              rw [HN.out]; rfl
            · have hn1 : ¬ d.toList = [49] := fun e => h1 (of_list' (by rw [← ByteArray.toList_eq]; exact e))
              have hb1 : (d.toList == [49]) = false := by rw [beq_eq_false_iff_ne]; exact hn1
              have HN := Lib.hid (topIn_no his' (fun h => h.2.2.1.elim (fun h2 => h0 (of_list' h2)) (fun h2 => h1 (of_list' h2))))
              clear his his'
              go_wp2_with fail
              · exact absurd (eq_of_beq (by assumption : (d.toList == [48]) = true)) hn0
              refine bodyPost_ret (results_head rfl _ _ w.heap.size _ _ _ rfl (hB3.h3 _ _ _)) rfl ⟨?_, gr_to_below (gr_h3 (gr_of_below hg3 none) (Nat.le_refl _) _ _ _)⟩
              rw [HN.out]; rfl
        · have HN := Lib.hid (topIn_no his' (fun h => hq h.2.2.2))
          clear his his'
          go_wp2_with fail
          refine bodyPost_ret (results_head rfl _ _ w.heap.size _ _ _ rfl (hB3.h3 _ _ _)) rfl ⟨?_, gr_to_below (gr_h3 (gr_of_below hg3 none) (Nat.le_refl _) _ _ _)⟩
          rw [HN.out]; rfl
  · have hE : Cn.decE s.data.toList = 21 := by unfold Cn.decE; rw [if_neg hC]
    rw [hE]
    clear hE hB hg hB2 hg2 hb2
    have HN := Lib.hid (topIn_not hC)
    clear his his'
    go_wp2_with fail
    refine bodyPost_ret (results_head rfl _ _ w.heap.size _ _ _ rfl (hB3.h3 _ _ _)) rfl ⟨?_, gr_to_below (gr_h3 (gr_of_below hg3 none) (Nat.le_refl _) _ _ _)⟩
    rw [HN.out]; rfl

end Go.Proofs.YtimcepoleboldaaGreatDoor

/- What newest comes to, the program's: the head that counts. -/
namespace Go.Proofs.YtimcepoleboldaaGreatDoor
open Go.RowKit

/-- The head that a sector holds. -/
def hdIn (f : Nat → ByteArray) (k : Nat) : Option Lg.Top := (Lg.head f k).map Lg.topOf

theorem hdIn_eq (f : Nat → ByteArray) (k : Nat) : hdIn f k = match topIn (f k).data.toList with | some t => if t.e % 2 = (k : Int) then some t else none | none => none := by
  by_cases hC : Cn.isC (f k).data.toList
  · have eD : Cn.decC (f k).data.toList = Cn.got (f k).data.toList := by unfold Cn.decC; rw [if_pos hC]
    have hd : hdIn f k = (if Lg.isHead (Cn.decC (f k).data.toList) k then some (Cn.decC (f k).data.toList) else none).map Lg.topOf := by
      unfold hdIn Lg.head Lg.chk
      rw [if_pos hC, ← eD]
    rw [hd]
    by_cases hH : (Cn.decC (f k).data.toList).f = true ∧ (Cn.decC (f k).data.toList).l = true ∧ ((Cn.decC (f k).data.toList).d = [48] ∨ (Cn.decC (f k).data.toList).d = [49]) ∧ (Cn.decC (f k).data.toList).q ≤ (Cn.decC (f k).data.toList).e
    · rw [topIn_yes hC rfl hH]
      show _ = if (Cn.decC (f k).data.toList).e % 2 = (k : Int) then some (Lg.topOf (Cn.decC (f k).data.toList)) else none
      by_cases hp : (Cn.decC (f k).data.toList).e % 2 = (k : Int)
      · rw [if_pos hp, if_pos ⟨hH.1, hH.2.1, hH.2.2.1, hH.2.2.2, hp⟩]; rfl
      · rw [if_neg hp, if_neg (fun h => hp h.2.2.2.2)]; rfl
    · rw [topIn_no rfl hH, if_neg (fun h => hH ⟨h.1, h.2.1, h.2.2.1, h.2.2.2.1⟩)]; rfl
  · have hd : hdIn f k = none := by
      unfold hdIn Lg.head Lg.chk
      rw [if_neg hC]; rfl
    rw [hd, topIn_not hC]

theorem hdIn_good {f : Nat → ByteArray} {k : Nat} {t : Lg.Top} (h : hdIn f k = some t) : 0 ≤ t.b ∧ t.b ≤ t.e ∧ t.e ≤ 1099511627776 ∧ t.h ≤ 1 ∧ t.e % 2 = (k : Int) := by
  unfold hdIn Lg.head at h
  cases hc : Lg.chk (f k) with
  | none => rw [hc] at h; cases h
  | some c =>
    rw [hc] at h
    have hok := Lg.chk_ok hc
    by_cases hH : Lg.isHead c k
    · change (if Lg.isHead c k then some c else none).map Lg.topOf = some t at h
      rw [if_pos hH] at h
      injection h with h
      subst h
      refine ⟨hok.2.2.1, hH.2.2.2.1, hok.2.1, ?_, hH.2.2.2.2⟩
      show (if c.d = [49] then 1 else 0) ≤ 1
      split <;> omega
    · change (if Lg.isHead c k then some c else none).map Lg.topOf = some t at h
      rw [if_neg hH] at h
      cases h

theorem topIn_good {s : List UInt8} {t : Lg.Top} (h : topIn s = some t) : 0 ≤ t.b ∧ t.b ≤ t.e ∧ t.e ≤ 1099511627776 ∧ t.h ≤ 1 := by
  unfold topIn at h
  split at h
  · rename_i hc
    injection h with h
    subst h
    have hok := (Cn.enc_dec _ (by unfold Cn.decE; rw [if_pos hc.1])).1
    refine ⟨hok.2.2.1, hc.2.2.2.2, hok.2.1, ?_⟩
    show (if (Cn.decC s).d = [49] then 1 else 0) ≤ 1
    split <;> omega
  · cases h

/-- The greatest one of the first k sectors. -/
def bestTo (f : Nat → ByteArray) : Nat → Lg.Top
  | 0 => ⟨0, 0, 0⟩
  | k + 1 => match hdIn f k with
    | some t => if (bestTo f k).e ≤ t.e then t else bestTo f k
    | none => bestTo f k

theorem best_none {f : Nat → ByteArray} {k : Nat} (h : hdIn f k = none) : bestTo f (k + 1) = bestTo f k := by
  show (match hdIn f k with | some t => if (bestTo f k).e ≤ t.e then t else bestTo f k | none => bestTo f k) = _
  rw [h]
theorem best_some {f : Nat → ByteArray} {k : Nat} {t : Lg.Top} (h : hdIn f k = some t) : bestTo f (k + 1) = if (bestTo f k).e ≤ t.e then t else bestTo f k := by
  show (match hdIn f k with | some t => if (bestTo f k).e ≤ t.e then t else bestTo f k | none => bestTo f k) = _
  rw [h]

theorem best_two (f : Nat → ByteArray) : bestTo f 2 = Lg.top f := by
  have ht : Lg.top f = match hdIn f 0 with | some a => (match hdIn f 1 with | some b => if a.e < b.e then b else a | none => a) | none => (match hdIn f 1 with | some b => b | none => ⟨0, 0, 0⟩) := by
    unfold Lg.top hdIn
    cases Lg.head f 0 with
    | none => cases Lg.head f 1 <;> rfl
    | some a => cases Lg.head f 1 <;> rfl
  rw [ht]
  cases h0 : hdIn f 0 with
  | none =>
    have e1 : bestTo f 1 = ⟨0, 0, 0⟩ := best_none h0
    cases h1 : hdIn f 1 with
    | none => rw [best_none h1, e1]
    | some b =>
      have hb := hdIn_good h1
      rw [best_some h1, e1, if_pos (by show (0 : Int) ≤ b.e; omega)]
  | some a =>
    have ha := hdIn_good h0
    have e1 : bestTo f 1 = a := by rw [best_some h0, if_pos (by show (0 : Int) ≤ a.e; omega)]
    cases h1 : hdIn f 1 with
    | none => rw [best_none h1, e1]
    | some b =>
      have hb := hdIn_good h1
      rw [best_some h1, e1]
      show (if a.e ≤ b.e then b else a) = if a.e < b.e then b else a
      have hne : a.e ≠ b.e := fun e => by have := ha.2.2.2.2; have := hb.2.2.2.2; omega
      by_cases hlt : a.e < b.e
      · rw [if_pos hlt, if_pos (by omega)]
      · rw [if_neg hlt, if_neg (by omega)]

theorem best_good (f : Nat → ByteArray) (k : Nat) : 0 ≤ (bestTo f k).b ∧ (bestTo f k).b ≤ (bestTo f k).e ∧ (bestTo f k).e ≤ 1099511627776 ∧ (bestTo f k).h ≤ 1 := by
  induction k with
  | zero => exact ⟨Int.le_refl _, Int.le_refl _, by show (0 : Int) ≤ _; decide, Nat.zero_le _⟩
  | succ k ih =>
    cases h : hdIn f k with
    | none => rw [best_none h]; exact ih
    | some t =>
      have := hdIn_good h
      rw [best_some h]
      split
      · exact ⟨this.1, this.2.1, this.2.2.1, this.2.2.2.1⟩
      · exact ih
theorem top_good (f : Nat → ByteArray) : 0 ≤ (Lg.top f).b ∧ (Lg.top f).b ≤ (Lg.top f).e ∧ (Lg.top f).e ≤ 1099511627776 ∧ (Lg.top f).h ≤ 1 := by rw [← best_two]; exact best_good f 2

def NewestPost (st : Dk.St) (w : World) (x : Ending) (w' : World) : Prop :=
  x = .returned (.tuple #[HdV (if st.off then ⟨0, 0, 0⟩ else Lg.top st.is), .int .i64 (if st.off then 33 else 0)]) ∧ Below w.heap.size w w'

/-- What newest's loop knows. -/
structure NewLoop (f : Nat → ByteArray) (w : World) (k : Nat) (wr : World) : Prop where
  res : Blk wr w.heap.size 108 #[.int .i64 0, .int .i64 0, .int .i64 0]
  best : Blk wr (w.heap.size + 1) 108 (HdC (bestTo f k))
  below : Below w.heap.size w wr

theorem NewLoop.up {f : Nat → ByteArray} {w wr w1 : World} {k : Nat} (h : NewLoop f w k wr) (hb : Below wr.heap.size wr w1) : NewLoop f w k w1 :=
  ⟨h.res.older hb h.res.lt, h.best.older hb h.best.lt, h.below.trans (hb.mono h.below.size)⟩
theorem NewLoop.keep {f : Nat → ByteArray} {w wr : World} {k : Nat} (h : NewLoop f w k wr) (he : bestTo f (k + 1) = bestTo f k) : NewLoop f w (k + 1) wr := ⟨h.res, he ▸ h.best, h.below⟩
theorem NewLoop.turn {f : Nat → ByteArray} {w wr : World} {k : Nat} {t : Lg.Top} (h : NewLoop f w k wr) (he : bestTo f (k + 1) = t) :
    NewLoop f w (k + 1) (((wr.setCell ⟨w.heap.size + 1, 0, none⟩ (.int .i64 t.e)).setCell ⟨w.heap.size + 1, 1, none⟩ (.int .i64 t.b)).setCell ⟨w.heap.size + 1, 2, none⟩ (.int .i64 (t.h : Int))) :=
  ⟨(((h.res.apart (by show w.heap.size ≠ w.heap.size + 1; omega) _).apart (by show w.heap.size ≠ w.heap.size + 1; omega) _).apart (by show w.heap.size ≠ w.heap.size + 1; omega) _),
   by rw [he]; exact h.best.h3 _ _ _, gr_to_below (gr_h3 (gr_of_below h.below none) (Nat.le_succ _) _ _ _)⟩

theorem read_off {st : Dk.St} {i : Int} (h : st.off = true) : st.read i = ByteArray.empty ∧ st.reach i = 33 := by
  have e : st.reach i = 33 := by unfold Dk.St.reach; rw [if_pos h]
  exact ⟨by unfold Dk.St.read; rw [if_neg (by rw [e]; decide)], e⟩
theorem read_on {st : Dk.St} {i : Nat} (h : st.off = false) (hi : i < 256) : st.read (i : Int) = st.is i ∧ st.reach (i : Int) = 0 := by
  have e : st.reach (i : Int) = 0 := by unfold Dk.St.reach; rw [if_neg (by rw [h]; decide), if_neg (by omega)]
  exact ⟨by unfold Dk.St.read; rw [if_pos e]; rfl, e⟩

set_option maxRecDepth 20000 in
set_option maxHeartbeats 1000000 in
theorem newest_any [Keep] (B g : Nat) (st : Dk.St) (w : World) (h : Dsk w B g st) :
    Calls Tryz.prog 58 #[.pointer (some ⟨g, 0, none⟩)] w (NewestPost st w) := by
  have hin := Lib.hid h.inv.texts
  have HR := Lib.hid (fun (i : Int) (W : World) (hb : Below w.heap.size w W) => dread_any B g st i W (h.kept (T := fun _ => false) (B' := 0) (Ch.of_below hb) (fun _ => rfl) (fun _ _ => rfl) (fun _ => rfl)))
  have h0 : NewLoop st.is w 0 ((w.alloc (.cells #[.int .i64 0, .int .i64 0, .int .i64 0] 108)).alloc (.cells #[.int .i64 0, .int .i64 0, .int .i64 0] 108)) := by
    have n1 := Blk.new w 108 #[.int .i64 0, .int .i64 0, .int .i64 0]
    have n2 := Blk.new (w.alloc (.cells #[.int .i64 0, .int .i64 0, .int .i64 0] 108)) 108 #[.int .i64 0, .int .i64 0, .int .i64 0]
    have e1 : (w.alloc (.cells #[.int .i64 0, .int .i64 0, .int .i64 0] 108)).heap.size = w.heap.size + 1 := by simp
    rw [e1] at n2
    exact ⟨n1.alloc _, n2, ((Below.refl _ _).alloc (Nat.le_refl _) _).alloc (by rw [e1]; omega) _⟩
  clear h
  go_enter Tryz.func58, Tryz.ntmps58
  go_wp2_with fail
  go_loopw [10] (fun v wr => ∃ k : Nat, k ≤ 2 ∧ (0 < k → st.off = false) ∧ v = .int .i64 (k : Int) ∧ NewLoop st.is w k wr) (fun v _ => 2 - (intOf v).toNat)
  case atStart => exact ⟨0, by omega, fun h => absurd h (Nat.lt_irrefl _), rfl, h0⟩
  case round =>
    obtain ⟨k, hk, hoff, rfl, hL⟩ := hrel
    have HOF := Lib.hid hoff
    clear hoff
    clear h0
    have HL := Lib.hid hL
    by_cases hlt : k < 2
    · cases ho : st.off with
      | true =>
        obtain ⟨⟨y0, y1, y2⟩, z0, z1, z2⟩ := three hL.res
        clear hL
        obtain ⟨r1, r2⟩ := read_off (i := (k : Int)) ho
        have HO := Lib.hid ho
        go_wp2_with fail
        refine (HR.out (k : Int) wr HL.out.below).mono ?_
        rintro e w2 ⟨rfl, rfl⟩
        rw [r1, r2]
        clear r1 r2 ho
        go_wp2_with fail
        refine bodyPost_ret (results_head rfl _ _ w.heap.size _ _ _ rfl (HL.out.res.h3 _ _ _)) rfl ⟨by rw [HO.out]; rfl, gr_to_below (gr_h3 (gr_of_below HL.out.below none) (Nat.le_refl _) _ _ _)⟩
      | false =>
        clear hL
        have HO := Lib.hid ho
        obtain ⟨r1, r2⟩ := read_on ho (i := k) (by omega)
        have hs : (st.is k).size ≤ 1048576 := Nat.le_trans (hin.out k) (by decide)
        go_wp2_with fail
        refine (HR.out (k : Int) wr HL.out.below).mono ?_
        rintro e w2 ⟨rfl, rfl⟩
        rw [r1, r2]
        clear r1 r2
        go_wp2_with fail
        refine (headof_any (st.is k) wr hs).mono ?_
        rintro e w2 ⟨rfl, hb2⟩
        have heq := hdIn_eq st.is k
        have hbest := (best_good st.is k)
        have hbe := hbest.2.1
        have hL2 := HL.out.up hb2
        cases ht : topIn (st.is k).data.toList with
        | none =>
          rw [ht] at heq
          have HN := Lib.hid (((hL2.up ((Below.refl _ _).alloc (Nat.le_refl _) (.cells #[.int .i64 0, .int .i64 0, .int .i64 0] 108)))).keep (best_none heq))
          clear hL2 heq ht hbest hbe hb2 HL
          go_wp2_with fail
          go_roundw
          case rel => exact ⟨k + 1, by omega, by first | exact fun _ => trivial | exact fun _ => HO.out, by go_num, HN.out⟩
          case measure => simp [intOf]; omega
        | some t =>
          rw [ht] at heq
          obtain ⟨t0, t1, t2, t3⟩ := topIn_good ht
          obtain ⟨te, tb, th⟩ := t
          have te0 : 0 ≤ te := by simp only at t0 t1; omega
          have te1 : te ≤ 1099511627776 := t2
          have hL3 := hL2.up ((Below.refl _ _).alloc (Nat.le_refl _) (.cells #[.int .i64 te, .int .i64 tb, .int .i64 (th : Int)] 108))
          have hn := Blk.new w2 108 #[.int .i64 te, .int .i64 tb, .int .i64 (th : Int)]
          obtain ⟨⟨n0, n1, n2⟩, -⟩ := three hn
          obtain ⟨⟨b0, b1, b2⟩, z0, z1, z2⟩ := three hL3.best
          have HL3 := Lib.hid hL3
          have HHe := Lib.hid heq
          have hsz : w2.heap.size ≠ w.heap.size + 1 := fun e => by have := hL2.best.lt; omega
          clear hL2 hL3 hn heq ht t0 t1 t2 t3 hb2 HL hs HR hbest
          by_cases hp : te % 2 = (k : Int)
          · have hpb : (te % 2 == (k : Int)) = true := by rw [beq_iff_eq]; exact hp
            have HP := Lib.hid (show hdIn st.is k = some ⟨te, tb, th⟩ by rw [HHe.out]; exact if_pos hp)
            by_cases hle : (bestTo st.is k).e ≤ te
            · have HN := Lib.hid (HL3.out.turn (t := ⟨te, tb, th⟩) (by rw [best_some HP.out, if_pos hle]))
              clear HL3 HHe HP
              generalize (bestTo st.is k).e = be at *
              go_wp2_with fail
              go_roundw
              case rel => exact ⟨k + 1, by omega, by first | exact fun _ => trivial | exact fun _ => HO.out, by go_num, HN.out⟩
              case measure => simp [intOf]; omega
            · have HN := Lib.hid (HL3.out.keep (by rw [best_some HP.out, if_neg hle]))
              clear HL3 HHe HP
              generalize (bestTo st.is k).e = be at *
              go_wp2_with fail
              go_roundw
              case rel => exact ⟨k + 1, by omega, by first | exact fun _ => trivial | exact fun _ => HO.out, by go_num, HN.out⟩
              case measure => simp [intOf]; omega
          · have hpb : (te % 2 == (k : Int)) = false := by rw [beq_eq_false_iff_ne]; exact hp
            have HN := Lib.hid (HL3.out.keep (best_none (HHe.out.trans (if_neg hp))))
            clear HL3 HHe hbe
            generalize (bestTo st.is k).e = be at *
            go_wp2_with fail
            go_roundw
            case rel => exact ⟨k + 1, by omega, by first | exact fun _ => trivial | exact fun _ => HO.out, by go_num, HN.out⟩
            case measure => simp [intOf]; omega
    · obtain rfl : k = 2 := by omega
      obtain ⟨⟨c0, c1, c2⟩, -⟩ := three hL.best
      obtain ⟨⟨y0, y1, y2⟩, z0, z1, z2⟩ := three hL.res
      clear hL
      rw [best_two] at c0 c1 c2
      go_wp2_with fail
      refine bodyPost_ret (results_head rfl _ _ w.heap.size _ _ _ rfl (HL.out.res.h3 _ _ _)) rfl ⟨?_, gr_to_below (gr_h3 (gr_of_below HL.out.below none) (Nat.le_refl _) _ _ _)⟩
      have e0 := HOF.out (by decide)
      rw [e0]
      rfl

end Go.Proofs.YtimcepoleboldaaGreatDoor
