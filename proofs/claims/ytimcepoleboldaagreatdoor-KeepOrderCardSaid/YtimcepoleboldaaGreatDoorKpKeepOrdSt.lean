/- KeepOrder: the steps of its loop, and its end. -/
import Derived.Test.YtimcepoleboldaaGreatDoorKpKeepOrdAt
namespace Go.Proofs.YtimcepoleboldaaGreatDoor
open Go.RowKit Go.Deep

/-- Append of one record to a row of n records that lies at lb. -/
theorem step_append_ord {ops : Array Oper} {o : Oper} {a : Act} {w : World} {K : Act → World → Prop} {Q : Exit → Act → World → Prop} {E : Prop} (hg : o.guard = none) (s x : Operand)
    (ho : o.op = .call { callee := .builtin .append, args := #[s, x], argTypes := #[29, 29] })
    {base lb g c cap0 n : Nat} {l : List Kp.Rc} {z : Kp.Rc} (hn : l.length = n) (h : RowR w base (.slice (some ⟨lb, 0, none⟩) n cap0) l) (h0 : w.cell? ⟨g, 0, none⟩ = some (.int .i64 z.k)) (h1 : w.cell? ⟨g, 1, none⟩ = some (.string z.key)) (h2 : w.cell? ⟨g, 2, none⟩ = some (.string z.val)) (hl : n ≤ 1048576) (hb : base ≤ w.heap.size) (hs : a.eval s = .slice (some ⟨lb, 0, none⟩) n cap0) (hx : a.eval x = .slice (some ⟨g, 0, none⟩) 1 c)
    (hK : ∀ lb' cap w', RowR w' base (.slice (some ⟨lb', 0, none⟩) (n + 1) cap) (l ++ [z]) → w.grownBy w' (some lb) → (lb' = lb ∨ lb' = w.heap.size) → K (a.put o.dst (.slice (some ⟨lb', 0, none⟩) (n + 1) cap)) w') : if Region.wanted o (yielded ops a.tmps) = true then Oper.wp Tryz.prog o a w K Q else E := by
  subst hn
  exact step_append_at hg s x ho h h0 h1 h2 hl hb hs hx (fun lb' cap w' q1 q2 q3 _ => hK lb' cap w' (by rw [List.length_append] at q1; exact q1) q2 q3)

theorem recs_one (w : World) (a b : ByteArray) : Recs (w.alloc (.cells #[.int .i64 1, .string a, .string b] 32)) (.slice (some ⟨w.heap.size, 0, none⟩) 1 1) [⟨1, a, b⟩] := by
  refine ⟨some ⟨w.heap.size, 0, none⟩, 1, rfl, fun j x hj => ?_⟩
  match j, hj with
  | 0, hj =>
    simp at hj
    subst hj
    exact ⟨by show (-9223372036854775808 : Int) ≤ 1 ∧ (1 : Int) ≤ 9223372036854775807; decide, w.heap.size, 0, rfl, by simp, by simp, by simp, by simp⟩
  | j + 1, hj => simp at hj

theorem ord_at {l : List ByteArray} {r : List Kp.Rc} (hr : r = Kp.orec 0 l) {k : Nat} {x : ByteArray} (h : l[k]? = some x) : r[k]? = some ⟨1, Kp.okey k, x⟩ := by
  rw [hr, Kp.orec_at, h]
  simp
theorem ord_turned {l : List ByteArray} {r : List Kp.Rc} (hr : r = Kp.orec 0 l) {i bn : Nat} {x : ByteArray} (hi : i < l.length) (h : l[(i + bn) % l.length]? = some x) : (Kp.turned r (bn % l.length))[i]? = some ⟨1, Kp.okey ((i + bn) % l.length), x⟩ := by
  have hl : r.length = l.length := by rw [hr, Kp.orec_length]
  rw [← hl, Kp.turned_at (by omega), hl]
  exact ord_at hr h
theorem rest_nat (i bn n : Nat) : ((i : Int) + (bn : Int)).tmod (n : Int) = (((i + bn) % n : Nat) : Int) := by
  rw [← Int.natCast_add, Int.tmod_eq_emod_of_nonneg (Int.natCast_nonneg _)]
  exact (Int.natCast_emod _ _).symm

theorem row_last {w : World} {base lb n cap : Nat} {l : List Kp.Rc} {z : Kp.Rc} (hn : l.length = n) (h : RowR w base (.slice (some ⟨lb, 0, none⟩) (n + 1) cap) (l ++ [z])) :
    w.cell? ⟨lb, n * 3, none⟩ = some (.int .i64 z.k) ∧ w.cell? ⟨lb, n * 3 + 1, none⟩ = some (.string z.key) ∧ w.cell? ⟨lb, n * 3 + 2, none⟩ = some (.string z.val) := by
  have h' : w.ownsRow base 32 3 (.slice (some ⟨lb, 0, none⟩) (n + 1) cap) (l ++ [z]).length (flatR (l ++ [z])) := h
  have hc : ∀ k u, (flatR [z])[k]? = some u → w.cell? ⟨lb, n * 3 + k, none⟩ = some u := by
    intro k u hu
    have h1 := World.ownsRow.cells h' (g := lb) rfl (n * 3 + k) u (by
      rw [flatR_append, List.getElem?_append_right (by rw [flatR_length]; omega), flatR_length, show n * 3 + k - l.length * 3 = k by omega]
      exact hu)
    rw [Addr.add_lit, Nat.zero_add] at h1
    exact h1
  exact ⟨hc 0 _ rfl, hc 1 _ rfl, hc 2 _ rfl⟩

theorem row_block {w : World} {base lb n cap : Nat} {l : List Kp.Rc} (h : RowR w base (.slice (some ⟨lb, 0, none⟩) n cap) l) : ∃ cur z, w.heap[lb]? = some (.cells cur 32 z) := by
  have h' : w.ownsRow base 32 3 (.slice (some ⟨lb, 0, none⟩) n cap) l.length (flatR l) := h
  rcases h'.2 with ⟨h1, _⟩ | ⟨g, cap', cur, h1, _, hg, _⟩
  · cases h1
  · simp only [Value.slice.injEq, Option.some.injEq, Addr.mk.injEq, and_true] at h1
    rw [← h1.1] at hg
    exact ⟨cur, _, hg⟩

section
variable {w0 w1 w2 wr w' : World} {gs s kb : Nat} {r : List Kp.Rc} {b p i j : Nat} {lv mv : Value}
/-- The law's row has one more. -/
theorem OrdAt.grow {lb cap : Nat} (h : OrdAt w0 w1 w2 gs s kb r b p i j (.slice (some ⟨lb, 0, none⟩) i cap) mv wr) {z : Kp.Rc} (hz : r[i]? = some z) {lb' cap' : Nat} (hrow : RowR w' w2.heap.size (.slice (some ⟨lb', 0, none⟩) (i + 1) cap') (r.take i ++ [z])) (hg : wr.grownBy w' (some lb)) (hn : lb' = lb ∨ wr.heap.size ≤ lb') (hkb : kb < w2.heap.size) :
    OrdAt w0 w1 w2 gs s kb r b p (i + 1) j (.slice (some ⟨lb', 0, none⟩) (i + 1) cap') mv w' := by
  obtain ⟨⟨K, lb0, cap0, mb, n, st, e, h1, h2, h3, h4, h5, h6⟩, h7, h8, h9⟩ := h
  injection h1 with h1 _ _
  injection h1 with h1
  injection h1 with h1 _ _
  subst h1
  have hlb := h2.lt (g := lb) rfl
  have hblk := row_block h2
  have htk : r.take (i + 1) = r.take i ++ [z] := by
    obtain ⟨q1, rfl⟩ := List.getElem?_eq_some_iff.1 hz
    exact List.take_succ_eq_append_getElem q1
  have hs := shop_append h5 hblk hg hn
  obtain ⟨cur, zz, ho⟩ := hblk
  have hc : @Ch noKeep Tr 0 wr w' := Ch.of_grown hg (fun g e => by injection e with e; subst e; exact ⟨Nat.zero_le _, _, ho, rfl⟩)
  have h8' : Blk wr kb 9 _ := h8
  exact ⟨⟨K, lb', cap', mb, n, st, e, rfl, by rw [htk]; exact hrow, h3, h4, hs, h6⟩, h7.kept hc (fun _ => rfl), h8'.grown hg (by intro e; injection e with e; omega), h9.own hg (fun g e => by injection e with e; omega)⟩

theorem OrdAt.took (h : OrdAt w0 w1 w2 gs s kb r b p i j lv mv wr) (hb : Below wr.heap.size wr w') {mv' : Value} (hs : Solid w' w2.heap.size mv' (Kp.all [] (r.take (j + 1)))) : OrdAt w0 w1 w2 gs s kb r b p i (j + 1) lv mv' w' := by
  obtain ⟨h1, -, h3, h4⟩ := h.to hb
  exact ⟨h1, hs, h3, h4⟩

/-- The end: all of them put to t at once; what both stores have. -/
theorem OrdAt.last {n0 : Nat} (h : OrdAt w0 w1 w2 gs s kb r b n0 n0 n0 lv mv wr) (hn0 : r.length = n0) (hr : Kp.heavy r ≤ 4096 ∧ r.length ≤ 12) (ha : Kp.Apart r) (hwf : ∀ x ∈ r, x.wf) {K2 : Keep} {gt t mbt nt : Nat} {st2 : Dk.St}
    (hS2 : Shop K2 w2 w1.heap.size gt t mbt nt 1048576 [] st2 (0 + 1)) (hn2 : nt ≤ 12192 ∧ st2.many ≤ 2) (hmb : w1.heap.size ≤ mbt) (hw : w0.heap.size ≤ w1.heap.size) :
    Calls Tryz.prog 11 #[.pointer (some ⟨t, 0, none⟩), lv] wr fun e w5 => e = .returned (.int .i64 0) ∧ Below w0.heap.size wr w5 ∧
      (∀ W, Below w5.heap.size w5 W → Calls Tryz.prog 13 #[.pointer (some ⟨s, 0, none⟩), mv] W fun e w' => e = .returned (.bool true) ∧ Below W.heap.size W w') ∧
      (∀ W, Below w5.heap.size w5 W → Calls Tryz.prog 13 #[.pointer (some ⟨t, 0, none⟩), mv] W fun e w' => e = .returned (.bool true) ∧ Below W.heap.size W w') := by
  subst hn0
  obtain ⟨⟨K, lb, cap, mb, n, st, e, h1, h2, h3, h4, h5, h6, h7, h8⟩, h9, h10, h11⟩ := h
  rw [List.take_of_length_le (by rw [Kp.turned_length]; exact Nat.le_refl _)] at h5
  rw [List.take_of_length_le (Nat.le_refl _)] at h2 h9
  rw [← Kp.all_perm ha (Kp.turned_perm r b)] at h5
  have hsz := h11.size
  have T1 := shop_more_at hS2 h11 (fun i a1 a2 => ⟨a1, a2⟩) ⟨hmb, hS2.lt⟩ (fun _ => rfl) (fun _ => rfl)
  have s0 := Kp.size_all_le r []
  have l0 := Kp.length_all_le r []
  have hs0 : Kp.size ([] : Kp.Mp) = 0 := rfl
  have hl0 : ([] : Kp.Mp).length = 0 := rfl
  have hbat := Kp.batch_short (m := Kp.all [] r) (by omega) (by omega)
  have hodd : ¬ Kp.odd r := by
    rintro ⟨x, hx, q1, q2⟩
    exact q1 (ha.puts x hx)
  refine (shop_put T1 (by omega) (h2.recs hwf) (by omega) (by omega) (by omega) (by omega)).mono ?_
  rintro e' w5 ⟨E, K', mb', n', st', e1, rfl, hK, hS, he0, he1, hn', hc, hmb', hm', hE, -, -⟩
  have hE0 : E = 0 := by
    rcases hE with h | ⟨_, h⟩ | ⟨_, _, h | h⟩
    · exact h
    · exact absurd h hodd
    · omega
    · omega
  subst hE0
  rw [if_pos rfl] at hS
  have hbm : mb < wr.heap.size := @Shop.lt (butRow lb) _ _ _ _ _ _ _ _ _ _ _ h5
  obtain ⟨q, tb, tt, L, N, ep, z1, z2, z3, z4⟩ := h5
  have hid := kpwg_idle z3 hc (fun i hi hk => by
    rcases Nat.lt_or_ge i w1.heap.size with a1 | a1
    · exact .inl a1
    · rcases Nat.lt_or_ge i w2.heap.size with a2 | a2
      · exact absurd (h3 i a1 a2) hk
      · exact .inr (.inr ⟨a2, hi⟩)) (by
    rcases h4 with a1 | a1
    · exact .inl a1
    · exact .inr (.inr ⟨a1, hbm⟩)) (fun _ => rfl) (fun _ => rfl)
  have hso := h9.kept hc (fun _ => rfl)
  refine ⟨rfl, (hc.to_below (by have := hS2.lt; omega)).mono hw, fun W hW => ?_, fun W hW => ?_⟩
  · refine (@has_any (butRow lb) K w0.heap.size s q gs tb mb n _ mv (Kp.all [] r) W (@Kpwg.below (butRow lb) _ _ _ _ _ _ _ _ _ _ _ hid hW) (hso.below hW).1 (by show (Kp.all [] r).length ≤ _; omega) (by omega) (by omega)).mono ?_
    rintro e w' ⟨bb, rfl, hb, hbel⟩
    rw [hb rfl]
    exact ⟨rfl, hbel⟩
  · refine (shop_has (hS.below hW) (hso.below hW).1 (by omega) (by omega) (by omega)).mono ?_
    rintro e w' ⟨bb, rfl, hb, hbel⟩
    rw [hb rfl]
    exact ⟨rfl, hbel⟩
end
end Go.Proofs.YtimcepoleboldaaGreatDoor
