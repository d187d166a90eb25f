/- Several texts in one: TextParse, TextSizes, TextParse2, IrBelow, IrTable, IrLasts, IrSames, IrRefSames, TextSame, IrUses, IrTargets, IrRefUses, IrFits, IrCheckIns, IrRefOne. -/
import Derived.Test.YtcoehmmiplffgaaDoorTextLines1
import Derived.Test.YtcoehmmiplffgaaDoorTkC
import Derived.RangeFuncCalls
import Derived.Test.YtcoehmmiplffgaaDoorTextHeavy
import Derived.Test.YtcoehmmiplffgaaDoorTextPrint
import Derived.Test.YtcoehmmiplffgaaDoorIrRow
import Derived.Test.YtcoehmmiplffgaaDoorIrRead
import Derived.OpenShut
import Derived.MakeChecks
import Derived.FnData
import Derived.Deep.Cut
import Derived.Test.YtcoehmmiplffgaaDoorIrAt
import Derived.Test.YtcoehmmiplffgaaDoorTextOfW
import Derived.Deep.RegionHeld3
import Derived.BigQuiet
import Derived.Test.YtcoehmmiplffgaaDoorIrNames
import Derived.Deep.RegionWith
import Derived.Test.YtcoehmmiplffgaaDoorIrRefNames
/- parse, the program's. -/
namespace Go.Proofs.YtcoehmmiplffgaaDoor
open Go.ChangeShapes Go.WideShapes Go.RowKit Go.Deep Go.Shelf

attribute [local go_sem] Oper.semAt_some

theorem lines_in (n : Nat) (s : ByteArray) (w : World) :
    CallsIn Fence.wide n Tryd.prog 33 #[.string s] w fun e w' => e = .returned (.func (.func 50) #[] #[.pointer (some ⟨w.heap.size, 0, none⟩)]) ∧ w' = w.alloc (.cells #[.string s] 9) := by
  refine callsIn_of_wp Tryd.func33 rfl trivial ?_ rfl
  simp only [Tryd.ntmps33, List.size_toArray, List.length_cons, List.length_nil, Nat.reduceAdd, Nat.reduceSub, Array.replicate_succ, Array.replicate_zero, List.push_toArray, List.append_toArray, List.nil_append, List.cons_append]
  gi_wp2
  go_ret
  exact ⟨rfl, rfl⟩

abbrev cdZ : Array Value := #[.string ⟨#[]⟩, .int .i64 0, .int .i64 0, .int .i64 0, .slice none 0 0]
/-- The three results: what their blocks hold. -/
theorem results_pa {fn : Func} (h : fn.results = #[.cell 4 37, .cell 5 3, .cell 6 26]) (tmps : Array Value) (W : World) (B : Nat) (a b c d e x y : Value)
    (hp4 : tmps.getD 4 undef = .pointer (some ⟨B + 1, 0, none⟩)) (hp5 : tmps.getD 5 undef = .pointer (some ⟨B + 2, 0, none⟩)) (hp6 : tmps.getD 6 undef = .pointer (some ⟨B + 3, 0, none⟩))
    (h4 : Blk W (B + 1) 37 #[a, b, c, d, e]) (h5 : Blk W (B + 2) 3 #[x]) (h6 : Blk W (B + 3) 26 #[y]) :
    (results fn tmps).run Tryd.prog W = .ok (.tuple #[.agg #[a, b, c, d, e], x, y]) W := by
  have hp4' : tmps[4]?.getD undef = .pointer (some ⟨B + 1, 0, none⟩) := by simpa using hp4
  have hp5' : tmps[5]?.getD undef = .pointer (some ⟨B + 2, 0, none⟩) := by simpa using hp5
  have hp6' : tmps[6]?.getD undef = .pointer (some ⟨B + 3, 0, none⟩) := by simpa using hp6
  obtain ⟨k0, k1, k2, k3, k4⟩ := cells5 h4
  have c5 : W.cell? ⟨B + 2, 0, none⟩ = some x := h5.cell 0
  have c6 : W.cell? ⟨B + 3, 0, none⟩ = some y := h6.cell 0
  simp [results, h, hp4', hp5', hp6', asAddr, go_sem, k0, k1, k2, k3, k4, c5, c6]

/-- What parse comes to. -/
def PaPost (q : Int × Nat × Tx.Cd) (w : World) (e : Ending) (w' : World) : Prop := Below w.heap.size w w' ∧ ∃ gv, e = .returned (.tuple #[CdV q.2.2 gv, .int .i64 (q.2.1 : Int), .int .i64 q.1]) ∧ BlkF w.heap.size w' gv q.2.2.blocks

end Go.Proofs.YtcoehmmiplffgaaDoor
namespace Go.Proofs.YtcoehmmiplffgaaDoor.Tx
theorem readLn_small {code : Bool} {k : Nat} {c : Cd} {x : Option (List UInt8)} {q : Int × Cd} (hq : q = readLn code (k + 1) c x) (h : c.blocks.length ≤ k ∧ ∀ b ∈ c.blocks, b.length ≤ k) : q.2.blocks.length ≤ k + 1 ∧ ∀ b ∈ q.2.blocks, b.length ≤ k + 1 := by
  have h0 : c.blocks.length ≤ k + 1 ∧ ∀ b ∈ c.blocks, b.length ≤ k + 1 := ⟨by omega, fun b hb => by have := h.2 b hb; omega⟩
  subst hq
  cases x with
  | none => exact h0
  | some t =>
    show (readL code (k + 1) c (words t)).2.blocks.length ≤ k + 1 ∧ ∀ b ∈ (readL code (k + 1) c (words t)).2.blocks, b.length ≤ k + 1
    unfold readL
    split
    · exact h0
    · split
      · split
        · have e : ∀ vs, (setHead c vs).blocks = c.blocks := fun vs => by unfold setHead; split <;> rfl
          simp only [e]
          exact h0
        · exact h0
      · split
        · split
          · refine ⟨by rw [List.length_append]; simp; omega, fun b hb => ?_⟩
            rcases List.mem_append.1 hb with hb | hb
            · exact h0.2 b hb
            · rw [List.mem_singleton.1 hb]; simp
          · exact h0
        · split
          · exact h0
          · rename_i hne
            obtain ⟨m, b2, hmb⟩ := split_last hne
            simp only
            rw [hmb, addLast_at]
            have h3 := h.2 b2 (by rw [hmb]; simp)
            refine ⟨by have := h.1; rw [hmb] at this; simp at this ⊢; omega, fun b hb => ?_⟩
            rcases List.mem_append.1 hb with hb | hb
            · exact h0.2 b (by rw [hmb]; exact List.mem_append_left _ hb)
            · rw [List.mem_singleton.1 hb, List.length_append]
              simp
              omega
end Go.Proofs.YtcoehmmiplffgaaDoor.Tx
namespace Go.Proofs.YtcoehmmiplffgaaDoor
open Go.ChangeShapes Go.WideShapes Go.RowKit Go.Deep Go.Shelf
attribute [local go_sem] Oper.semAt_some
theorem Far.put {B l : Nat} {w : World} {o : Obj} (o' : Obj) (hl : w.heap[l]? = some o) (ho : o.isCells = false) : Far B w (w.putObj l o') := ⟨by simp, fun k _ cur _ hb => hb.move (World.putObj_heap_other (fun e => by
  subst e
  have h2 : w.heap[k]? = some (.cells cur _ (0, 0)) := hb
  rw [hl] at h2
  injection h2 with h2
  subst h2
  cases ho))⟩
/-! ### words of lines -/
theorem words_short : ∀ (l : List UInt8), ∀ x ∈ Tx.words l, x.length ≤ l.length
  | [], x, h => by
    simp [Tx.words] at h
    rw [h]
    exact Nat.le_refl _
  | c :: l, x, h => by
    have ih := words_short l
    rw [Tx.words] at h
    split at h
    · rcases List.mem_cons.1 h with rfl | h
      · exact Nat.zero_le _
      · exact Nat.le_succ_of_le (ih x h)
    · cases hw : Tx.words l with
      | nil =>
        rw [hw] at h
        simp at h
        rw [h]
        simp
      | cons w ws =>
        rw [hw] at h ih
        rcases List.mem_cons.1 h with rfl | h
        · have := ih w (List.mem_cons_self ..)
          simp only [List.length_cons]
          omega
        · exact Nat.le_succ_of_le (ih x (List.mem_cons_of_mem _ h))
theorem linesF_short : ∀ (f : Nat) (s t : List UInt8), some t ∈ Tx.linesF f s → t.length ≤ s.length
  | 0, _, _, h => by cases h
  | f + 1, s, t, h => by
    unfold Tx.linesF at h
    by_cases h0 : s = []
    · rw [if_pos h0] at h; cases h
    · rw [if_neg h0] at h
      cases hc : Tx.cutLF s with
      | none => rw [hc] at h; simp at h
      | some q =>
        obtain ⟨t', r⟩ := q
        rw [hc] at h
        have h1 := congrArg List.length (Tx.cutLF_some hc).1
        simp only [List.length_append, List.length_cons] at h1
        rcases List.mem_cons.1 h with h | h
        · injection h with h
          rw [h]
          omega
        · have := linesF_short f r t h
          omega
/-- A line's words, as strings. -/
def wds (x : Option (List UInt8)) : List ByteArray :=
  match x with
  | none => []
  | some t => (Tx.words t).map Tx.mkB
theorem readLn_wds (code : Bool) (n : Nat) (c : Tx.Cd) (x : Option (List UInt8)) : Tx.readLn code n c x = Tx.readL code n c (lst (wds x)) := by
  cases x with
  | none => rfl
  | some t =>
    show Tx.readL code n c (Tx.words t) = Tx.readL code n c (((Tx.words t).map Tx.mkB).map fun b => b.data.toList)
    rw [maps_back]
theorem wds_strs {W : World} {v : Value} {x : Option (List UInt8)} {s : List UInt8} (h : WdsAt W v x) (hx : x ∈ Tx.lines s) (hs : s.length ≤ 990000) :
    (∀ B g W', Fr B g W W' → (∀ b cs, b = g → ¬ Blk W b 9 cs) → Strs W' v (wds x)) ∧ (wds x).length ≤ 999000 ∧ ∀ u ∈ wds x, u.size ≤ 1000000 := by
  cases x with
  | none =>
    obtain rfl : v = .slice none 0 0 := h
    exact ⟨fun B g W' _ _ => ⟨none, 0, rfl, ⟨Nat.le_refl _, fun _ => rfl⟩, fun j s hj => by simp [wds] at hj⟩, Nat.zero_le _, fun u hu => by cases hu⟩
  | some t =>
    obtain ⟨b, rfl, hb⟩ := h
    have ht := linesF_short _ s t hx
    have hl := words_len t
    have hlen : (wds (some t)).length = (Tx.words t).length := List.length_map _
    refine ⟨fun B g W' hF hg => ?_, by rw [hlen]; omega, fun u hu => ?_⟩
    · have hb' : Blk W' b 9 (((Tx.words t).map Tx.mkB).map Value.string).toArray := hF.block (cs := (((Tx.words t).map Tx.mkB).map Value.string).toArray) hb (fun e => hg b _ e hb) (by decide)
      refine Strs.of_row (base := 0) ⟨by simp, .inr ⟨b, (Tx.words t).length, _, by rw [hlen], Nat.zero_le _, hb', by rw [hlen]; exact Nat.le_refl _, by unfold maxLen; omega, by simp, ?_⟩⟩
      rw [hlen, Nat.mul_one]
      exact List.take_of_length_le (by simp)
    · obtain ⟨y, hy, rfl⟩ := List.mem_map.1 hu
      have := words_short t y hy
      rw [← bytes_length, Tx.list_mkB]
      omega

/-! ### what the loop knows -/
structure PaI (code : Bool) (s : List UInt8) (w : World) (kk : Int) (k : Nat) (W : World) : Prop where
  cd : ∃ c gv ws, CdAt (w.heap.size + 4) (w.heap.size + 4) c gv ws W ∧ Tx.parse code s = Tx.run code (k + 1) c ((Tx.lines s).drop k) ∧ c.blocks.length ≤ k ∧ ∀ b ∈ c.blocks, b.length ≤ k
  box : Blk W w.heap.size 50 #[.int .i64 kk]
  r4 : Blk W (w.heap.size + 1) 37 cdZ
  r5 : Blk W (w.heap.size + 2) 3 #[.int .i64 0]
  r6 : Blk W (w.heap.size + 3) 26 #[.int .i64 0]
  bn : ∃ cs, Blk W (w.heap.size + 5) 9 cs
  below : Below w.heap.size w W
  sz : w.heap.size + 6 ≤ W.heap.size
theorem keep_blk {H b : Nat} {t : TypeId} {cs : Array Value} {W W' : World} {row : Option Nat} (hb : Blk W b t cs) (hg : W.grownBy W' row) (hr : ∀ r, row = some r → r = H + 5 ∨ Book (H + 6) W r) (hne : b ≠ H + 5) : Blk W' b t cs :=
  hb.grown hg (fun e => by
    rcases hr b e.symm with h | ⟨-, o, ho, hc⟩
    · exact hne h
    · have h2 : W.heap[b]? = some (.cells cs t (0, 0)) := hb
      rw [ho] at h2
      injection h2 with h2
      subst h2
      cases hc)
theorem paI_bides (code : Bool) (s : List UInt8) (w : World) (kk : Int) (k : Nat) : Bides (fun W r => r = w.heap.size + 5 ∨ Book (w.heap.size + 6) W r) (PaI code s w kk k) := by
  rintro W W' row h hg ht hr
  obtain ⟨c, gv, ws, h1, h2, h3, h4⟩ := h.cd
  obtain ⟨cs, hbn⟩ := h.bn
  refine ⟨⟨c, gv, ws, ⟨keep_blk h1.blk hg hr (by omega), h1.bld.kb ⟨hg.size, fun i e cur he hb _ => keep_blk hb hg hr (fun e2 => ?_)⟩⟩, h2, h3, h4⟩, keep_blk h.box hg hr (by omega), keep_blk h.r4 hg hr (by omega), keep_blk h.r5 hg hr (by omega), keep_blk h.r6 hg hr (by omega), ht _ _ _ hbn, ?_, Nat.le_trans h.sz hg.size⟩
  · subst e2
    refine blk_two hb hbn ?_ rfl
    rcases he with rfl | rfl | rfl <;> decide
  · exact h.below.grown hg h.below.size (fun r e => by
      rcases hr r e with h | h
      · omega
      · have := h.1
        omega)
/-- The loop was left by an error. -/
structure PaX (code : Bool) (s : List UInt8) (w : World) (W : World) : Prop where
  ex : ∃ (E : Int) (n : Nat), Tx.parse code s = (E, n, Tx.Cd.zero) ∧ Blk W (w.heap.size + 1) 37 cdZ ∧ Blk W (w.heap.size + 2) 3 #[.int .i64 (n : Int)] ∧ Blk W (w.heap.size + 3) 26 #[.int .i64 E]
  below : Below w.heap.size w W
theorem paX_bides (code : Bool) (s : List UInt8) (w : World) : Bides (fun W r => r = w.heap.size + 5 ∨ Book (w.heap.size + 6) W r) (PaX code s w) := by
  rintro W W' row h hg - hr
  obtain ⟨E, n, h1, h2, h3, h4⟩ := h.ex
  exact ⟨⟨E, n, h1, keep_blk h2 hg hr (by omega), keep_blk h3 hg hr (by omega), keep_blk h4 hg hr (by omega)⟩, h.below.grown hg h.below.size (fun r e => by
      rcases hr r e with h | h
      · omega
      · have := h.1
        omega)⟩

/-- A line read: behind readLine. -/
theorem paI_next {code : Bool} {s : List UInt8} {w : World} {kk : Int} {k : Nat} {W W' : World} {x : Option (List UInt8)} {c : Tx.Cd} (h : PaI code s w kk k W) (hx : (Tx.lines s)[k]? = some x) (hrun : Tx.parse code s = Tx.run code (k + 1) c ((Tx.lines s).drop k)) (hnb : c.blocks.length ≤ k ∧ ∀ b ∈ c.blocks, b.length ≤ k)
    {q : Int × Tx.Cd} (hq : q = Tx.readLn code (k + 1) c x) (hB : Below (w.heap.size + 4) W W') (hF : Fr (w.heap.size + 4) (w.heap.size + 4) W W') (hc : q.1 = 0 → ∃ gv ws, CdAt (w.heap.size + 4) (w.heap.size + 4) q.2 gv ws W') :
    (q.1 = 0 → PaI code s w kk (k + 1) W') ∧ (q.1 ≠ 0 → Tx.parse code s = (q.1, k + 1, Tx.Cd.zero)) ∧ KeepsFrom (w.heap.size + 6) W W' ∧ W'.heap[w.heap.size + 5]? = W.heap[w.heap.size + 5]? ∧ Blk W' (w.heap.size + 1) 37 cdZ ∧ Blk W' (w.heap.size + 2) 3 #[.int .i64 0] ∧ Blk W' (w.heap.size + 3) 26 #[.int .i64 0] ∧ Below w.heap.size w W' := by
  have hbel : Below w.heap.size w W' := h.below.trans (hB.mono (by omega))
  obtain ⟨cs, hbn⟩ := h.bn
  have hbn' : Blk W' (w.heap.size + 5) 9 cs := hF.block hbn (by omega) (by decide)
  have hd : (Tx.lines s).drop k = x :: (Tx.lines s).drop (k + 1) := by
    obtain ⟨h1, rfl⟩ := List.getElem?_eq_some_iff.1 hx
    exact List.drop_eq_getElem_cons h1
  rw [hd, Tx.run, ← hq] at hrun
  have o4 := h.r4.older hB (by omega)
  have o5 := h.r5.older hB (by omega)
  have o6 := h.r6.older hB (by omega)
  refine ⟨fun h0 => ?_, fun h0 => by rw [hrun, if_neg h0], ⟨hF.1, fun b o hb ho hc => (hF.2 b (Array.getElem?_eq_some_iff.1 ho).1 (fun _ => ⟨by omega, fun e cur _ hk => ?_⟩)).trans ho⟩, hbn'.trans hbn.symm, o4, o5, o6, hbel⟩
  · obtain ⟨gv, ws, h1⟩ := hc h0
    rw [if_pos h0] at hrun
    have hsz := Tx.readLn_small (hq := hq) hnb
    exact ⟨⟨q.2, gv, ws, h1, hrun, hsz⟩, h.box.older hB (by omega), o4, o5, o6, ⟨cs, hbn'⟩, hbel, Nat.le_trans h.sz hF.1⟩
  · have h2 : W.heap[b]? = some (.cells cur e (0, 0)) := hk
    rw [ho] at h2
    injection h2 with h2
    subst h2
    cases hc

/-- The results' blocks are filled. -/
theorem fill_res {H : Nat} {W : World} {u v : Value} (r4 : Blk W (H + 1) 37 cdZ) (r5 : Blk W (H + 2) 3 #[u]) (r6 : Blk W (H + 3) 26 #[v]) (a b c d e x y : Value) (W7 : World)
    (h7 : W7 = (((((((W.setCell ⟨H + 1, 0, none⟩ a).setCell ⟨H + 1, 1, none⟩ b).setCell ⟨H + 1, 2, none⟩ c).setCell ⟨H + 1, 3, none⟩ d).setCell ⟨H + 1, 4, none⟩ e).setCell ⟨H + 2, 0, none⟩ x).setCell ⟨H + 3, 0, none⟩ y)) :
    Blk W7 (H + 1) 37 #[a, b, c, d, e] ∧ Blk W7 (H + 2) 3 #[x] ∧ Blk W7 (H + 3) 26 #[y] ∧ KeepsOthers W W7 ∧ Far (H + 4) W W7 ∧ ∀ {B : Nat} {w0 : World}, Below B w0 W → B ≤ H → Below B w0 W7 := by
  subst h7
  have n12 : H + 2 ≠ H + 1 := by omega
  have n13 : H + 3 ≠ H + 1 := by omega
  have n23 : H + 3 ≠ H + 2 := by omega
  refine ⟨((r4.q5 a b c d e).apart (p := ⟨H + 2, 0, none⟩) n12.symm x).apart (p := ⟨H + 3, 0, none⟩) n13.symm y,
    (((((((r5.apart (p := ⟨H + 1, 0, none⟩) n12 a).apart (p := ⟨H + 1, 1, none⟩) n12 b).apart (p := ⟨H + 1, 2, none⟩) n12 c).apart (p := ⟨H + 1, 3, none⟩) n12 d).apart (p := ⟨H + 1, 4, none⟩) n12 e).set_one x).apart (p := ⟨H + 3, 0, none⟩) n23.symm y),
    (((((((r6.apart (p := ⟨H + 1, 0, none⟩) n13 a).apart (p := ⟨H + 1, 1, none⟩) n13 b).apart (p := ⟨H + 1, 2, none⟩) n13 c).apart (p := ⟨H + 1, 3, none⟩) n13 d).apart (p := ⟨H + 1, 4, none⟩) n13 e).apart (p := ⟨H + 2, 0, none⟩) n23 x).set_one y),
    ((((((KeepsOthers.setCell _ _ _).trans (KeepsOthers.setCell _ _ _)).trans (KeepsOthers.setCell _ _ _)).trans (KeepsOthers.setCell _ _ _)).trans (KeepsOthers.setCell _ _ _)).trans (KeepsOthers.setCell _ _ _)).trans (KeepsOthers.setCell _ _ _),
    ((((((Far.set (by omega) _ _).trans (Far.set (by omega) _ _)).trans (Far.set (by omega) _ _)).trans (Far.set (by omega) _ _)).trans (Far.set (by omega) _ _)).trans (Far.set (by omega) _ _)).trans (Far.set (by omega) _ _), fun {B w0} hb hB => ?_⟩
  exact ((below5 hb (g := H + 1) (by omega) a b c d e).setCell (p := ⟨H + 2, 0, none⟩) (show B ≤ H + 2 by omega) x).setCell (p := ⟨H + 3, 0, none⟩) (show B ≤ H + 3 by omega) y
theorem blk_put {W : World} {b D : Nat} {t : TypeId} {cs : Array Value} {o : Obj} (h : Blk W b t cs) (o' : Obj) (hD : W.heap[D]? = some o) (hc : o.isCells = false) : Blk (W.putObj D o') b t cs := h.move (World.putObj_heap_other (fun e => by
  subst e
  have h2 : W.heap[b]? = some (.cells cs t (0, 0)) := h
  rw [hD] at h2
  injection h2 with h2
  subst h2
  cases hc))

set_option maxRecDepth 100000 in
set_option maxHeartbeats 4000000 in
theorem parse_in (n : Nat) (hn : 5 ≤ n) (code : Bool) (s : ByteArray) (w : World) (hs : s.size ≤ 990000) (hr : Rdy w) :
    CallsIn Fence.wide n Tryd.prog 23 #[.int .i64 (kd code), .string s] w (PaPost (Tx.parse code s.data.toList) w) := by
  obtain ⟨kk, hkk⟩ : ∃ kk, kk = kd code := ⟨_, rfl⟩
  rw [← hkk]
  have h1 : 1 ≤ n := by omega
  have HR := Lib.hid (And.intro hr (And.intro hs hkk))
  clear hr hkk
  refine callsIn_of_wp_marks Tryd.func23 rfl trivial ?_ rfl
  simp only [Tryd.ntmps23, List.size_toArray, List.length_cons, List.length_nil, Nat.reduceAdd, Nat.reduceSub, Array.replicate_succ, Array.replicate_zero, List.push_toArray, List.append_toArray, List.nil_append, List.cons_append]
  by_cases he : s.data.toList = []
  · obtain rfl : s = ⟨#[]⟩ := by rw [← Tx.mkB_list s, he]; rfl
    clear he
    gi_wp2
    obtain ⟨w1, e1⟩ : ∃ w1, w1 = w.alloc (.cells #[.int .i64 kk] 50) := ⟨_, rfl⟩
    obtain ⟨w2, e2⟩ : ∃ w2, w2 = w1.alloc (.cells cdZ 37) := ⟨_, rfl⟩
    obtain ⟨w3, e3⟩ : ∃ w3, w3 = w2.alloc (.cells #[.int .i64 1] 3) := ⟨_, rfl⟩
    obtain ⟨w4, e4⟩ : ∃ w4, w4 = w3.alloc (.cells #[.int .i64 80] 26) := ⟨_, rfl⟩
    rw [← e1, ← e2, ← e3, ← e4]
    have z1 : w1.heap.size = w.heap.size + 1 := by rw [e1]; simp
    have z2 : w2.heap.size = w.heap.size + 2 := by rw [e2, World.size_alloc, z1]
    have z3 : w3.heap.size = w.heap.size + 3 := by rw [e3, World.size_alloc, z2]
    have n1 : Blk w2 (w.heap.size + 1) 37 cdZ := by rw [e2, ← z1]; exact Blk.new _ _ _
    have n2 : Blk w3 (w.heap.size + 2) 3 #[.int .i64 1] := by rw [e3, ← z2]; exact Blk.new _ _ _
    have n3 : Blk w4 (w.heap.size + 3) 26 #[.int .i64 80] := by rw [e4, ← z3]; exact Blk.new _ _ _
    have l1 : Below w.heap.size w w1 := by rw [e1]; exact (Below.refl _ _).alloc (Nat.le_refl _) _
    have l2 : Below w1.heap.size w1 w2 := by rw [e2]; exact (Below.refl _ _).alloc (Nat.le_refl _) _
    have l3 : Below w2.heap.size w2 w3 := by rw [e3]; exact (Below.refl _ _).alloc (Nat.le_refl _) _
    have l4 : Below w3.heap.size w3 w4 := by rw [e4]; exact (Below.refl _ _).alloc (Nat.le_refl _) _
    have l24 : Below w2.heap.size w2 w4 := l3.trans (l4.mono (by omega))
    have l14 : Below w1.heap.size w1 w4 := l2.trans (l24.mono (by omega))
    exact ⟨_, results_pa rfl _ _ w.heap.size _ _ _ _ _ _ _ rfl rfl rfl (n1.older l24 (by omega)) (n2.older l4 (by omega)) n3, l1.trans (l14.mono (by omega)), .slice none 0 0, rfl, BlkF.nil _ _⟩
  · have hwe : (s.toList == []) = false := by rw [beq_eq_false_iff_ne, ByteArray.toList_eq]; exact he
    have hwe2 : s.toList.isEmpty = false := by rw [ByteArray.toList_eq]; simpa using he
    gi_wp2_with (refine ⟨trivial, ?_⟩; gi_at_call 33; refine (lines_in (n - 1) s _).mono ?_; rintro e w' ⟨rfl, rfl⟩)
    obtain ⟨w1, e1⟩ : ∃ w1, w1 = w.alloc (.cells #[.int .i64 kk] 50) := ⟨_, rfl⟩
    obtain ⟨w2, e2⟩ : ∃ w2, w2 = w1.alloc (.cells cdZ 37) := ⟨_, rfl⟩
    obtain ⟨w3, e3⟩ : ∃ w3, w3 = w2.alloc (.cells #[.int .i64 0] 3) := ⟨_, rfl⟩
    obtain ⟨w4, e4⟩ : ∃ w4, w4 = w3.alloc (.cells #[.int .i64 0] 26) := ⟨_, rfl⟩
    obtain ⟨w5, e5⟩ : ∃ w5, w5 = w4.alloc (.cells cdZ 37) := ⟨_, rfl⟩
    obtain ⟨w6, e6⟩ : ∃ w6, w6 = w5.alloc (.cells #[.string s] 9) := ⟨_, rfl⟩
    rw [← e1, ← e2, ← e3, ← e4, ← e5, ← e6]
    have z1 : w1.heap.size = w.heap.size + 1 := by rw [e1]; simp
    have z2 : w2.heap.size = w.heap.size + 2 := by rw [e2, World.size_alloc, z1]
    have z3 : w3.heap.size = w.heap.size + 3 := by rw [e3, World.size_alloc, z2]
    have z4 : w4.heap.size = w.heap.size + 4 := by rw [e4, World.size_alloc, z3]
    have z5 : w5.heap.size = w.heap.size + 5 := by rw [e5, World.size_alloc, z4]
    have z6 : w6.heap.size = w.heap.size + 6 := by rw [e6, World.size_alloc, z5]
    have n0 : Blk w1 w.heap.size 50 #[.int .i64 kk] := by rw [e1]; exact Blk.new _ _ _
    have n1 : Blk w2 (w.heap.size + 1) 37 cdZ := by rw [e2, ← z1]; exact Blk.new _ _ _
    have n2 : Blk w3 (w.heap.size + 2) 3 #[.int .i64 0] := by rw [e3, ← z2]; exact Blk.new _ _ _
    have n3 : Blk w4 (w.heap.size + 3) 26 #[.int .i64 0] := by rw [e4, ← z3]; exact Blk.new _ _ _
    have n4 : Blk w5 (w.heap.size + 4) 37 cdZ := by rw [e5, ← z4]; exact Blk.new _ _ _
    have n5 : Blk w6 (w.heap.size + 5) 9 #[.string s] := by rw [e6, ← z5]; exact Blk.new _ _ _
    have l2 : Below w1.heap.size w1 w2 := by rw [e2]; exact (Below.refl _ _).alloc (Nat.le_refl _) _
    have l3 : Below w2.heap.size w2 w3 := by rw [e3]; exact (Below.refl _ _).alloc (Nat.le_refl _) _
    have l4 : Below w3.heap.size w3 w4 := by rw [e4]; exact (Below.refl _ _).alloc (Nat.le_refl _) _
    have l5 : Below w4.heap.size w4 w5 := by rw [e5]; exact (Below.refl _ _).alloc (Nat.le_refl _) _
    have l6 : Below w5.heap.size w5 w6 := by rw [e6]; exact (Below.refl _ _).alloc (Nat.le_refl _) _
    have l1 : Below w.heap.size w w1 := by rw [e1]; exact (Below.refl _ _).alloc (Nat.le_refl _) _
    have l56 := l6
    have l46 : Below w4.heap.size w4 w6 := l5.trans (l56.mono (by omega))
    have l36 : Below w3.heap.size w3 w6 := l4.trans (l46.mono (by omega))
    have l26 : Below w2.heap.size w2 w6 := l3.trans (l36.mono (by omega))
    have l16 : Below w1.heap.size w1 w6 := l2.trans (l26.mono (by omega))
    have l06 : Below w.heap.size w w6 := l1.trans (l16.mono (by omega))
    have hI0 : PaI code s.data.toList w kk 0 w6 := by
      refine ⟨⟨Tx.Cd.zero, .slice none 0 0, [], ⟨n4.older l56 (by omega), World.ownsRow_nil _ _ _ _, fun j b h => by simp [Tx.Cd.zero] at h, fun j j' v v' g _ h => by simp at h⟩, ?_, Nat.zero_le _, fun b hb => by cases hb⟩, n0.older l16 (by omega), n1.older l26 (by omega), n2.older l36 (by omega), n3.older l46 (by omega), ⟨_, n5⟩, l06, by omega⟩
      unfold Tx.parse
      rw [if_neg he]
      rfl
    have hrd := HR.out.1
    have hrdB : RdyB (w.heap.size + 4) w6 := ((Rdy.at w hrd).below l06).mono (by omega)
    obtain ⟨mm, hmm⟩ := hrdB.rdy.mx
    have HI0 := Lib.hid hI0
    have HRB := Lib.hid (And.intro hrdB (And.intro l06 (And.intro z6 n5)))
    have hmne : w.heap.size + 5 ≠ 1 := by have := hrd.lowM; omega
    have hmlt : 1 < w.heap.size := hrd.lowM
    have HE := Lib.hid he
    clear e1 e2 e3 e4 e5 e6 n0 n1 n2 n3 n4 l1 l2 l3 l4 l5 l6 l56 l46 l36 l26 l16 l06 z1 z2 z3 z4 z5 hI0 hrd hrdB he hwe hwe2
    refine wpIn_told rfl h1 (gf := 50) (lb := #[.pointer (some ⟨w.heap.size + 5, 0, none⟩)]) rfl trivial (enters_of Tryd.func50 (by kernel_rfl) rfl)
      (lines1_tells (n - 1) (w.heap.size + 5) (by omega) s w6 (by omega) n5 hmm hmne) (fun r hr => by have : r = w.heap.size + 5 := hr; omega) (fun r hr => by rcases hr with h | h <;> omega) (fun k args W hG => by obtain ⟨v, x, rfl, -⟩ := hG; rfl) (fun k args => lnG_bides _ _ _ _)
      (PaI code s.data.toList w kk) (fun c W => c = .ret ∧ PaX code s.data.toList w W) (fun k => by rw [z6]; exact paI_bides _ _ _ _ _) (fun c => by rw [z6]; exact fun W W' row h hg ht hr => ⟨h.1, paX_bides code s.data.toList w W W' row h.2 hg ht hr⟩) HI0.out
      (fun args => { tmps := #[.int .i64 kk, .string s, .pointer (some ⟨w.heap.size, 0, none⟩), undef, .pointer (some ⟨w.heap.size + 1, 0, none⟩), .pointer (some ⟨w.heap.size + 1 + 1, 0, none⟩), .pointer (some ⟨w.heap.size + 1 + 1 + 1, 0, none⟩), .pointer (some ⟨w.heap.size + 1 + 1 + 1 + 1, 0, none⟩), args.getD 0 undef, args.getD 1 undef, undef, .string s,
          .bool false, undef, .string s, .func (.func 50) #[] #[.pointer (some ⟨w.heap.size + 1 + 1 + 1 + 1 + 1, 0, none⟩)], args.getD 0 undef, args.getD 1 undef, undef, undef, undef, undef, undef, undef, undef, undef, undef, undef], defers := [] }) ?assign ?body ?done ?stop
    case assign =>
      rintro l k args W K ⟨v, x, rfl, -⟩ hK
      gi_wp2
      exact hK
    case body =>
      rintro l k args W hi ⟨v, x, rfl, hx, hv⟩
      obtain ⟨c, gv, ws, hcd, hrun, hnb, hni⟩ := hi.cd
      obtain ⟨hst, hol, hsh⟩ := wds_strs hv (List.mem_of_getElem? hx) (by rw [bytes_length]; exact hs)
      have hklt : k < (Tx.lines s.data.toList).length := (List.getElem?_eq_some_iff.1 hx).1
      have hll := lines_len s.data.toList
      rw [bytes_length] at hll
      have hrl := readline_any code (w.heap.size + 4) (w.heap.size + 4) (k + 1) c gv v ws (wds x) W hcd (Nat.le_refl _) (by have := hi.sz; omega) (fun W' hF => hst _ _ W' hF (fun b cs e hb => by subst e; exact blk_two hb hcd.blk (by decide) rfl)) hol hsh
        (((Rdy.at w HR.out.1).below hi.below).mono (by omega)) (by omega) (by omega) (fun b hb => by have := hni b hb; omega)
      rw [← HR.out.2.2, ← readLn_wds] at hrl
      obtain ⟨q, hq⟩ : ∃ q, q = Tx.readLn code (k + 1) c x := ⟨_, rfl⟩
      rw [← hq] at hrl
      have HRL := Lib.hid (show Calls Tryd.prog 34 #[.int .i64 kk, .pointer (some ⟨w.heap.size + 1 + 1 + 1 + 1, 0, none⟩), .int .i64 ((k : Int) + 1), v] W _ from hrl)
      have HNX := Lib.hid (fun (W' : World) (hB : Below (w.heap.size + 4) W W') (hF : Fr (w.heap.size + 4) (w.heap.size + 4) W W') (hc : q.1 = 0 → ∃ gv ws, CdAt (w.heap.size + 4) (w.heap.size + 4) q.2 gv ws W') => paI_next hi hx hrun ⟨hnb, hni⟩ hq hB hF hc)
      have c0 := hi.box.cell 0
      have h2 : 1 ≤ n - 1 - 1 := by omega
      have HGM := Lib.hid (fun (W' : World) (hB : Below (w.heap.size + 4) W W') => hB.block 1 (by omega))
      have HSZ := Lib.hid hi.sz
      clear hcd hrun hnb hni hst hol hsh hklt hll hrl hi hx hv hq
      by_cases h0 : q.1 = 0
      · have hz : (q.1 != 0) = false := by rw [h0]; rfl
        have H0 := Lib.hid h0
        clear h0
        gi_wp2_with (refine ⟨trivial, ?_⟩; gi_at_call 34; refine (CallsIn.inRound l (callsIn_wide.2 HRL.out)).mono ?_; rintro e W2 ⟨rfl, hB2, hF2, hc2⟩; have HN2 := Lib.hid (And.intro (HNX.out W2 hB2 hF2 hc2) (HGM.out W2 hB2)); clear hB2 hF2 hc2)
        exact ⟨by rw [z6]; exact HN2.out.1.2.2.1, fun r hr => by
          rcases hr with rfl | rfl
          · exact HN2.out.1.2.2.2.1
          · exact HN2.out.2, HN2.out.1.1 H0.out⟩
      · have hz : (q.1 != 0) = true := by simpa using h0
        have H0 := Lib.hid h0
        clear h0
        gi_wp2_with (refine ⟨trivial, ?_⟩; gi_at_call 34; refine (CallsIn.inRound l (callsIn_wide.2 HRL.out)).mono ?_; rintro e W2 ⟨rfl, hB2, hF2, hc2⟩; have HN2 := Lib.hid (HNX.out W2 hB2 hF2 hc2); obtain ⟨k0, k1, k2, k3, k4⟩ := cells5 HN2.out.2.2.2.2.1; obtain ⟨f0, f1, f2, f3, f4⟩ := frozen5 HN2.out.2.2.2.2.1; have a5 : W2.cell? ⟨w.heap.size + 1 + 1, 0, none⟩ = some (.int .i64 0) := HN2.out.2.2.2.2.2.1.cell 0; have b5 : W2.frozen? ⟨w.heap.size + 1 + 1, 0, none⟩ = false := HN2.out.2.2.2.2.2.1.frozen 0; have a6 : W2.cell? ⟨w.heap.size + 1 + 1 + 1, 0, none⟩ = some (.int .i64 0) := HN2.out.2.2.2.2.2.2.1.cell 0; have b6 : W2.frozen? ⟨w.heap.size + 1 + 1 + 1, 0, none⟩ = false := HN2.out.2.2.2.2.2.2.1.frozen 0; clear hB2 hF2 hc2)
        have hd4 := HN2.out.2.2.2.2.1.q5 (.string ⟨#[]⟩) (.int .i64 0) (.int .i64 0) (.int .i64 0) (.slice none 0 0)
        have hk4 : KeepsFrom (w.heap.size + 6) W _ := ((((HN2.out.2.2.1.trans ((KeepsOthers.setCell _ ⟨w.heap.size + 1, 0, none⟩ (.string ⟨#[]⟩)).from _)).trans ((KeepsOthers.setCell _ ⟨w.heap.size + 1, 1, none⟩ (.int .i64 0)).from _)).trans ((KeepsOthers.setCell _ ⟨w.heap.size + 1, 2, none⟩ (.int .i64 0)).from _)).trans ((KeepsOthers.setCell _ ⟨w.heap.size + 1, 3, none⟩ (.int .i64 0)).from _)).trans ((KeepsOthers.setCell _ ⟨w.heap.size + 1, 4, none⟩ (.slice none 0 0)).from _)
        have hb4 := below5 HN2.out.2.2.2.2.2.2.2 (g := w.heap.size + 1) (by omega) (.string ⟨#[]⟩) (.int .i64 0) (.int .i64 0) (.int .i64 0) (.slice none 0 0)
        have h5 : Blk _ (w.heap.size + 2) 3 #[.int .i64 0] := ((((HN2.out.2.2.2.2.2.1.apart (p := ⟨w.heap.size + 1, 0, none⟩) (show w.heap.size + 2 ≠ w.heap.size + 1 by omega) (.string ⟨#[]⟩)).apart (p := ⟨w.heap.size + 1, 1, none⟩) (show w.heap.size + 2 ≠ w.heap.size + 1 by omega) (.int .i64 0)).apart (p := ⟨w.heap.size + 1, 2, none⟩) (show w.heap.size + 2 ≠ w.heap.size + 1 by omega) (.int .i64 0)).apart (p := ⟨w.heap.size + 1, 3, none⟩) (show w.heap.size + 2 ≠ w.heap.size + 1 by omega) (.int .i64 0)).apart (p := ⟨w.heap.size + 1, 4, none⟩) (show w.heap.size + 2 ≠ w.heap.size + 1 by omega) (.slice none 0 0)
        have h6 : Blk _ (w.heap.size + 3) 26 #[.int .i64 0] := ((((HN2.out.2.2.2.2.2.2.1.apart (p := ⟨w.heap.size + 1, 0, none⟩) (show w.heap.size + 3 ≠ w.heap.size + 1 by omega) (.string ⟨#[]⟩)).apart (p := ⟨w.heap.size + 1, 1, none⟩) (show w.heap.size + 3 ≠ w.heap.size + 1 by omega) (.int .i64 0)).apart (p := ⟨w.heap.size + 1, 2, none⟩) (show w.heap.size + 3 ≠ w.heap.size + 1 by omega) (.int .i64 0)).apart (p := ⟨w.heap.size + 1, 3, none⟩) (show w.heap.size + 3 ≠ w.heap.size + 1 by omega) (.int .i64 0)).apart (p := ⟨w.heap.size + 1, 4, none⟩) (show w.heap.size + 3 ≠ w.heap.size + 1 by omega) (.slice none 0 0)
        rw [z6]
        refine ⟨(hk4.trans ((KeepsOthers.setCell _ ⟨w.heap.size + 2, 0, none⟩ (.int .i64 ((k : Int) + 1))).from _)).trans ((KeepsOthers.setCell _ ⟨w.heap.size + 3, 0, none⟩ (.int .i64 q.1)).from _), rfl, ⟨q.1, k + 1, HN2.out.2.1 H0.out, ?_, ?_, ?_⟩, (hb4.setCell (p := ⟨w.heap.size + 2, 0, none⟩) (show w.heap.size ≤ w.heap.size + 2 by omega) (.int .i64 ((k : Int) + 1))).setCell (p := ⟨w.heap.size + 3, 0, none⟩) (show w.heap.size ≤ w.heap.size + 3 by omega) (.int .i64 q.1)⟩
        · exact (hd4.apart (p := ⟨w.heap.size + 2, 0, none⟩) (show w.heap.size + 1 ≠ w.heap.size + 2 by omega) _).apart (p := ⟨w.heap.size + 3, 0, none⟩) (show w.heap.size + 1 ≠ w.heap.size + 3 by omega) _
        · exact (h5.set_one (.int .i64 ((k : Int) + 1))).apart (p := ⟨w.heap.size + 3, 0, none⟩) (show w.heap.size + 2 ≠ w.heap.size + 3 by omega) _
        · exact (h6.apart (p := ⟨w.heap.size + 2, 0, none⟩) (show w.heap.size + 3 ≠ w.heap.size + 2 by omega) _).set_one (.int .i64 q.1)
    case done =>
      rintro D W hD hi hK
      obtain ⟨c, gv, ws, hcd, hrun, -, -⟩ := hi.cd
      have hP : Tx.parse code s.data.toList = (0, 0, c) := by rw [hrun, List.drop_eq_nil_of_le (Nat.le_refl _)]; rfl
      obtain ⟨k0, k1, k2, k3, k4⟩ := cells5 hi.r4
      obtain ⟨f0, f1, f2, f3, f4⟩ := frozen5 hi.r4
      have a5 : W.cell? ⟨w.heap.size + 1 + 1, 0, none⟩ = some (.int .i64 0) := hi.r5.cell 0
      have b5 : W.frozen? ⟨w.heap.size + 1 + 1, 0, none⟩ = false := hi.r5.frozen 0
      have a6 : W.cell? ⟨w.heap.size + 1 + 1 + 1, 0, none⟩ = some (.int .i64 0) := hi.r6.cell 0
      have b6 : W.frozen? ⟨w.heap.size + 1 + 1 + 1, 0, none⟩ = false := hi.r6.frozen 0
      obtain ⟨gA, gcap, rfl⟩ := row_slice hcd.bld.outer
      have m0 : W.cell? ⟨w.heap.size + 1 + 1 + 1 + 1, 0, none⟩ = some (.string c.name) := hcd.blk.cell 0
      have m1 : W.cell? ⟨w.heap.size + 1 + 1 + 1 + 1, 1, none⟩ = some (.int .i64 c.params) := hcd.blk.cell 1
      have m2 : W.cell? ⟨w.heap.size + 1 + 1 + 1 + 1, 2, none⟩ = some (.int .i64 c.regs) := hcd.blk.cell 2
      have m3 : W.cell? ⟨w.heap.size + 1 + 1 + 1 + 1, 3, none⟩ = some (.int .i64 c.slots) := hcd.blk.cell 3
      have m4 : W.cell? ⟨w.heap.size + 1 + 1 + 1 + 1, 4, none⟩ = some (.slice gA c.blocks.length gcap) := hcd.blk.cell 4
      have HF := Lib.hid (And.intro hi (And.intro hcd (And.intro hP (And.intro hK hD))))
      clear hi hcd hrun hP hK hD
      gi_wp2
      obtain ⟨W7, h7⟩ : ∃ W7, W7 = (((((((W.setCell ⟨w.heap.size + 1, 0, none⟩ (.string c.name)).setCell ⟨w.heap.size + 1, 1, none⟩ (.int .i64 c.params)).setCell ⟨w.heap.size + 1, 2, none⟩ (.int .i64 c.regs)).setCell ⟨w.heap.size + 1, 3, none⟩ (.int .i64 c.slots)).setCell ⟨w.heap.size + 1, 4, none⟩ (.slice gA c.blocks.length gcap)).setCell ⟨w.heap.size + 1 + 1, 0, none⟩ (.int .i64 0)).setCell ⟨w.heap.size + 1 + 1 + 1, 0, none⟩ (.int .i64 0)) := ⟨_, rfl⟩
      rw [← h7]
      obtain ⟨hi, hcd, hP, hK, hD⟩ := HF.out
      obtain ⟨p4, p5, p6, pk, pf, pb⟩ := fill_res hi.r4 hi.r5 hi.r6 _ _ _ _ _ _ _ W7 h7
      have hK7 := pk.same D _ hK rfl
      have hB7 := pb hi.below (Nat.le_refl _)
      clear h7
      refine ⟨by simp, .inl ⟨_, _, rfl, run_takeDeferred hK7, ?_⟩⟩
      refine ⟨_, results_pa rfl _ _ w.heap.size _ _ _ _ _ _ _ rfl rfl rfl (blk_put p4 _ hK7 rfl) (blk_put p5 _ hK7 rfl) (blk_put p6 _ hK7 rfl), ?_, ?_⟩
      · exact hB7.trans (belowK_b (w := w) (Nat.le_refl _) W7 D _ _ (by omega) hK7 rfl rfl)
      · refine ⟨.slice gA c.blocks.length gcap, by rw [hP] <;> rfl, ?_⟩
        rw [hP]
        exact BlkF.of_bld ((hcd.bld.far pf).far (Far.put _ hK7 rfl)) (by omega)
    case stop =>
      rintro D c W hD ⟨rfl, hx⟩ hK
      have HF := Lib.hid (And.intro hx (And.intro hK hD))
      clear hx hK hD
      gi_wp2
      obtain ⟨hx, hK, hD⟩ := HF.out
      obtain ⟨E, nn, hP, p4, p5, p6⟩ := hx.ex
      refine ⟨by simp, .inl ⟨_, _, rfl, run_takeDeferred hK, ?_⟩⟩
      refine ⟨_, results_pa rfl _ _ w.heap.size _ _ _ _ _ _ _ rfl rfl rfl (blk_put p4 _ hK rfl) (blk_put p5 _ hK rfl) (blk_put p6 _ hK rfl), ?_, ?_⟩
      · exact hx.below.trans (belowK_b (w := w) (Nat.le_refl _) W D _ _ (by omega) hK rfl rfl)
      · refine ⟨.slice none 0 0, by rw [hP] <;> rfl, ?_⟩
        rw [hP]
        exact BlkF.nil _ _

theorem parse_any (code : Bool) (s : ByteArray) (w : World) (hs : s.size ≤ 990000) (hr : Rdy w) :
    Calls Tryd.prog 23 #[.int .i64 (kd code), .string s] w (PaPost (Tx.parse code s.data.toList) w) := (callsIn_wide (n := 5)).1 (parse_in 5 (Nat.le_refl _) code s w hs hr)
end Go.Proofs.YtcoehmmiplffgaaDoor

/- How big what is read is; how long what is printed. No model. -/
namespace Go.Proofs.YtcoehmmiplffgaaDoor
open Tx

/-- Sizes by a bound. -/
def Small (N : Nat) (l : List (List Ir.In)) : Prop := ∀ b ∈ l, ∀ x ∈ b, x.args.length ≤ N ∧ x.name.size ≤ 12
theorem takeL_len : ∀ (ks : List Bool) (ws : List (List UInt8)), (takeL ks ws).2.length ≤ ws.length
  | [], _ => by simp [takeL]
  | _ :: _, [] => by simp [takeL]
  | true :: ks, w :: ws => by
    rw [takeL]
    split
    · have := takeL_len ks ws
      simp only [List.length_cons]
      omega
    · simp
  | false :: ks, w :: ws => by
    rw [takeL]
    split
    · have := takeL_len ks ws
      simp only [List.length_cons]
      omega
    · simp
theorem take_len (ks : List Bool) (ws : List (List UInt8)) : (take ks ws).2.length ≤ ws.length := by
  unfold take
  split
  · exact takeL_len ks ws
  · simp
theorem mk_args (k : Nat) (op : Int) (vs : List Pt) : (mk k op vs).args.length ≤ vs.length := by
  unfold mk
  split <;> simp
  omega
theorem takeL_nm : ∀ (ks : List Bool) (ws : List (List UInt8)), ∀ p ∈ (takeL ks ws).2, ∀ s, p = .nm s → s.size ≤ 12
  | [], _, p, hp => by simp [takeL] at hp
  | _ :: _, [], p, hp => by simp [takeL] at hp
  | true :: ks, w :: ws, p, hp => by
    rw [takeL] at hp
    split at hp
    · rename_i h
      rcases List.mem_cons.1 hp with rfl | hp
      · intro s e
        injection e with e
        subst e
        exact nm_len h
      · exact takeL_nm ks ws p hp
    · cases hp
  | false :: ks, w :: ws, p, hp => by
    rw [takeL] at hp
    split at hp
    · rcases List.mem_cons.1 hp with rfl | hp
      · intro s e; cases e
      · exact takeL_nm ks ws p hp
    · cases hp
theorem mk_name (k : Nat) (op : Int) (vs : List Pt) (h : ∀ p ∈ vs, ∀ s, p = .nm s → s.size ≤ 12) : (mk k op vs).name.size ≤ 12 := by
  unfold mk
  split <;> first | exact Nat.zero_le 12 | exact h _ (by simp) _ rfl
theorem readI_name (code : Bool) (w : List UInt8) (os : List (List UInt8)) : (readI code w os).2.name.size ≤ 12 := by
  unfold readI
  split
  · show (0 : Nat) ≤ 12
    omega
  · refine mk_name _ _ _ ?_
    unfold take
    split
    · exact takeL_nm _ _
    · intro p hp; cases hp
theorem readI_args (code : Bool) (w : List UInt8) (os : List (List UInt8)) : (readI code w os).2.args.length ≤ os.length := by
  unfold readI
  split
  · simp
  · exact Nat.le_trans (mk_args _ _ _) (take_len _ _)
theorem readL_args {code : Bool} {N n : Nat} {c : Cd} {ws : List (List UInt8)} (h : Small N c.blocks) (hw : ws.length ≤ N) : Small N (readL code n c ws).2.blocks := by
  unfold readL
  split
  · exact h
  · rename_i w os
    have ho : os.length ≤ N := by simp only [List.length_cons] at hw; omega
    split
    · split
      · have e : ∀ vs, (setHead c vs).blocks = c.blocks := fun vs => by unfold setHead; split <;> rfl
        simp only [e]
        exact h
      · exact h
    · split
      · split
        · intro b hb x hx
          rcases List.mem_append.1 hb with hb | hb
          · exact h b hb x hx
          · rw [List.mem_singleton.1 hb] at hx; cases hx
        · exact h
      · split
        · exact h
        · rename_i hne
          obtain ⟨m, b2, hmb⟩ := split_last hne
          simp only
          rw [hmb, addLast_at]
          intro b hb x hx
          rcases List.mem_append.1 hb with hb | hb
          · exact h b (by rw [hmb]; exact List.mem_append_left _ hb) x hx
          · rw [List.mem_singleton.1 hb] at hx
            rcases List.mem_append.1 hx with hx | hx
            · exact h b2 (by rw [hmb]; simp) x hx
            · rw [List.mem_singleton.1 hx]
              exact ⟨Nat.le_trans (readI_args _ _ _) ho, readI_name _ _ _⟩
theorem zero_small (N : Nat) : Small N Cd.zero.blocks := fun b hb => by cases hb
theorem run_args {code : Bool} {N : Nat} : ∀ (ls : List (Option (List UInt8))) (n : Nat) (c : Cd), (∀ t, some t ∈ ls → (words t).length ≤ N) → Small N c.blocks → Small N (run code n c ls).2.2.blocks
  | [], _, _, _, h => h
  | l :: ls, n, c, hl, h => by
    rw [run]
    split
    · refine run_args ls _ _ (fun t ht => hl t (List.mem_cons_of_mem _ ht)) ?_
      cases l with
      | none => exact h
      | some t => exact readL_args h (hl t (List.mem_cons_self ..))
    · exact zero_small N
/-- As many lines, as many instructions at most. -/
theorem run_sized {code : Bool} : ∀ (ls : List (Option (List UInt8))) (n : Nat) (c : Cd), 1 ≤ n → (c.blocks.length ≤ n ∧ ∀ b ∈ c.blocks, b.length ≤ n) → (run code n c ls).2.2.blocks.length ≤ n + ls.length ∧ ∀ b ∈ (run code n c ls).2.2.blocks, b.length ≤ n + ls.length
  | [], n, c, _, h => h
  | l :: ls, n, c, hn, h => by
    rw [run]
    split
    · obtain ⟨k, rfl⟩ : ∃ k, n = k + 1 := ⟨n - 1, by omega⟩
      have h2 := small_next (code := code) (k := k + 1) (n := k + 1) (c := c) (x := l) h
      have := run_sized (code := code) ls (k + 1 + 1) (readLn code (k + 1) c l).2 (by omega) h2
      simp only [List.length_cons]
      exact ⟨by omega, fun b hb => by have := this.2 b hb; omega⟩
    · exact ⟨Nat.zero_le _, fun b hb => by cases hb⟩
where
  small_next {code : Bool} {k n : Nat} {c : Cd} {x : Option (List UInt8)} (h : c.blocks.length ≤ k ∧ ∀ b ∈ c.blocks, b.length ≤ k) : (readLn code n c x).2.blocks.length ≤ k + 1 ∧ ∀ b ∈ (readLn code n c x).2.blocks, b.length ≤ k + 1 := by
    have h0 : c.blocks.length ≤ k + 1 ∧ ∀ b ∈ c.blocks, b.length ≤ k + 1 := ⟨by omega, fun b hb => by have := h.2 b hb; omega⟩
    cases x with
    | none => exact h0
    | some t =>
      show (readL code n c (words t)).2.blocks.length ≤ k + 1 ∧ ∀ b ∈ (readL code n c (words t)).2.blocks, b.length ≤ k + 1
      unfold readL
      split
      · exact h0
      · split
        · split
          · have e : ∀ vs, (setHead c vs).blocks = c.blocks := fun vs => by unfold setHead; split <;> rfl
            simp only [e]
            exact h0
          · exact h0
        · split
          · split
            · refine ⟨by rw [List.length_append]; simp; omega, fun b hb => ?_⟩
              rcases List.mem_append.1 hb with hb | hb
              · exact h0.2 b hb
              · rw [List.mem_singleton.1 hb]; simp
            · exact h0
          · split
            · exact h0
            · rename_i hne
              obtain ⟨m, b2, hmb⟩ := split_last hne
              simp only
              rw [hmb, addLast_at]
              have h3 := h.2 b2 (by rw [hmb]; simp)
              refine ⟨by have := h.1; rw [hmb] at this; simp at this ⊢; omega, fun b hb => ?_⟩
              rcases List.mem_append.1 hb with hb | hb
              · exact h0.2 b (by rw [hmb]; exact List.mem_append_left _ hb)
              · rw [List.mem_singleton.1 hb, List.length_append]
                simp
                omega

theorem words_many : ∀ l : List UInt8, (words l).length ≤ l.length + 1
  | [] => Nat.le_refl _
  | c :: l => by
    have ih := words_many l
    rw [words]
    split
    · simp only [List.length_cons]; omega
    · cases h : words l with
      | nil => simp
      | cons w ws => rw [h] at ih; simp only [List.length_cons] at ih ⊢; omega
theorem linesF_small : ∀ (f : Nat) (s : List UInt8), (linesF f s).length ≤ s.length ∧ ∀ t, some t ∈ linesF f s → t.length ≤ s.length
  | 0, _ => ⟨Nat.zero_le _, fun _ h => by cases h⟩
  | f + 1, s => by
    unfold linesF
    by_cases h0 : s = []
    · rw [if_pos h0]; exact ⟨Nat.zero_le _, fun _ h => by cases h⟩
    · rw [if_neg h0]
      have h00 := List.length_pos_iff.2 h0
      cases hc : cutLF s with
      | none => exact ⟨h00, fun t h => by simp at h⟩
      | some q =>
        obtain ⟨t', r⟩ := q
        have h1 := congrArg List.length (cutLF_some hc).1
        simp only [List.length_append, List.length_cons] at h1
        obtain ⟨h2, h3⟩ := linesF_small f r
        simp only [List.length_cons]
        refine ⟨by omega, fun t h => ?_⟩
        rcases List.mem_cons.1 h with h | h
        · injection h with h
          rw [h]
          omega
        · have := h3 t h
          omega
/-- What is read out of s is no bigger than s. -/
theorem parse_small (code : Bool) (s : List UInt8) : (parse code s).2.2.blocks.length ≤ s.length + 1 ∧ (∀ b ∈ (parse code s).2.2.blocks, b.length ≤ s.length + 1) ∧ Small (s.length + 1) (parse code s).2.2.blocks := by
  unfold parse
  by_cases h0 : s = []
  · rw [if_pos h0]
    exact ⟨Nat.zero_le _, fun b hb => (nomatch hb), zero_small _⟩
  · rw [if_neg h0]
    obtain ⟨h1, h2⟩ := linesF_small (s.length + 1) s
    have h3 := run_sized (code := code) (lines s) 1 Cd.zero (Nat.le_refl _) ⟨Nat.zero_le _, fun b hb => (nomatch hb)⟩
    have h4 : (lines s).length ≤ s.length := h1
    refine ⟨by omega, fun b hb => by have := h3.2 b hb; omega, run_args _ _ _ (fun t ht => ?_) (zero_small _)⟩
    have := words_many t
    have := h2 t ht
    omega

/-! ### how long what is printed is -/
theorem parts_few (k : Nat) (x : Ir.In) : (parts k x).length ≤ 3 + x.args.length := by
  unfold parts
  split <;> simp <;> omega
theorem word_few (op : Int) (code : Bool) : (word op code).length ≤ 6 := by
  have key : ∀ {c : Prop} [Decidable c] {a b : List UInt8}, a.length ≤ 6 → b.length ≤ 6 → (if c then a else b).length ≤ 6 := fun {c} _ {a b} ha hb => by split <;> assumption
  unfold word
  repeat' first | refine key ?_ ?_ | decide
theorem insW_short {code : Bool} {x : Ir.In} (h : insE code x = 0) (ha : x.args.length ≤ 20) : (insW code x).length ≤ 310 := by
  obtain ⟨-, h2⟩ := ins_ok h
  have h3 := pw_len (xs := parts (shp x.op code) x) (fun y hy => check_ok h2 hy)
  have h4 := parts_few (shp x.op code) x
  have h5 := word_few x.op code
  unfold insW
  rw [lineW_is]
  simp only [List.length_append, List.length_cons, List.length_nil]
  omega
theorem flat_short {code : Bool} : ∀ {b : List Ir.In}, (∀ x ∈ b, insE code x = 0 ∧ x.args.length ≤ 20) → (b.flatMap (insW code)).length ≤ 310 * b.length
  | [], _ => by simp
  | x :: b, h => by
    have h1 := insW_short (h x (List.mem_cons_self ..)).1 (h x (List.mem_cons_self ..)).2
    have h2 := flat_short (b := b) (fun y hy => h y (List.mem_cons_of_mem _ hy))
    rw [List.flatMap_cons, List.length_append]
    simp only [List.length_cons]
    omega
theorem blksW_short {code : Bool} : ∀ {bs : List (List Ir.In)}, (∀ b ∈ bs, ∀ x ∈ b, insE code x = 0 ∧ x.args.length ≤ 20) → (blksW code bs).length ≤ 6 * bs.length + 310 * Ir.count bs
  | [], _ => by simp [blksW, Ir.count]
  | b :: bs, h => by
    have h1 := flat_short (h b (List.mem_cons_self ..))
    have h2 := blksW_short (bs := bs) (fun c hc => h c (List.mem_cons_of_mem _ hc))
    have e : blksW code (b :: bs) = blkW code b ++ blksW code bs := rfl
    have e2 : Ir.count (b :: bs) = b.length + Ir.count bs := rfl
    rw [e, e2, List.length_append]
    unfold blkW
    rw [List.length_append]
    have e3 : (blockW ++ [10]).length = 6 := rfl
    simp only [List.length_cons]
    omega
theorem pr_short {code : Bool} {c : Cd} (h : LightT c.blocks) (h0 : prE code c = 0) : (prW code c).length ≤ 200000 := by
  obtain ⟨h1, h2⟩ := pr_ok h0
  have h3 := pw_len (xs := headP code c) (fun y hy => check_ok h1 hy)
  have h4 : (headP code c).length ≤ 4 := by cases code <;> simp [headP]
  have h5 : (first code).length = 4 := by cases code <;> rfl
  have h6 := blksW_short (code := code) (bs := c.blocks) (fun b hb x hx => ⟨blkE_ok (blksE_ok h2 b hb) x hx, (h.ins b hb x hx).1⟩)
  have h7 := h.blocks
  have h8 := h.count
  unfold prW
  rw [lineW_is]
  simp only [List.length_append, List.length_cons, List.length_nil]
  omega

theorem run_zero {code : Bool} : ∀ (ls : List (Option (List UInt8))) (n : Nat) (c : Cd), (run code n c ls).1 ≠ 0 → (run code n c ls).2.2 = Cd.zero
  | [], _, _, h => absurd rfl h
  | l :: ls, n, c, h => by
    rw [run] at h ⊢
    by_cases h0 : (readLn code n c l).1 = 0
    · rw [if_pos h0] at h ⊢
      exact run_zero ls _ _ h
    · rw [if_neg h0]
theorem parse_zero {code : Bool} {s : List UInt8} (h : (parse code s).1 ≠ 0) : (parse code s).2.2 = Cd.zero := by
  unfold parse at h ⊢
  by_cases hs : s = []
  · rw [if_pos hs]
  · rw [if_neg hs] at h ⊢
    exact run_zero _ _ _ h
/-- The first line's name and numbers are no bigger than a text's may be. -/
theorem parse_head (code : Bool) (s : List UInt8) : (parse code s).2.2.name.size ≤ 12 ∧ (0 ≤ (parse code s).2.2.params ∧ (parse code s).2.2.params ≤ 2147483647) ∧ (0 ≤ (parse code s).2.2.regs ∧ (parse code s).2.2.regs ≤ 2147483647) ∧ (0 ≤ (parse code s).2.2.slots ∧ (parse code s).2.2.slots ≤ 2147483647) := by
  by_cases h0 : (parse code s).1 = 0
  · obtain ⟨h1, -, -, h4⟩ := parse_ok h0
    obtain ⟨h2, -⟩ := pr_ok h1
    have h3 := fun (p : Pt) (hp : p ∈ headP code (parse code s).2.2) => check_ok h2 hp
    refine ⟨nm_len (h3 (.nm _) (by simp [headP])), of_decide_eq_true (h3 (.num _) (by simp [headP])), of_decide_eq_true (h3 (.num (parse code s).2.2.regs) (by simp [headP])), ?_⟩
    cases code with
    | true => exact of_decide_eq_true (h3 (.num _) (by simp [headP]))
    | false => rw [h4 rfl]; decide
  · rw [parse_zero h0]
    exact ⟨Nat.zero_le _, by decide, by decide, by decide⟩
end Go.Proofs.YtcoehmmiplffgaaDoor

/- Parse, ParseCode: the program's and the document's. -/
namespace Go.Proofs.YtcoehmmiplffgaaDoor
open Go.ChangeShapes Go.WideShapes Go.RowKit Go.Deep

/-- Code that is read, as a function. -/
def fuOf (c : Tx.Cd) : Ir.Fu := ⟨c.name, c.params, c.regs, c.blocks⟩
/-- What Parse comes to; B: the blocks lie from there on. -/
def PfPost (q : Int × Nat × Tx.Cd) (w : World) (e : Ending) (w' : World) : Prop := Below w.heap.size w w' ∧ ∃ gv, e = .returned (.tuple #[FuV (fuOf q.2.2) gv, .int .i64 (q.2.1 : Int), .int .i64 q.1]) ∧ BlkF w.heap.size w' gv q.2.2.blocks

theorem info_func4 : (Tryd.prog.info? 24).map (·.size) = some 4 := by kernel_rfl
theorem info_code5 : (Tryd.prog.info? 37).map (·.size) = some 5 := by kernel_rfl
theorem results_pf {fn : Func} (h : fn.results = #[.cell 2 24, .tmp 3, .tmp 4]) (tmps : Array Value) (W : World) (B : Nat) (a b c d : Value)
    (hp : tmps.getD 2 undef = .pointer (some ⟨B, 0, none⟩)) (hb : Blk W B 24 #[a, b, c, d]) :
    (results fn tmps).run Tryd.prog W = .ok (.tuple #[.agg #[a, b, c, d], tmps.getD 3 undef, tmps.getD 4 undef]) W := by
  have hp' : tmps[2]?.getD undef = .pointer (some ⟨B, 0, none⟩) := by simpa using hp
  simp [results, h, hp', asAddr, run_loadVar_row W B 24 24 #[a, b, c, d] (0, 0) _ hb Tryd.underlying24 rfl info_func4]
theorem results_pc {fn : Func} (h : fn.results = #[.cell 2 37, .tmp 3, .tmp 4]) (tmps : Array Value) (W : World) (B : Nat) (a b c d e : Value)
    (hp : tmps.getD 2 undef = .pointer (some ⟨B, 0, none⟩)) (hb : Blk W B 37 #[a, b, c, d, e]) :
    (results fn tmps).run Tryd.prog W = .ok (.tuple #[.agg #[a, b, c, d, e], tmps.getD 3 undef, tmps.getD 4 undef]) W := by
  have hp' : tmps[2]?.getD undef = .pointer (some ⟨B, 0, none⟩) := by simpa using hp
  simp [results, h, hp', asAddr, run_loadVar_row W B 37 37 #[a, b, c, d, e] (0, 0) _ hb Tryd.underlying37 rfl info_code5]

section
variable {w : World} {g : Nat} {t : TypeId} {a b c d : Value}
theorem Blk.q4u (h : Blk w g t #[a, b, c, d]) (a' b' c' d' : Value) : Blk ((((w.setCell ⟨g, 0, none⟩ a').setCell ⟨g, 1, none⟩ b').setCell ⟨g, 2, none⟩ c').setCell ⟨g, 3, none⟩ d') g t #[a', b', c', d'] := (((h.set 0 a').set 1 b').set 2 c').set 3 d'
theorem frozen4 (h : Blk w g t #[a, b, c, d]) : w.frozen? ⟨g, 0, none⟩ = false ∧ w.frozen? ⟨g, 1, none⟩ = false ∧ w.frozen? ⟨g, 2, none⟩ = false ∧ w.frozen? ⟨g, 3, none⟩ = false := ⟨h.frozen 0, h.frozen 1, h.frozen 2, h.frozen 3⟩
theorem below4 {B : Nat} {w0 : World} (h : Below B w0 w) (hg : B ≤ g) (a b c d : Value) : Below B w0 ((((w.setCell ⟨g, 0, none⟩ a).setCell ⟨g, 1, none⟩ b).setCell ⟨g, 2, none⟩ c).setCell ⟨g, 3, none⟩ d) :=
  (((h.setCell (p := ⟨g, 0, none⟩) hg _).setCell (p := ⟨g, 1, none⟩) hg _).setCell (p := ⟨g, 2, none⟩) hg _).setCell (p := ⟨g, 3, none⟩) hg _
theorem far4 {B : Nat} (hg : g < B) (a b c d : Value) : Far B w ((((w.setCell ⟨g, 0, none⟩ a).setCell ⟨g, 1, none⟩ b).setCell ⟨g, 2, none⟩ c).setCell ⟨g, 3, none⟩ d) := (((Far.set hg _ _).trans (Far.set hg _ _)).trans (Far.set hg _ _)).trans (Far.set hg _ _)
theorem far5 {B : Nat} (hg : g < B) (a b c d e : Value) : Far B w (((((w.setCell ⟨g, 0, none⟩ a).setCell ⟨g, 1, none⟩ b).setCell ⟨g, 2, none⟩ c).setCell ⟨g, 3, none⟩ d).setCell ⟨g, 4, none⟩ e) := (far4 hg a b c d).trans (Far.set hg _ _)
end
abbrev fuZ : Array Value := #[.string ⟨#[]⟩, .int .i64 0, .int .i64 0, .slice none 0 0]
theorem BlkF.to {B : Nat} {w w' : World} {gv : Value} {l : List (List Ir.In)} (h : BlkF B w gv l) (hF : Far B w w') : BlkF B w' gv l := fun W hW => h W (hF.trans hW)
theorem BlkF.mono {B B' : Nat} {w : World} {gv : Value} {l : List (List Ir.In)} (h : BlkF B w gv l) (hB : B' ≤ B) : BlkF B' w gv l := fun W hW => h W ⟨hW.size, fun i e cur hi hb => hW.blk i e cur (Nat.le_trans hB hi) hb⟩
theorem BlkF.blks {B : Nat} {w : World} {gv : Value} {l : List (List Ir.In)} (h : BlkF B w gv l) : Blks w gv l := h w (Far.refl _ _)

set_option maxRecDepth 20000 in
set_option maxHeartbeats 2000000 in
theorem Parse_any (s : ByteArray) (w : World) (hs : s.size ≤ 990000) (hr : Rdy w) : Calls Tryd.prog 11 #[.string s] w (PfPost (Tx.parse false s.data.toList) w) := by
  have h1 : Below w.heap.size w (w.alloc (.cells fuZ 24)) := (Below.refl _ _).alloc (Nat.le_refl _) _
  have hU := Blk.new w 24 fuZ
  obtain ⟨q, hq⟩ : ∃ q, q = Tx.parse false s.data.toList := ⟨_, rfl⟩
  have hp := parse_any false s (w.alloc (.cells fuZ 24)) hs (hr.below h1)
  rw [← hq] at hp ⊢
  have HP := Lib.hid (show Calls Tryd.prog 23 #[.int .i64 1, .string s] _ _ from hp)
  have HU := Lib.hid (And.intro hU h1)
  have hz : (w.alloc (.cells fuZ 24)).heap.size = w.heap.size + 1 := by simp
  clear h1 hU hp hq hr hs
  go_enter Tryd.func11, Tryd.ntmps11
  go_upto_region 1 with fail
  generalize w.alloc _ = w1 at *
  go_wp2_with fail
  refine HP.out.mono ?_
  rintro e w2 ⟨hb2, gv, rfl, hF⟩
  obtain ⟨A, cap, rfl⟩ := hF.blks.form
  have hU2 := HU.out.1.older hb2 HU.out.1.lt
  have hbA : Below w2.heap.size w2 (w2.alloc (.cells (CdC q.2.2 (.slice A q.2.2.blocks.length cap)) 37)) := (Below.refl _ _).alloc (Nat.le_refl _) _
  have hU3 := hU2.older hbA hU2.lt
  have hc3 := Blk.new w2 37 (CdC q.2.2 (.slice A q.2.2.blocks.length cap))
  obtain ⟨c0, c1, c2, c3, c4⟩ := cells5 hc3
  obtain ⟨k0, k1, k2, k3⟩ := cells4 hU3
  obtain ⟨f0, f1, f2, f3⟩ := frozen4 hU3
  have HB := Lib.hid (And.intro hU3 (And.intro (((HU.out.2.trans (hb2.mono HU.out.2.size))).trans (hbA.mono (Nat.le_trans HU.out.2.size hb2.size))) (hF.to (Far.below hbA))))
  clear hU2 hbA hU3 hc3 hb2 hF
  go_upto_region 2 with fail
  generalize w2.alloc (.cells (CdC q.2.2 (.slice A q.2.2.blocks.length cap)) 37) = w3 at *
  go_wp2_with fail
  refine bodyPost_ret (results_pf rfl _ _ w.heap.size _ _ _ _ rfl (HB.out.1.q4u _ _ _ _)) rfl ?_
  refine ⟨below4 HB.out.2.1 (Nat.le_refl _) _ _ _ _, _, rfl, ?_⟩
  exact (HB.out.2.2.to (far4 (by omega) _ _ _ _)).mono (by omega)

set_option maxRecDepth 20000 in
set_option maxHeartbeats 2000000 in
theorem ParseCode_any (s : ByteArray) (w : World) (hs : s.size ≤ 990000) (hr : Rdy w) : Calls Tryd.prog 18 #[.string s] w (PaPost (Tx.parse true s.data.toList) w) := by
  have h1 : Below w.heap.size w (w.alloc (.cells cdZ 37)) := (Below.refl _ _).alloc (Nat.le_refl _) _
  have hU := Blk.new w 37 cdZ
  obtain ⟨q, hq⟩ : ∃ q, q = Tx.parse true s.data.toList := ⟨_, rfl⟩
  have hp := parse_any true s (w.alloc (.cells cdZ 37)) hs (hr.below h1)
  rw [← hq] at hp ⊢
  have HP := Lib.hid (show Calls Tryd.prog 23 #[.int .i64 2, .string s] _ _ from hp)
  have HU := Lib.hid (And.intro hU h1)
  have hz : (w.alloc (.cells cdZ 37)).heap.size = w.heap.size + 1 := by simp
  clear h1 hU hp hq hr hs
  go_enter Tryd.func18, Tryd.ntmps18
  go_upto_region 1 with fail
  generalize w.alloc _ = w1 at *
  go_wp2_with fail
  refine HP.out.mono ?_
  rintro e w2 ⟨hb2, gv, rfl, hF⟩
  obtain ⟨A, cap, rfl⟩ := hF.blks.form
  have hU2 := HU.out.1.older hb2 HU.out.1.lt
  obtain ⟨k0, k1, k2, k3, k4⟩ := cells5 hU2
  obtain ⟨f0, f1, f2, f3, f4⟩ := frozen5 hU2
  have HB := Lib.hid (And.intro hU2 (And.intro (HU.out.2.trans (hb2.mono HU.out.2.size)) hF))
  clear hU2 hb2 hF
  go_wp2_with fail
  refine bodyPost_ret (results_pc rfl _ _ w.heap.size _ _ _ _ _ rfl (HB.out.1.q5 _ _ _ _ _)) rfl ?_
  refine ⟨below5 HB.out.2.1 (Nat.le_refl _) _ _ _ _ _, _, rfl, ?_⟩
  exact (HB.out.2.2.to (far5 (by omega) _ _ _ _ _)).mono (by omega)

/-! ### the document's -/
theorem parse_nat {code : Bool} {s : List UInt8} (h : (Tx.parse code s).1 = 0) : (Tx.parse code s).2.1 = 0 := (Tx.parse_ok h).2.2.1
set_option maxRecDepth 20000 in
set_option maxHeartbeats 2000000 in
theorem rParse_any (s : ByteArray) (w : World) (hs : s.size ≤ 990000) : Calls Tryd.prog 12 #[.string s] w (PfPost (Tx.parse false s.data.toList) w) := by
  have h1 : Below w.heap.size w (w.alloc (.cells fuZ 24)) := (Below.refl _ _).alloc (Nat.le_refl _) _
  have hU := Blk.new w 24 fuZ
  have hN := parse_nat (code := false) (s := s.data.toList)
  have hZ := parse_zero (code := false) (s := s.data.toList)
  have hp := rparse_any s false (w.alloc (.cells fuZ 24)) (by omega)
  obtain ⟨q, hq⟩ : ∃ q, q = Tx.parse false s.data.toList := ⟨_, rfl⟩
  rw [← hq] at hp hN hZ ⊢
  have HP := Lib.hid (show Calls Tryd.prog 24 #[.string s, .string ⟨#[102, 117, 110, 99]⟩, .int .i64 3, .bool false] _ _ from hp)
  have HU := Lib.hid (And.intro hU h1)
  have HZ := Lib.hid (And.intro hN hZ)
  have hz : (w.alloc (.cells fuZ 24)).heap.size = w.heap.size + 1 := by simp
  clear h1 hU hp hq hs hN hZ
  go_enter Tryd.func12, Tryd.ntmps12
  go_upto_region 1 with fail
  generalize w.alloc _ = w1 at *
  go_wp2_with fail
  refine HP.out.mono ?_
  rintro e w2 ⟨hb2, ⟨h0, v, gv, rfl, hrow, hF⟩ | ⟨h0, rfl⟩⟩
  · obtain ⟨A, cap, rfl⟩ := hF.blks.form
    have hU2 := HU.out.1.older hb2 HU.out.1.lt
    obtain ⟨g, gc, rfl, -, hgc, -, hat⟩ := hrow.at (show numsC false q.2.2 ≠ [] from List.cons_ne_nil _ _)
    have r0 := hat 0 _ rfl
    have r1 := hat 1 _ rfl
    have HB := Lib.hid (And.intro hU2 (And.intro (HU.out.2.trans (hb2.mono HU.out.2.size)) (And.intro hF (HZ.out.1 h0))))
    obtain ⟨k0, k1, k2, k3⟩ := cells4 hU2
    obtain ⟨f0, f1, f2, f3⟩ := frozen4 hU2
    have e0 : w2.cell? ⟨g, 0, none⟩ = some (.int .i64 q.2.2.params) := r0
    have e1 : w2.cell? ⟨g, 1, none⟩ = some (.int .i64 q.2.2.regs) := r1
    have H0 := Lib.hid h0
    rw [show (numsC false q.2.2).length = 2 from rfl]
    clear hU2 hb2 hF hrow hat r0 r1 h0
    go_upto_region 4 with fail
    go_still_tail 9, (by kernel_rfl)
    go_wp2_with fail
    refine bodyPost_ret (results_pf rfl _ _ w.heap.size _ _ _ _ rfl (HB.out.1.q4u _ _ _ _).drew) rfl ?_
    refine ⟨(below4 HB.out.2.1 (Nat.le_refl _) _ _ _ _).drew, _, by rw [HB.out.2.2.2, H0.out] <;> rfl, ?_⟩
    exact ((HB.out.2.2.1.to (far4 (by omega) _ _ _ _)).to (Far.below (Below.refl _ _).drew)).mono (by omega)
  · have hU2 := HU.out.1.older hb2 HU.out.1.lt
    have hne : (q.1 != 0) = true := by simpa using h0
    obtain ⟨k0, k1, k2, k3⟩ := cells4 hU2
    obtain ⟨f0, f1, f2, f3⟩ := frozen4 hU2
    have HB := Lib.hid (And.intro hU2 (And.intro (HU.out.2.trans (hb2.mono HU.out.2.size)) (HZ.out.2 h0)))
    clear hU2 hb2 h0
    go_wp2_with fail
    refine bodyPost_ret (results_pf rfl _ _ w.heap.size _ _ _ _ rfl (HB.out.1.q4u _ _ _ _)) rfl ?_
    refine ⟨below4 HB.out.2.1 (Nat.le_refl _) _ _ _ _, .slice none 0 0, by rw [HB.out.2.2] <;> rfl, ?_⟩
    rw [HB.out.2.2]
    exact BlkF.nil _ _

set_option maxRecDepth 20000 in
set_option maxHeartbeats 2000000 in
theorem rParseCode_any (s : ByteArray) (w : World) (hs : s.size ≤ 990000) : Calls Tryd.prog 19 #[.string s] w (PaPost (Tx.parse true s.data.toList) w) := by
  have h1 : Below w.heap.size w (w.alloc (.cells cdZ 37)) := (Below.refl _ _).alloc (Nat.le_refl _) _
  have hU := Blk.new w 37 cdZ
  have hN := parse_nat (code := true) (s := s.data.toList)
  have hZ := parse_zero (code := true) (s := s.data.toList)
  have hp := rparse_any s true (w.alloc (.cells cdZ 37)) (by omega)
  obtain ⟨q, hq⟩ : ∃ q, q = Tx.parse true s.data.toList := ⟨_, rfl⟩
  rw [← hq] at hp hN hZ ⊢
  have HP := Lib.hid (show Calls Tryd.prog 24 #[.string s, .string ⟨#[99, 111, 100, 101]⟩, .int .i64 4, .bool true] _ _ from hp)
  have HU := Lib.hid (And.intro hU h1)
  have HZ := Lib.hid (And.intro hN hZ)
  have hz : (w.alloc (.cells cdZ 37)).heap.size = w.heap.size + 1 := by simp
  clear h1 hU hp hq hs hN hZ
  go_enter Tryd.func19, Tryd.ntmps19
  go_upto_region 1 with fail
  generalize w.alloc _ = w1 at *
  go_wp2_with fail
  refine HP.out.mono ?_
  rintro e w2 ⟨hb2, ⟨h0, v, gv, rfl, hrow, hF⟩ | ⟨h0, rfl⟩⟩
  · obtain ⟨A, cap, rfl⟩ := hF.blks.form
    have hU2 := HU.out.1.older hb2 HU.out.1.lt
    obtain ⟨g, gc, rfl, -, hgc, -, hat⟩ := hrow.at (show numsC true q.2.2 ≠ [] from List.cons_ne_nil _ _)
    have r0 := hat 0 _ rfl
    have r1 := hat 1 _ rfl
    have r2 := hat 2 _ rfl
    have HB := Lib.hid (And.intro hU2 (And.intro (HU.out.2.trans (hb2.mono HU.out.2.size)) (And.intro hF (HZ.out.1 h0))))
    obtain ⟨k0, k1, k2, k3, k4⟩ := cells5 hU2
    obtain ⟨f0, f1, f2, f3, f4⟩ := frozen5 hU2
    have e0 : w2.cell? ⟨g, 0, none⟩ = some (.int .i64 q.2.2.params) := r0
    have e1 : w2.cell? ⟨g, 1, none⟩ = some (.int .i64 q.2.2.regs) := r1
    have e2 : w2.cell? ⟨g, 2, none⟩ = some (.int .i64 q.2.2.slots) := r2
    have H0 := Lib.hid h0
    rw [show (numsC true q.2.2).length = 3 from rfl]
    clear hU2 hb2 hF hrow hat r0 r1 r2 h0
    go_upto_region 4 with fail
    go_still_tail 12, (by kernel_rfl)
    go_wp2_with fail
    refine bodyPost_ret (results_pc rfl _ _ w.heap.size _ _ _ _ _ rfl (HB.out.1.q5 _ _ _ _ _).drew) rfl ?_
    refine ⟨(below5 HB.out.2.1 (Nat.le_refl _) _ _ _ _ _).drew, _, by rw [HB.out.2.2.2, H0.out] <;> rfl, ?_⟩
    exact ((HB.out.2.2.1.to (far5 (by omega) _ _ _ _ _)).to (Far.below (Below.refl _ _).drew)).mono (by omega)
  · have hU2 := HU.out.1.older hb2 HU.out.1.lt
    have hne : (q.1 != 0) = true := by simpa using h0
    obtain ⟨k0, k1, k2, k3, k4⟩ := cells5 hU2
    obtain ⟨f0, f1, f2, f3, f4⟩ := frozen5 hU2
    have HB := Lib.hid (And.intro hU2 (And.intro (HU.out.2.trans (hb2.mono HU.out.2.size)) (HZ.out.2 h0)))
    clear hU2 hb2 h0
    go_wp2_with fail
    refine bodyPost_ret (results_pc rfl _ _ w.heap.size _ _ _ _ _ rfl (HB.out.1.q5 _ _ _ _ _)) rfl ?_
    refine ⟨below5 HB.out.2.1 (Nat.le_refl _) _ _ _ _ _, .slice none 0 0, by rw [HB.out.2.2] <;> rfl, ?_⟩
    rw [HB.out.2.2]
    exact BlkF.nil _ _

/-- As PfPost, of a function, a number and an error. -/
def FunPost (f : Ir.Fu) (n E : Int) (w : World) (e : Ending) (w' : World) : Prop := Below w.heap.size w w' ∧ ∃ gv, e = .returned (.tuple #[FuV f gv, .int .i64 n, .int .i64 E]) ∧ BlkF w.heap.size w' gv f.blocks
/-- Both Parses, of a text that is not too long. -/
theorem parses_two (s : ByteArray) (hs : s.size ≤ 990000) : ∃ (f : Ir.Fu) (n E : Int), f = fuOf (Tx.parse false s.data.toList).2.2 ∧ n = ((Tx.parse false s.data.toList).2.1 : Int) ∧ E = (Tx.parse false s.data.toList).1 ∧
    (∀ w, Rdy w → Calls Tryd.prog 11 #[.string s] w (FunPost f n E w)) ∧ (∀ w, Calls Tryd.prog 12 #[.string s] w (FunPost f n E w)) :=
  ⟨_, _, _, rfl, rfl, rfl, fun w hr => Parse_any s w hs hr, fun w => rParse_any s w hs⟩
end Go.Proofs.YtcoehmmiplffgaaDoor

/- Loops over rows of numbers: below, within, same, Equal. -/
namespace Go.Proofs.YtcoehmmiplffgaaDoor
open Go.ChangeShapes Go.WideShapes Go.RowKit Go.Deep

theorem Nums.at {w : World} {A : Option Addr} {n cap : Nat} {l : List Int} (h : Nums w (.slice A n cap) l) {k : Nat} {x : Int} (hx : l[k]? = some x) : ∃ b off, A = some ⟨b, off, none⟩ ∧ b < w.heap.size ∧ w.cell? ⟨b, off + k, none⟩ = some (.int .i64 x) := by
  obtain ⟨A', cap', e, -, h3⟩ := h
  simp at e
  obtain ⟨rfl, rfl, rfl⟩ := e
  obtain ⟨b, off, cs, h4, h5, -, h7, h8⟩ := h3 k x hx
  have := h7 0 (.int .i64 x) (by rw [h8.1]; rfl)
  rw [Nat.mul_one, Nat.add_zero] at this
  exact ⟨b, off, h4, h5, this⟩

theorem within_up {l : List Int} {k : Nat} {x n : Int} (h : l[k]? = some x) (ht : Ir.within (l.take k) n = true) (hx : 0 ≤ x ∧ x < n) : Ir.within (l.take (k + 1)) n = true := by
  obtain ⟨h1, rfl⟩ := List.getElem?_eq_some_iff.1 h
  unfold Ir.within at *
  rw [List.take_succ_eq_append_getElem h1, List.all_append, ht]
  simp
  exact hx
theorem within_bad {l : List Int} {k : Nat} {x n : Int} (h : l[k]? = some x) (hx : ¬ (0 ≤ x ∧ x < n)) : Ir.within l n = false := by
  unfold Ir.within
  rw [List.all_eq_false]
  exact ⟨x, List.mem_of_getElem? h, by simpa using fun h0 => Int.not_lt.1 (fun h1 => hx ⟨h0, h1⟩)⟩

theorem retb {a b : Bool} (h : a = b) : Ending.returned (Value.bool a) = .returned (.bool b) := by rw [h]

set_option maxRecDepth 20000 in
set_option maxHeartbeats 800000 in

set_option maxRecDepth 20000 in
set_option maxHeartbeats 800000 in
theorem within_any (v : Value) (l : List Int) (n : Int) (w : World) (hv : Nums w v l) (hl : l.length ≤ 1048576) :
    Calls Tryd.prog 47 #[v, .int .i64 n] w fun e w' => e = .returned (.bool (Ir.within l n)) ∧ w = w' := by
  obtain ⟨A, cap, rfl, -⟩ := id hv
  have HV := Lib.hid hv
  have hl' : (l.length : Int) ≤ 1048576 := by omega
  clear hv
  go_enter Tryd.func47, Tryd.ntmps47
  go_wp2_with fail
  go_loop [5] (fun i => ∃ k : Nat, k ≤ l.length ∧ i = .int .i64 (k : Int) ∧ Ir.within (l.take k) n = true) (fun i => l.length - (intOf i).toNat)
  case atStart => exact ⟨0, Nat.zero_le _, rfl, rfl⟩
  case round =>
    obtain ⟨k, hk, rfl, hall⟩ := hrel
    have HA := Lib.hid hall
    clear hall
    by_cases hlt : k < l.length
    · have hki : (k : Int) < (l.length : Int) := by omega
      obtain ⟨x, hx⟩ : ∃ x, l[k]? = some x := ⟨_, List.getElem?_eq_getElem hlt⟩
      obtain ⟨b, off, rfl, hb, hc⟩ := HV.out.at hx
      by_cases hr : 0 ≤ x ∧ x < n
      · have HU := Lib.hid (within_up hx HA.out hr)
        obtain ⟨hr1, hr2⟩ := hr
        clear hx
        go_wp2_with fail
        go_round
        case rel => exact ⟨k + 1, by omega, by go_num, HU.out⟩
        case measure => simp [intOf]; omega
      · have HU := Lib.hid (within_bad hx hr)
        have hcase : x < 0 ∨ (0 ≤ x ∧ n ≤ x) := by omega
        clear hx hr
        rcases hcase with h1 | ⟨h1, h2⟩
        all_goals
          go_wp2_with fail
          go_ret
          exact ⟨retb HU.out.symm, rfl⟩
    · have HU := Lib.hid (show Ir.within l n = true by have := HA.out; rwa [List.take_of_length_le (by omega)] at this)
      go_wp2_with fail
      go_ret
      exact ⟨retb HU.out.symm, rfl⟩

theorem beq_bad {a b : List Int} {k : Nat} {x y : Int} (ha : a[k]? = some x) (hb : b[k]? = some y) (h : ¬ x = y) : (a == b) = false := by
  rw [beq_eq_false_iff_ne]
  rintro rfl
  rw [ha] at hb
  exact h (Option.some.inj hb)
theorem beq_len {a b : List Int} (h : ¬ a.length = b.length) : (a == b) = false := by
  rw [beq_eq_false_iff_ne]
  rintro rfl
  exact h rfl
theorem beq_all {a b : List Int} (hl : a.length = b.length) (h : a.take a.length = b.take a.length) : (a == b) = true := by
  rw [beq_iff_eq]
  rw [List.take_of_length_le (Nat.le_refl _), List.take_of_length_le (by omega)] at h
  exact h




end Go.Proofs.YtcoehmmiplffgaaDoor

/- Which fields an Op has: the program's table, as start-up lays it, and what fieldsOf comes to. -/
namespace Go.Proofs.YtcoehmmiplffgaaDoor
open Go.ChangeShapes Go.WideShapes Go.RowKit Go.Deep Go.Joins

def rowD (op : Int) : DataW Unit := .agg [.lit (.int .i64 (Ir.fd op)), .lit (.int .i64 (Ir.fa op)), .lit (.int .i64 (Ir.fb op)), .lit (.bool (Ir.fc op))]
theorem bool_cells : Tryd.prog.cellsOf 4 = 1 := by kernel_rfl
/-- The fields of an Op, by value. -/
abbrev FlV (op : Int) : Value := .agg #[.int .i64 (Ir.fd op), .int .i64 (Ir.fa op), .int .i64 (Ir.fb op), .bool (Ir.fc op)]
theorem FlV_low {op : Int} (h : op < 1) : FlV op = .agg #[.int .i64 0, .int .i64 0, .int .i64 0, .bool false] := by
  unfold FlV Ir.fd Ir.fa Ir.fb Ir.fc
  rw [if_neg (by omega), if_neg (by omega), if_neg (by omega), if_neg (by omega), if_neg (by omega), if_neg (by omega), if_neg (by omega), decide_eq_false (by omega)]
theorem FlV_high {op : Int} (h : 14 < op) : FlV op = .agg #[.int .i64 0, .int .i64 0, .int .i64 0, .bool false] := by
  unfold FlV Ir.fd Ir.fa Ir.fb Ir.fc
  rw [if_neg (by omega), if_neg (by omega), if_neg (by omega), if_neg (by omega), if_neg (by omega), if_neg (by omega), if_neg (by omega), decide_eq_false (by omega)]

section
variable {w : World} {g : Nat} {t : TypeId} {a b c d : Value}
theorem Blk.q4 (h : Blk w g t #[a, b, c, d]) (a' b' c' d' : Value) : Blk ((((w.setCell ⟨g, 0, none⟩ a').setCell ⟨g, 1, none⟩ b').setCell ⟨g, 2, none⟩ c').setCell ⟨g, 3, none⟩ d') g t #[a', b', c', d'] := by
  have e0 : Blk (w.setCell ⟨g, 0, none⟩ a') g t #[a', b, c, d] := by simpa [Blk] using heap_setCell_same w g 0 _ t a' h
  have e1 : Blk ((w.setCell ⟨g, 0, none⟩ a').setCell ⟨g, 1, none⟩ b') g t #[a', b', c, d] := by simpa [Blk] using heap_setCell_same _ g 1 _ t b' e0
  have e2 : Blk (((w.setCell ⟨g, 0, none⟩ a').setCell ⟨g, 1, none⟩ b').setCell ⟨g, 2, none⟩ c') g t #[a', b', c', d] := by simpa [Blk] using heap_setCell_same _ g 2 _ t c' e1
  simpa [Blk] using heap_setCell_same _ g 3 _ t d' e2
theorem four_cells (h : Blk w g t #[a, b, c, d]) : (w.cell? ⟨g, 0, none⟩ = some a ∧ w.cell? ⟨g, 1, none⟩ = some b ∧ w.cell? ⟨g, 2, none⟩ = some c ∧ w.cell? ⟨g, 3, none⟩ = some d) ∧
    w.frozen? ⟨g, 0, none⟩ = false ∧ w.frozen? ⟨g, 1, none⟩ = false ∧ w.frozen? ⟨g, 2, none⟩ = false ∧ w.frozen? ⟨g, 3, none⟩ = false :=
  ⟨⟨h.cell 0, h.cell 1, h.cell 2, h.cell 3⟩, h.frozen 0, h.frozen 1, h.frozen 2, h.frozen 3⟩
end
theorem gr_q4 {a b : World} {row : Option Nat} {g : Nat} (h : a.grownBy b row) (hg : a.heap.size ≤ g) (v x y z : Value) : a.grownBy ((((b.setCell ⟨g, 0, none⟩ v).setCell ⟨g, 1, none⟩ x).setCell ⟨g, 2, none⟩ y).setCell ⟨g, 3, none⟩ z) row :=
  gr_set_new (gr_set_new (gr_set_new (gr_set_new h hg 0 v) hg 1 x) hg 2 y) hg 3 z

end Go.Proofs.YtcoehmmiplffgaaDoor

/- Last, Def: the program's and the document's. -/
namespace Go.Proofs.YtcoehmmiplffgaaDoor
open Go.ChangeShapes Go.WideShapes Go.RowKit Go.Deep

theorem ret_i64 {a b : Int} (h : a = b) : Ending.returned (.int .i64 a) = .returned (.int .i64 b) := by rw [h]
theorem last_is (op : Int) : Ir.last op = (decide (op = 12) || (decide (op = 13) || decide (op = 14))) := by
  unfold Ir.last
  rw [Bool.decide_or, Bool.decide_or]
theorem eq_dec (a b : Int) : (a == b) = decide (a = b) := by
  rw [Bool.eq_iff_iff]; simp

theorem rlast_any (op : Int) (w : World) : Calls Tryd.prog 44 #[.int .i64 op] w fun e w' => e = .returned (.bool (Ir.last op)) ∧ w = w' := by
  rw [last_is]
  by_cases h1 : op = 12
  · subst h1
    go_enter Tryd.func44, Tryd.ntmps44
    go_wp2_with fail
    go_ret
    exact ⟨rfl, rfl⟩
  by_cases h2 : op = 13
  · subst h2
    go_enter Tryd.func44, Tryd.ntmps44
    go_wp2_with fail
    go_ret
    exact ⟨rfl, rfl⟩
  rw [decide_eq_false h1, decide_eq_false h2]
  have e1 : (op == 12) = false := by simp [h1]
  have e2 : (op == 13) = false := by simp [h2]
  have e3 : (op == 14) = decide (op = 14) := eq_dec _ _
  clear h1 h2
  generalize decide (op = 14) = b at *
  go_enter Tryd.func44, Tryd.ntmps44
  go_wp2_with fail
  go_ret
  exact ⟨rfl, rfl⟩

/-- The fields' cells, by value. -/
abbrev FlC (op : Int) : Array Value := #[.int .i64 (Ir.fd op), .int .i64 (Ir.fa op), .int .i64 (Ir.fb op), .bool (Ir.fc op)]

/-- The six cells of a box. -/
theorem six_cells {w : World} {g : Nat} {t : TypeId} {a b c d e f : Value} (h : Blk w g t #[a, b, c, d, e, f]) :
    w.cell? ⟨g, 0, none⟩ = some a ∧ w.cell? ⟨g, 1, none⟩ = some b ∧ w.cell? ⟨g, 2, none⟩ = some c ∧ w.cell? ⟨g, 3, none⟩ = some d ∧ w.cell? ⟨g, 4, none⟩ = some e ∧ w.cell? ⟨g, 5, none⟩ = some f :=
  ⟨h.cell 0, h.cell 1, h.cell 2, h.cell 3, h.cell 4, h.cell 5⟩

/-- The ways of an Op that writes a register. -/
theorem fd_one {op : Int} : Ir.fd op = 1 ↔ op = 1 ∨ op = 2 ∨ op = 8 ∨ op = 3 ∨ op = 4 ∨ op = 5 ∨ op = 6 ∨ op = 7 ∨ op = 11 := by
  unfold Ir.fd
  split
  · subst op; decide
  · split <;> omega

set_option maxRecDepth 20000 in
set_option maxHeartbeats 800000 in
theorem rdef_any (x : Ir.In) (sl : Value) (w : World) (hx : InR w (InsC x sl).toList x) :
    Calls Tryd.prog 46 #[InsV x sl] w fun e w' => e = .returned (.int .i64 (Ir.dest x)) ∧ Below w.heap.size w w' := by
  obtain ⟨_, -, -, hop, -⟩ := hx
  have hB := Blk.new w 46 (InsC x sl)
  have hb : Below w.heap.size w (w.alloc (.cells (InsC x sl) 46)) := (Below.refl _ _).alloc (Nat.le_refl _) _
  have HW := Lib.hid hb
  obtain ⟨c0, c1, -, -, -, -⟩ := six_cells hB
  clear hB hb
  by_cases hd : Ir.fd x.op = 1
  · have HD := Lib.hid (show x.d = Ir.dest x by unfold Ir.dest; rw [if_pos hd])
    rw [fd_one] at hd
    generalize x.op = op at *
    rcases hd with rfl | rfl | rfl | rfl | rfl | rfl | rfl | rfl | rfl
    all_goals
      go_enter Tryd.func46, Tryd.ntmps46
      go_wp2_with fail
      go_ret
      exact ⟨ret_i64 HD.out, HW.out⟩
  · have HD := Lib.hid (show -1 = Ir.dest x by unfold Ir.dest; rw [if_neg hd])
    rw [fd_one] at hd
    have e1 : (x.op == 1) = false := by simp; omega
    have e2 : (x.op == 2) = false := by simp; omega
    have e3 : (x.op == 3) = false := by simp; omega
    have e4 : (x.op == 4) = false := by simp; omega
    have e5 : (x.op == 5) = false := by simp; omega
    have e6 : (x.op == 6) = false := by simp; omega
    have e7 : (x.op == 7) = false := by simp; omega
    have e8 : (x.op == 8) = false := by simp; omega
    have e9 : (x.op == 11) = false := by simp; omega
    clear hd
    go_enter Tryd.func46, Tryd.ntmps46
    go_wp2_with fail
    go_ret
    exact ⟨ret_i64 HD.out, HW.out⟩
end Go.Proofs.YtcoehmmiplffgaaDoor

/- Same: the program's and the document's. -/
namespace Go.Proofs.YtcoehmmiplffgaaDoor
open Go.ChangeShapes Go.WideShapes Go.RowKit Go.Deep

def Ir.sameB (x y : Ir.In) : Bool := decide (x.op = y.op ∧ x.d = y.d ∧ x.a = y.a ∧ x.b = y.b ∧ x.name = y.name) && (x.args == y.args)

/-- The ways of two instructions' fields. -/
theorem same_ways (x y : Ir.In) :
    (x.op = y.op ∧ x.d = y.d ∧ x.a = y.a ∧ x.b = y.b ∧ x.name = y.name ∧ Ir.sameB x y = (x.args == y.args)) ∨
    (Ir.sameB x y = false ∧ ((¬ x.op = y.op) ∨ (x.op = y.op ∧ ¬ x.d = y.d) ∨ (x.op = y.op ∧ x.d = y.d ∧ ¬ x.a = y.a) ∨ (x.op = y.op ∧ x.d = y.d ∧ x.a = y.a ∧ ¬ x.b = y.b) ∨ (x.op = y.op ∧ x.d = y.d ∧ x.a = y.a ∧ x.b = y.b ∧ ¬ x.name = y.name))) := by
  unfold Ir.sameB
  by_cases h1 : x.op = y.op <;> by_cases h2 : x.d = y.d <;> by_cases h3 : x.a = y.a <;> by_cases h4 : x.b = y.b <;> by_cases h5 : x.name = y.name <;> simp [h1, h2, h3, h4, h5]

/-- The boxes of two instructions. -/
structure Box2 (w0 : World) (bx by_ : Nat) (x y : Ir.In) (sx sy : Value) (w : World) : Prop where
  ix : Blk w bx 46 (InsC x sx)
  iy : Blk w by_ 46 (InsC y sy)
  rx : InR w (InsC x sx).toList x
  ry : InR w (InsC y sy).toList y
  below : Below w0.heap.size w0 w
theorem Box2.to {w0 w w' : World} {bx by_ : Nat} {x y : Ir.In} {sx sy : Value} (h : Box2 w0 bx by_ x y sx sy w) (hb : Below w.heap.size w w') : Box2 w0 bx by_ x y sx sy w' :=
  ⟨h.ix.older hb h.ix.lt, h.iy.older hb h.iy.lt, h.rx.below hb, h.ry.below hb, h.below.trans (hb.mono h.below.size)⟩
theorem Box2.new {w : World} {x y : Ir.In} {sx sy : Value} (hx : InR w (InsC x sx).toList x) (hy : InR w (InsC y sy).toList y) :
    Box2 w w.heap.size (w.heap.size + 1) x y sx sy ((w.alloc (.cells (InsC x sx) 46)).alloc (.cells (InsC y sy) 46)) := by
  have hb := (((Below.refl w.heap.size w).alloc (Nat.le_refl _) (.cells (InsC x sx) 46)).alloc (by simp) (.cells (InsC y sy) 46))
  have h2 := Blk.new (w.alloc (.cells (InsC x sx) 46)) 46 (InsC y sy)
  rw [show (w.alloc (.cells (InsC x sx) 46)).heap.size = w.heap.size + 1 by simp] at h2
  exact ⟨(Blk.new _ _ _).alloc _, h2, hx.below hb, hy.below hb, hb⟩
theorem Box2.cells {w0 w : World} {bx by_ : Nat} {x y : Ir.In} {sx sy : Value} (h : Box2 w0 bx by_ x y sx sy w) :
    (w.cell? ⟨bx, 0, none⟩ = some (.int .i64 x.op) ∧ w.cell? ⟨bx, 1, none⟩ = some (.int .i64 x.d) ∧ w.cell? ⟨bx, 2, none⟩ = some (.int .i64 x.a) ∧ w.cell? ⟨bx, 3, none⟩ = some (.int .i64 x.b) ∧ w.cell? ⟨bx, 4, none⟩ = some (.string x.name) ∧ w.cell? ⟨bx, 5, none⟩ = some sx) ∧
    (w.cell? ⟨by_, 0, none⟩ = some (.int .i64 y.op) ∧ w.cell? ⟨by_, 1, none⟩ = some (.int .i64 y.d) ∧ w.cell? ⟨by_, 2, none⟩ = some (.int .i64 y.a) ∧ w.cell? ⟨by_, 3, none⟩ = some (.int .i64 y.b) ∧ w.cell? ⟨by_, 4, none⟩ = some (.string y.name) ∧ w.cell? ⟨by_, 5, none⟩ = some sy) :=
  ⟨six_cells h.ix, six_cells h.iy⟩

theorem inr_nums {w : World} {x : Ir.In} {sl : Value} (hx : InR w (InsC x sl).toList x) : Nums w sl x.args := by
  obtain ⟨sl', h1, hn, _⟩ := hx
  simp at h1
  subst h1
  exact hn

theorem bytes_same {a b : ByteArray} (h : a = b) : (a.toList == b.toList) = true := by rw [h]; exact beq_self_eq_true _

end Go.Proofs.YtcoehmmiplffgaaDoor

/- Same: the document's. -/
namespace Go.Proofs.YtcoehmmiplffgaaDoor
open Go.ChangeShapes Go.WideShapes Go.RowKit Go.Deep

set_option maxRecDepth 20000 in
set_option maxHeartbeats 1600000 in
theorem rsame_any (x y : Ir.In) (sx sy : Value) (w : World) (hx : InR w (InsC x sx).toList x) (hy : InR w (InsC y sy).toList y) (hlx : x.args.length ≤ 1048576) (hly : y.args.length ≤ 1048576) :
    Calls Tryd.prog 38 #[InsV x sx, InsV y sy] w fun e w' => e = .returned (.bool (Ir.sameB x y)) ∧ Below w.heap.size w w' := by
  obtain ⟨A, cap, rfl, -⟩ := id (inr_nums hx)
  obtain ⟨B, cbp, rfl, -⟩ := id (inr_nums hy)
  have hB := Box2.new hx hy
  obtain ⟨⟨x0, x1, x2, x3, x4, x5⟩, ⟨y0, y1, y2, y3, y4, y5⟩⟩ := hB.cells
  have HB := Lib.hid hB
  have hl1 : (x.args.length : Int) ≤ 1048576 := by omega
  have hl2 : (y.args.length : Int) ≤ 1048576 := by omega
  have hw := same_ways x y
  clear hB hx hy hlx hly
  go_enter Tryd.func38, Tryd.ntmps38
  go_upto_region 1 with fail
  generalize (w.alloc (.cells (InsC x (.slice A x.args.length cap)) 46)).alloc (.cells (InsC y (.slice B y.args.length cbp)) 46) = w1 at *
  generalize w.heap.size + 1 = by_ at *
  rcases hw with ⟨h1, h2, h3, h4, h5, he⟩ | ⟨he, hcase⟩
  · have HE := Lib.hid he
    have e1 : (x.op != y.op) = false := by simp [h1]
    have e2 : (x.d != y.d) = false := by simp [h2]
    have e3 : (x.a != y.a) = false := by simp [h3]
    have e4 : (x.b != y.b) = false := by simp [h4]
    have e5 := bytes_same h5
    clear he h1 h2 h3 h4 h5
    by_cases hlen : x.args.length = y.args.length
    · have HL := Lib.hid hlen
      have e6 : ((x.args.length : Int) != (y.args.length : Int)) = false := by simp [hlen]
      clear hlen
      go_wp2_with fail
      go_loopw [5] (fun i wr => ∃ k : Nat, k ≤ x.args.length ∧ i = .int .i64 (k : Int) ∧ x.args.take k = y.args.take k ∧ Box2 w w.heap.size by_ x y (.slice A x.args.length cap) (.slice B y.args.length cbp) wr) (fun i _ => x.args.length - (intOf i).toNat)
      case atStart => exact ⟨0, Nat.zero_le _, rfl, rfl, HB.out⟩
      case round =>
        obtain ⟨k, hk, rfl, hall, hB⟩ := hrel
        have HA := Lib.hid hall
        have HB3 := Lib.hid hB
        clear hall x0 x1 x2 x3 x4 x5 y0 y1 y2 y3 y4 y5
        obtain ⟨⟨-, -, -, -, -, x5⟩, ⟨-, -, -, -, -, y5⟩⟩ := hB.cells
        clear hB
        by_cases hlt : k < x.args.length
        · have hki : (k : Int) < (x.args.length : Int) := by omega
          have hkj : (k : Int) < (y.args.length : Int) := by have := HL.out; omega
          obtain ⟨u, hu⟩ : ∃ u, x.args[k]? = some u := ⟨_, List.getElem?_eq_getElem hlt⟩
          obtain ⟨v, hv⟩ : ∃ v, y.args[k]? = some v := ⟨_, List.getElem?_eq_getElem (by have := HL.out; omega)⟩
          obtain ⟨b1, o1, rfl, l1, d1⟩ := (inr_nums HB3.out.rx).at hu
          obtain ⟨b2, o2, rfl, l2, d2⟩ := (inr_nums HB3.out.ry).at hv
          by_cases hr : u = v
          · have HN := Lib.hid (take_ext HA.out hu hv hr)
            clear hu hv
            subst hr
            have hne : (u != u) = false := by simp
            go_wp2_with fail
            go_quiet (fail)
            go_wp2_with fail
            go_roundw
            case rel => exact ⟨k + 1, by omega, by go_num, HN.out, HB3.out.to (Quiet.drewN _ _).below⟩
            case measure => simp [intOf]; omega
          · have HN := Lib.hid (beq_bad hu hv hr)
            have hne : (u != v) = true := by simp [hr]
            clear hu hv hr
            go_wp2_with fail
            go_quiet (fail)
            go_wp2_with fail
            go_ret
            exact ⟨retb (by rw [HE.out]; exact HN.out.symm), (HB3.out.to (Quiet.drewN _ _).below).below⟩
        · have hkl : k = x.args.length := by omega
          have HN := Lib.hid (beq_all HL.out (by rw [← hkl]; exact HA.out))
          clear hkl
          go_wp2_with fail
          go_ret
          exact ⟨retb (by rw [HE.out]; exact HN.out.symm), HB3.out.below⟩
    · have HN := Lib.hid (beq_len hlen)
      have e6 : ((x.args.length : Int) != (y.args.length : Int)) = true := by simp; omega
      clear hlen
      go_wp2_with fail
      go_ret
      exact ⟨retb (by rw [HE.out]; exact HN.out.symm), HB.out.below⟩
  · have HE := Lib.hid he
    clear he
    rcases hcase with h1 | ⟨h1, h2⟩ | ⟨h1, h2, h3⟩ | ⟨h1, h2, h3, h4⟩ | ⟨h1, h2, h3, h4, h5⟩
    · have e1 : (x.op != y.op) = true := by simp [h1]
      clear h1
      go_wp2_with fail
      go_ret
      exact ⟨retb HE.out.symm, HB.out.below⟩
    · have e1 : (x.op != y.op) = false := by simp [h1]
      have e2 : (x.d != y.d) = true := by simp [h2]
      clear h1 h2
      go_wp2_with fail
      go_ret
      exact ⟨retb HE.out.symm, HB.out.below⟩
    · have e1 : (x.op != y.op) = false := by simp [h1]
      have e2 : (x.d != y.d) = false := by simp [h2]
      have e3 : (x.a != y.a) = true := by simp [h3]
      clear h1 h2 h3
      go_wp2_with fail
      go_ret
      exact ⟨retb HE.out.symm, HB.out.below⟩
    · have e1 : (x.op != y.op) = false := by simp [h1]
      have e2 : (x.d != y.d) = false := by simp [h2]
      have e3 : (x.a != y.a) = false := by simp [h3]
      have e4 : (x.b != y.b) = true := by simp [h4]
      clear h1 h2 h3 h4
      go_wp2_with fail
      go_ret
      exact ⟨retb HE.out.symm, HB.out.below⟩
    · have e1 : (x.op != y.op) = false := by simp [h1]
      have e2 : (x.d != y.d) = false := by simp [h2]
      have e3 : (x.a != y.a) = false := by simp [h3]
      have e4 : (x.b != y.b) = false := by simp [h4]
      have e5 := bytes_neq h5
      clear h1 h2 h3 h4 h5
      go_wp2_with fail
      go_ret
      exact ⟨retb HE.out.symm, HB.out.below⟩
end Go.Proofs.YtcoehmmiplffgaaDoor

/- Blocks, sameFunc, sameCode: of the same they are true. -/
namespace Go.Proofs.YtcoehmmiplffgaaDoor
open Go.ChangeShapes Go.WideShapes Go.RowKit Go.Deep

/-- Sizes that the comparing goes through. -/
def Sized (l : List (List Ir.In)) : Prop := l.length ≤ 1000000 ∧ ∀ b ∈ l, b.length ≤ 1000000 ∧ ∀ x ∈ b, x.args.length ≤ 1048576
theorem sameB_self (x : Ir.In) : Ir.sameB x x = true := by simp [Ir.sameB]

set_option maxRecDepth 20000 in
set_option maxHeartbeats 8000000 in
theorem rblocks_any (l : List (List Ir.In)) (u v : Value) (w : World) (hu : Blks w u l) (hv : Blks w v l) (hl : Sized l) :
    Calls Tryd.prog 25 #[u, v] w fun e w' => e = .returned (.bool true) ∧ Below w.heap.size w w' := by
  obtain ⟨A, cap, rfl⟩ := hu.form
  obtain ⟨B, cbp, rfl⟩ := hv.form
  have HV := Lib.hid (And.intro hu (And.intro hv hl))
  have hli : (l.length : Int) ≤ 1000000 := by have := hl.1; omega
  clear hu hv hl
  go_enter Tryd.func25, Tryd.ntmps25
  go_wp2_with fail
  go_loopw [5] (fun i wr => ∃ k : Nat, k ≤ l.length ∧ i = .int .i64 (k : Int) ∧ Hid (Below w.heap.size w wr)) (fun i _ => l.length - (intOf i).toNat)
  case atStart => exact ⟨0, Nat.zero_le _, rfl, Lib.hid (Below.refl _ _)⟩
  case round =>
    obtain ⟨k, hk, rfl, HB⟩ := hrel
    by_cases hlt : k < l.length
    · have hki : (k : Int) < (l.length : Int) := by omega
      obtain ⟨b, hb⟩ : ∃ b, l[k]? = some b := ⟨_, List.getElem?_eq_getElem hlt⟩
      have hbm := List.mem_of_getElem? hb
      have hbi : (b.length : Int) ≤ 1000000 := by have := (HV.out.2.2.2 b hbm).1; omega
      obtain ⟨bl, off, C, ccp, rfl, l1, c1, hI⟩ := (HV.out.1.below HB.out).at hb
      obtain ⟨bl2, off2, D, dcp, rfl, l2, c2, hJ⟩ := (HV.out.2.1.below HB.out).at hb
      have HIJ := Lib.hid (And.intro hI (And.intro hJ (And.intro hb (And.intro l1 l2))))
      have HCC := Lib.hid (And.intro c1 c2)
      clear hI hJ hb hbm l1 l2
      go_upto_region 6 with fail
      go_quiet (fail)
      have hbq : Below wr.heap.size wr (wr.drewN nq) := ⟨rfl, rfl, rfl, Nat.le_refl _, fun _ _ => rfl⟩
      have HB2 := Lib.hid (And.intro (HB.out.trans (hbq.mono HB.out.size)) hbq)
      clear hbq c1 c2
      generalize wr.drewN nq = w1 at *
      go_upto_region 9 with fail
      go_loopw [6] (fun i wr2 => ∃ m : Nat, m ≤ b.length ∧ i = .int .i64 (m : Int) ∧ Hid (Below w1.heap.size w1 wr2)) (fun i _ => b.length - (intOf i).toNat)
      case atStart => exact ⟨0, Nat.zero_le _, rfl, Lib.hid (Below.refl _ _)⟩
      case round =>
        obtain ⟨m, hm, rfl, HR⟩ := hrel
        have HBR := Lib.hid (HB2.out.2.trans (HR.out.mono HB2.out.2.size))
        have c1 := (HBR.out.cell (p := ⟨bl, off + k, none⟩) HIJ.out.2.2.2.1).trans HCC.out.1
        have c2 := (HBR.out.cell (p := ⟨bl2, off2 + k, none⟩) HIJ.out.2.2.2.2).trans HCC.out.2
        by_cases hlt2 : m < b.length
        · have hmi : (m : Int) < (b.length : Int) := by omega
          obtain ⟨x, hx⟩ : ∃ x, b[m]? = some x := ⟨_, List.getElem?_eq_getElem hlt2⟩
          obtain ⟨bx, ox, E, ep, rfl, lx, ⟨x0, x1, x2, x3, x4, x5⟩, hix⟩ := (HIJ.out.1.below HBR.out).at hx
          obtain ⟨by', oy, G, gp, rfl, ly, ⟨y0, y1, y2, y3, y4, y5⟩, hiy⟩ := (HIJ.out.2.1.below HBR.out).at hx
          have HSM := Lib.hid (rsame_any x x (.slice E x.args.length ep) (.slice G x.args.length gp) wr.drew (hix.below (Below.refl _ _).drew) (hiy.below (Below.refl _ _).drew) ((HV.out.2.2.2 b (List.mem_of_getElem? HIJ.out.2.2.1)).2 x (List.mem_of_getElem? hx)) ((HV.out.2.2.2 b (List.mem_of_getElem? HIJ.out.2.2.1)).2 x (List.mem_of_getElem? hx)))
          rw [sameB_self] at HSM
          clear hix hiy lx ly hx
          have HS0 := Lib.hid (show wr.cell? ⟨bl, off + k, none⟩ = some (.slice (some ⟨bx, ox, none⟩) b.length ccp) ∧ wr.cell? ⟨bl2, off2 + k, none⟩ = some (.slice (some ⟨by', oy, none⟩) b.length dcp) ∧
              wr.cell? ⟨bx, ox + m * 6, none⟩ = some (.int .i64 x.op) ∧ wr.cell? ⟨bx, ox + m * 6 + 1, none⟩ = some (.int .i64 x.d) ∧ wr.cell? ⟨bx, ox + m * 6 + 2, none⟩ = some (.int .i64 x.a) ∧
              wr.cell? ⟨bx, ox + m * 6 + 3, none⟩ = some (.int .i64 x.b) ∧ wr.cell? ⟨bx, ox + m * 6 + 4, none⟩ = some (.string x.name) ∧ wr.cell? ⟨bx, ox + m * 6 + 5, none⟩ = some (.slice E x.args.length ep) ∧
              wr.cell? ⟨by', oy + m * 6, none⟩ = some (.int .i64 x.op) ∧ wr.cell? ⟨by', oy + m * 6 + 1, none⟩ = some (.int .i64 x.d) ∧ wr.cell? ⟨by', oy + m * 6 + 2, none⟩ = some (.int .i64 x.a) ∧
              wr.cell? ⟨by', oy + m * 6 + 3, none⟩ = some (.int .i64 x.b) ∧ wr.cell? ⟨by', oy + m * 6 + 4, none⟩ = some (.string x.name) ∧ wr.cell? ⟨by', oy + m * 6 + 5, none⟩ = some (.slice G x.args.length gp) from ⟨c1, c2, x0, x1, x2, x3, x4, x5, y0, y1, y2, y3, y4, y5⟩)
          go_upto_region 11 with fail
          go_region_held3 (fun W => W.cell? ⟨bl, off + k, none⟩ = some (.slice (some ⟨bx, ox, none⟩) b.length ccp) ∧ W.cell? ⟨bl2, off2 + k, none⟩ = some (.slice (some ⟨by', oy, none⟩) b.length dcp) ∧
              W.cell? ⟨bx, ox + m * 6, none⟩ = some (.int .i64 x.op) ∧ W.cell? ⟨bx, ox + m * 6 + 1, none⟩ = some (.int .i64 x.d) ∧ W.cell? ⟨bx, ox + m * 6 + 2, none⟩ = some (.int .i64 x.a) ∧
              W.cell? ⟨bx, ox + m * 6 + 3, none⟩ = some (.int .i64 x.b) ∧ W.cell? ⟨bx, ox + m * 6 + 4, none⟩ = some (.string x.name) ∧ W.cell? ⟨bx, ox + m * 6 + 5, none⟩ = some (.slice E x.args.length ep) ∧
              W.cell? ⟨by', oy + m * 6, none⟩ = some (.int .i64 x.op) ∧ W.cell? ⟨by', oy + m * 6 + 1, none⟩ = some (.int .i64 x.d) ∧ W.cell? ⟨by', oy + m * 6 + 2, none⟩ = some (.int .i64 x.a) ∧
              W.cell? ⟨by', oy + m * 6 + 3, none⟩ = some (.int .i64 x.b) ∧ W.cell? ⟨by', oy + m * 6 + 4, none⟩ = some (.string x.name) ∧ W.cell? ⟨by', oy + m * 6 + 5, none⟩ = some (.slice G x.args.length gp)) (first | assumption | exact ⟨c1, c2, x0, x1, x2, x3, x4, x5, y0, y1, y2, y3, y4, y5⟩ | go_keep)
            (first | (go_at_call 38; (with_reducible refine HSM.out.mono ?_); rintro e w6 ⟨rfl, hb6⟩; have HB6 := Lib.hid (HR.out.trans ((show Below wr.heap.size wr w6 from (Below.refl wr.heap.size wr).drew.trans hb6).mono HR.out.size)); have K : ∀ {b o : Nat} {u : Value}, wr.cell? ⟨b, o, none⟩ = some u → w6.cell? ⟨b, o, none⟩ = some u := fun {b o u} h => (hb6.cell (p := ⟨b, o, none⟩) (World.block_lt_of_cell? wr _ h)).trans h; have g6 := (show w6.cell? ⟨bl, off + k, none⟩ = some (.slice (some ⟨bx, ox, none⟩) b.length ccp) ∧ w6.cell? ⟨bl2, off2 + k, none⟩ = some (.slice (some ⟨by', oy, none⟩) b.length dcp) ∧
              w6.cell? ⟨bx, ox + m * 6, none⟩ = some (.int .i64 x.op) ∧ w6.cell? ⟨bx, ox + m * 6 + 1, none⟩ = some (.int .i64 x.d) ∧ w6.cell? ⟨bx, ox + m * 6 + 2, none⟩ = some (.int .i64 x.a) ∧
              w6.cell? ⟨bx, ox + m * 6 + 3, none⟩ = some (.int .i64 x.b) ∧ w6.cell? ⟨bx, ox + m * 6 + 4, none⟩ = some (.string x.name) ∧ w6.cell? ⟨bx, ox + m * 6 + 5, none⟩ = some (.slice E x.args.length ep) ∧
              w6.cell? ⟨by', oy + m * 6, none⟩ = some (.int .i64 x.op) ∧ w6.cell? ⟨by', oy + m * 6 + 1, none⟩ = some (.int .i64 x.d) ∧ w6.cell? ⟨by', oy + m * 6 + 2, none⟩ = some (.int .i64 x.a) ∧
              w6.cell? ⟨by', oy + m * 6 + 3, none⟩ = some (.int .i64 x.b) ∧ w6.cell? ⟨by', oy + m * 6 + 4, none⟩ = some (.string x.name) ∧ w6.cell? ⟨by', oy + m * 6 + 5, none⟩ = some (.slice G x.args.length gp) from (by obtain ⟨q1, q2, q3, q4, q5, q6, q7, q8, q9, q10, q11, q12, q13, q14⟩ := HS0.out; exact ⟨K q1, K q2, K q3, K q4, K q5, K q6, K q7, K q8, K q9, K q10, K q11, K q12, K q13, K q14⟩)); clear K hb6))
          go_wp2_with fail
          go_roundw
          case rel => exact ⟨m + 1, by omega, by go_num, HB6⟩
          case measure => simp [intOf]; omega
        · obtain rfl : m = b.length := by omega
          go_wp2_with fail
          go_roundw
          case rel => exact ⟨k + 1, by omega, by go_num, Lib.hid (HB2.out.1.trans (HR.out.mono HB2.out.1.size))⟩
          case measure => simp [intOf]; omega
    · obtain rfl : k = l.length := by omega
      go_wp2_with fail
      go_ret
      exact ⟨rfl, HB.out⟩

set_option maxRecDepth 20000 in
set_option maxHeartbeats 2000000 in
theorem samefunc_any (f : Ir.Fu) (u v : Value) (w : World) (hu : Blks w u f.blocks) (hv : Blks w v f.blocks) (hl : Sized f.blocks) :
    Calls Tryd.prog 13 #[FuV f u, FuV f v] w fun e w' => e = .returned (.bool true) ∧ Below w.heap.size w w' := by
  obtain ⟨A, cap, rfl⟩ := hu.form
  obtain ⟨B, cbp, rfl⟩ := hv.form
  have ha : Below w.heap.size w ((w.alloc (.cells #[.string f.name, .int .i64 f.params, .int .i64 f.regs, .slice A f.blocks.length cap] 24)).alloc (.cells #[.string f.name, .int .i64 f.params, .int .i64 f.regs, .slice B f.blocks.length cbp] 24)) := ((Below.refl _ _).alloc (Nat.le_refl _) _).alloc (by simp) _
  have HB := Lib.hid (rblocks_any f.blocks _ _ _ (hu.below ha) (hv.below ha) hl)
  have HA := Lib.hid ha
  have e1 : (f.name.toList == f.name.toList) = true := by simp
  clear hu hv ha
  go_enter Tryd.func13, Tryd.ntmps13
  go_wp2_with (go_at_call 25; (with_reducible refine HB.out.mono ?_); rintro e w2 ⟨rfl, hb2⟩; have HB2 := Lib.hid hb2; clear hb2)
  go_ret
  exact ⟨rfl, HA.out.trans (HB2.out.mono HA.out.size)⟩
set_option maxRecDepth 20000 in
set_option maxHeartbeats 2000000 in
theorem samecode_any (c : Tx.Cd) (u v : Value) (w : World) (hu : Blks w u c.blocks) (hv : Blks w v c.blocks) (hl : Sized c.blocks) :
    Calls Tryd.prog 20 #[CdV c u, CdV c v] w fun e w' => e = .returned (.bool true) ∧ Below w.heap.size w w' := by
  obtain ⟨A, cap, rfl⟩ := hu.form
  obtain ⟨B, cbp, rfl⟩ := hv.form
  have ha : Below w.heap.size w ((w.alloc (.cells #[.string c.name, .int .i64 c.params, .int .i64 c.regs, .int .i64 c.slots, .slice A c.blocks.length cap] 37)).alloc (.cells #[.string c.name, .int .i64 c.params, .int .i64 c.regs, .int .i64 c.slots, .slice B c.blocks.length cbp] 37)) := ((Below.refl _ _).alloc (Nat.le_refl _) _).alloc (by simp) _
  have HB := Lib.hid (rblocks_any c.blocks _ _ _ (hu.below ha) (hv.below ha) hl)
  have HA := Lib.hid ha
  have e1 : (c.name.toList == c.name.toList) = true := by simp
  clear hu hv ha
  go_enter Tryd.func20, Tryd.ntmps20
  go_wp2_with (go_at_call 25; (with_reducible refine HB.out.mono ?_); rintro e w2 ⟨rfl, hb2⟩; have HB2 := Lib.hid hb2; clear hb2)
  go_ret
  exact ⟨rfl, HA.out.trans (HB2.out.mono HA.out.size)⟩
end Go.Proofs.YtcoehmmiplffgaaDoor

/- Uses: the program's and the document's. -/
namespace Go.Proofs.YtcoehmmiplffgaaDoor
open Go.ChangeShapes Go.WideShapes Go.RowKit Go.Deep

/-- A list of numbers comes back. -/
def ListPost (l : List Int) (w : World) (e : Ending) (w' : World) : Prop := ∃ v, e = .returned v ∧ RowI w' w.heap.size v l ∧ Below w.heap.size w w'

theorem fa_one {op : Int} : Ir.fa op = 1 ↔ (2 ≤ op ∧ op ≤ 10) ∨ op = 13 ∨ op = 14 := by
  unfold Ir.fa
  split
  · subst op; decide
  · split
    · subst op; decide
    · split <;> omega
theorem fb_one {op : Int} : Ir.fb op = 1 ↔ (3 ≤ op ∧ op ≤ 7) ∨ op = 9 := by
  unfold Ir.fb
  split
  · subst op; decide
  · split <;> omega
theorem fc_one {op : Int} : Ir.fc op = true ↔ op = 11 := by unfold Ir.fc; simp

/-- The ways of Uses. -/
theorem uses_ways (x : Ir.In) :
    ((x.op = 3 ∨ x.op = 4 ∨ x.op = 5 ∨ x.op = 6 ∨ x.op = 7 ∨ x.op = 9) ∧ Ir.fa x.op = 1 ∧ Ir.fb x.op = 1 ∧ Ir.fc x.op = false ∧ Ir.uses x = [x.a, x.b]) ∨
    ((x.op = 2 ∨ x.op = 8 ∨ x.op = 10 ∨ x.op = 14 ∨ x.op = 13) ∧ Ir.fa x.op = 1 ∧ Ir.fb x.op ≠ 1 ∧ Ir.fc x.op = false ∧ Ir.uses x = [x.a]) ∨
    (x.op = 11 ∧ Ir.fa x.op ≠ 1 ∧ Ir.fb x.op ≠ 1 ∧ Ir.fc x.op = true ∧ Ir.uses x = x.args) ∨
    (¬ ((2 ≤ x.op ∧ x.op ≤ 11) ∨ x.op = 13 ∨ x.op = 14) ∧ Ir.fa x.op ≠ 1 ∧ Ir.fb x.op ≠ 1 ∧ Ir.fc x.op = false ∧ Ir.uses x = []) := by
  have ha := @fa_one x.op
  have hb := @fb_one x.op
  have hc := @fc_one x.op
  unfold Ir.uses
  by_cases h1 : Ir.fa x.op = 1 <;> by_cases h2 : Ir.fb x.op = 1 <;> cases h3 : Ir.fc x.op
  all_goals simp [h1, h2, h3] at ha hb hc ⊢
  all_goals omega

theorem uses_in64 {w : World} {x : Ir.In} {sl : Value} (hx : InR w (InsC x sl).toList x) : In64 (Ir.uses x) := by
  obtain ⟨_, _, hn, _, _, ha, hb⟩ := hx
  have hA := hn.in64
  rcases uses_ways x with ⟨-, -, -, -, h⟩ | ⟨-, -, -, -, h⟩ | ⟨-, -, -, -, h⟩ | ⟨-, -, -, -, h⟩ <;> rw [h]
  · intro n hn; simp at hn; rcases hn with rfl | rfl <;> assumption
  · intro n hn; simp at hn; subst hn; assumption
  · exact hA
  · intro n hn; cases hn

/-- The box of an instruction: its cells, and its numbers. -/
theorem box_in {w w1 : World} {x : Ir.In} {sl : Value} (hx : InR w (InsC x sl).toList x) (hb : Below w.heap.size w w1) : Nums w1 sl x.args := by
  obtain ⟨sl', h1, hn, _⟩ := hx
  simp at h1
  subst h1
  exact hn.below hb

theorem below_first {w3 w4 : World} {o : Obj} {r : Option Nat} (hg : (w3.alloc o).grownBy w4 r) (hr : ∀ k, r = some k → w3.heap.size ≤ k) : Below w3.heap.size w3 w4 :=
  ((Below.refl _ _).alloc (Nat.le_refl _) _).grown hg (by simp) hr
theorem below_next {w3 w4 w5 : World} {o : Obj} {r : Option Nat} (hb : Below w3.heap.size w3 w4) (hg : (w4.alloc o).grownBy w5 r) (hr : ∀ k, r = some k → w3.heap.size ≤ k) : Below w3.heap.size w3 w5 :=
  (hb.alloc hb.size _).grown hg (by have := hb.size; simp; omega) hr

end Go.Proofs.YtcoehmmiplffgaaDoor

/- Targets of the program. -/
namespace Go.Proofs.YtcoehmmiplffgaaDoor
open Go.ChangeShapes Go.WideShapes Go.RowKit Go.Deep

theorem fa_three {op : Int} : Ir.fa op = 3 ↔ op = 12 := by
  unfold Ir.fa
  split
  · subst op; decide
  · split
    · subst op; decide
    · split <;> omega
theorem fb_three {op : Int} : Ir.fb op = 3 ↔ op = 13 := by
  unfold Ir.fb
  split
  · subst op; decide
  · split <;> omega
theorem fd_three {op : Int} : Ir.fd op = 3 ↔ op = 13 := by
  unfold Ir.fd
  split
  · subst op; decide
  · split <;> omega

/-- The ways of Targets. -/
theorem targets_ways (x : Ir.In) :
    (x.op = 12 ∧ Ir.fa x.op = 3 ∧ Ir.fb x.op ≠ 3 ∧ Ir.fd x.op ≠ 3 ∧ Ir.targets x = [x.a]) ∨
    (x.op = 13 ∧ Ir.fa x.op ≠ 3 ∧ Ir.fb x.op = 3 ∧ Ir.fd x.op = 3 ∧ Ir.targets x = [x.b, x.d]) ∨
    (¬ (x.op = 12 ∨ x.op = 13) ∧ Ir.fa x.op ≠ 3 ∧ Ir.fb x.op ≠ 3 ∧ Ir.fd x.op ≠ 3 ∧ Ir.targets x = []) := by
  have ha := @fa_three x.op
  have hb := @fb_three x.op
  have hc := @fd_three x.op
  unfold Ir.targets
  by_cases h1 : Ir.fa x.op = 3 <;> by_cases h2 : Ir.fb x.op = 3 <;> by_cases h3 : Ir.fd x.op = 3
  all_goals simp [h1, h2, h3] at ha hb hc ⊢
  all_goals omega

theorem targets_in64 {w : World} {x : Ir.In} {sl : Value} (hx : InR w (InsC x sl).toList x) : In64 (Ir.targets x) := by
  obtain ⟨_, _, hn, _, hd, ha, hb⟩ := hx
  rcases targets_ways x with ⟨-, -, -, -, h⟩ | ⟨-, -, -, -, h⟩ | ⟨-, -, -, -, h⟩ <;> rw [h]
  · intro n hn; simp at hn; subst hn; assumption
  · intro n hn; simp at hn; rcases hn with rfl | rfl <;> assumption
  · intro n hn; cases hn

end Go.Proofs.YtcoehmmiplffgaaDoor

/- Uses, Targets of the document. -/
namespace Go.Proofs.YtcoehmmiplffgaaDoor
open Go.ChangeShapes Go.WideShapes Go.RowKit Go.Deep

theorem ins_cells_at {w w' : World} {bx : Nat} {x : Ir.In} {sl : Value} (h : Blk w bx 46 (InsC x sl)) (hb : Below w.heap.size w w') :
    (w'.cell? ⟨bx, 0, none⟩ = some (.int .i64 x.op) ∧ w'.cell? ⟨bx, 1, none⟩ = some (.int .i64 x.d) ∧ w'.cell? ⟨bx, 2, none⟩ = some (.int .i64 x.a) ∧ w'.cell? ⟨bx, 3, none⟩ = some (.int .i64 x.b) ∧ w'.cell? ⟨bx, 4, none⟩ = some (.string x.name) ∧ w'.cell? ⟨bx, 5, none⟩ = some sl) ∧ bx < w'.heap.size := by
  have h1 := h.older hb h.lt
  exact ⟨six_cells h1, h1.lt⟩

theorem below_row {w w3 w4 : World} {v : Value} {l : List Int} (hb : Below w.heap.size w w3) (hr : RowI w3 w.heap.size v l) (hg : w3.grownBy w4 v.ownBlock) : Below w.heap.size w w4 :=
  hb.grown hg hb.size (fun k e => (World.ownsRow.lt hr k e).1)
theorem below_row_first {w w3 w4 : World} {o : Obj} {v : Value} {l : List Int} (hb : Below w.heap.size w w3) (hr : RowI w3 w.heap.size v l) (hg : (w3.alloc o).grownBy w4 v.ownBlock) : Below w.heap.size w w4 :=
  (hb.alloc hb.size _).grown hg (by have := hb.size; simp; omega) (fun k e => (World.ownsRow.lt hr k e).1)

set_option maxRecDepth 20000 in
set_option maxHeartbeats 3200000 in
theorem ruses_any (x : Ir.In) (sl : Value) (w : World) (hx : InR w (InsC x sl).toList x) (hlen : x.args.length ≤ 1048000) :
    Calls Tryd.prog 48 #[InsV x sl] w (ListPost (Ir.uses x) w) := by
  obtain ⟨_, -, -, hop, hd64, ha64, hb64⟩ := id hx
  have hB := Blk.new w 46 (InsC x sl)
  have hb : Below w.heap.size w (w.alloc (.cells (InsC x sl) 46)) := (Below.refl _ _).alloc (Nat.le_refl _) _
  have HTW := Lib.hid (hB.alloc (.cells #[] 3))
  have HW3 := Lib.hid (hb.alloc hb.size (.cells #[] 3))
  have hR3 := row_none (w.alloc (.cells (InsC x sl) 46)) w.heap.size hb.size
  rw [show (w.alloc (.cells (InsC x sl) 46)).heap.size = w.heap.size + 1 by simp] at hR3
  have HR3 := Lib.hid hR3
  have HX := Lib.hid hx
  have HA1 := Lib.hid (show In64 [x.a] by intro n hn; simp at hn; subst hn; exact ha64)
  have HAB := Lib.hid (show In64 [x.a, x.b] by intro n hn; simp at hn; rcases hn with rfl | rfl <;> assumption)
  have HBD := Lib.hid (show In64 [x.b, x.d] by intro n hn; simp at hn; rcases hn with rfl | rfl <;> assumption)
  have HL := Lib.hid hlen
  have HU := Lib.hid (uses_ways x)
  clear hB hb hR3 hx ha64 hb64 hd64 hlen
  go_enter Tryd.func48, Tryd.ntmps48
  go_upto_region 2 with fail
  generalize (w.alloc (.cells (InsC x sl) 46)).alloc (.cells #[] 3) = w3 at *
  obtain ⟨⟨d0, d1, d2, d3, d4, d5⟩, l1⟩ := ins_cells_at HTW.out (Below.refl _ _)
  rcases HU.out with ⟨ho, -, -, -, hu⟩ | ⟨ho, -, -, -, hu⟩ | ⟨ho, -, -, -, hu⟩ | ⟨ho, -, -, -, hu⟩
  · have HE := Lib.hid hu
    clear hu HU
    generalize x.op = op at *
    rcases ho with rfl | rfl | rfl | rfl | rfl | rfl
    all_goals
      go_wp2_with (at_builtin; refine wpList_append_nums rfl (.tmp 25) (.tmp 30) rfl (HR3.out.alloc _) (nums_two w3 x.a x.b HAB.out) (by simp) (by have := HW3.out.size; simp; omega) rfl rfl ?_; intro v4 w4 hr4 hg4; have HR4 := Lib.hid hr4; have HB4 := Lib.hid (below_row_first HW3.out HR3.out hg4); clear hr4 hg4)
      go_ret
      exact ⟨_, rfl, by rw [HE.out]; exact HR4.out, HB4.out⟩
  · have HE := Lib.hid hu
    clear hu HU
    generalize x.op = op at *
    rcases ho with rfl | rfl | rfl | rfl | rfl
    all_goals
      go_wp2_with (at_builtin; refine wpList_append_nums rfl (.tmp 13) (.tmp 16) rfl (HR3.out.alloc _) (nums_one w3 x.a HA1.out) (by simp) (by have := HW3.out.size; simp; omega) rfl rfl ?_; intro v4 w4 hr4 hg4; have HR4 := Lib.hid hr4; have HB4 := Lib.hid (below_row_first HW3.out HR3.out hg4); clear hr4 hg4)
      go_ret
      exact ⟨_, rfl, by rw [HE.out]; exact HR4.out, HB4.out⟩
  · have HE := Lib.hid hu
    clear hu HU
    generalize x.op = op at *
    subst ho
    go_wp2_with (at_builtin; refine wpList_append_nums rfl (.tmp 34) (.tmp 36) rfl (HR3.out) (box_in HX.out HW3.out) (by have := HL.out; simp; omega) (HW3.out.size) rfl rfl ?_; intro v4 w4 hr4 hg4; have HR4 := Lib.hid hr4; have HB4 := Lib.hid (below_row HW3.out HR3.out hg4); clear hr4 hg4)
    go_ret
    exact ⟨_, rfl, by rw [HE.out]; exact HR4.out, HB4.out⟩
  · have HE := Lib.hid hu
    have e2 : (x.op == 2) = false := by simp; omega
    have e3 : (x.op == 3) = false := by simp; omega
    have e4 : (x.op == 4) = false := by simp; omega
    have e5 : (x.op == 5) = false := by simp; omega
    have e6 : (x.op == 6) = false := by simp; omega
    have e7 : (x.op == 7) = false := by simp; omega
    have e8 : (x.op == 8) = false := by simp; omega
    have e9 : (x.op == 9) = false := by simp; omega
    have e10 : (x.op == 10) = false := by simp; omega
    have e11 : (x.op == 11) = false := by simp; omega
    have e13 : (x.op == 13) = false := by simp; omega
    have e14 : (x.op == 14) = false := by simp; omega
    clear hu HU ho
    go_wp2_with fail
    go_ret
    exact ⟨_, rfl, by rw [HE.out]; exact HR3.out, HW3.out⟩

set_option maxRecDepth 20000 in
set_option maxHeartbeats 3200000 in
theorem rtargets_any (x : Ir.In) (sl : Value) (w : World) (hx : InR w (InsC x sl).toList x) :
    Calls Tryd.prog 49 #[InsV x sl] w (ListPost (Ir.targets x) w) := by
  obtain ⟨_, -, -, hop, hd64, ha64, hb64⟩ := id hx
  have hB := Blk.new w 46 (InsC x sl)
  have hb : Below w.heap.size w (w.alloc (.cells (InsC x sl) 46)) := (Below.refl _ _).alloc (Nat.le_refl _) _
  have HTW := Lib.hid (hB.alloc (.cells #[] 3))
  have HW3 := Lib.hid (hb.alloc hb.size (.cells #[] 3))
  have hR3 := row_none (w.alloc (.cells (InsC x sl) 46)) w.heap.size hb.size
  rw [show (w.alloc (.cells (InsC x sl) 46)).heap.size = w.heap.size + 1 by simp] at hR3
  have HR3 := Lib.hid hR3
  have HX := Lib.hid hx
  have HA1 := Lib.hid (show In64 [x.a] by intro n hn; simp at hn; subst hn; exact ha64)
  have HAB := Lib.hid (show In64 [x.a, x.b] by intro n hn; simp at hn; rcases hn with rfl | rfl <;> assumption)
  have HBD := Lib.hid (show In64 [x.b, x.d] by intro n hn; simp at hn; rcases hn with rfl | rfl <;> assumption)
  skip
  have HU := Lib.hid (targets_ways x)
  clear hB hb hR3 hx ha64 hb64 hd64
  go_enter Tryd.func49, Tryd.ntmps49
  go_upto_region 2 with fail
  generalize (w.alloc (.cells (InsC x sl) 46)).alloc (.cells #[] 3) = w3 at *
  obtain ⟨⟨d0, d1, d2, d3, d4, d5⟩, l1⟩ := ins_cells_at HTW.out (Below.refl _ _)
  rcases HU.out with ⟨ho, -, -, -, hu⟩ | ⟨ho, -, -, -, hu⟩ | ⟨ho, -, -, -, hu⟩
  · have HE := Lib.hid hu
    clear hu HU
    generalize x.op = op at *
    subst ho
    go_wp2_with (at_builtin; refine wpList_append_nums rfl (.tmp 8) (.tmp 11) rfl (HR3.out.alloc _) (nums_one w3 x.a HA1.out) (by simp) (by have := HW3.out.size; simp; omega) rfl rfl ?_; intro v4 w4 hr4 hg4; have HR4 := Lib.hid hr4; have HB4 := Lib.hid (below_row_first HW3.out HR3.out hg4); clear hr4 hg4)
    go_ret
    exact ⟨_, rfl, by rw [HE.out]; exact HR4.out, HB4.out⟩
  · have HE := Lib.hid hu
    clear hu HU
    generalize x.op = op at *
    subst ho
    go_wp2_with (at_builtin; refine wpList_append_nums rfl (.tmp 16) (.tmp 21) rfl (HR3.out.alloc _) (nums_two w3 x.b x.d HBD.out) (by simp) (by have := HW3.out.size; simp; omega) rfl rfl ?_; intro v4 w4 hr4 hg4; have HR4 := Lib.hid hr4; have HB4 := Lib.hid (below_row_first HW3.out HR3.out hg4); clear hr4 hg4)
    go_ret
    exact ⟨_, rfl, by rw [HE.out]; exact HR4.out, HB4.out⟩
  · have HE := Lib.hid hu
    have e1 : (x.op == 12) = false := by simp; omega
    have e2 : (x.op == 13) = false := by simp; omega
    clear hu HU ho
    go_wp2_with fail
    go_ret
    exact ⟨_, rfl, by rw [HE.out]; exact HR3.out, HW3.out⟩
end Go.Proofs.YtcoehmmiplffgaaDoor

/- fits, registers: which of an instruction's fields its Op has. -/
namespace Go.Proofs.YtcoehmmiplffgaaDoor
open Go.ChangeShapes Go.WideShapes Go.RowKit Go.Deep

theorem field_ways {op : Int} (h : 1 ≤ op ∧ op ≤ 14) :
    (¬ Ir.fd op = 0 ∧ ¬ Ir.fa op = 0 ∧ Ir.fb op = 0 ∧ Ir.fc op = false) ∨ (¬ Ir.fd op = 0 ∧ ¬ Ir.fa op = 0 ∧ ¬ Ir.fb op = 0 ∧ Ir.fc op = false) ∨ (Ir.fd op = 0 ∧ ¬ Ir.fa op = 0 ∧ ¬ Ir.fb op = 0 ∧ Ir.fc op = false) ∨
    (Ir.fd op = 0 ∧ ¬ Ir.fa op = 0 ∧ Ir.fb op = 0 ∧ Ir.fc op = false) ∨ (¬ Ir.fd op = 0 ∧ Ir.fa op = 0 ∧ Ir.fb op = 0 ∧ Ir.fc op = true) := by
  rcases Ir.cases_op op h with rfl | rfl | rfl | rfl | rfl | rfl | rfl | rfl | rfl | rfl | rfl | rfl | rfl | rfl <;> decide

theorem nil_size (s : ByteArray) : s.toList = [] ↔ s.size = 0 := by
  rw [ByteArray.toList_eq]
  have : s.data.toList.length = s.size := by simp
  rw [← this]
  exact List.length_eq_zero_iff.symm

theorem args_zero (l : List Int) : ((l.length : Int) == 0) = decide (l = []) := by
  rw [Bool.eq_iff_iff]
  simp

def Ir.regsB (x : Ir.In) (regs : Int) : Bool := !(decide (Ir.fd x.op = 1) && decide (x.d < 0 ∨ regs ≤ x.d)) && Ir.within (Ir.uses x) regs

theorem uses_len (x : Ir.In) (h : x.args.length ≤ 1048000) : (Ir.uses x).length ≤ 1048576 := by
  rcases uses_ways x with ⟨-, -, -, -, h'⟩ | ⟨-, -, -, -, h'⟩ | ⟨-, -, -, -, h'⟩ | ⟨-, -, -, -, h'⟩ <;> rw [h'] <;> first | omega | (simp; done)
theorem targets_len (x : Ir.In) : (Ir.targets x).length ≤ 1048576 := by
  rcases targets_ways x with ⟨-, -, -, -, h'⟩ | ⟨-, -, -, -, h'⟩ | ⟨-, -, -, -, h'⟩ <;> rw [h'] <;> simp

end Go.Proofs.YtcoehmmiplffgaaDoor

/- The first thing that is wrong with an instruction: the program's. -/
namespace Go.Proofs.YtcoehmmiplffgaaDoor
open Go.ChangeShapes Go.WideShapes Go.RowKit Go.Deep

def Ir.t5 (x : Ir.In) : Int := if Ir.fc x.op && decide (4 < x.args.length) then 192 else 0
def Ir.t4 (x : Ir.In) : Int := if Ir.fc x.op && !Ir.nm x.name then 70 else Ir.t5 x
def Ir.t3 (nb : Int) (x : Ir.In) : Int := if !Ir.within (Ir.targets x) nb then 74 else Ir.t4 x
def Ir.t2 (nb : Int) (x : Ir.In) : Int := if decide (Ir.fa x.op = 2) && decide (x.a < 0 ∨ 65536 ≤ x.a) then 81 else Ir.t3 nb x
def Ir.t1 (regs nb : Int) (x : Ir.In) : Int := if !Ir.regsB x regs then 73 else Ir.t2 nb x
theorem one_is (regs nb : Int) (x : Ir.In) (l : Bool) : Ir.one regs nb x l = if !Ir.fits x || !(Ir.last x.op == l) then 72 else Ir.t1 regs nb x := by
  have e : (!Ir.regsB x regs) = ((decide (Ir.fd x.op = 1) && decide (x.d < 0 ∨ regs ≤ x.d)) || !Ir.within (Ir.uses x) regs) := by
    unfold Ir.regsB
    rw [Bool.not_and, Bool.not_not]
  unfold Ir.t1 Ir.t2 Ir.t3 Ir.t4 Ir.t5
  rw [e]
  rfl
theorem one_fit {regs nb : Int} {x : Ir.In} {l : Bool} (h : Ir.fits x = false) : Ir.one regs nb x l = 72 := by rw [one_is, h]; rfl
theorem one_last {regs nb : Int} {x : Ir.In} {l : Bool} (h : (Ir.last x.op == l) = false) : Ir.one regs nb x l = 72 := by rw [one_is, h, Bool.not_false, Bool.or_true]; rfl
theorem one_t1 {regs nb : Int} {x : Ir.In} {l : Bool} (h : Ir.fits x = true) (h' : (Ir.last x.op == l) = true) : Ir.one regs nb x l = Ir.t1 regs nb x := by rw [one_is, h, h']; rfl
theorem t1_no {regs nb : Int} {x : Ir.In} (h : Ir.regsB x regs = false) : Ir.t1 regs nb x = 73 := by unfold Ir.t1; rw [h]; rfl
theorem t1_yes {regs nb : Int} {x : Ir.In} (h : Ir.regsB x regs = true) : Ir.t1 regs nb x = Ir.t2 nb x := by unfold Ir.t1; rw [h]; rfl
theorem t2_no {nb : Int} {x : Ir.In} (h : Ir.fa x.op = 2 ∧ (x.a < 0 ∨ 65536 ≤ x.a)) : Ir.t2 nb x = 81 := by unfold Ir.t2; rw [decide_eq_true h.1, decide_eq_true h.2]; rfl
theorem t2_yes {nb : Int} {x : Ir.In} (h : ¬ (Ir.fa x.op = 2 ∧ (x.a < 0 ∨ 65536 ≤ x.a))) : Ir.t2 nb x = Ir.t3 nb x := by
  unfold Ir.t2
  by_cases h1 : Ir.fa x.op = 2
  · rw [decide_eq_false (p := x.a < 0 ∨ 65536 ≤ x.a) (fun h' => h ⟨h1, h'⟩), Bool.and_false]; rfl
  · rw [decide_eq_false h1]; rfl
theorem t3_no {nb : Int} {x : Ir.In} (h : Ir.within (Ir.targets x) nb = false) : Ir.t3 nb x = 74 := by unfold Ir.t3; rw [h]; rfl
theorem t3_yes {nb : Int} {x : Ir.In} (h : Ir.within (Ir.targets x) nb = true) : Ir.t3 nb x = Ir.t4 x := by unfold Ir.t3; rw [h]; rfl
theorem t4_call {x : Ir.In} (h : Ir.fc x.op = false) : Ir.t4 x = 0 := by unfold Ir.t4 Ir.t5; rw [h]; rfl
theorem t4_no {x : Ir.In} (h : Ir.fc x.op = true) (h' : Ir.nm x.name = false) : Ir.t4 x = 70 := by unfold Ir.t4; rw [h, h']; rfl
theorem t4_many {x : Ir.In} (h : Ir.fc x.op = true) (h' : Ir.nm x.name = true) (h'' : 4 < x.args.length) : Ir.t4 x = 192 := by unfold Ir.t4 Ir.t5; rw [h, h', decide_eq_true h'']; rfl
theorem t4_yes {x : Ir.In} (h : Ir.fc x.op = true) (h' : Ir.nm x.name = true) (h'' : ¬ 4 < x.args.length) : Ir.t4 x = 0 := by unfold Ir.t4 Ir.t5; rw [h, h', decide_eq_false h'']; rfl

theorem ret_e {a b : Int} (h : a = b) : Ending.returned (.int .i64 a) = .returned (.int .i64 b) := by rw [h]

end Go.Proofs.YtcoehmmiplffgaaDoor

/- bare, One: the document's. -/
namespace Go.Proofs.YtcoehmmiplffgaaDoor
open Go.ChangeShapes Go.WideShapes Go.RowKit Go.Deep

set_option maxRecDepth 20000 in
set_option maxHeartbeats 3200000 in
theorem bare_any (x : Ir.In) (sl : Value) (w : World) (ho : 1 ≤ x.op ∧ x.op ≤ 14) (hx : InR w (InsC x sl).toList x) :
    Calls Tryd.prog 45 #[InsV x sl] w fun e w' => e = .returned (.bool (Ir.fits x)) ∧ Below w.heap.size w w' := by
  obtain ⟨_, h1, ⟨A, cap, hsl, -⟩, -⟩ := hx
  simp at h1
  subst h1
  subst hsl
  have hlen0 : (0 : Int) ≤ (x.args.length : Int) := by omega
  obtain ⟨v, hv⟩ : ∃ v, v = Ir.fits x := ⟨_, rfl⟩
  rw [← hv]
  have HV := Lib.hid hv
  clear hv
  obtain ⟨op, d, a, b, name, args⟩ := x
  simp only at ho hlen0
  rcases Ir.cases_op op ho with rfl | rfl | rfl | rfl | rfl | rfl | rfl | rfl | rfl | rfl | rfl | rfl | rfl | rfl
  all_goals
    clear ho
    go_enter Tryd.func45, Tryd.ntmps45
    go_wp2_with fail
    all_goals
      go_ret
      refine ⟨retb ?_, (Below.refl _ _).alloc (Nat.le_refl _) _⟩
      rw [HV.out]
      clear HV
      simp_all [Ir.fits, Ir.fd, Ir.fa, Ir.fb, Ir.fc, nil_size] <;> first | exact eq_dec _ _ | (intros; intro e; subst e; simp at *; done) | (intros; subst_vars; simp at *; done)

/-- The box of an instruction, and what its numbers read as. -/
structure Box1 (w0 : World) (bx : Nat) (x : Ir.In) (sl : Value) (w : World) : Prop where
  ins : Blk w bx 46 (InsC x sl)
  inr : InR w (InsC x sl).toList x
  below : Below w0.heap.size w0 w
theorem Box1.to {w0 w w' : World} {bx : Nat} {x : Ir.In} {sl : Value} (h : Box1 w0 bx x sl w) (hb : Below w.heap.size w w') : Box1 w0 bx x sl w' :=
  ⟨h.ins.older hb h.ins.lt, h.inr.below hb, h.below.trans (hb.mono h.below.size)⟩
theorem Box1.cells {w0 w : World} {bx : Nat} {x : Ir.In} {sl : Value} (h : Box1 w0 bx x sl w) :
    w.cell? ⟨bx, 0, none⟩ = some (.int .i64 x.op) ∧ w.cell? ⟨bx, 1, none⟩ = some (.int .i64 x.d) ∧ w.cell? ⟨bx, 2, none⟩ = some (.int .i64 x.a) ∧ w.cell? ⟨bx, 3, none⟩ = some (.int .i64 x.b) ∧ w.cell? ⟨bx, 4, none⟩ = some (.string x.name) ∧ w.cell? ⟨bx, 5, none⟩ = some sl :=
  six_cells h.ins

theorem bare_box {w0 w : World} {bx : Nat} {x : Ir.In} {sl : Value} (h : Box1 w0 bx x sl w) (ho : 1 ≤ x.op ∧ x.op ≤ 14) {v : Bool} (hv : Ir.fits x = v) :
    Calls Tryd.prog 45 #[InsV x sl] w fun e w' => e = .returned (.bool v) ∧ Box1 w0 bx x sl w' :=
  (bare_any x sl w ho h.inr).mono fun _ _ ⟨he, hb⟩ => ⟨by rw [he, hv], h.to hb⟩
theorem rdef_box {w0 w : World} {bx : Nat} {x : Ir.In} {sl : Value} (h : Box1 w0 bx x sl w) {v : Int} (hv : Ir.dest x = v) :
    Calls Tryd.prog 46 #[InsV x sl] w fun e w' => e = .returned (.int .i64 v) ∧ Box1 w0 bx x sl w' :=
  (rdef_any x sl w h.inr).mono fun _ _ ⟨he, hb⟩ => ⟨by rw [he, hv], h.to hb⟩
/-- Numbers at hand. -/
def NumsB (l : List Int) (v : Value) (w : World) : Prop := Nums w v l
theorem ruses_box {w0 w : World} {bx : Nat} {x : Ir.In} {sl : Value} (h : Box1 w0 bx x sl w) (hl : x.args.length ≤ 1048000) :
    Calls Tryd.prog 48 #[InsV x sl] w fun e w' => ∃ v, e = .returned v ∧ Box1 w0 bx x sl w' ∧ NumsB (Ir.uses x) v w' :=
  (ruses_any x sl w h.inr hl).mono fun _ _ ⟨v, he, hr, hb⟩ => ⟨v, he, h.to hb, hr.nums (uses_in64 h.inr)⟩
theorem rtargets_box {w0 w : World} {bx : Nat} {x : Ir.In} {sl : Value} (h : Box1 w0 bx x sl w) :
    Calls Tryd.prog 49 #[InsV x sl] w fun e w' => ∃ v, e = .returned v ∧ Box1 w0 bx x sl w' ∧ NumsB (Ir.targets x) v w' :=
  (rtargets_any x sl w h.inr).mono fun _ _ ⟨v, he, hr, hb⟩ => ⟨v, he, h.to hb, hr.nums (targets_in64 h.inr)⟩
theorem within_box {v : Value} {l : List Int} {n : Int} {w : World} (h : NumsB l v w) (hl : l.length ≤ 1048576) {b : Bool} (hb : Ir.within l n = b) :
    Calls Tryd.prog 47 #[v, .int .i64 n] w fun e w' => e = .returned (.bool b) ∧ w = w' :=
  (within_any v l n w h hl).mono fun _ _ ⟨he, hw⟩ => ⟨by rw [he, hb], hw⟩

theorem regsB_no {x : Ir.In} {regs : Int} (h : Ir.within (Ir.uses x) regs = false) : Ir.regsB x regs = false := by unfold Ir.regsB; rw [h, Bool.and_false]
theorem regsB_d {x : Ir.In} {regs : Int} (h1 : Ir.fd x.op = 1) (h : x.d < 0 ∨ regs ≤ x.d) : Ir.regsB x regs = false := by unfold Ir.regsB; rw [decide_eq_true h1, decide_eq_true h]; rfl
theorem regsB_yes {x : Ir.In} {regs : Int} (h : Ir.fd x.op = 1 → ¬ (x.d < 0 ∨ regs ≤ x.d)) (h' : Ir.within (Ir.uses x) regs = true) : Ir.regsB x regs = true := by
  unfold Ir.regsB
  rw [h']
  by_cases h1 : Ir.fd x.op = 1
  · rw [decide_eq_false (h h1), Bool.and_false]; rfl
  · rw [decide_eq_false h1]; rfl
theorem dest_d {x : Ir.In} (h : Ir.fd x.op = 1) : Ir.dest x = x.d := by unfold Ir.dest; rw [if_pos h]
theorem dest_no {x : Ir.In} (h : ¬ Ir.fd x.op = 1) : Ir.dest x = -1 := by unfold Ir.dest; rw [if_neg h]
theorem fa_two {op : Int} : Ir.fa op = 2 ↔ op = 1 := by
  unfold Ir.fa
  split
  · subst op; decide
  · split
    · subst op; decide
    · split <;> omega
end Go.Proofs.YtcoehmmiplffgaaDoor
