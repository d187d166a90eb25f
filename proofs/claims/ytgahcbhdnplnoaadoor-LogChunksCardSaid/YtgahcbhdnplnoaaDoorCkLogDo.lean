/- What do comes to, the program's: calls that are handed on, one behind the other, till one goes wrong; what went wrong is kept. -/
import Derived.Test.YtgahcbhdnplnoaaDoorCkLogFuncs
namespace Go.Proofs.YtgahcbhdnplnoaaDoor
open Go.RowKit

/-- The kinds of blocks that a log's calls change. -/
def Tl : Obj → Bool
  | .cells cs t z => Td (.cells cs t z) || t == 69
  | o => Td o

theorem Ch.l {B : Nat} {w w' : World} (h : Ch Td B w w') : Ch Tl B w w' where
  os := h.os
  tape := h.tape
  output := h.output
  size := h.size
  block i hi hT := h.block i hi (fun hB o ho => by
    have h1 := hT hB o ho
    cases o with
    | cells cs t z => simp [Tl] at h1; exact h1.1
    | _ => exact h1)
theorem Ch.set_new {T : Obj → Bool} {B : Nat} {a b : World} (h : Ch T B a b) {k : Nat} (hk : a.heap.size ≤ k) (i : Nat) (u : Value) : Ch T B a (b.setCell ⟨k, i, none⟩ u) where
  os := h.os
  tape := h.tape
  output := h.output
  size := by have := h.size; simpa [World.setCell] using this
  block j hj hT := by
    rw [heap_setCell_other b ⟨k, i, none⟩ j u (by show j ≠ k; omega)]
    exact h.block j hj hT
theorem SameI.set_new {P : Nat → Prop} {a b : World} (h : SameI P a b) {k : Nat} (hk : a.heap.size ≤ k) (i : Nat) (u : Value) : SameI P a (b.setCell ⟨k, i, none⟩ u) := fun j hj cs z ho => by
  have := lt_of_at ho
  rw [heap_setCell_other b ⟨k, i, none⟩ j u (by show j ≠ k; omega)]
  exact h j hj cs z ho
theorem SameI.below {P : Nat → Prop} {a b : World} (h : Below a.heap.size a b) : SameI P a b := fun _ _ _ _ ho => (h.block _ (lt_of_at ho)).trans ho

/-- Blocks of errors' numbers. -/
def Te : Obj → Bool
  | .cells _ t _ => t == 28
  | _ => false

theorem clR_many : ∀ (l : List Cl) (st : Dk.St), (clR st l).2.many ≤ st.many + l.length := by
  intro l
  induction l with
  | nil => intro st; exact Nat.le_refl _
  | cons k l ih =>
    intro st
    simp only [List.length_cons]
    cases k with
    | wr i c =>
      have h1 := Dk.many_write st (i : Int) (Lg.encs c)
      by_cases h : st.writeE (i : Int) (Lg.encs c) = 0
      · rw [clR_wr h]; have := ih (st.write (i : Int) (Lg.encs c)); omega
      · rw [clR_wr_no h]; show (st.write (i : Int) (Lg.encs c)).many ≤ _; omega
    | ba =>
      have h1 := Dk.many_barrier st
      by_cases h : st.barrierE = 0
      · rw [clR_ba h]; have := ih st.barrier; omega
      · rw [clR_ba_no h]; show st.barrier.many ≤ _; omega

/-- A row of calls that are handed on. -/
def ClRow (P : Nat → Prop) (w : World) (base q g : Nat) (v : Value) (l : List Cl) : Prop :=
  ∃ vals : List Value, w.ownsRow base 39 1 v vals.length vals ∧ vals.length = l.length ∧ ∀ (j : Nat) (u : Value) (k : Cl), vals[j]? = some u → l[j]? = some k → IsCl P w q g u k

/-- The row laid open. -/
theorem ClRow.cells {P : Nat → Prop} {w : World} {base q g : Nat} {v : Value} {l : List Cl} (h : ClRow P w base q g v l) :
    ∃ A cap, v = .slice A l.length cap ∧ ∀ (j : Nat) (k : Cl), l[j]? = some k → ∃ (b : Nat) (u : Value) (cur : Array Value), A = some ⟨b, 0, none⟩ ∧ Blk w b 39 cur ∧ cur[j]? = some u ∧ IsCl P w q g u k := by
  obtain ⟨vals, h1, h2, h3⟩ := h
  have h1' := h1
  rcases h1.2 with ⟨rfl, h0⟩ | ⟨b, cap, cur, rfl, hb, hg, rest⟩
  · refine ⟨none, 0, by rw [← h2, h0], fun j k hk => ?_⟩
    have := (List.getElem?_eq_some_iff.1 hk).1
    omega
  · refine ⟨some ⟨b, 0, none⟩, cap, by rw [h2], fun j k hk => ?_⟩
    have hj := (List.getElem?_eq_some_iff.1 hk).1
    obtain ⟨u, hu⟩ : ∃ u, vals[j]? = some u := ⟨_, List.getElem?_eq_getElem (by rw [h2]; exact hj)⟩
    have e := h1'.cells (g := b) rfl j u hu
    rw [Addr.add_lit, Nat.zero_add] at e
    have hc : Blk w b 39 cur := hg
    rw [hc.cell j] at e
    exact ⟨b, u, cur, rfl, hc, e, h3 j u k hu hk⟩

theorem results_err {fn : Func} (h : fn.results = #[.cell 4 28]) (tmps : Array Value) (W : World) (B : Nat) (a : Value)
    (hp : tmps.getD 4 undef = .pointer (some ⟨B, 0, none⟩)) (hb : Blk W B 28 #[a]) :
    (results fn tmps).run Tryd.prog W = .ok a W := by
  have hp' : tmps[4]?.getD undef = .pointer (some ⟨B, 0, none⟩) := by simpa using hp
  have hc : W.cell? ⟨B, 0, none⟩ = some a := hb.cell 0
  simp [results, h, hp', asAddr, go_sem, hc]

structure DoPost (P : Nat → Prop) (B q g : Nat) (r : Int × Dk.St) (x1 x2 x3 x4 : Value) (w : World) (e : Ending) (w' : World) : Prop where
  ret : e = .returned (.int .i64 r.1)
  disk : DskP P w' B g r.2
  same : SameI P w w'
  log : Blk w' q 69 #[.pointer (some ⟨g, 0, none⟩), x1, x2, x3, x4, .int .i64 r.1]
  ch : Ch Tl B w w'
  last : ∃ W, Ch Td B w W ∧ w' = W.setCell ⟨q, 5, none⟩ (.int .i64 r.1)

/-- What do's loop knows behind k calls. R: the error's block; L: the block of the log's pointer. -/
structure DoLoop (P : Nat → Prop) (B q g R L : Nat) (st : Dk.St) (l : List Cl) (w : World) (k : Nat) (st' : Dk.St) (wr : World) : Prop where
  run : clR st l = clR st' (l.drop k)
  disk : DskP P wr B g st'
  many : st'.many ≤ st.many + k
  same : SameI P w wr
  ch : Ch Td B w wr
  err : Blk wr R 28 #[.int .i64 0]
  ptr : Blk wr L 27 #[.pointer (some ⟨q, 0, none⟩)]

section
variable {P : Nat → Prop} {B q g R L : Nat} {st st' st2 : Dk.St} {l : List Cl} {w wr w2 : World} {k : Nat} {E : Int} {x1 x2 x3 x4 x5 : Value}

/-- One call behind them. -/
theorem DoLoop.next (h : DoLoop P B q g R L st l w k st' wr) (hd : DskP P w2 B g st2) (hs : SameI P wr w2) (hc : Ch Td B wr w2) (hm : st2.many ≤ st'.many + 1) (hr : clR st' (l.drop k) = clR st2 (l.drop (k + 1))) (hR : w.heap.size ≤ R) :
    DoLoop P B q g R L st l w (k + 1) st2 (w2.setCell ⟨R, 0, none⟩ (.int .i64 0)) := by
  have e2 : Blk w2 R 28 #[.int .i64 0] := hc.blk h.err rfl
  exact { run := h.run.trans hr
          disk := hd.kept (T := Te) (B' := 0) (Ch.set e2 (Nat.zero_le _) rfl 0 _) (fun _ => rfl) (fun _ _ => rfl) (fun _ => rfl)
          many := by have := h.many; omega
          same := (h.same.trans hs).set_new hR 0 _
          ch := (h.ch.trans hc).set_new hR 0 _
          err := e2.set_one _
          ptr := (Ch.set (T := Te) (B := 0) e2 (Nat.zero_le _) rfl 0 _).blk (hc.blk h.ptr rfl) rfl }

/-- At the door: what is stored then. -/
theorem DoLoop.last (h : DoLoop P B q g R L st l w k st' wr) (hd : DskP P w2 B g st2) (hs : SameI P wr w2) (hc : Ch Td B wr w2) (hr : clR st' (l.drop k) = (E, st2)) (hR : w.heap.size ≤ R) (hq : Blk w q 69 #[.pointer (some ⟨g, 0, none⟩), x1, x2, x3, x4, x5]) (hB : B ≤ q) (W : World)
    (hW : W = w2.setCell ⟨R, 0, none⟩ (.int .i64 E) ∨ W = (w2.setCell ⟨R, 0, none⟩ (.int .i64 E)).setCell ⟨R, 0, none⟩ (.int .i64 E)) :
    Blk W R 28 #[.int .i64 E] ∧ Blk W L 27 #[.pointer (some ⟨q, 0, none⟩)] ∧ Blk W q 69 #[.pointer (some ⟨g, 0, none⟩), x1, x2, x3, x4, x5] ∧
      Blk (W.setCell ⟨q, 5, none⟩ (.int .i64 E)) R 28 #[.int .i64 E] ∧ DoPost P B q g (clR st l) x1 x2 x3 x4 w (.returned (.int .i64 E)) (W.setCell ⟨q, 5, none⟩ (.int .i64 E)) := by
  have e2 : Blk w2 R 28 #[.int .i64 0] := hc.blk h.err rfl
  have c2 : Ch Te 0 w2 W ∧ Blk W R 28 #[.int .i64 E] ∧ SameI P w W ∧ Ch Td B w W := by
    rcases hW with rfl | rfl
    · exact ⟨Ch.set e2 (Nat.zero_le _) rfl 0 _, e2.set_one _, (h.same.trans hs).set_new hR 0 _, (h.ch.trans hc).set_new hR 0 _⟩
    · exact ⟨(Ch.set e2 (Nat.zero_le _) rfl 0 _).trans (Ch.set (e2.set_one _) (Nat.zero_le _) rfl 0 _), (e2.set_one _).set_one _, ((h.same.trans hs).set_new hR 0 _).set_new hR 0 _, ((h.ch.trans hc).set_new hR 0 _).set_new hR 0 _⟩
  obtain ⟨c3, e3, s3, d3⟩ := c2
  have q3 : Blk W q 69 #[.pointer (some ⟨g, 0, none⟩), x1, x2, x3, x4, x5] := d3.blk hq rfl
  have hne : R ≠ q := fun e => by have := hq.lt; omega
  have cq : Ch (fun o => match o with | .cells _ t _ => t == 69 | _ => false) B W (W.setCell ⟨q, 5, none⟩ (.int .i64 E)) := Ch.set q3 hB rfl 5 _
  refine ⟨e3, c3.blk (hc.blk h.ptr rfl) rfl, q3, e3.apart (by show R ≠ q; exact hne) _, { ret := by rw [h.run, hr], disk := ?_, same := ?_, log := ?_, ch := ?_, last := ⟨W, d3, by rw [h.run, hr]⟩ }⟩
  · rw [h.run, hr]
    exact (hd.kept c3 (fun _ => rfl) (fun _ _ => rfl) (fun _ => rfl)).kept cq (fun _ => rfl) (fun _ _ => rfl) (fun _ => rfl)
  · refine s3.trans fun j hj cs z ho => ?_
    rw [heap_setCell_other W ⟨q, 5, none⟩ j _ (by
      intro e
      have e' : j = q := e
      rw [e', show W.heap[q]? = _ from q3] at ho
      injection ho with ho
      injection ho with _ ho
      cases ho)]
    exact ho
  · rw [h.run, hr]
    exact q3.l5 _
  · exact d3.l.trans (Ch.set q3 hB rfl 5 _)
end

set_option maxRecDepth 20000 in
set_option maxHeartbeats 1000000 in
theorem do_any (P : Nat → Prop) (B base q g : Nat) (st : Dk.St) (l : List Cl) (v x1 x2 x3 x4 x5 : Value) (w : World) (hd : DskP P w B g st) (hm : st.many + l.length ≤ 1073741824) (hq : Blk w q 69 #[.pointer (some ⟨g, 0, none⟩), x1, x2, x3, x4, x5]) (hB : B ≤ q)
    (hr : ClRow P w base q g v l) (hf : ∀ k ∈ l, k.fit) :
    Calls Tryd.prog 31 #[.pointer (some ⟨q, 0, none⟩), v] w (DoPost P B q g (clR st l) x1 x2 x3 x4 w) := by
  have hmf : ∀ (fn : Fn) (first cap : Array Value) (w : World), (Instr.makeFunc fn first cap).run Tryd.prog w = .ok (.func fn first cap) w := fun _ _ _ _ => rfl
  obtain ⟨A, cap, rfl, hcells⟩ := hr.cells
  have HC := Lib.hid hcells
  have HF := Lib.hid hf
  have HQ := Lib.hid hq
  have HBq := Lib.hid hB
  have HM := Lib.hid hm
  have hlen : l.length ≤ 1073741824 := by omega
  have h0 : DoLoop P B q g (w.heap.size + 1) w.heap.size st l w 0 st ((w.alloc (.cells #[.pointer (some ⟨q, 0, none⟩)] 27)).alloc (.cells #[.int .i64 0] 28)) := by
    have hb : Below w.heap.size w ((w.alloc (.cells #[.pointer (some ⟨q, 0, none⟩)] 27)).alloc (.cells #[.int .i64 0] 28)) := ((Below.refl _ _).alloc (Nat.le_refl _) _).alloc (by simp) _
    have n1 := Blk.new w 27 #[.pointer (some ⟨q, 0, none⟩)]
    have n2 := Blk.new (w.alloc (.cells #[.pointer (some ⟨q, 0, none⟩)] 27)) 28 #[.int .i64 0]
    have e1 : (w.alloc (.cells #[.pointer (some ⟨q, 0, none⟩)] 27)).heap.size = w.heap.size + 1 := by simp
    rw [e1] at n2
    exact { run := rfl, disk := hd.kept (T := fun _ => false) (B' := 0) (Ch.of_below hb) (fun _ => rfl) (fun _ _ => rfl) (fun _ => rfl), many := by omega, same := SameI.below hb, ch := Ch.of_below hb, err := n2, ptr := n1.alloc _ }
  clear hcells hd hm hq hB hr hf
  go_enter_defers Tryd.func31, Tryd.ntmps31
  go_wp2_with fail
  go_loopw [10] (fun v wr => ∃ k st', k ≤ l.length ∧ v = .int .i64 (k : Int) ∧ DoLoop P B q g (w.heap.size + 1) w.heap.size st l w k st' wr) (fun v _ => l.length - (intOf v).toNat)
  case atStart => exact ⟨0, st, Nat.zero_le _, rfl, h0⟩
  case round =>
    obtain ⟨k, st', hk, rfl, hL⟩ := hrel
    clear h0
    have HL := Lib.hid hL
    have f0 := hL.err.frozen 0
    have r0 : wr.cell? ⟨w.heap.size + 1, 0, none⟩ = some (.int .i64 0) := hL.err.cell 0
    clear hL
    by_cases hlt : k < l.length
    · obtain ⟨kk, hkk⟩ : ∃ kk, l[k]? = some kk := ⟨_, List.getElem?_eq_getElem hlt⟩
      obtain ⟨b, u, cur, rfl, hbk, hcu, hu⟩ := HC.out k kk hkk
      have d0 : wr.cell? ⟨b, k, none⟩ = some u := (HL.out.ch.blk hbk rfl).cell k |>.trans hcu
      have hu2 := hu.kept HL.out.ch HL.out.same (fun _ => rfl) (fun _ => rfl)
      have HD := Lib.hid (show l.drop k = kk :: l.drop (k + 1) by
        obtain ⟨h1, h2⟩ := List.getElem?_eq_some_iff.1 hkk
        rw [List.drop_eq_getElem_cons h1, h2])
      have HFit := Lib.hid (HF.out kk (List.mem_of_getElem? hkk))
      clear hbk hcu hu hkk
      have hsz : w.heap.size ≤ w.heap.size + 1 := Nat.le_succ _
      cases kk with
      | ba =>
        obtain rfl : u = _ := hu2
        have HB := Lib.hid (barrier_in P B g st' wr HL.out.disk (by have := HL.out.many; have := HM.out; omega))
        by_cases hE : st'.barrierE = 0
        · have HR := Lib.hid (show clR st' (l.drop k) = clR st'.barrier (l.drop (k + 1)) by rw [HD.out, clR_ba hE])
          go_wp2_with fail
          refine HB.out.mono ?_
          rintro e w3 ⟨rfl, h3, s3, c3⟩
          rw [hE]
          clear hE
          have HN := Lib.hid (HL.out.next h3 s3 c3 (Dk.many_barrier st') HR.out hsz)
          have r3 : w3.cell? ⟨w.heap.size + 1, 0, none⟩ = some (.int .i64 0) := (c3.blk HL.out.err rfl).cell 0
          have f3 := (c3.blk HL.out.err rfl).frozen 0
          clear h3 s3 c3 hsz f0 r0 d0
          go_wp2_with fail
          go_roundw
          case rel => exact ⟨k + 1, _, by omega, by go_num, HN.out⟩
          case measure => simp [intOf]; omega
        · have HR := Lib.hid (show clR st' (l.drop k) = (st'.barrierE, st'.barrier) by rw [HD.out, clR_ba_no hE])
          go_wp2_with fail
          refine HB.out.mono ?_
          rintro e w3 ⟨rfl, h3, s3, c3⟩
          have HN := Lib.hid (HL.out.last h3 s3 c3 HR.out hsz HQ.out HBq.out)
          have r3 : w3.cell? ⟨w.heap.size + 1, 0, none⟩ = some (.int .i64 0) := (c3.blk HL.out.err rfl).cell 0
          have f3 := (c3.blk HL.out.err rfl).frozen 0
          clear h3 s3 c3 hsz f0 r0 d0 HB HR
          generalize st'.barrierE = E at *
          go_wp2_with fail
          refine leaves_cons (f := 55) (args := #[.pointer (some ⟨w.heap.size + 1, 0, none⟩), .pointer (some ⟨w.heap.size, 0, none⟩)]) (by simp) (by simp [go_sem]) ?_
          obtain ⟨e1, e2, e3, e4, e5⟩ := HN.out _ (.inr rfl)
          refine (done_any _ _ _ _ _ _ _ _ _ _ .returning _ e1 e2 e3).mono ?_
          rintro e u' w4 ⟨rfl, rfl, rfl⟩
          exact ⟨_, results_err rfl _ _ _ _ rfl e4, e5⟩
      | wr i c =>
        obtain ⟨a, b2, n, s, rfl, ha, hs, hb, hn, hp⟩ := hu2
        have hon : OnDisk wr q g := ⟨_, _, _, _, _, HL.out.ch.blk HQ.out rfl⟩
        have HB := Lib.hid (put1_any P B q g i c st' a b2 n s wr HL.out.disk (by have := HL.out.many; have := HM.out; omega) hon ha hs hb hn HFit.out.2)
        clear ha hs hb hn hp hon
        by_cases hE : st'.writeE (i : Int) (Lg.encs c) = 0
        · have HR := Lib.hid (show clR st' (l.drop k) = clR (st'.write (i : Int) (Lg.encs c)) (l.drop (k + 1)) by rw [HD.out, clR_wr hE])
          go_wp2_with fail
          refine HB.out.mono ?_
          rintro e w3 ⟨rfl, h3, s3, c3⟩
          rw [hE]
          clear hE
          have HN := Lib.hid (HL.out.next h3 s3 c3 (Dk.many_write st' _ _) HR.out hsz)
          have r3 : w3.cell? ⟨w.heap.size + 1, 0, none⟩ = some (.int .i64 0) := (c3.blk HL.out.err rfl).cell 0
          have f3 := (c3.blk HL.out.err rfl).frozen 0
          clear h3 s3 c3 hsz f0 r0 d0
          go_wp2_with fail
          go_roundw
          case rel => exact ⟨k + 1, _, by omega, by go_num, HN.out⟩
          case measure => simp [intOf]; omega
        · have HR := Lib.hid (show clR st' (l.drop k) = (st'.writeE (i : Int) (Lg.encs c), st'.write (i : Int) (Lg.encs c)) by rw [HD.out, clR_wr_no hE])
          go_wp2_with fail
          refine HB.out.mono ?_
          rintro e w3 ⟨rfl, h3, s3, c3⟩
          have HN := Lib.hid (HL.out.last h3 s3 c3 HR.out hsz HQ.out HBq.out)
          have r3 : w3.cell? ⟨w.heap.size + 1, 0, none⟩ = some (.int .i64 0) := (c3.blk HL.out.err rfl).cell 0
          have f3 := (c3.blk HL.out.err rfl).frozen 0
          clear h3 s3 c3 hsz f0 r0 d0 HB HR
          generalize st'.writeE (i : Int) (Lg.encs c) = E at *
          go_wp2_with fail
          refine leaves_cons (f := 55) (args := #[.pointer (some ⟨w.heap.size + 1, 0, none⟩), .pointer (some ⟨w.heap.size, 0, none⟩)]) (by simp) (by simp [go_sem]) ?_
          obtain ⟨e1, e2, e3, e4, e5⟩ := HN.out _ (.inr rfl)
          refine (done_any _ _ _ _ _ _ _ _ _ _ .returning _ e1 e2 e3).mono ?_
          rintro e u' w4 ⟨rfl, rfl, rfl⟩
          exact ⟨_, results_err rfl _ _ _ _ rfl e4, e5⟩
    · obtain rfl : k = l.length := by omega
      have HR := Lib.hid (show clR st' (l.drop l.length) = (0, st') by rw [List.drop_length]; rfl)
      have HN := Lib.hid (HL.out.last HL.out.disk (SameI.refl _ _) (Ch.refl _ _ _) HR.out (Nat.le_succ _) HQ.out HBq.out)
      go_wp2_with fail
      refine leaves_cons (f := 55) (args := #[.pointer (some ⟨w.heap.size + 1, 0, none⟩), .pointer (some ⟨w.heap.size, 0, none⟩)]) (by simp) (by simp [go_sem]) ?_
      obtain ⟨e1, e2, e3, e4, e5⟩ := HN.out _ (.inl rfl)
      refine (done_any _ _ _ _ _ _ _ _ _ _ .returning _ e1 e2 e3).mono ?_
      rintro e u' w4 ⟨rfl, rfl, rfl⟩
      exact ⟨_, results_err rfl _ _ _ _ rfl e4, e5⟩

end Go.Proofs.YtgahcbhdnplnoaaDoor
