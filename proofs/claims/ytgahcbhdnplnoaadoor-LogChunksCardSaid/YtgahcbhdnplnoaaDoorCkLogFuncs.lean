/- Calls that are handed on: what the program's log makes of them: putChunk, putHead, do. -/
import Derived.Test.YtgahcbhdnplnoaaDoorCkLogSmall
import Derived.Test.YtgahcbhdnplnoaaDoorCkDiskWrite
import Derived.Defers
namespace Go.Proofs.YtgahcbhdnplnoaaDoor
open Go.RowKit

/-- A call that is handed on: a chunk into a sector, or a barrier. -/
inductive Cl where
  | wr (i : Nat) (c : Cn.Chu)
  | ba

/-- Calls, one behind the other, till one goes wrong. -/
def clR : Dk.St → List Cl → Int × Dk.St
  | st, [] => (0, st)
  | st, .wr i c :: l => if st.writeE (i : Int) (Lg.encs c) = 0 then clR (st.write (i : Int) (Lg.encs c)) l else (st.writeE (i : Int) (Lg.encs c), st.write (i : Int) (Lg.encs c))
  | st, .ba :: l => if st.barrierE = 0 then clR st.barrier l else (st.barrierE, st.barrier)

/-- What may be handed on. -/
def Cl.fit : Cl → Prop
  | .wr i c => i < 256 ∧ Cn.ok c
  | .ba => True

theorem clR_wr {st : Dk.St} {i : Nat} {c : Cn.Chu} {l : List Cl} (h : st.writeE (i : Int) (Lg.encs c) = 0) : clR st (.wr i c :: l) = clR (st.write (i : Int) (Lg.encs c)) l := if_pos h
theorem clR_wr_no {st : Dk.St} {i : Nat} {c : Cn.Chu} {l : List Cl} (h : ¬ st.writeE (i : Int) (Lg.encs c) = 0) : clR st (.wr i c :: l) = (st.writeE (i : Int) (Lg.encs c), st.write (i : Int) (Lg.encs c)) := if_neg h
theorem clR_ba {st : Dk.St} {l : List Cl} (h : st.barrierE = 0) : clR st (.ba :: l) = clR st.barrier l := if_pos h
theorem clR_ba_no {st : Dk.St} {l : List Cl} (h : ¬ st.barrierE = 0) : clR st (.ba :: l) = (st.barrierE, st.barrier) := if_neg h

/-- The value v is that call, of the log at block q. P: blocks of numbers that aren't the disk's. -/
def IsCl (P : Nat → Prop) (w : World) (q g : Nat) (v : Value) : Cl → Prop
  | .ba => v = .func (.func 20) #[.pointer (some ⟨g, 0, none⟩)] #[]
  | .wr i c => ∃ (a b n : Nat) (s : ByteArray), v = .func (.func 67) #[] #[.pointer (some ⟨a, 0, none⟩), .pointer (some ⟨b, 0, none⟩), .pointer (some ⟨n, 0, none⟩)] ∧
      Blk w a 45 (ChC c.e c.q c.f c.l s) ∧ s.data.toList = c.d ∧ Blk w b 27 #[.pointer (some ⟨q, 0, none⟩)] ∧ Blk w n 3 #[.int .i64 (i : Int)] ∧ P n

section
variable {P R : Nat → Prop} {w w' : World} {q g : Nat} {v : Value} {k : Cl}
theorem IsCl.kept {T : Obj → Bool} {B : Nat} (h : IsCl P w q g v k) (hc : Ch T B w w') (hs : SameI P w w') (h1 : ∀ cs, T (.cells cs 45 (0, 0)) = false) (h2 : ∀ cs, T (.cells cs 27 (0, 0)) = false) : IsCl P w' q g v k := by
  cases k with
  | ba => exact h
  | wr i c =>
    obtain ⟨a, b, n, s, e, ha, hs', hb, hn, hp⟩ := h
    exact ⟨a, b, n, s, e, hc.blk ha (h1 _), hs', hc.blk hb (h2 _), hs.blk hp hn, hp⟩
theorem IsCl.up (h : IsCl P w q g v k) (hb : Below w.heap.size w w') (hp : ∀ j, P j → R j) : IsCl R w' q g v k := by
  cases k with
  | ba => exact h
  | wr i c =>
    obtain ⟨a, b, n, s, e, ha, hs', hb', hn, hpn⟩ := h
    exact ⟨a, b, n, s, e, ha.older hb ha.lt, hs', hb'.older hb hb'.lt, hn.older hb hn.lt, hp n hpn⟩
end

/-! ### do's own deferred function -/
theorem done_any (R L q : Nat) (E : Int) (a b c d e f : Value) (u : FrameMode) (w : World) (hR : Blk w R 28 #[.int .i64 E]) (hL : Blk w L 27 #[.pointer (some ⟨q, 0, none⟩)]) (hq : Blk w q 69 #[a, b, c, d, e, f]) :
    CallsD Tryd.prog 55 #[.pointer (some ⟨R, 0, none⟩), .pointer (some ⟨L, 0, none⟩)] u w fun x u' w' => u' = u ∧ (x = .returned (.tuple #[]) ∧ w' = w.setCell ⟨q, 5, none⟩ (.int .i64 E)) := by
  have c0 : w.cell? ⟨R, 0, none⟩ = some (.int .i64 E) := hR.cell 0
  have c1 : w.cell? ⟨L, 0, none⟩ = some (.pointer (some ⟨q, 0, none⟩)) := hL.cell 0
  obtain ⟨⟨-, -, -, -, -, c5⟩, -, -, -, -, -, f5⟩ := six hq
  clear hR hL hq
  go_enter_d Tryd.func55, Tryd.ntmps55
  go_wp2_with fail
  go_end0
  exact ⟨rfl, rfl⟩

/-! ### putChunk -/
/-- What putChunk makes: three variables of its own. -/
theorem boxes (w : World) (q : Nat) (i : Int) (a b c d e : Value) :
    let W := ((w.alloc (.cells #[.pointer (some ⟨q, 0, none⟩)] 27)).alloc (.cells #[.int .i64 i] 3)).alloc (.cells #[a, b, c, d, e] 45)
    Blk W w.heap.size 27 #[.pointer (some ⟨q, 0, none⟩)] ∧ Blk W (w.heap.size + 1) 3 #[.int .i64 i] ∧ Blk W (w.heap.size + 1 + 1) 45 #[a, b, c, d, e] ∧ Below w.heap.size w W ∧ W.heap.size = w.heap.size + 3 := by
  have e1 : (w.alloc (.cells #[.pointer (some ⟨q, 0, none⟩)] 27)).heap.size = w.heap.size + 1 := by simp
  have e2 : ((w.alloc (.cells #[.pointer (some ⟨q, 0, none⟩)] 27)).alloc (.cells #[.int .i64 i] 3)).heap.size = w.heap.size + 1 + 1 := by simp
  have h1 := Blk.new w 27 #[.pointer (some ⟨q, 0, none⟩)]
  have h2 := Blk.new (w.alloc (.cells #[.pointer (some ⟨q, 0, none⟩)] 27)) 3 #[.int .i64 i]
  have h3 := Blk.new ((w.alloc (.cells #[.pointer (some ⟨q, 0, none⟩)] 27)).alloc (.cells #[.int .i64 i] 3)) 45 #[a, b, c, d, e]
  rw [e1] at h2
  rw [e2] at h3
  exact ⟨(h1.alloc _).alloc _, h2.alloc _, h3, (((Below.refl _ _).alloc (Nat.le_refl _) _).alloc (by rw [e1]; omega) _).alloc (by rw [e2]; omega) _, by simp⟩

def PcPost (R : Nat → Prop) (q g i : Nat) (c : Cn.Chu) (w : World) (x : Ending) (w' : World) : Prop :=
  ∃ v, x = .returned v ∧ IsCl R w' q g v (.wr i c) ∧ Below w.heap.size w w' ∧ w'.heap.size = w.heap.size + 3

theorem putchunk_any (q g i : Nat) (c : Cn.Chu) (s : ByteArray) (hs : s.data.toList = c.d) (w : World) (R : Nat → Prop) (hR : R (w.heap.size + 1)) :
    Calls Tryd.prog 57 #[.pointer (some ⟨q, 0, none⟩), .int .i64 (i : Int), ChV c.e c.q c.f c.l s] w (PcPost R q g i c w) := by
  have hmf : ∀ (fn : Fn) (first cap : Array Value) (w : World), (Instr.makeFunc fn first cap).run Tryd.prog w = .ok (.func fn first cap) w := fun _ _ _ _ => rfl
  have HB := Lib.hid (boxes w q (i : Int) (.int .i64 c.e) (.int .i64 c.q) (.bool c.f) (.bool c.l) (.string s))
  go_enter Tryd.func57, Tryd.ntmps57
  go_wp2_with fail
  go_ret
  obtain ⟨h1, h2, h3, h4, h5⟩ := HB.out
  exact ⟨_, rfl, ⟨w.heap.size + 1 + 1, w.heap.size, w.heap.size + 1, s, rfl, h3, hs, h1, h2, hR⟩, h4, h5⟩

/-! ### What putChunk makes, when it is called -/
/-- The log's disk. -/
def OnDisk (w : World) (q g : Nat) : Prop := ∃ a b c d e, Blk w q 69 #[.pointer (some ⟨g, 0, none⟩), a, b, c, d, e]

theorem encs_data (c : Cn.Chu) (h : Cn.ok c) : EncV c = .tuple #[.string (Lg.encs c), .int .i64 0] := by
  unfold EncV
  rw [Cn.encE_of_ok h]
  rfl

set_option maxHeartbeats 400000 in
theorem put1_any (P : Nat → Prop) (B q g i : Nat) (c : Cn.Chu) (st : Dk.St) (a b n : Nat) (s : ByteArray) (w : World) (hd : DskP P w B g st) (hm : st.many ≤ 1073741824) (hq : OnDisk w q g)
    (ha : Blk w a 45 (ChC c.e c.q c.f c.l s)) (hs : s.data.toList = c.d) (hb : Blk w b 27 #[.pointer (some ⟨q, 0, none⟩)]) (hn : Blk w n 3 #[.int .i64 (i : Int)]) (hc : Cn.ok c) :
    Calls Tryd.prog 67 #[.pointer (some ⟨a, 0, none⟩), .pointer (some ⟨b, 0, none⟩), .pointer (some ⟨n, 0, none⟩)] w (InPost P B g (st.writeE (i : Int) (Lg.encs c)) (st.write (i : Int) (Lg.encs c)) w) := by
  obtain ⟨x1, x2, x3, x4, x5, hq⟩ := hq
  obtain ⟨a0, a1, a2, a3, a4⟩ := five ha
  have hV := encs_data c hc
  have he : (⟨c.e, c.q, c.f, c.l, s.data.toList⟩ : Cn.Chu) = c := by rw [hs]
  have HE := Lib.hid (encode_any c.e c.q c.f c.l s w)
  rw [he, hV] at HE
  have HD := Lib.hid hd
  have HM := Lib.hid hm
  have HB := Lib.hid (And.intro hb (And.intro hn hq))
  clear hd hV he hc hs ha hb hn hq hm
  go_enter Tryd.func67, Tryd.ntmps67
  go_wp2_with fail
  refine HE.out.mono ?_
  rintro x w1 ⟨rfl, hb1⟩
  obtain ⟨hb, hn, hq⟩ := HB.out
  have b0 : w1.cell? ⟨b, 0, none⟩ = some (.pointer (some ⟨q, 0, none⟩)) := (hb.older hb1 hb.lt).cell 0
  have n0 : w1.cell? ⟨n, 0, none⟩ = some (.int .i64 (i : Int)) := (hn.older hb1 hn.lt).cell 0
  have q0 : w1.cell? ⟨q, 0, none⟩ = some (.pointer (some ⟨g, 0, none⟩)) := (hq.older hb1 hq.lt).cell 0
  have hc1 : Ch (fun _ => false) 0 w w1 := Ch.of_below hb1
  have hd1 := HD.out.kept hc1 (fun _ => rfl) (fun _ _ => rfl) (fun _ => rfl)
  have hs1 : SameI P w w1 := fun k _ cs z ho => (hb1.block k (lt_of_at ho)).trans ho
  have HS := Lib.hid (And.intro hs1 hb1)
  clear hb hn hq hc1 hs1 hb1
  go_wp2_with fail
  go_region_with (go_at_call 23; refine (write_in P B g st (i : Int) (Lg.encs c) _ (hd1.kept (T := fun _ => false) (B' := 0) (Ch.refl _ _ _).drew (fun _ => rfl) (fun _ _ => rfl) (fun _ => rfl)) HM.out).mono ?_; rintro x w2 ⟨rfl, h2, s2, c2⟩)
  all_goals
    go_wp2_with fail
    go_ret
    exact ⟨rfl, h2, HS.out.1.trans (SameI.trans (fun _ _ _ _ h => h) s2), (Ch.of_below HS.out.2).trans ((Ch.refl _ _ _).drew.trans c2)⟩

end Go.Proofs.YtgahcbhdnplnoaaDoor
