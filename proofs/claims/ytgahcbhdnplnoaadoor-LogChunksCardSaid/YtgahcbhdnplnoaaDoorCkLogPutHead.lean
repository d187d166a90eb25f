/- What putHead comes to, the program's: the call that writes a head. -/
import Derived.Test.YtgahcbhdnplnoaaDoorCkLogFuncs
import Derived.Deep.RegionWith
import Derived.RegionTactic
import Derived.Deep.RegionHeld3
namespace Go.Proofs.YtgahcbhdnplnoaaDoor
open Go.RowKit

/-- Blocks that are P's, or new between two worlds. -/
def New (P : Nat → Prop) (w w' : World) : Nat → Prop := fun k => P k ∨ w.heap.size ≤ k ∧ k < w'.heap.size

def PhPost (P : Nat → Prop) (q g : Nat) (t : Lg.Top) (w : World) (x : Ending) (w' : World) : Prop :=
  ∃ v, x = .returned v ∧ IsCl (New P w w') w' q g v (.wr (Lg.hsec t.e) (Lg.hd t)) ∧ Below w.heap.size w w'

set_option maxRecDepth 20000 in
set_option maxHeartbeats 1000000 in
theorem puthead_any (P : Nat → Prop) (q g : Nat) (t : Lg.Top) (w : World) (h0 : 0 ≤ t.e) (h1 : t.h ≤ 1) :
    Calls Tryd.prog 32 #[.pointer (some ⟨q, 0, none⟩), HdV t] w (PhPost P q g t w) := by
  have hn := Blk.new w 63 (HdC t)
  have hb : Below w.heap.size w (w.alloc (.cells (HdC t) 63)) := (Below.refl _ _).alloc (Nat.le_refl _) _
  have hz : t.e % 2 = ((Lg.hsec t.e : Nat) : Int) := by unfold Lg.hsec; omega
  have HH := Lib.hid h1
  have HZ := Lib.hid hz
  clear h1 hz
  go_enter Tryd.func32, Tryd.ntmps32
  go_wp2_with fail
  generalize w.alloc (.cells (HdC t) 63) = w1 at *
  obtain ⟨⟨c0, c1, c2⟩, -⟩ := three hn
  have HB := Lib.hid (And.intro hn hb)
  clear hn hb
  have e0 := World.new_ne w1 ⟨w.heap.size, 0, none⟩ c0
  have e1 := World.new_ne w1 ⟨w.heap.size, 1, none⟩ c1
  have e2 := World.new_ne w1 ⟨w.heap.size, 2, none⟩ c2
  go_region_held3 (fun W => W.cell? ⟨w.heap.size, 0, none⟩ = some (.int .i64 t.e) ∧ W.cell? ⟨w.heap.size, 1, none⟩ = some (.int .i64 t.b) ∧ W.cell? ⟨w.heap.size, 2, none⟩ = some (.int .i64 (t.h : Int))) (first | assumption | exact ⟨c0, c1, c2⟩ | go_keep)
    (first
      | (go_at_call 56; refine (itoa_any t.h _ HH.out).mono ?_; rintro x w' ⟨rfl, rfl⟩))
  all_goals
    have hC := (Blk.new w1 45 (ChC t.e t.b true true (hafB t.h))).drew
    have hH := (HB.out.1.alloc (.cells (ChC t.e t.b true true (hafB t.h)) 45)).drew
    have hb2 : Below w.heap.size w (w1.alloc (.cells (ChC t.e t.b true true (hafB t.h)) 45)).drew := (HB.out.2.alloc HB.out.2.size _).drew
    have HSZ := HB.out.1.lt
    clear c0 c1 c2 e0 e1 e2 HB
    rename_i hheld
    clear hheld
    generalize (w1.alloc (.cells (ChC t.e t.b true true (hafB t.h)) 45)).drew = w2 at *
    obtain ⟨⟨c0, -, -⟩, -⟩ := three hH
    obtain ⟨d0, d1, d2, d3, d4⟩ := five hC
    have HB2 := Lib.hid (And.intro hb2 HSZ)
    obtain ⟨z, hz⟩ : ∃ z, z = Lg.hsec t.e := ⟨_, rfl⟩
    have hzz : t.e % 2 = (z : Int) := by rw [hz]; exact HZ.out
    have HZ2 := Lib.hid hz
    clear hC hH hb2 HSZ hz HZ
    go_wp2_with fail
    refine (putchunk_any q g z (Lg.hd t) (hafB t.h) (hafB_list t.h) w2 (fun k => w2.heap.size ≤ k ∧ k < w2.heap.size + 3) ⟨by omega, by omega⟩).mono ?_
    rintro x w3 ⟨v, rfl, h3, hb3, hs3⟩
    go_wp2_with fail
    go_ret
    refine ⟨v, rfl, ?_, HB2.out.1.trans (hb3.mono HB2.out.1.size)⟩
    rw [← HZ2.out]
    refine h3.up (Below.refl _ _) (fun j hj => .inr ⟨?_, ?_⟩)
    · have := HB2.out.1.size; omega
    · omega

end Go.Proofs.YtgahcbhdnplnoaaDoor
