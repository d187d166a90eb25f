/- What Append comes to, the program's. -/
import Derived.Test.YtgahcbhdnplnoaaDoorCkLogPutWalk
namespace Go.Proofs.YtgahcbhdnplnoaaDoor
open Go.RowKit

/-! ### Append -/
def AppendPost (B q g : Nat) (lo : Lg.Lo) (st : Dk.St) (R : List ByteArray) (w : World) (e : Ending) (w' : World) : Prop :=
  e = .returned (.int .i64 (Lg.appendR lo st (bls R)).1) ∧ Dsk w' B g (Lg.appendR lo st (bls R)).2.1 ∧ Lgw w' B q g (Lg.appendR lo st (bls R)).2.2 ∧ Ch Tl B w w'

theorem Dsk.below {w w' : World} {B g : Nat} {st : Dk.St} (h : Dsk w B g st) (hb : Below w.heap.size w w') : Dsk w' B g st := h.kept (T := fun _ => false) (B' := 0) (Ch.of_below hb) (fun _ => rfl) (fun _ _ => rfl) (fun _ => rfl)
theorem Lgw.below {w w' : World} {B q g : Nat} {lo : Lg.Lo} (h : Lgw w B q g lo) (hb : Below w.heap.size w w') : Lgw w' B q g lo := h.kept (T := fun _ => false) (B' := 0) (Ch.of_below hb) (fun _ => rfl)

theorem append_end {P : Nat → Prop} {B q g : Nat} {lo : Lg.Lo} {st : Dk.St} {R : List ByteArray} {w w' : World} {e : Ending} (hd : Dsk w B g st) (hl : Lgw w B q g lo) (h : LputPost P B q g lo st lo.t lo.next R [] w e w') : AppendPost B q g lo st R w e w' := by
  have hn := hl.2.2.2.2.2.2
  have he := hl.2.2.2.2.1
  have hm : manyB R = Lg.many (bls R) := rfl
  unfold AppendPost Lg.appendR
  rcases h with ⟨hw, rfl, hb⟩ | ⟨hw, hc, rfl, hb⟩ | ⟨hw, hf, ht, rfl, hd', hl', hc⟩
  · rw [if_pos hw]
    exact ⟨rfl, hd.below hb, hl.below hb, Ch.of_below hb⟩
  · rw [if_neg (fun h => h hw), if_pos (by omega)]
    exact ⟨rfl, hd.below hb, hl.below hb, Ch.of_below hb⟩
  · rw [if_neg (fun h => h hw), if_neg (by omega)]
    have e1 : clR st (putAll lo.t lo.next R []) = Lg.wrb st (Lg.puts lo.t.h (Lg.cksAll lo.t.e lo.next (bls R))) := by
      unfold putAll
      rw [List.append_nil, clR_wrb]
    rw [e1] at hd' hl' ⊢
    refine ⟨rfl, hd'.dsk, ?_, hc⟩
    by_cases h0 : (Lg.wrb st (Lg.puts lo.t.h (Lg.cksAll lo.t.e lo.next (bls R)))).1 = 0
    · rw [if_pos h0] at hl'
      show Lgw w' B q g (if _ then _ else _)
      rw [if_pos h0]
      have e2 : ({ lo with next := lo.next + Lg.many (bls R) } : Lg.Lo) = ⟨lo.t, lo.next + manyB R, 0⟩ := by
        cases lo
        simp only at hw
        subst hw
        rfl
      rw [e2]
      exact hl'
    · rw [if_neg h0] at hl'
      show Lgw w' B q g (if _ then _ else _)
      rw [if_neg h0]
      exact hl'

theorem no_calls (P : Nat → Prop) (w : World) (q g : Nat) : ClRow P w w.heap.size q g (.slice none 0 0) [] := ⟨[], World.ownsRow_nil _ _ _ _, rfl, fun j u k hj => by cases hj⟩

set_option maxRecDepth 20000 in
set_option maxHeartbeats 1000000 in
theorem append_any (B q g : Nat) (lo : Lg.Lo) (st : Dk.St) (v : Value) (R : List ByteArray) (w : World) (h : Dsk w B g st) (hl : Lgw w B q g lo) (hr : Strs w v R) (hs : size R ≤ 1048576) (hm : st.many ≤ 1000000) :
    Calls Tryd.prog 12 #[.pointer (some ⟨q, 0, none⟩), v] w (AppendPost B q g lo st R w) := by
  have hg := hl.2.2
  have hd1 : Dsk w.drew B g st := h.below (Below.refl _ _).drew
  have hl1 : Lgw w.drew B q g lo := hl.below (Below.refl _ _).drew
  have HP := Lib.hid ((lput_any (fun _ => False) B q g lo st lo.t lo.next v R w.heap.size (.slice none 0 0) [] w.drew hd1.free hm hl1 ⟨hg.1, hg.2.1, hg.2.2.2.1⟩ hg.2.2.2.2 (hr.below (Below.refl _ _).drew) hs (no_calls _ w q g) (by decide) (fun _ k hk => by cases hk)).mono (fun _ _ h => append_end hd1 hl1 h))
  obtain ⟨⟨-, c1, c2, c3, c4, -⟩, -⟩ := six hl.1
  clear h hl hr hg hs hm hd1 hl1
  go_enter Tryd.func12, Tryd.ntmps12
  go_wp2_with fail
  go_region_with (go_at_call 33; refine HP.out.mono ?_; rintro e w2 ⟨rfl, hd2, hl2, hc2⟩)
  all_goals
    go_wp2_with fail
    go_ret
    exact ⟨rfl, hd2, hl2, (Ch.refl _ _ _).drew.trans hc2⟩

end Go.Proofs.YtgahcbhdnplnoaaDoor
