/- slices.Reverse at []int, on a row of one's own. -/
import Derived.Test.YtamadegodenobaaDoorIrRow
import Derived.Test.YtamadegodenobaaDoorQuiets
import Derived.RegionTactic
import Derived.IntWalk
namespace Go.Proofs.YtamadegodenobaaDoor
open Go.ChangeShapes Go.WideShapes Go.RowKit Go.Deep

def ridx (q n x : Nat) : Nat := if x < q ∨ n - q ≤ x then n - 1 - x else x
/-- The first q and the last q have changed places. -/
def RevAt (l : List Int) (q : Nat) (cs : Array Value) : Prop := ∀ x, x < l.length → cs[x]? = some (.int .i64 (l.getD (ridx q l.length x) 0))
theorem rev_step {l : List Int} {q j : Nat} {cs : Array Value} (h : RevAt l q cs) (hq : 2 * q + 1 < l.length) (hj : j = l.length - 1 - q) :
    RevAt l (q + 1) ((cs.setIfInBounds q (.int .i64 (l.getD j 0))).setIfInBounds j (.int .i64 (l.getD q 0))) := fun x hx => by
  have hxs : ∀ y, y < l.length → y < cs.size := fun y hy => (Array.getElem?_eq_some_iff.1 (h y hy)).1
  by_cases h1 : x = j
  · subst h1
    rw [Array.getElem?_setIfInBounds_self_of_lt (by rw [Array.size_setIfInBounds]; exact hxs _ hx)]
    have : ridx (q + 1) l.length x = q := by unfold ridx; rw [if_pos (by omega)]; omega
    rw [this]
  · rw [Array.getElem?_setIfInBounds_ne (fun e => h1 e.symm)]
    by_cases h2 : x = q
    · subst h2
      rw [Array.getElem?_setIfInBounds_self_of_lt (hxs _ hx)]
      have : ridx (x + 1) l.length x = j := by unfold ridx; rw [if_pos (by omega)]; omega
      rw [this]
    · rw [Array.getElem?_setIfInBounds_ne (fun e => h2 e.symm), h x hx]
      have : ridx (q + 1) l.length x = ridx q l.length x := by
        unfold ridx
        by_cases h3 : x < q ∨ l.length - q ≤ x
        · rw [if_pos h3, if_pos (by omega)]
        · rw [if_neg h3, if_neg (by omega)]
      rw [this]
theorem rev_end {l : List Int} {q : Nat} {cs : Array Value} (h : RevAt l q cs) (h1 : 2 * q ≤ l.length) (h2 : l.length ≤ 2 * q + 1) (x : Nat) (n : Int) (hx : l.reverse[x]? = some n) : cs[x]? = some (.int .i64 n) := by
  have hl := (List.getElem?_eq_some_iff.1 hx).1
  rw [List.length_reverse] at hl
  rw [h x hl]
  rw [List.getElem?_reverse hl] at hx
  have : ridx q l.length x = l.length - 1 - x := by
    unfold ridx
    by_cases h3 : x < q ∨ l.length - q ≤ x
    · rw [if_pos h3]
    · rw [if_neg h3]; omega
  rw [this, List.getD_eq_getElem?_getD, hx]
  rfl

set_option maxRecDepth 20000 in
set_option maxHeartbeats 1600000 in
theorem reverse_any (g cap : Nat) (l : List Int) (W : World) (cs : Array Value) (hb : Blk W g 3 cs) (hat : RevAt l 0 cs) (hl : l.length ≤ 1000001) :
    Calls Tryd.prog 21 #[.slice (some ⟨g, 0, none⟩) l.length cap] W fun e W' => e = .returned (.tuple #[]) ∧ ∃ cs', Blk W' g 3 cs' ∧ cs'.size = cs.size ∧ (∀ (x : Nat) (n : Int), l.reverse[x]? = some n → cs'[x]? = some (Value.int .i64 n)) ∧ W.grownBy W' (some g) := by
  have HB := Lib.hid hb
  have HA := Lib.hid hat
  have hli : (l.length : Int) ≤ 1000001 := by omega
  have hl0 : (0 : Int) ≤ (l.length : Int) := by omega
  clear hb hat hl
  go_enter Tryd.func21, Tryd.ntmps21
  go_wp2_with fail
  go_loopw [2, 3] (fun i j wr => ∃ q : Nat, 2 * q ≤ l.length ∧ i = .int .i64 (q : Int) ∧ j = .int .i64 ((l.length : Int) - 1 - (q : Int)) ∧ ∃ cs', Blk wr g 3 cs' ∧ cs'.size = cs.size ∧ RevAt l q cs' ∧ W.grownBy wr (some g)) (fun i _ _ => l.length - (intOf i).toNat)
  case atStart => exact ⟨0, by omega, rfl, by go_num, cs, HB.out, rfl, HA.out, gr_refl _ _⟩
  case round =>
    obtain ⟨q, hq, rfl, rfl, cs', hb, hz, hr, hg⟩ := hrel
    have HBR := Lib.hid hb
    have HR := Lib.hid hr
    have HG := Lib.hid (And.intro hz hg)
    clear hb hr hz hg
    by_cases hlt : 2 * q + 1 < l.length
    · obtain ⟨j, hj⟩ : ∃ j : Nat, j = l.length - 1 - q := ⟨_, rfl⟩
      have hji : (l.length : Int) - 1 - (q : Int) = (j : Int) := by omega
      rw [hji]
      have hqj : (q : Int) < (j : Int) := by omega
      have hjl : (j : Int) < (l.length : Int) := by omega
      have hql : (q : Int) < (l.length : Int) := by omega
      have hne : ¬ q = j := by omega
      have hne2 : ¬ j = q := by omega
      have y0 : wr.cell? ⟨g, q, none⟩ = some (.int .i64 (l.getD q 0)) := (HBR.out.cell q).trans (by
        have := HR.out q (by omega)
        rw [show ridx q l.length q = q by unfold ridx; rw [if_neg (by omega)]] at this
        exact this)
      have y1 : wr.cell? ⟨g, j, none⟩ = some (.int .i64 (l.getD j 0)) := (HBR.out.cell j).trans (by
        have := HR.out j (by omega)
        rw [show ridx q l.length j = j by unfold ridx; rw [if_neg (by omega)]] at this
        exact this)
      have z0 := HBR.out.frozen q
      have z1 := HBR.out.frozen j
      have HS := Lib.hid (rev_step HR.out hlt hj)
      have HJ := Lib.hid hj
      clear hlt hj
      generalize l.getD q 0 = vq at *
      generalize l.getD j 0 = vj at *
      go_wp2_with fail
      go_region
      have hsl := HBR.out.set q (.int .i64 vj)
      have HB2 := Lib.hid (hsl.set j (.int .i64 vq)).drew
      have HG2 := Lib.hid (gr_drew (gr_set (gr_set HG.out.2 q (.int .i64 vj)) j (.int .i64 vq)))
      clear y0 y1 z0 z1 hsl
      generalize ((wr.setCell ⟨g, q, none⟩ (.int .i64 vj)).setCell ⟨g, j, none⟩ (.int .i64 vq)).drew = w9 at *
      have h2q : 2 * q + 1 < l.length := by have := HJ.out; omega
      have hj1 : (j : Int) - 1 = (l.length : Int) - 1 - ((q + 1 : Nat) : Int) := by omega
      go_wp2_with fail
      go_roundw
      case rel => exact ⟨q + 1, by omega, by go_num, by first | (congr 1; omega) | (go_num; congr 1; omega) | (rw [← hj1]; go_num), _, HB2.out, by rw [Array.size_setIfInBounds, Array.size_setIfInBounds]; exact HG.out.1, HS.out, HG2.out⟩
      case measure => simp [intOf]; omega
    · have hge : (l.length : Int) - 1 - (q : Int) ≤ (q : Int) := by omega
      have HE := Lib.hid (fun x n hx => rev_end HR.out hq (by omega) x n hx)
      clear hlt hq
      go_wp2_with fail
      go_end0
      exact ⟨rfl, cs', HBR.out, HG.out.1, HE.out, HG.out.2⟩
end Go.Proofs.YtamadegodenobaaDoor
