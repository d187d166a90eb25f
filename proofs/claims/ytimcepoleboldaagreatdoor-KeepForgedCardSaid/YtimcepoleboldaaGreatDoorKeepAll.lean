/- All of the document, with whose memory its row is. -/
import Derived.Test.YtimcepoleboldaaGreatDoorKeepRecs
namespace Go.Proofs.YtimcepoleboldaaGreatDoor
open Go.RowKit Go.Deep

/-- A row of entries that is new since base; or none. -/
def Solid (w : World) (base : Nat) (v : Value) (m : Kp.Mp) : Prop := Ents w v m ∧ (m = [] ∨ RowE w base v m)
theorem Solid.kept {K : Keep} {T : Obj → Bool} {B base : Nat} {w w' : World} {v : Value} {m : Kp.Mp} (h : Solid w base v m) (hc : @Ch K T B w w') (hT : ∀ cs, T (.cells cs 65 (0, 0)) = false) : Solid w' base v m := by
  obtain ⟨h1, rfl | h2⟩ := h
  · obtain ⟨A, cap, rfl, _⟩ := h1
    exact ⟨⟨A, cap, rfl, fun j e hj => by simp at hj⟩, .inl rfl⟩
  · have h3 : RowE w' base v m := owns_ch h2 hc hT
    exact ⟨h3.ents, .inr h3⟩
theorem Solid.below {base : Nat} {w w' : World} {v : Value} {m : Kp.Mp} (h : Solid w base v m) (hb : Below w.heap.size w w') : Solid w' base v m :=
  h.kept (T := fun _ => false) (Ch.of_below (K := noKeep) (B := 0) hb) (fun _ => rfl)
theorem Solid.lower {w : World} {b b' : Nat} {v : Value} {m : Kp.Mp} (h : Solid w b v m) (hb : b' ≤ b) : Solid w b' v m :=
  ⟨h.1, h.2.imp id fun h => ⟨h.1, h.2.imp id fun ⟨g, cap, cur, e, h1, rest⟩ => ⟨g, cap, cur, e, Nat.le_trans hb h1, rest⟩⟩⟩

def SAllPost (base : Nat) (m : Kp.Mp) (l : List Kp.Rc) (w : World) (e : Ending) (w' : World) : Prop := ∃ v, e = .returned v ∧ Solid w' base v (Kp.all m l) ∧ Below w.heap.size w w'

set_option maxRecDepth 20000 in
set_option maxHeartbeats 800000 in
theorem sall_any (va vl : Value) (base : Nat) (m : Kp.Mp) (l : List Kp.Rc) (w : World) (ha : Solid w base va m) (hb0 : base ≤ w.heap.size) (hl : Recs w vl l) (hu : Kp.Up m) (hm : m.length + l.length ≤ 1000000) :
    Calls Tryz.prog 25 #[va, vl] w (SAllPost base m l w) := by
  obtain ⟨A, ca, rfl, hA⟩ := hl
  have HA := Lib.hid hA
  have HE := Lib.hid ha
  have HU := Lib.hid hu
  have HB0 := Lib.hid hb0
  have hm1 : (l.length : Int) ≤ 1000000 := by omega
  clear hA ha hu hb0
  go_enter Tryz.func25, Tryz.ntmps25
  go_wp2_with fail
  go_loopw [0, 5] (fun v i wr => ∃ k : Nat, k ≤ l.length ∧ i = .int .i64 (k : Int) ∧ Solid wr base v (Kp.all m (l.take k)) ∧ Below w.heap.size w wr) (fun _ i _ => l.length - (intOf i).toNat)
  case atStart => exact ⟨0, Nat.zero_le _, rfl, HE.out, Below.refl _ _⟩
  case round =>
    obtain ⟨k, hk, rfl, hv, hb⟩ := hrel
    by_cases hlt : k < l.length
    · obtain ⟨x, hx⟩ : ∃ x, l[k]? = some x := ⟨_, List.getElem?_eq_getElem hlt⟩
      obtain ⟨-, b1, o1, rfl, l1, c0, c1, c2⟩ := HA.out k x hx
      have d0 := (hb.cell (p := ⟨b1, o1 + k * 3, none⟩) l1).trans c0
      have d1 := (hb.cell (p := ⟨b1, o1 + k * 3 + 1, none⟩) l1).trans c1
      have d2 := (hb.cell (p := ⟨b1, o1 + k * 3 + 2, none⟩) l1).trans c2
      have hki : (k : Int) < (l.length : Int) := by omega
      have HX := Lib.hid (all_up (m := m) hx)
      have HB := Lib.hid hb
      have HV := Lib.hid hv
      have HN : (Kp.all m (l.take k)).length ≤ 1000000 := by
        have h1 := Kp.length_all_le (l.take k) m
        rw [List.length_take] at h1
        omega
      have HN := Lib.hid HN
      clear c0 c1 c2 hb hv hx
      go_wp2_with fail
      refine (etaken_any _ (Kp.all m (l.take k)) x _ HV.out.1 HN.out).mono ?_
      rintro e w2 ⟨v2, rfl, hr, hb2⟩
      rw [Kp.goTaken_is (Kp.up_all _ HU.out), ← HX.out] at hr
      have HR := Lib.hid (Solid.lower (show Solid w2 _ v2 _ from ⟨hr.ents, .inr hr⟩) (Nat.le_trans HB0.out HB.out.size))
      have HB2 := Lib.hid (HB.out.trans (hb2.mono HB.out.size))
      clear hr hb2 d0 d1 d2
      go_wp2_with fail
      go_roundw
      case rel => exact ⟨k + 1, by omega, by go_num, HR.out, HB2.out⟩
      case measure => simp [intOf]; omega
    · have he : l.take k = l := List.take_of_length_le (by omega)
      rw [he] at hv
      have HV := Lib.hid hv
      have HB := Lib.hid hb
      clear hv hb he
      go_wp2_with fail
      go_ret
      exact ⟨_, rfl, HV.out, HB.out⟩
end Go.Proofs.YtimcepoleboldaaGreatDoor
