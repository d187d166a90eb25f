/- number, the program's: what a word comes to. -/
import Derived.Test.YtcoehmmiplffgaaDoorTextRdy
import Derived.Test.YtcoehmmiplffgaaDoorTextParts
namespace Go.Proofs.YtcoehmmiplffgaaDoor
open Go.ChangeShapes Go.WideShapes Go.RowKit Go.Deep

/-- A word's number, and whether it has one. -/
def NumbPost (l : List UInt8) (w : World) (e : Ending) (w' : World) : Prop := (∃ n : Int, e = .returned (.tuple #[.int .i64 n, .bool (Tx.number l).isSome]) ∧ (∀ m, Tx.number l = some m → n = m)) ∧ Below w.heap.size w w'
theorem numbPost_no {l : List UInt8} {w w' : World} (h : Tx.number l = none) (hb : Below w.heap.size w w') : NumbPost l w (.returned (.tuple #[.int .i64 0, .bool false])) w' := ⟨⟨0, by rw [h]; rfl, fun m hm => by rw [h] at hm; cases hm⟩, hb⟩
theorem numbPost_ok {l : List UInt8} {w w' : World} {v : Int} (h : Tx.number l = some v) (hb : Below w.heap.size w w') : NumbPost l w (.returned (.tuple #[.int .i64 v, .bool true])) w' := ⟨⟨v, by rw [h]; rfl, fun m hm => by rw [h] at hm; injection hm⟩, hb⟩

set_option maxRecDepth 20000 in
set_option maxHeartbeats 2000000 in
theorem number_any (s : ByteArray) (w : World) (hs : s.size ≤ 1000000) (hw : Rdy w) :
    Calls Tryd.prog 65 #[.string s] w (NumbPost s.data.toList w) := by
  have hi := Tx.number_is s.data.toList
  by_cases hok : ∃ v, Lib.atoiAll s.data.toList = .ok v
  · obtain ⟨v, hv⟩ := hok
    rw [hv] at hi
    have HI := Lib.hid hi
    have HA := Lib.hid (atoi_ok s hs v hv w)
    have HW := Lib.hid hw
    clear hi hv hs hw
    go_enter Tryd.func65, Tryd.ntmps65
    go_wp2_with fail
    refine HA.out.mono ?_
    rintro e w1 ⟨rfl, hb1⟩
    have HB1 := Lib.hid hb1
    clear hb1
    have HF := Lib.hid (fun W => fits_any v W)
    cases hf : Tx.okN v with
    | false =>
      rw [hf] at HF
      have HN := Lib.hid (show Tx.number s.data.toList = none from HI.out.trans (if_neg (fun h => by
        have h2 : Tx.okN v = true := decide_eq_true ⟨h.1, h.2.1⟩
        rw [hf] at h2
        cases h2)))
      clear hf
      go_wp2_with (go_at_call 67; (with_reducible refine (HF.out _).mono ?_); rintro e w2 ⟨rfl, rfl⟩)
      go_ret2
      exact numbPost_no HN.out HB1.out
    | true =>
      have hf2 : 0 ≤ v ∧ v ≤ 2147483647 := of_decide_eq_true hf
      rw [hf] at HF
      obtain ⟨D, hD⟩ : ∃ D, D = Tx.mkB (Lib.decDigits v.toNat) := ⟨_, rfl⟩
      have hit := fun W (h : Rdy W) => itoa_any v W hf2.1 (by omega) h.pow
      rw [← hD] at hit
      have HIT := Lib.hid hit
      have hDl : D.data.toList = Lib.itoa v := by
        rw [hD, Tx.list_mkB]
        unfold Lib.itoa
        rw [if_neg (by omega)]
      have HV := Lib.hid hf2
      clear hf hit hD
      by_cases he : D = s
      · subst he
        have HN := Lib.hid (show Tx.number D.data.toList = some v from HI.out.trans (if_pos ⟨HV.out.1, HV.out.2, hDl.symm⟩))
        clear hDl
        go_wp2_with first
          | (go_at_call 67; (with_reducible refine (HF.out _).mono ?_); rintro e w2 ⟨rfl, rfl⟩)
          | (go_at_call 59; (with_reducible refine (HIT.out _ (HW.out.below HB1.out)).mono ?_); rintro e w2 ⟨rfl, hb2⟩; have HB2 := Lib.hid (HB1.out.trans (hb2.mono HB1.out.size)); clear hb2)
        go_ret2
        exact numbPost_ok HN.out HB2.out
      · have HN := Lib.hid (show Tx.number s.data.toList = none from HI.out.trans (if_neg (fun h => he (by
          have h2 := hDl.trans h.2.2
          rw [← Tx.mkB_list D, h2, Tx.mkB_list]))))
        have hne : (D.toList == s.toList) = false := by
          rw [beq_eq_false_iff_ne, ByteArray.toList_eq, ByteArray.toList_eq]
          intro h
          exact he (by rw [← Tx.mkB_list D, h, Tx.mkB_list])
        have hne2 : (D.toList != s.toList) = true := by rw [bne, hne]; rfl
        clear hDl he
        go_wp2_with first
          | (go_at_call 67; (with_reducible refine (HF.out _).mono ?_); rintro e w2 ⟨rfl, rfl⟩)
          | (go_at_call 59; (with_reducible refine (HIT.out _ (HW.out.below HB1.out)).mono ?_); rintro e w2 ⟨rfl, hb2⟩; have HB2 := Lib.hid (HB1.out.trans (hb2.mono HB1.out.size)); clear hb2)
        go_ret2
        exact numbPost_no HN.out HB2.out
  · have hno : ∀ v, Lib.atoiAll s.data.toList ≠ .ok v := fun v h => hok ⟨v, h⟩
    have HN := Lib.hid (show Tx.number s.data.toList = none from hi.trans (by
      cases hc : Lib.atoiAll s.data.toList with
      | ok v => exact absurd hc (hno v)
      | _ => rfl))
    have HA := Lib.hid (atoi_no s hs hno w hw)
    clear hi hok hno hs hw
    go_enter Tryd.func65, Tryd.ntmps65
    go_wp2_with fail
    refine HA.out.mono ?_
    rintro e w1 ⟨⟨n, N, rfl⟩, hb1⟩
    have HB1 := Lib.hid hb1
    clear hb1
    go_wp2_with fail
    go_ret2
    exact numbPost_no HN.out HB1.out
end Go.Proofs.YtcoehmmiplffgaaDoor
