/- The walk of DiskScript: true of any steps. -/
import Derived.Test.YtfflopmbbmpeoaaDiskStepAll
namespace Go.Proofs.Ytfflopmbbmpeoaa
open Go.RowKit

namespace Dk
def St.runs (st : St) (l : List Sp) : St := l.foldl St.step st
theorem runs_up (st : St) {l : List Sp} {k : Nat} {x : Sp} (h : l[k]? = some x) : st.runs (l.take (k + 1)) = (st.runs (l.take k)).step x := by
  unfold St.runs
  rw [take_one h, List.foldl_append]
  rfl
theorem runs_many (st : St) (l : List Sp) : (st.runs l).many ≤ st.many + l.length := by
  induction l generalizing st with
  | nil => exact Nat.le_refl _
  | cons x l ih =>
    have h1 := ih (st.step x)
    have h2 := many_step st x
    show ((st.step x).runs l).many ≤ st.many + (l.length + 1)
    omega
theorem runs_few (st : St) {l : List Sp} (hl : l.length ≤ 200) (hs : st.many ≤ 1000) (k : Nat) : (st.runs (l.take k)).many ≤ 1000000 := by
  have h1 := runs_many st (l.take k)
  have h2 : (l.take k).length ≤ l.length := by rw [List.length_take]; omega
  omega
theorem Alike.runs {a b : St} (h : Alike a b) (l : List Sp) : Alike (a.runs l) (b.runs l) := by
  induction l generalizing a b with
  | nil => exact h
  | cons x l ih => exact ih (h.step x)
end Dk

/-- What a loop of steps knows. -/
def ScriptLoop (w0 : World) (gd gr : Nat) (sd sr : Dk.St) (l : List Sp) (v : Value) (wr : World) : Prop :=
  ∃ k : Nat, k ≤ l.length ∧ v = .int .i64 (k : Int) ∧ Two w0 gd gr (sd.runs (l.take k)) (sr.runs (l.take k)) wr

set_option maxRecDepth 20000 in
set_option maxHeartbeats 800000 in
theorem script_walk (A : Option Addr) (cap : Nat) (l : List Sp) (w : World) (h : Steps w w.heap.size A l) :
    Calls Try.prog 5 #[.slice A l.length cap] w fun e w' => e = .returned (.bool true) ∧ Below w.heap.size w w' := by
  have HH := Lib.hid (heavy_any A cap w.heap.size l w h)
  have HI := Lib.hid h; clear h
  cases hv : heavyB l with
  | true =>
    have HV := Lib.hid hv; clear hv
    go_enter Try.func5, Try.ntmps5
    go_wp2_with fail
    refine HH.out.mono ?_
    rintro e w1 ⟨rfl, rfl⟩
    rw [HV.out]
    go_wp2_with fail
    go_ret
    exact ⟨rfl, Below.refl _ _⟩
  | false =>
    have HV := Lib.hid hv
    have hl := light_small hv
    have HN := Lib.hid (one_new w)
    clear hv
    go_enter Try.func5, Try.ntmps5
    go_wp2_with fail
    refine HH.out.mono ?_
    rintro e w1 ⟨rfl, rfl⟩
    rw [HV.out]
    clear HH
    go_wp2_with fail
    refine HN.out.mono ?_
    rintro e w1 ⟨rfl, h1⟩
    go_wp2_with fail
    refine (two_new h1).mono ?_
    rintro e w2 ⟨rfl, h2⟩
    generalize w.heap.size + 1 = gd at *
    generalize w1.heap.size + 1 = gr at *
    clear h1 HN
    go_wp2_with fail
    go_loopw [5] (ScriptLoop w gd gr Dk.St.new Dk.St.new l) (fun v _ => l.length - (intOf v).toNat)
    case atStart => exact ⟨0, Nat.zero_le _, rfl, h2⟩
    case round =>
      obtain ⟨k, hk, rfl, hT⟩ := hrel
      clear h2
      by_cases hlt : k < l.length
      · obtain ⟨x, hit⟩ : ∃ x, l[k]? = some x := ⟨_, List.getElem?_eq_getElem hlt⟩
        obtain ⟨hwf, bl, off, rfl, hb, c0, c1, c2, c3⟩ := (HI.out.below hT.below) k x hit
        have hup := Lib.hid (Dk.runs_up Dk.St.new hit)
        have hmany := Lib.hid (Dk.runs_few Dk.St.new hl (by decide) k)
        clear hit
        go_wp2_with fail
        refine (step_any _ _ _ _ _ _ x hT (Dk.Alike.refl _) hwf hmany.out).mono ?_
        rintro e w3 ⟨rfl, h3⟩
        rw [← hup.out] at h3
        clear c0 c1 c2 c3 hT
        go_wp2_with fail
        go_roundw
        case rel => exact ⟨k + 1, by omega, by go_num, h3⟩
        case measure => simp [intOf]; omega
      · go_wp2_with fail
        refine (two_power hT).mono ?_
        rintro e w3 ⟨rfl, h3⟩
        clear hT
        go_wp2_with fail
        refine (two_rpower h3).mono ?_
        rintro e w4 ⟨rfl, h4⟩
        clear h3
        go_wp2_with fail
        refine (alike_any _ _ _ _ _ _ h4 (Dk.Alike.refl _)).mono ?_
        rintro e w5 ⟨rfl, rfl⟩
        go_wp2_with fail
        go_ret
        exact ⟨rfl, h4.below⟩

end Go.Proofs.Ytfflopmbbmpeoaa
