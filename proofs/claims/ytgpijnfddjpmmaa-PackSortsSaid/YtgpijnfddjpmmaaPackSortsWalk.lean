/- The walk of PackSorts: true of any two numbers. -/
import Derived.Test.YtgpijnfddjpmmaaPackCode
import Derived.Test.YtgpijnfddjpmmaaPackRefs
namespace Go.Proofs.Ytgpijnfddjpmmaa
open Go.RowKit

set_option maxRecDepth 20000 in
set_option maxHeartbeats 400000 in
theorem sorts_walk (a b : Int) (w : World) :
    Calls Try.prog 3 #[.int .i64 a, .int .i64 b] w fun e w' => e = .returned (.bool true) ∧ Below w.heap.size w w' := by
  have ca := code_any a
  have cb := code_any b
  have ra := code_ref a
  have rb := code_ref b
  have la := Pk.code_len8 _ (Pk.cl_le a)
  have lb := Pk.code_len8 _ (Pk.cl_le b)
  have pa := Pk.code_pos (Pk.cl a)
  have pb := Pk.code_pos (Pk.cl b)
  have va := Pk.cl_cast a
  have vb := Pk.cl_cast b
  have HE := Lib.hid (Pk.code_same _ _ (Pk.cl_le a) (Pk.cl_le b))
  generalize hA : Pk.cl a = A at *
  generalize hB : Pk.cl b = B at *
  have CA := Lib.hid ca; have CB := Lib.hid cb; have RA := Lib.hid ra; have RB := Lib.hid rb
  clear hA hB ca cb ra rb
  have va' := va.symm; have vb' := vb.symm
  clear va vb
  go_enter Try.func3, Try.ntmps3
  go_wp2_with fail
  refine (CA.out _).mono ?_
  rintro e w1 ⟨rfl, hb1⟩
  go_wp2_with fail
  refine (CB.out _).mono ?_
  rintro e w2 ⟨rfl, hb2⟩
  go_wp2_with fail
  refine (RA.out _).mono ?_
  rintro e w3 ⟨rfl, hb3⟩
  go_wp2_with fail
  refine (RB.out _).mono ?_
  rintro e w4 ⟨rfl, hb4⟩
  have hall : Below w.heap.size w w4 := ((hb1.trans (hb2.mono hb1.size)).trans (hb3.mono (hb1.trans (hb2.mono hb1.size)).size)).trans (hb4.mono ((hb1.trans (hb2.mono hb1.size)).trans (hb3.mono (hb1.trans (hb2.mono hb1.size)).size)).size)
  clear hb1 hb2 hb3 hb4
  go_wp2_with fail
  all_goals first
    | exact absurd (Pk.code_sorts A B (by assumption)) (Nat.not_le_of_lt (by assumption))
    | exact absurd HE.out (by assumption)
    | (go_ret; exact ⟨congrArg (fun x => Ending.returned (Value.bool x)) (Pk.code_one_b A), hall⟩)

end Go.Proofs.Ytgpijnfddjpmmaa
