/- What the law's own code comes to. -/
import Derived.Test.YtgpijnfddjpmmaaPackText
namespace Go.Proofs.Ytgpijnfddjpmmaa
open Go.RowKit

theorem code_any (n : Int) (w : World) :
    Calls Try.prog 7 #[.int .i64 n] w fun e w' => e = .returned (.string ⟨(Pk.code (Pk.cl n)).toArray⟩) ∧ Below w.heap.size w w' := by
  have hc8 : (Pk.code (Pk.cl n)).length ≤ 1099511627776 := by have := Pk.code_len8 _ (Pk.cl_le n); omega
  have hnew := Wr.new w
  go_enter Try.func7, Try.ntmps7
  go_wp2_with (first
    | (go_at_call 15; refine (number_any w.heap.size n [] _ hnew (by simp)).mono ?_; rintro e w1 ⟨rfl, hW1, hg1⟩)
    | (go_at_call 16; refine (bytes_any w.heap.size _ _ hW1 hc8).mono ?_; rintro e w2 ⟨rfl, hb2⟩))
  go_ret
  refine ⟨rfl, ?_⟩
  have h1 : w.grownBy w1 none := gr_new (gr_alloc (gr_refl w none) _) hg1 (Nat.le_refl _)
  exact (gr_to_below h1).trans (hb2.mono h1.size)

end Go.Proofs.Ytgpijnfddjpmmaa
