/- What (*Writer).Text, the law's own code, and the document's Code and Texted come to. -/
import Derived.Test.YtimcepoleboldaaGreatDoorPackNumber
import Derived.Test.YtimcepoleboldaaGreatDoorPackAll
namespace Go.Proofs.YtimcepoleboldaaGreatDoor
open Go.RowKit

theorem text_any (bw : Nat) (s : ByteArray) (l : List UInt8) (w : World) (h : Wr w bw l) (hl : l.length ≤ 549755813888) (hs : s.size ≤ 549755813888) :
    Calls Tryz.prog 103 #[.pointer (some ⟨bw, 0, none⟩), .string s] w (NumberPost bw (l ++ Pk.texted s.data.toList) w) := by
  have hcl : Pk.cl (s.size : Int) = s.data.toList.length := by rw [Pk.cl_nat _ (by omega)]; simp
  have H1 := number_any bw (s.size : Int) l w h (by omega)
  rw [hcl] at H1
  have hc := Pk.code_len8 s.data.toList.length (by simp; omega)
  have hadd : l ++ Pk.texted s.data.toList = (l ++ Pk.code s.data.toList.length) ++ s.data.toList := by simp [Pk.texted]
  rw [hadd]
  have hl1 : (l ++ Pk.code s.data.toList.length).length ≤ 1099511627776 := by rw [List.length_append]; omega
  generalize l ++ Pk.code s.data.toList.length = l1 at H1 hl1 ⊢
  have hs1 : s.size ≤ 1099511627776 := by omega
  clear hcl hc hadd
  have H2 := Lib.hid H1; clear H1
  go_enter Tryz.func103, Tryz.ntmps103
  go_wp2_with (first
    | (go_at_call 102; refine H2.out.mono ?_; rintro e w1 ⟨rfl, hW1, hg1⟩)
    | (go_at_call 123; refine (put_any bw s l1 _ (by assumption) hl1 hs1).mono ?_; rintro e w2 ⟨rfl, hW2, hg2⟩))
  go_end0
  exact ⟨rfl, hW2, gr_trans hg1 hg2⟩

end Go.Proofs.YtimcepoleboldaaGreatDoor
