/- The walk of IrNames: true of any text. -/
import Derived.Test.YtkkbmfgkapdndaaIrRefNames
namespace Go.Proofs.Ytkkbmfgkapdndaa
open Go.ChangeShapes Go.WideShapes Go.RowKit Go.Deep

theorem nm_a : Ir.nm ⟨#[97]⟩ = true := by decide +kernel
theorem nm_none : Ir.nm ⟨#[]⟩ = false := by decide +kernel

set_option maxRecDepth 20000 in
set_option maxHeartbeats 800000 in
theorem names_walk (s : ByteArray) (w : World) :
    Calls Try.prog 3 #[.string s] w fun e w' => e = .returned (.bool true) ∧ Below w.heap.size w w' := by
  have h1 := nm_a
  have h2 := nm_none
  by_cases hn : 1024 < s.size
  · have hn' : (1024 : Int) < (s.size : Int) := by omega
    go_enter Try.func3, Try.ntmps3
    go_wp2_with fail
    go_ret
    exact ⟨rfl, Below.refl _ _⟩
  · have hn' : (s.size : Int) ≤ 1024 := by omega
    go_enter Try.func3, Try.ntmps3
    have hself : (Ir.nm s == Ir.nm s) = true := beq_self_eq_true _
    have HX := Lib.hid (fun W : World => name_any s W)
    have HY := Lib.hid (fun W : World => rname_any s W)
    generalize Ir.nm s = C at *
    go_wp2_with (first
      | (go_at_call 4; (with_reducible refine (HX.out _).mono ?_); rintro e w2 ⟨rfl, rfl⟩)
      | (go_at_call 5; (with_reducible refine (HY.out _).mono ?_); rintro e w2 ⟨rfl, rfl⟩)
      | (go_at_call 4; (with_reducible refine (name_any ⟨#[97]⟩ w).mono ?_); rw [h1]; rintro e w2 ⟨rfl, rfl⟩)
      | (go_at_call 4; (with_reducible refine (name_any ⟨#[]⟩ w).mono ?_); rw [h2]; rintro e w2 ⟨rfl, rfl⟩))
    go_ret
    exact ⟨rfl, Below.refl _ _⟩
end Go.Proofs.Ytkkbmfgkapdndaa
