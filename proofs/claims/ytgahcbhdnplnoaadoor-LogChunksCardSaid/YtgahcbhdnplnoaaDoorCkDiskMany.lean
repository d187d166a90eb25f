/- What the program's Calls comes to. -/
import Derived.Test.YtgahcbhdnplnoaaDoorCkDiskDsk
namespace Go.Proofs.YtgahcbhdnplnoaaDoor
open Go.RowKit

set_option maxHeartbeats 400000 in
theorem calls_any (B g : Nat) (st : Dk.St) (w : World) (h : Dsk w B g st) :
    Calls Tryd.prog 49 #[.pointer (some ⟨g, 0, none⟩)] w fun e w' => e = .returned (.int .i64 (st.many : Int)) ∧ w = w' := by
  obtain ⟨m, lv, tc, tf, n, h, -⟩ := h
  obtain ⟨-, -, -, c2, -⟩ := dk_cells h.blk
  clear h
  go_enter Tryd.func49, Tryd.ntmps49
  go_wp2_with fail
  go_ret
  exact ⟨rfl, rfl⟩

end Go.Proofs.YtgahcbhdnplnoaaDoor
