/- What crcBytes comes to: the four bytes of the check sum, the lowest first. -/
import Derived.Test.YtimcepoleboldaaGreatDoorMem
import Derived.Test.YtimcepoleboldaaGreatDoorChunkPlain
import Derived.Test.YtimcepoleboldaaGreatDoorSumCrc
import Derived.Test.YtimcepoleboldaaGreatDoorPackBytes
import Derived.LoopTactic
import Derived.LoopN
import Derived.Outline
import Derived.Laws.BitsAllLaws
namespace Go.Proofs.YtimcepoleboldaaGreatDoor
open Go.RowKit

/-- The string of four bytes in an array. -/
theorem four_back (w : World) (k : Nat) (hk : k < 4294967296) :
    (convert 37 9 (.slice (some ⟨w.heap.size, 0, none⟩) 4 4)).run Tryz.prog (w.alloc (.cells #[.int .u8 ((k : Int) % 256), .int .u8 ((k : Int) / 256 % 256), .int .u8 ((k : Int) / 65536 % 256), .int .u8 ((k : Int) / 16777216)] 200)) =
      .ok (.string ⟨(Cn.le4 k).toArray⟩) (w.alloc (.cells #[.int .u8 ((k : Int) % 256), .int .u8 ((k : Int) / 256 % 256), .int .u8 ((k : Int) / 65536 % 256), .int .u8 ((k : Int) / 16777216)] 200)) := by
  have hb := Blk.new w 200 #[.int .u8 ((k : Int) % 256), .int .u8 ((k : Int) / 256 % 256), .int .u8 ((k : Int) / 65536 % 256), .int .u8 ((k : Int) / 16777216)]
  generalize w.alloc (.cells #[.int .u8 ((k : Int) % 256), .int .u8 ((k : Int) / 256 % 256), .int .u8 ((k : Int) / 65536 % 256), .int .u8 ((k : Int) / 16777216)] 200) = w1 at hb ⊢
  refine run_convert_bytes_back (P := Tryz.prog) w1 37 9 5 ⟨w.heap.size, 0, none⟩ 4 (Cn.le4 k) Tryz.underlying37 Tryz.underlying5 Tryz.underlying9 (fun j hj => ?_)
  have hadd : (⟨w.heap.size, 0, none⟩ : Addr).add j = ⟨w.heap.size, j, none⟩ := by unfold Addr.add; split <;> simp_all
  rw [hadd, hb.cell j]
  have hj' : j < 4 := hj
  have e : ∀ m : Nat, m < 256 → (UInt8.ofNat m).toNat = m := fun m hm => by rw [UInt8.toNat_ofNat']; omega
  rcases (show j = 0 ∨ j = 1 ∨ j = 2 ∨ j = 3 by omega) with rfl | rfl | rfl | rfl
  · show some (Value.int .u8 ((k : Int) % 256)) = some (Value.int .u8 (((UInt8.ofNat (k % 256)).toNat : Nat) : Int))
    rw [e _ (by omega)]; rfl
  · show some (Value.int .u8 ((k : Int) / 256 % 256)) = some (Value.int .u8 (((UInt8.ofNat (k / 256 % 256)).toNat : Nat) : Int))
    rw [e _ (by omega)]; rfl
  · show some (Value.int .u8 ((k : Int) / 65536 % 256)) = some (Value.int .u8 (((UInt8.ofNat (k / 65536 % 256)).toNat : Nat) : Int))
    rw [e _ (by omega)]; rfl
  · show some (Value.int .u8 ((k : Int) / 16777216)) = some (Value.int .u8 (((UInt8.ofNat (k / 16777216 % 256)).toNat : Nat) : Int))
    rw [e _ (by omega)]
    congr 2
    omega

set_option maxHeartbeats 400000 in
theorem crcBytes_any (s : ByteArray) (w : World) (hs : s.size ≤ maxLen) :
    Calls Tryz.prog 139 #[.string s] w fun e w' => e = .returned (.string ⟨(Cn.le4 (Plain.crc s.data.toList)).toArray⟩) ∧ Below w.heap.size w w' := by
  have hk := Plain.crc_lt s.data.toList
  have HC := Lib.hid (crc_any s (w.alloc (.cells #[.int .u8 0, .int .u8 0, .int .u8 0, .int .u8 0] 200)) hs)
  generalize Plain.crc s.data.toList = k at *
  have hcv := four_back w k hk
  go_enter Tryz.func139, Tryz.ntmps139
  go_wp2_with (go_at_call 147; refine HC.out.mono ?_; rintro e w' ⟨rfl, rfl⟩)
  refine wp_loop_rounds 5 ?_
  rw [rounds_succ]
  go_wp2_with fail
  rw [rounds_succ]
  go_wp2_with fail
  rw [rounds_succ]
  go_wp2_with fail
  rw [rounds_succ]
  go_wp2_with fail
  rw [rounds_succ]
  go_wp2_with fail
  go_ret
  exact ⟨rfl, (Below.refl _ _).alloc (Nat.le_refl _) _⟩

end Go.Proofs.YtimcepoleboldaaGreatDoor
