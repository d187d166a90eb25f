/- What the small calls of a table come to: size, newTable, clone, get, known. -/
import Derived.Test.YtimcepoleboldaaGreatDoorKeepTab
import Derived.Test.YtimcepoleboldaaGreatDoorSumMix
import Derived.Shelf.SlMaps.Clone
namespace Go.Proofs.YtimcepoleboldaaGreatDoor
open Go.RowKit Go.Deep

/-- size. -/
theorem size_any (k : Int) (a b : ByteArray) (w : World) (ha : a.size ≤ 1000000000) (hb : b.size ≤ 1000000000) :
    Calls Tryz.prog 97 #[.agg #[.int .i64 k, .string a, .string b]] w fun e w' => e = .returned (.int .i64 ((a.size : Int) + (b.size : Int))) ∧ w' = w.alloc (.cells #[.int .i64 k, .string a, .string b] 32) := by
  have z1 : (a.size : Int) ≤ 1000000000 := by omega
  have z2 : (b.size : Int) ≤ 1000000000 := by omega
  have z3 : (a.size : Int) + (b.size : Int) ≤ 9223372036854775807 := by omega
  clear ha hb
  go_enter Tryz.func97, Tryz.ntmps97
  go_wp2_with fail
  go_ret
  exact ⟨rfl, rfl⟩

/-- newTable. -/
theorem newtable_any [R : Rows] (w : World) :
    Calls Tryz.prog 30 #[] w fun e w' => e = .returned (.pointer (some ⟨w.heap.size + 1, 0, none⟩)) ∧ Tab w' (w.heap.size + 1) w.heap.size 0 [] ∧ Below w.heap.size w w' := by
  have hmm := @run_makeMap Tryz.prog
  have HE := Lib.hid (show Tab ((w.alloc (.map #[] 0)).alloc (.cells #[.map (some w.heap.size), .int .i64 0] 86)) (w.heap.size + 1) w.heap.size 0 [] ∧ Below w.heap.size w ((w.alloc (.map #[] 0)).alloc (.cells #[.map (some w.heap.size), .int .i64 0] 86)) by
    have hz : (w.alloc (.map #[] 0)).heap.size = w.heap.size + 1 := by simp
    have hb := Blk.new (w.alloc (.map #[] 0)) 86 #[.map (some w.heap.size), .int .i64 0]
    rw [hz] at hb
    exact ⟨⟨fun _ => none, fun _ => [], ⟨hb, (MapB.new w).grown (World.grownBy_alloc _ _ none) (by simp), fun _ _ => rfl, fun _ _ h => (nomatch h), Kp.Tabs.nil, trivial, fun _ _ _ h => (nomatch h)⟩⟩, ((Below.refl _ _).alloc (Nat.le_refl _) _).alloc (by rw [hz]; omega) _⟩)
  go_enter Tryz.func30, Tryz.ntmps30
  go_wp2_with fail
  go_ret
  exact ⟨rfl, HE.out⟩

set_option maxRecDepth 20000 in
set_option maxHeartbeats 800000 in
/-- maps.Clone, of a map that is there. -/
theorem mapclone_any (b : Nat) (es : Array MapEntry) (clock : Nat) (w : World) (hb : w.heap[b]? = some (.map es clock)) :
    Calls Tryz.prog 68 #[.map (some b)] w fun e w' => e = .returned (.map (some w.heap.size)) ∧ w' = w.alloc (.map es clock) := by
  have hq := fun w => run_eql_map_nil_sl (P := Tryz.prog) w 84 _ _ (some b) Tryz.underlying84
  go_enter Tryz.func68, Tryz.ntmps68
  go_wp2
  rw [run_callFunc_extern Tryz.func100 (by kernel_rfl) (by kernel_rfl) (by kernel_rfl) (e := Extern.MapsClone.clone) (by kernel_rfl), run_maps_clone_sl w 84 hb]
  simp only [Result.andThen]
  rw [Oper.upon_value]
  go_wp2
  rw [run_typeAssert_map_sl _ 84 20 _ _ _ Tryz.underlying84]
  simp only [Result.andThen]
  rw [Oper.upon_value]
  go_wp2
  go_ret
  exact ⟨rfl, rfl⟩
end Go.Proofs.YtimcepoleboldaaGreatDoor
