/- strconv.Itoa at this program; the table that it reads. -/
import Derived.Test.YtcoehmmiplffgaaDoorShItoa
import Derived.Test.YtcoehmmiplffgaaDoorTextPlain
import Derived.Test.YtcoehmmiplffgaaDoorQuiets
import Derived.WalkSmall
namespace Go.Proofs.YtcoehmmiplffgaaDoor
open Go.ChangeShapes Go.WideShapes Go.RowKit Go.Deep

/-- The table of powers of ten lies in memory as start-up lays it. -/
def Pow (w : World) : Prop := Lib.TabIs Tryd.prog w "internal/strconv.uint64pow10" .u64 Lib.pow10Tab
theorem gPow : Tryd.prog.globalNamed "internal/strconv.uint64pow10" = some 2 := by kernel_rfl
theorem Pow.below {w w' : World} {B : Nat} (h : Pow w) (hb : Below B w w') (hB : 2 < B) : Pow w' := var?_below hb gPow hB h

theorem below_grow (w : World) (k : Nat) (os : Array Obj) : Below w.heap.size w (Sort.grow (w.drewN k) os) := by
  refine ⟨rfl, rfl, rfl, ?_, fun i hi => ?_⟩
  · simp [Sort.grow]
  · simp [Sort.grow, Array.getElem?_append_left, hi]

theorem itoa_any (n : Int) (w : World) (h0 : 0 ≤ n) (h1 : n ≤ 9223372036854775807) (hp : Pow w) :
    Calls Tryd.prog 59 #[.int .i64 n] w fun e w' => e = .returned (.string (Tx.mkB (Lib.decDigits n.toNat))) ∧ Below w.heap.size w w' := by
  refine (strconv_Itoa n (by omega) h1 w hp).mono ?_
  rintro e w' ⟨rfl, k, os, rfl⟩
  refine ⟨?_, below_grow w k os⟩
  unfold Lib.itoa Tx.mkB
  rw [if_neg (by omega)]
end Go.Proofs.YtcoehmmiplffgaaDoor
