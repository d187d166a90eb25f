/- What step and alike come to: both disks tell the same. -/
import Derived.Test.YtfflopmbbmpeoaaDiskTwo
import Derived.Test.YtfflopmbbmpeoaaDiskSteps
import Derived.Deep.RegionHeld3
namespace Go.Proofs.Ytfflopmbbmpeoaa
open Go.RowKit

namespace Dk
def St.step (st : St) (x : Sp) : St :=
  if x.k = 0 then st.write x.n x.s else if x.k = 2 then st.barrier else if x.k = 3 then st.cut x.n x.keep else if x.k = 4 then st.fail x.n else if x.k = 5 then st.power else st
theorem Alike.step {a b : St} (h : Alike a b) (x : Sp) : Alike (a.step x) (b.step x) := by
  unfold St.step
  split
  · exact h.write _ _
  · split
    · exact h.barrier
    · split
      · exact h.cut _ _
      · split
        · exact h.fail _
        · split
          · exact h.power
          · exact h
theorem many_step (st : St) (x : Sp) : (st.step x).many ≤ st.many + 1 := by
  unfold St.step
  split
  · exact many_write _ _ _
  · split
    · exact many_barrier _
    · split
      · exact Nat.le_succ _
      · split
        · exact Nat.le_succ _
        · split
          · rw [many_power]; exact Nat.le_succ _
          · exact Nat.le_succ _
end Dk

section
variable {w0 w : World} {gd gr b : Nat} {sd sr : Dk.St} {cs : Array Value}
theorem step_w1 (h : Two w0 gd gr sd sr w) (hb : Blk w b 37 cs) (i : Int) (s : ByteArray) (hm : sd.many ≤ 1073741824) :
    Calls Try.prog 13 #[.pointer (some ⟨gd, 0, none⟩), .int .i64 i, .string s] w fun e w' => e = .returned (.int .i64 (sd.writeE i s)) ∧ Two w0 gd gr (sd.write i s) sr w' ∧ Blk w' b 37 cs ∧ (w'.cell? ⟨b, 1, none⟩ = cs[1]? ∧ w'.cell? ⟨b, 2, none⟩ = cs[2]?) := by
  refine (write_any _ _ _ i s w h.d hm).mono ?_
  rintro e w' ⟨rfl, h1, hc⟩
  have hb' := hc.blk hb rfl
  exact ⟨rfl, h.god h1 hc, hb', hb'.cell 1, hb'.cell 2⟩
theorem step_w2 (h : Two w0 gd gr sd sr w) (hb : Blk w b 37 cs) (i : Int) (s : ByteArray) (hm : sr.many ≤ 1073741824) (y : Int) (hy : sr.writeE i s = y) :
    Calls Try.prog 14 #[.pointer (some ⟨gr, 0, none⟩), .int .i64 i, .string s] w fun e w' => e = .returned (.int .i64 y) ∧ Two w0 gd gr sd (sr.write i s) w' ∧ (w'.cell? ⟨b, 1, none⟩ = cs[1]? ∧ w'.cell? ⟨b, 2, none⟩ = cs[2]?) := by
  subst hy
  refine (rwrite_any _ _ _ i s w h.r hm).mono ?_
  rintro e w' ⟨rfl, h1, hc⟩
  have hb' := hc.blk hb rfl
  exact ⟨rfl, h.gor h1 hc, hb'.cell 1, hb'.cell 2⟩
end

def StepPost (w0 : World) (gd gr : Nat) (sd sr : Dk.St) (x : Sp) (e : Ending) (w' : World) : Prop :=
  e = .returned (.bool true) ∧ Two w0 gd gr (sd.step x) (sr.step x) w'

set_option maxRecDepth 20000 in
set_option maxHeartbeats 400000 in
theorem step_zero (w0 w : World) (gd gr : Nat) (sd sr : Dk.St) (n : Int) (s : ByteArray) (keep : Nat) (h : Two w0 gd gr sd sr w) (hA : Dk.Alike sd sr) (hm : sd.many ≤ 1000000) :
    Calls Try.prog 23 #[.pointer (some ⟨gd, 0, none⟩), .pointer (some ⟨gr, 0, none⟩), .agg #[.int .i64 0, .int .i64 n, .string s, .int .u64 (keep : Int)]] w (StepPost w0 gd gr sd sr ⟨0, n, s, keep⟩) := by
  have hT : Two w0 gd gr sd sr (w.alloc (.cells #[.int .i64 0, .int .i64 n, .string s, .int .u64 (keep : Int)] 37)) := h.below_up ((Below.refl _ _).alloc (Nat.le_refl _) _)
  have hb := Blk.new w 37 #[.int .i64 0, .int .i64 n, .string s, .int .u64 (keep : Int)]
  obtain ⟨y, hy⟩ : ∃ y, y = sd.writeE n s := ⟨_, rfl⟩
  have HW1 := Lib.hid (fun (W : World) (h : Two w0 gd gr sd sr W) (hb : Blk W w.heap.size 37 #[.int .i64 0, .int .i64 n, .string s, .int .u64 (keep : Int)]) => step_w1 h hb n s (by omega))
  have HW2 := Lib.hid (fun (W : World) (h : Two w0 gd gr (sd.write n s) sr W) (hb : Blk W w.heap.size 37 #[.int .i64 0, .int .i64 n, .string s, .int .u64 (keep : Int)]) => step_w2 h hb n s (by rw [← hA.many]; omega) y (by rw [← hA.writeE]; exact hy.symm))
  rw [← hy] at HW1
  clear h hA hm hy
  have f := hb.frozen 0
  go_enter Try.func23, Try.ntmps23
  go_wp2_with fail
  generalize w.alloc (.cells #[.int .i64 0, .int .i64 n, .string s, .int .u64 (keep : Int)] 37) = w1 at *
  have c1 : w1.cell? ⟨w.heap.size, 1, none⟩ = some (.int .i64 n) := hb.cell 1
  have c2 : w1.cell? ⟨w.heap.size, 2, none⟩ = some (.string s) := hb.cell 2
  go_region_held3 (fun W => W.cell? ⟨w.heap.size, 1, none⟩ = some (.int .i64 n) ∧ W.cell? ⟨w.heap.size, 2, none⟩ = some (.string s)) (first | assumption | exact ⟨c1, c2⟩ | go_keep)
    (first
      | (go_at_call 13; (with_reducible refine (HW1.out _ hT.drew hb.drew).mono ?_); rintro e w2 ⟨rfl, h2, hb2, s2⟩)
      | (go_at_call 14; (with_reducible refine (HW2.out _ h2 hb2).mono ?_); rintro e w3 ⟨rfl, h3, s3⟩))
  clear hT hb c1 c2 HW1 HW2 f
  go_wp2_with fail
  go_ret
  exact ⟨rfl, h3⟩

/-- The other kinds: the world behind the parameter's own variable. -/
theorem step_boxed {w0 w : World} {gd gr : Nat} {sd sr : Dk.St} (h : Two w0 gd gr sd sr w) (cs : Array Value) : Two w0 gd gr sd sr (w.alloc (.cells cs 37)) := h.below_up ((Below.refl _ _).alloc (Nat.le_refl _) _)

set_option maxRecDepth 20000 in
set_option maxHeartbeats 400000 in
theorem step_one (w0 w : World) (gd gr : Nat) (sd sr : Dk.St) (n : Int) (s : ByteArray) (keep : Nat) (h : Two w0 gd gr sd sr w) (hA : Dk.Alike sd sr) :
    Calls Try.prog 23 #[.pointer (some ⟨gd, 0, none⟩), .pointer (some ⟨gr, 0, none⟩), .agg #[.int .i64 1, .int .i64 n, .string s, .int .u64 (keep : Int)]] w (StepPost w0 gd gr sd sr ⟨1, n, s, keep⟩) := by
  have hT := step_boxed h #[.int .i64 1, .int .i64 n, .string s, .int .u64 (keep : Int)]
  have hA2 := Lib.hid hA
  clear h hA
  go_enter Try.func23, Try.ntmps23
  go_wp2_with fail
  refine (one_read hT.one n).mono ?_
  rintro e w2 ⟨rfl, rfl⟩
  go_wp2_with fail
  refine (two_rread hT n).mono ?_
  rintro e w2 ⟨rfl, rfl⟩
  rw [← hA2.out.read, ← hA2.out.reach]
  generalize sd.read n = r
  generalize sd.reach n = x
  go_wp2_with fail
  go_ret
  exact ⟨rfl, hT⟩

set_option maxRecDepth 20000 in
set_option maxHeartbeats 400000 in
theorem step_two (w0 w : World) (gd gr : Nat) (sd sr : Dk.St) (n : Int) (s : ByteArray) (keep : Nat) (h : Two w0 gd gr sd sr w) (hA : Dk.Alike sd sr) (hm : sd.many ≤ 1000000) :
    Calls Try.prog 23 #[.pointer (some ⟨gd, 0, none⟩), .pointer (some ⟨gr, 0, none⟩), .agg #[.int .i64 2, .int .i64 n, .string s, .int .u64 (keep : Int)]] w (StepPost w0 gd gr sd sr ⟨2, n, s, keep⟩) := by
  have hT := step_boxed h #[.int .i64 2, .int .i64 n, .string s, .int .u64 (keep : Int)]
  have hA2 := Lib.hid hA
  have hm2 : sr.many ≤ 1073741824 := by rw [← hA.many]; omega
  have hm1 : sd.many ≤ 1073741824 := by omega
  clear h hA hm
  go_enter Try.func23, Try.ntmps23
  go_wp2_with fail
  refine (two_barrier hT hm1).mono ?_
  rintro e w2 ⟨rfl, h2⟩
  go_wp2_with fail
  refine (two_rbarrier h2 hm2).mono ?_
  rintro e w3 ⟨rfl, h3⟩
  rw [← hA2.out.barrierE]
  generalize sd.barrierE = x
  clear hT h2 hm1 hm2
  go_wp2_with fail
  go_ret
  exact ⟨rfl, h3⟩

set_option maxRecDepth 20000 in
set_option maxHeartbeats 800000 in
theorem step_three (w0 w : World) (gd gr : Nat) (sd sr : Dk.St) (n : Int) (s : ByteArray) (keep : Nat) (h : Two w0 gd gr sd sr w) (hA : Dk.Alike sd sr) (hn : -9223372036854775808 ≤ n ∧ n ≤ 9223372036854775807) (hk : keep < 18446744073709551616) :
    Calls Try.prog 23 #[.pointer (some ⟨gd, 0, none⟩), .pointer (some ⟨gr, 0, none⟩), .agg #[.int .i64 3, .int .i64 n, .string s, .int .u64 (keep : Int)]] w (StepPost w0 gd gr sd sr ⟨3, n, s, keep⟩) := by
  have hT := step_boxed h #[.int .i64 3, .int .i64 n, .string s, .int .u64 (keep : Int)]
  have hb := Blk.new w 37 #[.int .i64 3, .int .i64 n, .string s, .int .u64 (keep : Int)]
  have hA2 := Lib.hid (hA.cut n keep)
  have HN := Lib.hid hn
  clear h hA hn
  go_enter Try.func23, Try.ntmps23
  go_wp2_with fail
  generalize w.alloc (.cells #[.int .i64 3, .int .i64 n, .string s, .int .u64 (keep : Int)] 37) = w1 at *
  refine (cut_any _ _ _ n keep _ hT.d HN.out hk).mono ?_
  rintro e w2 ⟨rfl, h2, hc2⟩
  have hT2 := hT.god h2 hc2
  have hb2 := hc2.blk hb rfl
  have c1 : w2.cell? ⟨w.heap.size, 1, none⟩ = some (.int .i64 n) := hb2.cell 1
  have c3 : w2.cell? ⟨w.heap.size, 3, none⟩ = some (.int .u64 (keep : Int)) := hb2.cell 3
  clear hT hb h2 hc2 hb2
  go_wp2_with fail
  refine (two_rcut hT2 n keep HN.out.2 hk).mono ?_
  rintro e w3 ⟨rfl, h3⟩
  clear hT2 c1 c3
  go_wp2_with fail
  refine (one_dead h3.one).mono ?_
  rintro e w4 ⟨rfl, rfl⟩
  go_wp2_with fail
  refine (two_rdead h3).mono ?_
  rintro e w4 ⟨rfl, rfl⟩
  rw [← hA2.out.off]
  go_wp2_with fail
  refine (one_calls h3.one).mono ?_
  rintro e w4 ⟨rfl, rfl⟩
  go_wp2_with fail
  refine (two_rcalls h3).mono ?_
  rintro e w4 ⟨rfl, rfl⟩
  rw [← hA2.out.many]
  go_wp2_with fail
  go_ret
  exact ⟨rfl, h3⟩

end Go.Proofs.Ytfflopmbbmpeoaa
