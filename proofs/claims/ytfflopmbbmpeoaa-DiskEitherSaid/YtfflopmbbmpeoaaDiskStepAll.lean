/- What step comes to whatever its kind; and alike. -/
import Derived.Test.YtfflopmbbmpeoaaDiskStep
import Derived.Deep.LoopGhost
namespace Go.Proofs.Ytfflopmbbmpeoaa
open Go.RowKit

set_option maxRecDepth 20000 in
set_option maxHeartbeats 800000 in
theorem step_four (w0 w : World) (gd gr : Nat) (sd sr : Dk.St) (n : Int) (s : ByteArray) (keep : Nat) (h : Two w0 gd gr sd sr w) (hA : Dk.Alike sd sr) (hn : -9223372036854775808 ≤ n ∧ n ≤ 9223372036854775807) :
    Calls Try.prog 23 #[.pointer (some ⟨gd, 0, none⟩), .pointer (some ⟨gr, 0, none⟩), .agg #[.int .i64 4, .int .i64 n, .string s, .int .u64 (keep : Int)]] w (StepPost w0 gd gr sd sr ⟨4, n, s, keep⟩) := by
  have hT := step_boxed h #[.int .i64 4, .int .i64 n, .string s, .int .u64 (keep : Int)]
  have hb := Blk.new w 37 #[.int .i64 4, .int .i64 n, .string s, .int .u64 (keep : Int)]
  have hA2 := Lib.hid (hA.fail n)
  have HN := Lib.hid hn
  clear h hA hn
  go_enter Try.func23, Try.ntmps23
  go_wp2_with fail
  generalize w.alloc (.cells #[.int .i64 4, .int .i64 n, .string s, .int .u64 (keep : Int)] 37) = w1 at *
  refine (fail_any _ _ _ n _ hT.d HN.out).mono ?_
  rintro e w2 ⟨rfl, h2, hc2⟩
  have hT2 := hT.god h2 hc2
  have hb2 := hc2.blk hb rfl
  have c1 : w2.cell? ⟨w.heap.size, 1, none⟩ = some (.int .i64 n) := hb2.cell 1
  clear hT hb h2 hc2 hb2
  go_wp2_with fail
  refine (two_rfail hT2 n HN.out.2).mono ?_
  rintro e w3 ⟨rfl, h3⟩
  clear hT2 c1
  go_wp2_with fail
  refine (one_dead h3.one).mono ?_
  rintro e w4 ⟨rfl, rfl⟩
  go_wp2_with fail
  refine (two_rdead h3).mono ?_
  rintro e w4 ⟨rfl, rfl⟩
  rw [← hA2.out.off]
  go_wp2_with fail
  refine (one_calls h3.one).mono ?_
  rintro e w4 ⟨rfl, rfl⟩
  go_wp2_with fail
  refine (two_rcalls h3).mono ?_
  rintro e w4 ⟨rfl, rfl⟩
  rw [← hA2.out.many]
  go_wp2_with fail
  go_ret
  exact ⟨rfl, h3⟩

set_option maxRecDepth 20000 in
set_option maxHeartbeats 800000 in
theorem step_five (w0 w : World) (gd gr : Nat) (sd sr : Dk.St) (n : Int) (s : ByteArray) (keep : Nat) (h : Two w0 gd gr sd sr w) (hA : Dk.Alike sd sr) :
    Calls Try.prog 23 #[.pointer (some ⟨gd, 0, none⟩), .pointer (some ⟨gr, 0, none⟩), .agg #[.int .i64 5, .int .i64 n, .string s, .int .u64 (keep : Int)]] w (StepPost w0 gd gr sd sr ⟨5, n, s, keep⟩) := by
  have hT := step_boxed h #[.int .i64 5, .int .i64 n, .string s, .int .u64 (keep : Int)]
  have hA2 := Lib.hid hA.power
  clear h hA
  go_enter Try.func23, Try.ntmps23
  go_wp2_with fail
  refine (two_power hT).mono ?_
  rintro e w2 ⟨rfl, h2⟩
  clear hT
  go_wp2_with fail
  refine (two_rpower h2).mono ?_
  rintro e w3 ⟨rfl, h3⟩
  clear h2
  go_wp2_with fail
  refine (one_dead h3.one).mono ?_
  rintro e w4 ⟨rfl, rfl⟩
  go_wp2_with fail
  refine (two_rdead h3).mono ?_
  rintro e w4 ⟨rfl, rfl⟩
  rw [← hA2.out.off]
  go_wp2_with fail
  refine (one_calls h3.one).mono ?_
  rintro e w4 ⟨rfl, rfl⟩
  go_wp2_with fail
  refine (two_rcalls h3).mono ?_
  rintro e w4 ⟨rfl, rfl⟩
  rw [← hA2.out.many]
  go_wp2_with fail
  go_ret
  exact ⟨rfl, h3⟩

theorem step_else {k : Int} (h0 : ¬ k = 0) (h2 : ¬ k = 2) (h3 : ¬ k = 3) (h4 : ¬ k = 4) (h5 : ¬ k = 5) (st : Dk.St) (n : Int) (s : ByteArray) (keep : Nat) : st.step ⟨k, n, s, keep⟩ = st := by
  unfold Dk.St.step
  rw [if_neg h0, if_neg h2, if_neg h3, if_neg h4, if_neg h5]

set_option maxRecDepth 20000 in
set_option maxHeartbeats 800000 in
theorem step_other (w0 w : World) (gd gr : Nat) (sd sr : Dk.St) (k n : Int) (s : ByteArray) (keep : Nat) (h : Two w0 gd gr sd sr w) (hA : Dk.Alike sd sr) (h0 : ¬ k = 0) (h1 : ¬ k = 1) (h2 : ¬ k = 2) (h3 : ¬ k = 3) (h4 : ¬ k = 4) (h5 : ¬ k = 5) :
    Calls Try.prog 23 #[.pointer (some ⟨gd, 0, none⟩), .pointer (some ⟨gr, 0, none⟩), .agg #[.int .i64 k, .int .i64 n, .string s, .int .u64 (keep : Int)]] w (StepPost w0 gd gr sd sr ⟨k, n, s, keep⟩) := by
  have hT := step_boxed h #[.int .i64 k, .int .i64 n, .string s, .int .u64 (keep : Int)]
  have hA2 := Lib.hid hA
  have HS := Lib.hid (step_else h0 h2 h3 h4 h5)
  clear h hA
  go_enter Try.func23, Try.ntmps23
  go_wp2_with fail
  refine (one_dead hT.one).mono ?_
  rintro e w4 ⟨rfl, rfl⟩
  go_wp2_with fail
  refine (two_rdead hT).mono ?_
  rintro e w4 ⟨rfl, rfl⟩
  rw [← hA2.out.off]
  go_wp2_with fail
  refine (one_calls hT.one).mono ?_
  rintro e w4 ⟨rfl, rfl⟩
  go_wp2_with fail
  refine (two_rcalls hT).mono ?_
  rintro e w4 ⟨rfl, rfl⟩
  rw [← hA2.out.many]
  go_wp2_with fail
  go_ret
  exact ⟨rfl, by rw [HS.out, HS.out]; exact hT⟩

theorem step_any (w0 w : World) (gd gr : Nat) (sd sr : Dk.St) (x : Sp) (h : Two w0 gd gr sd sr w) (hA : Dk.Alike sd sr) (hx : x.wf) (hm : sd.many ≤ 1000000) :
    Calls Try.prog 23 #[.pointer (some ⟨gd, 0, none⟩), .pointer (some ⟨gr, 0, none⟩), .agg #[.int .i64 x.k, .int .i64 x.n, .string x.s, .int .u64 (x.keep : Int)]] w (StepPost w0 gd gr sd sr x) := by
  obtain ⟨k, n, s, keep⟩ := x
  obtain ⟨hn, hk⟩ := hx
  by_cases h0 : k = 0
  · subst h0; exact step_zero w0 w gd gr sd sr n s keep h hA hm
  by_cases h1 : k = 1
  · subst h1; exact step_one w0 w gd gr sd sr n s keep h hA
  by_cases h2 : k = 2
  · subst h2; exact step_two w0 w gd gr sd sr n s keep h hA hm
  by_cases h3 : k = 3
  · subst h3; exact step_three w0 w gd gr sd sr n s keep h hA hn hk
  by_cases h4 : k = 4
  · subst h4; exact step_four w0 w gd gr sd sr n s keep h hA hn
  by_cases h5 : k = 5
  · subst h5; exact step_five w0 w gd gr sd sr n s keep h hA
  exact step_other w0 w gd gr sd sr k n s keep h hA h0 h1 h2 h3 h4 h5

set_option maxRecDepth 20000 in
set_option maxHeartbeats 800000 in
theorem alike_any (w0 w : World) (gd gr : Nat) (sd sr : Dk.St) (h : Two w0 gd gr sd sr w) (hA : Dk.Alike sd sr) :
    Calls Try.prog 25 #[.pointer (some ⟨gd, 0, none⟩), .pointer (some ⟨gr, 0, none⟩)] w fun e w' => e = .returned (.bool true) ∧ w = w' := by
  have hA2 := Lib.hid hA
  clear hA
  go_enter Try.func25, Try.ntmps25
  go_wp2_with fail
  go_loop [5] (fun v => ∃ i : Int, -1 ≤ i ∧ i ≤ 257 ∧ v = .int .i64 i) (fun v => (257 - intOf v).toNat)
  case atStart => exact ⟨-1, by omega, by omega, rfl⟩
  case round =>
    obtain ⟨i, hi1, hi2, rfl⟩ := hrel
    by_cases hlt : i ≤ 256
    · have E1 := Lib.hid (hA2.out.read i)
      have E2 := Lib.hid (hA2.out.reach i)
      go_wp2_with fail
      refine (one_read h.one i).mono ?_
      rintro e w2 ⟨rfl, rfl⟩
      go_wp2_with fail
      refine (two_rread h i).mono ?_
      rintro e w2 ⟨rfl, rfl⟩
      rw [← E1.out, ← E2.out]
      generalize sd.read i = r
      generalize sd.reach i = x
      go_wp2_with fail
      go_round
      case rel => exact ⟨i + 1, by omega, by omega, rfl⟩
      case measure => simp [intOf]; omega
    · go_wp2_with fail
      refine (one_dead h.one).mono ?_
      rintro e w4 ⟨rfl, rfl⟩
      go_wp2_with fail
      refine (two_rdead h).mono ?_
      rintro e w4 ⟨rfl, rfl⟩
      rw [← hA2.out.off]
      go_wp2_with fail
      refine (one_calls h.one).mono ?_
      rintro e w4 ⟨rfl, rfl⟩
      go_wp2_with fail
      refine (two_rcalls h).mono ?_
      rintro e w4 ⟨rfl, rfl⟩
      rw [← hA2.out.many]
      go_wp2_with fail
      go_ret
      exact ⟨rfl, rfl⟩

end Go.Proofs.Ytfflopmbbmpeoaa
