/- The walk of DiskFails: true of any two texts and any number. -/
import Derived.Test.YtfflopmbbmpeoaaDiskWrite
import Derived.Test.YtfflopmbbmpeoaaDiskNew
namespace Go.Proofs.Ytfflopmbbmpeoaa
open Go.RowKit

namespace Dk
def f1 (a : ByteArray) : St := St.new.write 5 a
def f2 (a : ByteArray) (k : Int) : St := (f1 a).fail k
def f3 (a b : ByteArray) (k : Int) : St := (f2 a k).write 5 b
def f4 (a b : ByteArray) (k : Int) : St := (f3 a b k).barrier
def f5 (a b : ByteArray) (k : Int) : St := (f4 a b k).write 6 b

theorem f1_eq {a : ByteArray} (ha : a.size ≤ 128) : St.new.writeE 5 a = 0 ∧ f1 a = St.new.tick.put 5 a := write_ok (bars_mk rfl (by decide) (by decide) ha) rfl

structure Fails (a b : ByteArray) (k e1 e2 e3 : Int) (r5 r6 : ByteArray) : Prop where
  e0 : St.new.writeE 5 a = 0
  e1 : (f2 a k).writeE 5 b = e1
  e2 : (f3 a b k).barrierE = e2
  e3 : (f4 a b k).writeE 6 b = e3
  r5 : (f5 a b k).read 5 = r5
  r6 : (f5 a b k).read 6 = r6
  many : (f5 a b k).many = 4

theorem fails_one {a b : ByteArray} (ha : a.size ≤ 128) (hb : b.size ≤ 128) : Fails a b 1 32 0 0 a b := by
  have h1 := f1_eq ha
  have e2 : f2 a 1 = (St.new.tick.put 5 a).fail 1 := by unfold f2; rw [h1.2]
  have h3 := write_fail (st := (St.new.tick.put 5 a).fail 1) (bars_mk (s := b) (i := 5) rfl (by decide) (by decide) hb) rfl
  have e3 : f3 a b 1 = ((St.new.tick.put 5 a).fail 1).tick := by unfold f3; rw [e2]; exact h3.2
  have h4 := barrier_ok (st := ((St.new.tick.put 5 a).fail 1).tick) rfl rfl
  have e4 : f4 a b 1 = ((St.new.tick.put 5 a).fail 1).tick.tick.fasten := by unfold f4; rw [e3]; exact h4.2
  have h5 := write_ok (st := ((St.new.tick.put 5 a).fail 1).tick.tick.fasten) (bars_mk (s := b) (i := 6) rfl (by decide) (by decide) hb) rfl
  have e5 : f5 a b 1 = (((St.new.tick.put 5 a).fail 1).tick.tick.fasten).tick.put 6 b := by unfold f5; rw [e4]; exact h5.2
  exact ⟨h1.1, by rw [e2]; exact h3.1, by rw [e3]; exact h4.1, by rw [e4]; exact h5.1, by rw [e5]; rfl, by rw [e5]; rfl, by rw [e5]; rfl⟩

theorem fails_two {a b : ByteArray} (ha : a.size ≤ 128) (hb : b.size ≤ 128) : Fails a b 2 0 32 0 b b := by
  have h1 := f1_eq ha
  have e2 : f2 a 2 = (St.new.tick.put 5 a).fail 2 := by unfold f2; rw [h1.2]
  have h3 := write_ok (st := (St.new.tick.put 5 a).fail 2) (bars_mk (s := b) (i := 5) rfl (by decide) (by decide) hb) rfl
  have e3 : f3 a b 2 = ((St.new.tick.put 5 a).fail 2).tick.put 5 b := by unfold f3; rw [e2]; exact h3.2
  have h4 := barrier_fail (st := ((St.new.tick.put 5 a).fail 2).tick.put 5 b) rfl rfl
  have e4 : f4 a b 2 = (((St.new.tick.put 5 a).fail 2).tick.put 5 b).tick := by unfold f4; rw [e3]; exact h4.2
  have h5 := write_ok (st := (((St.new.tick.put 5 a).fail 2).tick.put 5 b).tick) (bars_mk (s := b) (i := 6) rfl (by decide) (by decide) hb) rfl
  have e5 : f5 a b 2 = ((((St.new.tick.put 5 a).fail 2).tick.put 5 b).tick).tick.put 6 b := by unfold f5; rw [e4]; exact h5.2
  exact ⟨h1.1, by rw [e2]; exact h3.1, by rw [e3]; exact h4.1, by rw [e4]; exact h5.1, by rw [e5]; rfl, by rw [e5]; rfl, by rw [e5]; rfl⟩

theorem fails_three {a b : ByteArray} (ha : a.size ≤ 128) (hb : b.size ≤ 128) : Fails a b 3 0 0 32 b ByteArray.empty := by
  have h1 := f1_eq ha
  have e2 : f2 a 3 = (St.new.tick.put 5 a).fail 3 := by unfold f2; rw [h1.2]
  have h3 := write_ok (st := (St.new.tick.put 5 a).fail 3) (bars_mk (s := b) (i := 5) rfl (by decide) (by decide) hb) rfl
  have e3 : f3 a b 3 = ((St.new.tick.put 5 a).fail 3).tick.put 5 b := by unfold f3; rw [e2]; exact h3.2
  have h4 := barrier_ok (st := ((St.new.tick.put 5 a).fail 3).tick.put 5 b) rfl rfl
  have e4 : f4 a b 3 = (((St.new.tick.put 5 a).fail 3).tick.put 5 b).tick.fasten := by unfold f4; rw [e3]; exact h4.2
  have h5 := write_fail (st := (((St.new.tick.put 5 a).fail 3).tick.put 5 b).tick.fasten) (bars_mk (s := b) (i := 6) rfl (by decide) (by decide) hb) rfl
  have e5 : f5 a b 3 = ((((St.new.tick.put 5 a).fail 3).tick.put 5 b).tick.fasten).tick := by unfold f5; rw [e4]; exact h5.2
  exact ⟨h1.1, by rw [e2]; exact h3.1, by rw [e3]; exact h4.1, by rw [e4]; exact h5.1, by rw [e5]; rfl, by rw [e5]; rfl, by rw [e5]; rfl⟩

theorem many_f (a b : ByteArray) (k : Int) : (f2 a k).many ≤ 1 ∧ (f3 a b k).many ≤ 2 ∧ (f4 a b k).many ≤ 3 := by
  have h1 : (f2 a k).many ≤ 1 := many_write St.new 5 a
  have h2 : (f3 a b k).many ≤ (f2 a k).many + 1 := many_write _ _ _
  have h3 : (f4 a b k).many ≤ (f3 a b k).many + 1 := many_barrier _
  omega
end Dk

theorem tmod3 (n : Int) : n.tmod 3 = -2 ∨ n.tmod 3 = -1 ∨ n.tmod 3 = 0 ∨ n.tmod 3 = 1 ∨ n.tmod 3 = 2 := by
  have h1 := Int.tmod_lt_of_pos n (show (0 : Int) < 3 by decide)
  have h2 := Int.lt_tmod_of_pos n (show (0 : Int) < 3 by decide)
  omega

set_option maxRecDepth 20000 in
set_option maxHeartbeats 400000 in
theorem fails_walk (a b : ByteArray) (n : Int) (w : World) (ha : a.size ≤ 140737488355328) (hb : b.size ≤ 140737488355328) (hn : -9223372036854775808 ≤ n ∧ n ≤ 9223372036854775807) :
    Calls Try.prog 8 #[.string a, .string b, .int .i64 n] w fun e w' => e = .returned (.bool true) ∧ Below w.heap.size w w' := by
  obtain ⟨hn1, hn2⟩ := hn
  have HN := Lib.hid (new_any w)
  by_cases hab : 128 < a.size ∨ 128 < b.size
  · have hsz : 128 < (a ++ b).size := by rw [ByteArray.size_append]; omega
    have hE : Dk.St.new.writeE 0 (a ++ b) = 31 := by
      have : Dk.St.new.bars 0 (a ++ b) = 31 := by unfold Dk.St.bars; rw [if_neg (by decide), if_pos hsz]
      rw [(write_bars (by rw [this]; decide)).1, this]
    have HE := Lib.hid hE; clear hE hsz
    have hcat : ¬ (9223372036854775807 : Int) < ((a.size + b.size : Nat) : Int) := by omega
    by_cases h1 : 128 < a.size
    all_goals
      go_enter Try.func8, Try.ntmps8
      go_wp2_with (go_at_call 9; refine HN.out.mono ?_; rintro e w1 ⟨rfl, h1, hc1⟩)
      refine (write_any _ _ _ _ _ _ h1 (by decide)).mono ?_
      rintro e w2 ⟨rfl, h2, hc2⟩
      rw [HE.out]
      go_wp2_with fail
      go_ret
      exact ⟨rfl, (hc1.trans hc2).to_below (Nat.le_refl _)⟩
  · have ha2 : a.size ≤ 128 := by omega
    have hb2 : b.size ≤ 128 := by omega
    have H2 := Lib.hid (Dk.fails_two ha2 hb2)
    have H3 := Lib.hid (Dk.fails_three ha2 hb2)
    have H1 := Lib.hid (Dk.fails_one ha2 hb2)
    have M2 := Lib.hid (Dk.many_f a b 2)
    have M3 := Lib.hid (Dk.many_f a b 3)
    have M1 := Lib.hid (Dk.many_f a b 1)
    have HM1 : (Dk.f1 a).many ≤ 1 := Dk.many_write Dk.St.new 5 a
    clear hab ha hb
    rcases tmod3 n with hx | hx | hx | hx | hx
    case' inl => have HF := H2; have MF := M2
    case' inr.inl => have HF := H3; have MF := M3
    case' inr.inr.inl => have HF := H1; have MF := M1
    case' inr.inr.inr.inl => have HF := H2; have MF := M2
    case' inr.inr.inr.inr => have HF := H3; have MF := M3
    all_goals
      clear H1 H2 H3 M1 M2 M3
      have hk : (-9223372036854775808 : Int) ≤ 1 ∧ (1 : Int) ≤ 9223372036854775807 ∧ (-9223372036854775808 : Int) ≤ 2 ∧ (2 : Int) ≤ 9223372036854775807 ∧ (-9223372036854775808 : Int) ≤ 3 ∧ (3 : Int) ≤ 9223372036854775807 := by decide
      have HK := Lib.hid hk; clear hk
      go_enter Try.func8, Try.ntmps8
      go_wp2_with (go_at_call 9; refine HN.out.mono ?_; rintro e w1 ⟨rfl, h1, hc1⟩)
      refine (write_any _ _ _ _ _ _ h1 (by decide)).mono ?_
      rintro e w2 ⟨rfl, h2, hc2⟩
      rw [HF.out.e0]
      go_wp2_with fail
      refine (fail_any _ _ _ _ _ h2 (by decide)).mono ?_
      rintro e w3 ⟨rfl, h3, hc3⟩
      go_wp2_with fail
      refine (write_any _ _ _ _ _ _ h3 (Nat.le_trans MF.out.1 (by decide))).mono ?_
      rintro e w4 ⟨rfl, h4, hc4⟩
      have E1 := HF.out.e1
      unfold Dk.f2 Dk.f1 at E1
      rw [E1]
      clear E1
      go_wp2_with fail
      refine (barrier_any _ _ _ _ h4 (Nat.le_trans MF.out.2.1 (by decide))).mono ?_
      rintro e w5 ⟨rfl, h5, hc5⟩
      have E2 := HF.out.e2
      unfold Dk.f3 Dk.f2 Dk.f1 at E2
      rw [E2]
      clear E2
      go_wp2_with fail
      refine (write_any _ _ _ _ _ _ h5 (Nat.le_trans MF.out.2.2 (by decide))).mono ?_
      rintro e w6 ⟨rfl, h6, hc6⟩
      have E3 := HF.out.e3
      unfold Dk.f4 Dk.f3 Dk.f2 Dk.f1 at E3
      rw [E3]
      clear E3
      go_wp2_with fail
      refine (read_any _ _ _ _ _ h6).mono ?_
      rintro e w7 ⟨rfl, rfl⟩
      have R5 := HF.out.r5
      unfold Dk.f5 Dk.f4 Dk.f3 Dk.f2 Dk.f1 at R5
      rw [R5]
      clear R5
      go_wp2_with fail
      refine (read_any _ _ _ _ _ h6).mono ?_
      rintro e w7 ⟨rfl, rfl⟩
      have R6 := HF.out.r6
      unfold Dk.f5 Dk.f4 Dk.f3 Dk.f2 Dk.f1 at R6
      rw [R6]
      clear R6
      go_wp2_with fail
      refine (calls_any _ _ _ _ h6).mono ?_
      rintro e w7 ⟨rfl, rfl⟩
      have E4 := HF.out.many
      unfold Dk.f5 Dk.f4 Dk.f3 Dk.f2 Dk.f1 at E4
      rw [E4]
      clear E4
      go_wp2_with fail
      go_ret
      exact ⟨rfl, (((((hc1.trans hc2).trans hc3).trans hc4).trans hc5).trans hc6).to_below (Nat.le_refl _)⟩

end Go.Proofs.Ytfflopmbbmpeoaa
