/- The program's disk alone in memory, with a log: each call of the laws of layer 5, with what is told then. -/
import Derived.Test.YtgahcbhdnplnoaaDoorLogCalls
namespace Go.Proofs.YtgahcbhdnplnoaaDoor
open Go.RowKit

/-- The disk at block g is as st; it, and all else, is newer than w0. -/
structure Sole (w0 : World) (g : Nat) (st : Dk.St) (w : World) : Prop where
  d : Dsk w w0.heap.size g st
  below : Below w0.heap.size w0 w

section
variable {w0 w w1 : World} {g : Nat} {st st' : Dk.St}
theorem Sole.go {T : Obj → Bool} (h : Sole w0 g st w) (hd : Dsk w1 w0.heap.size g st') (hc : Ch T w0.heap.size w w1) : Sole w0 g st' w1 := ⟨hd, h.below.trans (hc.to_below h.below.size)⟩
theorem Sole.up (h : Sole w0 g st w) (hb : Below w.heap.size w w1) : Sole w0 g st w1 :=
  ⟨h.d.kept (T := fun _ => false) (B' := 0) (Ch.of_below hb) (fun _ => rfl) (fun _ _ => rfl) (fun _ => rfl), h.below.trans (hb.mono h.below.size)⟩
theorem Sole.strs {v : Value} {l : List ByteArray} (h : Sole w0 g st w) (hs : Strs w0 v l) : Strs w v l := hs.below h.below
theorem Sole.kept {T : Obj → Bool} (h : Sole w0 g st w) (hc : Ch T w0.heap.size w w1) (h1 : ∀ cs, T (.cells cs 61 (0, 0)) = false) (h2 : ∀ es c, T (.map es c) = false) (h3 : ∀ cs, T (.cells cs 3 (0, 0)) = false) : Sole w0 g st w1 :=
  ⟨h.d.kept hc h1 h2 h3, h.below.trans (hc.to_below h.below.size)⟩

theorem Lgw.up {B q : Nat} {lo : Lg.Lo} (h : Lgw w B q g lo) (hb : Below w.heap.size w w1) : Lgw w1 B q g lo := h.kept (T := fun _ => false) (B' := 0) (Ch.of_below hb) (fun _ => rfl)
theorem Lgw.disk {B q : Nat} {lo : Lg.Lo} (h : Lgw w B q g lo) (hc : Ch Td B w w1) : Lgw w1 B q g lo := h.kept hc (fun _ => rfl)
theorem RowS.strs {base : Nat} {v : Value} {l : List ByteArray} (h : RowS w base v l) : Strs w v l := Strs.of_row h
theorem RowS.kept {T : Obj → Bool} {B base : Nat} {v : Value} {l : List ByteArray} (h : RowS w base v l) (hc : Ch T B w w1) (hT : ∀ cs, T (.cells cs 9 (0, 0)) = false) : RowS w1 base v l := owns_ch h hc hT

theorem sole_new (w0 : World) : Calls Tryd.prog 10 #[] w0 fun e w' => e = .returned (.pointer (some ⟨w0.heap.size + 1, 0, none⟩)) ∧ Sole w0 (w0.heap.size + 1) Dk.St.new w' := by
  refine (new_any w0).mono ?_
  rintro e w' ⟨rfl, h, hc⟩
  exact ⟨rfl, h, hc.to_below (Nat.le_refl _)⟩

theorem sole_cut (h : Sole w0 g st w) (x : Int) (keep : Nat) (hx : -9223372036854775808 ≤ x ∧ x ≤ 9223372036854775807) (hk : keep < 18446744073709551616) :
    Calls Tryd.prog 15 #[.pointer (some ⟨g, 0, none⟩), .int .i64 x, .int .u64 (keep : Int)] w fun e w' => e = .returned (.tuple #[]) ∧ Sole w0 g (st.cut x keep) w' ∧ Ch Td w0.heap.size w w' := by
  refine (cut_any _ _ _ x keep w h.d hx hk).mono ?_
  rintro e w' ⟨rfl, h1, hc⟩
  exact ⟨rfl, h.go h1 hc, hc⟩
theorem sole_power (h : Sole w0 g st w) :
    Calls Tryd.prog 16 #[.pointer (some ⟨g, 0, none⟩)] w fun e w' => e = .returned (.tuple #[]) ∧ Sole w0 g st.power w' ∧ Ch Td w0.heap.size w w' := by
  refine (power_any _ _ _ w h.d).mono ?_
  rintro e w' ⟨rfl, h1, hc⟩
  exact ⟨rfl, h.go h1 hc, hc⟩
theorem sole_barrier (h : Sole w0 g st w) (hm : st.many ≤ 1000000) :
    Calls Tryd.prog 20 #[.pointer (some ⟨g, 0, none⟩)] w fun e w' => e = .returned (.int .i64 st.barrierE) ∧ Sole w0 g st.barrier w' ∧ Ch Td w0.heap.size w w' := by
  refine (barrier_any _ _ _ w h.d (by omega)).mono ?_
  rintro e w' ⟨rfl, h1, hc⟩
  exact ⟨rfl, h.go h1 hc, hc⟩

variable {t : Lg.Top} {L : List (Int × List UInt8)} {N : Nat} {ep : Int}

/-- The records that L holds. -/
def recsOf (L : List (Int × List UInt8)) : List ByteArray := mks (L.map (·.2))

theorem recsOf_bls (L : List (Int × List UInt8)) (e : Int) (R : List ByteArray) : recsOf (L ++ (bls R).map fun r => (e, r)) = recsOf L ++ R := by
  unfold recsOf
  rw [List.map_append, List.map_map, mks_append]
  have : ((fun x : Int × List UInt8 => x.2) ∘ fun r => (e, r)) = id := rfl
  rw [this, List.map_id, mks_bls]
theorem recsOf_new (e : Int) (R : List ByteArray) : recsOf ((bls R).map fun r => (e, r)) = R := by
  have := recsOf_bls [] e R
  simpa [recsOf, mks] using this
theorem bls_take (R : List ByteArray) (j : Nat) : (bls R).take j = bls (R.take j) := by unfold bls; rw [List.map_take]
theorem bls_length (R : List ByteArray) : (bls R).length = R.length := by unfold bls; rw [List.length_map]
theorem manyB_recs (h : Lg.Good st.is t L N ep) : manyB (recsOf L) = N := by
  unfold manyB recsOf
  rw [bls_mks, h.num]

/-- Open, where the power stays. -/
def OpenedPost (w0 : World) (g : Nat) (st : Dk.St) (t : Lg.Top) (L : List (Int × List UInt8)) (N : Nat) (ep : Int) (w : World) (e : Ending) (w' : World) : Prop :=
  ∃ q v st', e = .returned (.tuple #[.pointer (some ⟨q, 0, none⟩), v, .int .i64 0]) ∧ Sole w0 g st' w' ∧ Lgw w' w0.heap.size q g ⟨⟨t.e + 1, t.b, t.h⟩, N, 0⟩ ∧ RowS w' w.heap.size v (recsOf L) ∧ Ch Td w0.heap.size w w' ∧
    Lg.Still st' ∧ Lg.Live st'.is ⟨t.e + 1, t.b, t.h⟩ L N ep ∧ st'.cuts = st.cuts - 2 ∧ st'.many ≤ st.many + 2
theorem sole_open (h : Sole w0 g st w) (hs : Lg.Still st) (hg : Lg.Good st.is t L N ep) (he : t.e < 1099511627776) (hc : st.cuts = 0 ∨ 2 < st.cuts) (hm : st.many ≤ 1000000) :
    Calls Tryd.prog 11 #[.pointer (some ⟨g, 0, none⟩)] w (OpenedPost w0 g st t L N ep w) := by
  obtain ⟨h1, h2, h3⟩ := Lg.open_run hs hg he
  have h4 := Lg.many_open st
  refine (open_any _ _ st w h.d hm).mono ?_
  rintro e w' ⟨hd, hch, hcase⟩
  rcases h3 with ⟨g1, _, g3, g4, g5⟩ | ⟨_, g2, g3, _⟩
  · rcases hcase with ⟨_, q, v, rfl, hl, hr⟩ | ⟨hne, _⟩
    · rw [h1] at hl
      rw [h2] at hr
      exact ⟨q, v, _, rfl, h.go hd hch, hl, hr, hch, g3, g4, g5, h4⟩
    · exact absurd g1 hne
  · omega
/-- Open, within which the power goes. -/
def BrokenPost (w0 : World) (g : Nat) (st : Dk.St) (t : Lg.Top) (L : List (Int × List UInt8)) (N : Nat) (ep : Int) (w : World) (e : Ending) (w' : World) : Prop :=
  ∃ v st', e = .returned (.tuple #[.pointer none, v, .int .i64 33]) ∧ Sole w0 g st' w' ∧ Ch Td w0.heap.size w w' ∧ Lg.Off st' ∧ (∃ t', t'.e ≤ t.e + 1 ∧ Lg.Good st'.is t' L N ep) ∧ st'.many ≤ st.many + 2
theorem sole_open_cut (h : Sole w0 g st w) (hs : Lg.Still st) (hg : Lg.Good st.is t L N ep) (he : t.e < 1099511627776) (hc : 0 < st.cuts ∧ st.cuts ≤ 2) (hm : st.many ≤ 1000000) :
    Calls Tryd.prog 11 #[.pointer (some ⟨g, 0, none⟩)] w (BrokenPost w0 g st t L N ep w) := by
  obtain ⟨h1, h2, h3⟩ := Lg.open_run hs hg he
  have h4 := Lg.many_open st
  refine (open_any _ _ st w h.d hm).mono ?_
  rintro e w' ⟨hd, hch, hcase⟩
  rcases h3 with ⟨_, g2, _⟩ | ⟨g1, _, _, g4, g5⟩
  · omega
  · rcases hcase with ⟨h0, _⟩ | ⟨_, v, rfl, _⟩
    · rw [h0] at g1; cases g1
    · refine ⟨v, _, by rw [g1], h.go hd hch, hch, g4, ?_, h4⟩
      rcases g5 with g5 | g5
      · exact ⟨t, by omega, g5⟩
      · exact ⟨_, Int.le_refl _, g5⟩

/-- Append: too much; well; the power goes. -/
def AppendedPost (w0 : World) (q g : Nat) (st : Dk.St) (t : Lg.Top) (L : List (Int × List UInt8)) (N : Nat) (R : List ByteArray) (w : World) (e : Ending) (w' : World) : Prop :=
  ∃ st', Sole w0 g st' w' ∧ Ch Tl w0.heap.size w w' ∧ st'.many ≤ st.many + 128 ∧
    ((127 - N < manyB R ∧ e = .returned (.int .i64 50) ∧ st' = st ∧ Lgw w' w0.heap.size q g ⟨t, N, 0⟩) ∨
     (manyB R ≤ 127 - N ∧ (st.cuts = 0 ∨ manyB R + 1 < st.cuts) ∧ e = .returned (.int .i64 0) ∧ Lgw w' w0.heap.size q g ⟨t, N + manyB R, 0⟩ ∧ Lg.Still st' ∧ st'.cuts = st.cuts - (manyB R + 1) ∧
        ∃ ep', Lg.Live st'.is t (L ++ (bls R).map fun r => (t.e, r)) (N + manyB R) ep') ∨
     (manyB R ≤ 127 - N ∧ 0 < st.cuts ∧ e = .returned (.int .i64 33) ∧ Lgw w' w0.heap.size q g ⟨t, N, 33⟩ ∧ Lg.Off st' ∧
        ∃ j N' ep', j ≤ R.length ∧ Lg.Good st'.is t (L ++ (bls (R.take j)).map fun r => (t.e, r)) N' ep'))
theorem sole_append {q : Nat} {v : Value} {R : List ByteArray} (h : Sole w0 g st w) (hs : Lg.Still st) (hv : Lg.Live st.is t L N ep) (he : t.e ≤ 1099511627776) (hl : Lgw w w0.heap.size q g ⟨t, N, 0⟩) (hr : Strs w v R) (hz : size R ≤ 1048576) (hm : st.many ≤ 1000000) :
    Calls Tryd.prog 12 #[.pointer (some ⟨q, 0, none⟩), v] w (AppendedPost w0 q g st t L N R w) := by
  have h3 := Lg.append_run hs hv he (bls R)
  have h4 := Lg.many_appendR ⟨t, N, 0⟩ st (bls R)
  refine (append_any _ q g _ st v R w h.d hl hr hz hm).mono ?_
  rintro e w' ⟨rfl, hd, hlw, hch⟩
  refine ⟨_, h.go hd hch, hch, h4, ?_⟩
  rcases h3 with ⟨g1, g2⟩ | ⟨g1, g2, g3, g4, g5, g6, g7⟩ | ⟨g1, g2, g3, g4, g5, j, N', ep', g6, g7⟩
  · rw [g2] at hlw ⊢
    exact .inl ⟨g1, rfl, rfl, hlw⟩
  · rw [g5] at hlw
    exact .inr (.inl ⟨g1, g3, by rw [g2], hlw, g4, g6, g7⟩)
  · rw [g5] at hlw
    rw [bls_take] at g7
    exact .inr (.inr ⟨g1, g3, by rw [g2], hlw, g4, j, N', ep', by rw [← bls_length]; exact g6, g7⟩)

/-- Renew: too much; well; the power goes. -/
def RenewedPost (w0 : World) (q g : Nat) (st : Dk.St) (t : Lg.Top) (L : List (Int × List UInt8)) (N : Nat) (ep : Int) (R : List ByteArray) (w : World) (e : Ending) (w' : World) : Prop :=
  ∃ st', Sole w0 g st' w' ∧ Ch Tl w0.heap.size w w' ∧ st'.many ≤ st.many + 130 ∧
    ((127 < manyB R ∧ e = .returned (.int .i64 50) ∧ st' = st ∧ Lgw w' w0.heap.size q g ⟨t, N, 0⟩) ∨
     (manyB R ≤ 127 ∧ (st.cuts = 0 ∨ manyB R + 3 < st.cuts) ∧ e = .returned (.int .i64 0) ∧ Lgw w' w0.heap.size q g ⟨Lg.newTop t, manyB R, 0⟩ ∧ Lg.Still st' ∧ st'.cuts = st.cuts - (manyB R + 3) ∧
        Lg.Live st'.is (Lg.newTop t) ((bls R).map fun r => (t.e + 1, r)) (manyB R) (t.e + 1)) ∨
     (manyB R ≤ 127 ∧ 0 < st.cuts ∧ e = .returned (.int .i64 33) ∧ Lgw w' w0.heap.size q g ⟨t, N, 33⟩ ∧ Lg.Off st' ∧
        (Lg.Good st'.is t L N ep ∨ Lg.Good st'.is (Lg.newTop t) ((bls R).map fun r => (t.e + 1, r)) (manyB R) (t.e + 1))))
theorem sole_renew {q : Nat} {v : Value} {R : List ByteArray} (h : Sole w0 g st w) (hs : Lg.Still st) (hv : Lg.Live st.is t L N ep) (he : t.e < 1099511627776) (hl : Lgw w w0.heap.size q g ⟨t, N, 0⟩) (hr : Strs w v R) (hz : size R ≤ 1048576) (hm : st.many ≤ 1000000) :
    Calls Tryd.prog 19 #[.pointer (some ⟨q, 0, none⟩), v] w (RenewedPost w0 q g st t L N ep R w) := by
  have h3 := Lg.renew_run hs hv he (bls R)
  have h4 := Lg.many_renewR ⟨t, N, 0⟩ st (bls R)
  refine (renew_any _ q g _ st v R w h.d hl hr hz hm).mono ?_
  rintro e w' ⟨rfl, hd, hlw, hch⟩
  refine ⟨_, h.go hd hch, hch, h4, ?_⟩
  rcases h3 with ⟨g1, g2⟩ | ⟨g1, g2, g3, g4, g5, g6, g7⟩ | ⟨g1, g2, g3, g4, g5, g6⟩
  · rw [g2] at hlw ⊢
    exact .inl ⟨g1, rfl, rfl, hlw⟩
  · rw [g5] at hlw
    exact .inr (.inl ⟨g1, g3, by rw [g2], hlw, g4, g6, g7⟩)
  · rw [g5] at hlw
    exact .inr (.inr ⟨g1, g3, by rw [g2], hlw, g4, g6⟩)
/-! ### whichever way it goes -/
def Up (st : Dk.St) : Prop := Lg.Still st ∨ Lg.Off st

theorem up_power (h : Up st) : Lg.Still st.power ∧ st.power.is = st.is := by
  rcases h with h | h
  · rw [h.power]; exact ⟨h, rfl⟩
  · exact ⟨h.power.1, h.power.2.1⟩
/-- A Cut at the next call, the barrier, and the power on again: nothing that was there goes. -/
theorem up_crash (h : Up st) (keep : Nat) : Lg.Still ((st.cut 1 keep).barrier).power ∧ ((st.cut 1 keep).barrier).power.is = st.is ∧ ((st.cut 1 keep).barrier).power.cuts = 0 := by
  have h1 : Lg.Off (st.cut 1 keep).barrier ∧ (st.cut 1 keep).barrier.is = st.is := by
    rcases h with h | h
    · have := (h.cut 1 keep).dies rfl
      exact ⟨this.1, this.2.1⟩
    · have := (h.cut 1 keep).barrier
      rw [this.1]
      exact ⟨h.cut 1 keep, rfl⟩
  have h2 := h1.1.power
  exact ⟨h2.1, by rw [h2.2.1, h1.2], h2.2.2⟩

def EitherPost (w0 : World) (g : Nat) (st : Dk.St) (t : Lg.Top) (L : List (Int × List UInt8)) (N : Nat) (ep : Int) (e : Ending) (w' : World) : Prop :=
  ∃ a b c st' t', e = .returned (.tuple #[a, b, c]) ∧ Sole w0 g st' w' ∧ Up st' ∧ Lg.Good st'.is t' L N ep ∧ t'.e ≤ t.e + 1 ∧ st'.many ≤ st.many + 2
theorem sole_open_either (h : Sole w0 g st w) (hs : Lg.Still st) (hg : Lg.Good st.is t L N ep) (he : t.e < 1099511627776) (hm : st.many ≤ 1000000) :
    Calls Tryd.prog 11 #[.pointer (some ⟨g, 0, none⟩)] w (EitherPost w0 g st t L N ep) := by
  by_cases hc : st.cuts = 0 ∨ 2 < st.cuts
  · refine (sole_open h hs hg he hc hm).mono ?_
    rintro e w' ⟨q, v, st', rfl, h1, _, _, _, h5, h6, _, h8⟩
    exact ⟨_, _, _, st', _, rfl, h1, .inl h5, h6.good, Int.le_refl _, h8⟩
  · refine (sole_open_cut h hs hg he (by omega) hm).mono ?_
    rintro e w' ⟨v, st', rfl, h1, _, h5, ⟨t', h6, h7⟩, h8⟩
    exact ⟨_, _, _, st', t', rfl, h1, .inr h5, h7, h6, h8⟩

/-- What is told behind an Append or a Renew that the power may have cut short: its answer F, the records S. -/
def Out (renew : Bool) (A W : List ByteArray) (F : Int) (S : List ByteArray) : Prop :=
  (F = 0 ∧ S = if renew then W else A ++ W) ∨ (F = 50 ∧ S = A) ∨ (F = 33 ∧ if renew then S = A ∨ S = W else ∃ j, S = A ++ W.take j)

def OutPost (w0 : World) (g : Nat) (st : Dk.St) (t : Lg.Top) (renew : Bool) (A W : List ByteArray) (e : Ending) (w' : World) : Prop :=
  ∃ F st' t' L' N' ep', e = .returned (.int .i64 F) ∧ Sole w0 g st' w' ∧ Up st' ∧ Lg.Good st'.is t' L' N' ep' ∧ Out renew A W F (recsOf L') ∧ t'.e ≤ t.e + 1 ∧ st'.many ≤ st.many + 130

theorem sole_append_out {q : Nat} {v : Value} {R : List ByteArray} (h : Sole w0 g st w) (hs : Lg.Still st) (hv : Lg.Live st.is t L N ep) (he : t.e ≤ 1099511627776) (hl : Lgw w w0.heap.size q g ⟨t, N, 0⟩) (hr : Strs w v R) (hz : size R ≤ 1048576) (hm : st.many ≤ 1000000) :
    Calls Tryd.prog 12 #[.pointer (some ⟨q, 0, none⟩), v] w (OutPost w0 g st t false (recsOf L) R) := by
  refine (sole_append h hs hv he hl hr hz hm).mono ?_
  rintro e w' ⟨st', h1, _, h3, hcase⟩
  rcases hcase with ⟨_, rfl, rfl, _⟩ | ⟨_, _, rfl, _, h5, _, ep', h6⟩ | ⟨_, _, rfl, _, h5, j, N', ep', _, h6⟩
  · exact ⟨50, _, t, L, N, ep, rfl, h1, .inl hs, hv.good, .inr (.inl ⟨rfl, rfl⟩), by omega, by omega⟩
  · exact ⟨0, st', t, _, _, ep', rfl, h1, .inl h5, h6.good, .inl ⟨rfl, recsOf_bls L t.e R⟩, by omega, by omega⟩
  · exact ⟨33, st', t, _, N', ep', rfl, h1, .inr h5, h6, .inr (.inr ⟨rfl, j, recsOf_bls L t.e (R.take j)⟩), by omega, by omega⟩
theorem sole_renew_out {q : Nat} {v : Value} {R : List ByteArray} (h : Sole w0 g st w) (hs : Lg.Still st) (hv : Lg.Live st.is t L N ep) (he : t.e < 1099511627776) (hl : Lgw w w0.heap.size q g ⟨t, N, 0⟩) (hr : Strs w v R) (hz : size R ≤ 1048576) (hm : st.many ≤ 1000000) :
    Calls Tryd.prog 19 #[.pointer (some ⟨q, 0, none⟩), v] w (OutPost w0 g st t true (recsOf L) R) := by
  refine (sole_renew h hs hv he hl hr hz hm).mono ?_
  rintro e w' ⟨st', h1, _, h3, hcase⟩
  rcases hcase with ⟨_, rfl, rfl, _⟩ | ⟨_, _, rfl, _, h5, _, h6⟩ | ⟨_, _, rfl, _, h5, h6⟩
  · exact ⟨50, _, t, L, N, ep, rfl, h1, .inl hs, hv.good, .inr (.inl ⟨rfl, rfl⟩), by omega, by omega⟩
  · exact ⟨0, st', _, _, _, _, rfl, h1, .inl h5, h6.good, .inl ⟨rfl, recsOf_new _ R⟩, Int.le_refl _, by omega⟩
  · rcases h6 with h6 | h6
    · exact ⟨33, st', t, L, N, ep, rfl, h1, .inr h5, h6, .inr (.inr ⟨rfl, .inl rfl⟩), by omega, by omega⟩
    · exact ⟨33, st', _, _, _, _, rfl, h1, .inr h5, h6, .inr (.inr ⟨rfl, .inr (recsOf_new _ R)⟩), Int.le_refl _, by omega⟩
end

end Go.Proofs.YtgahcbhdnplnoaaDoor
