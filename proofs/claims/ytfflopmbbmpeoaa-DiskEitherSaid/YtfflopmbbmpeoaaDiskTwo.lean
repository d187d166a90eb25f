/- Both disks in one memory: each call of one leaves the other as it is. -/
import Derived.Test.YtfflopmbbmpeoaaDiskRwrite
import Derived.Test.YtfflopmbbmpeoaaDiskWrite
import Derived.Test.YtfflopmbbmpeoaaDiskNew
namespace Go.Proofs.Ytfflopmbbmpeoaa
open Go.RowKit

theorem owns_base {w : World} {B B' : Nat} {e : TypeId} {size n : Nat} {v : Value} {xs : List Value} (h : w.ownsRow B e size v n xs) (hb : B' ≤ B) : w.ownsRow B' e size v n xs := by
  refine ⟨h.1, ?_⟩
  rcases h.2 with hn | ⟨g, cap, cur, hv, hg, rest⟩
  · exact .inl hn
  · exact .inr ⟨g, cap, cur, hv, Nat.le_trans hb hg, rest⟩
theorem Dsk.base {w : World} {B B' g : Nat} {st : Dk.St} (h : Dsk w B g st) (hb : B' ≤ B) : Dsk w B' g st := by
  obtain ⟨m, lv, tc, tf, n, h, hn⟩ := h
  exact ⟨m, lv, tc, tf, n, { h with row := owns_base h.row hb, atg := Nat.le_trans hb h.atg, atm := Nat.le_trans hb h.atm }, hn⟩
theorem Ref.base {w : World} {B B' g : Nat} {st : Dk.St} (h : Ref w B g st) (hb : B' ≤ B) : Ref w B' g st := by
  obtain ⟨b, lv, h⟩ := h
  exact ⟨b, lv, { h with row := owns_base h.row hb, atg := Nat.le_trans hb h.atg, atb := Nat.le_trans hb h.atb }⟩

/-- The program's disk alone, newer than w0. -/
structure One (w0 : World) (gd : Nat) (sd : Dk.St) (w : World) : Prop where
  d : Dsk w w0.heap.size gd sd
  below : Below w0.heap.size w0 w
/-- The program's disk gd is as sd, the document's gr as sr; both are newer than w0. -/
structure Two (w0 : World) (gd gr : Nat) (sd sr : Dk.St) (w : World) : Prop where
  d : Dsk w w0.heap.size gd sd
  r : Ref w w0.heap.size gr sr
  below : Below w0.heap.size w0 w

section
variable {w0 w w1 : World} {gd gr : Nat} {sd sr sd' sr' : Dk.St}
theorem Below.ch {T : Obj → Bool} (h : Below w0.heap.size w0 w) (hc : Ch T w0.heap.size w w1) : Below w0.heap.size w0 w1 := h.trans (hc.to_below h.size)
theorem One.go (h : One w0 gd sd w) (hd : Dsk w1 w0.heap.size gd sd') (hc : Ch Td w0.heap.size w w1) : One w0 gd sd' w1 := ⟨hd, Below.ch h.below hc⟩
theorem Two.god (h : Two w0 gd gr sd sr w) (hd : Dsk w1 w0.heap.size gd sd') (hc : Ch Td w0.heap.size w w1) : Two w0 gd gr sd' sr w1 := ⟨hd, h.r.kept hc (fun _ => rfl) (fun _ => rfl) (fun _ => rfl), Below.ch h.below hc⟩
theorem Two.gor (h : Two w0 gd gr sd sr w) (hr : Ref w1 w0.heap.size gr sr') (hc : Ch Tr w0.heap.size w w1) : Two w0 gd gr sd sr' w1 := ⟨h.d.kept hc (fun _ => rfl) (fun _ _ => rfl) (fun _ => rfl), hr, Below.ch h.below hc⟩
theorem Two.one (h : Two w0 gd gr sd sr w) : One w0 gd sd w := ⟨h.d, h.below⟩
/-- What is as it was leaves both. -/
theorem Two.below_up (h : Two w0 gd gr sd sr w) (hb : Below w.heap.size w w1) : Two w0 gd gr sd sr w1 :=
  ⟨h.d.kept (T := fun _ => false) (B' := 0) (Ch.of_below hb) (fun _ => rfl) (fun _ _ => rfl) (fun _ => rfl), h.r.kept (T := fun _ => false) (B' := 0) (Ch.of_below hb) (fun _ => rfl) (fun _ => rfl) (fun _ => rfl), h.below.trans (hb.mono h.below.size)⟩
theorem One.below_up (h : One w0 gd sd w) (hb : Below w.heap.size w w1) : One w0 gd sd w1 :=
  ⟨h.d.kept (T := fun _ => false) (B' := 0) (Ch.of_below hb) (fun _ => rfl) (fun _ _ => rfl) (fun _ => rfl), h.below.trans (hb.mono h.below.size)⟩
theorem Two.drew (h : Two w0 gd gr sd sr w) : Two w0 gd gr sd sr w.drew := h.below_up ((Below.refl _ _).drew)
theorem One.drew (h : One w0 gd sd w) : One w0 gd sd w.drew := h.below_up ((Below.refl _ _).drew)
theorem One.set {g i : Nat} {t : TypeId} {cs : Array Value} (h : One w0 gd sd w) (hb : Blk w g t cs) (hg : w0.heap.size ≤ g) (h1 : t ≠ 56) (h2 : t ≠ 3) (u : Value) : One w0 gd sd (w.setCell ⟨g, i, none⟩ u) := by
  have hc : Ch (fun o => match o with | .cells _ t' _ => t' == t | _ => false) w0.heap.size w (w.setCell ⟨g, i, none⟩ u) := Ch.set hb hg (by simp) i u
  exact ⟨h.d.kept hc (fun _ => by simpa using fun e => h1 e.symm) (fun _ _ => rfl) (fun _ => by simpa using fun e => h2 e.symm), Below.ch h.below hc⟩

theorem one_new (w0 : World) : Calls Try.prog 9 #[] w0 fun e w' => e = .returned (.pointer (some ⟨w0.heap.size + 1, 0, none⟩)) ∧ One w0 (w0.heap.size + 1) Dk.St.new w' := by
  refine (new_any w0).mono ?_
  rintro e w' ⟨rfl, h, hc⟩
  exact ⟨rfl, h, hc.to_below (Nat.le_refl _)⟩
theorem two_new (h : One w0 gd sd w) : Calls Try.prog 10 #[] w fun e w' => e = .returned (.pointer (some ⟨w.heap.size + 1, 0, none⟩)) ∧ Two w0 gd (w.heap.size + 1) sd Dk.St.new w' := by
  refine (rnew_any w).mono ?_
  rintro e w' ⟨rfl, hr, hc⟩
  have hb := hc.to_below (Nat.le_refl _)
  exact ⟨rfl, h.d.kept hc (fun _ => rfl) (fun _ _ => rfl) (fun _ => rfl), hr.base h.below.size, h.below.trans (hb.mono h.below.size)⟩

/-! ### the program's calls, where only it is there -/
theorem one_write (h : One w0 gd sd w) (i : Int) (s : ByteArray) (hm : sd.many ≤ 1073741824) :
    Calls Try.prog 13 #[.pointer (some ⟨gd, 0, none⟩), .int .i64 i, .string s] w fun e w' => e = .returned (.int .i64 (sd.writeE i s)) ∧ One w0 gd (sd.write i s) w' := by
  refine (write_any _ _ _ i s w h.d hm).mono ?_
  rintro e w' ⟨rfl, h1, hc⟩
  exact ⟨rfl, h.go h1 hc⟩
theorem one_barrier (h : One w0 gd sd w) (hm : sd.many ≤ 1073741824) :
    Calls Try.prog 15 #[.pointer (some ⟨gd, 0, none⟩)] w fun e w' => e = .returned (.int .i64 sd.barrierE) ∧ One w0 gd sd.barrier w' := by
  refine (barrier_any _ _ _ w h.d hm).mono ?_
  rintro e w' ⟨rfl, h1, hc⟩
  exact ⟨rfl, h.go h1 hc⟩
theorem one_cut (h : One w0 gd sd w) (x : Int) (keep : Nat) (hx : -9223372036854775808 ≤ x ∧ x ≤ 9223372036854775807) (hk : keep < 18446744073709551616) :
    Calls Try.prog 11 #[.pointer (some ⟨gd, 0, none⟩), .int .i64 x, .int .u64 (keep : Int)] w fun e w' => e = .returned (.tuple #[]) ∧ One w0 gd (sd.cut x keep) w' := by
  refine (cut_any _ _ _ x keep w h.d hx hk).mono ?_
  rintro e w' ⟨rfl, h1, hc⟩
  exact ⟨rfl, h.go h1 hc⟩
theorem one_power (h : One w0 gd sd w) :
    Calls Try.prog 21 #[.pointer (some ⟨gd, 0, none⟩)] w fun e w' => e = .returned (.tuple #[]) ∧ One w0 gd sd.power w' := by
  refine (power_any _ _ _ w h.d).mono ?_
  rintro e w' ⟨rfl, h1, hc⟩
  exact ⟨rfl, h.go h1 hc⟩
theorem one_dead (h : One w0 gd sd w) : Calls Try.prog 17 #[.pointer (some ⟨gd, 0, none⟩)] w fun e w' => e = .returned (.bool sd.off) ∧ w = w' := dead_any _ _ _ w h.d
theorem one_calls (h : One w0 gd sd w) : Calls Try.prog 18 #[.pointer (some ⟨gd, 0, none⟩)] w fun e w' => e = .returned (.int .i64 (sd.many : Int)) ∧ w = w' := calls_any _ _ _ w h.d
theorem one_read (h : One w0 gd sd w) (i : Int) : Calls Try.prog 22 #[.pointer (some ⟨gd, 0, none⟩), .int .i64 i] w fun e w' => e = .returned (.tuple #[.string (sd.read i), .int .i64 (sd.reach i)]) ∧ w = w' := read_any _ _ _ i w h.d

/-! ### the calls of both -/
theorem two_write (h : Two w0 gd gr sd sr w) (i : Int) (s : ByteArray) (hm : sd.many ≤ 1073741824) :
    Calls Try.prog 13 #[.pointer (some ⟨gd, 0, none⟩), .int .i64 i, .string s] w fun e w' => e = .returned (.int .i64 (sd.writeE i s)) ∧ Two w0 gd gr (sd.write i s) sr w' := by
  refine (write_any _ _ _ i s w h.d hm).mono ?_
  rintro e w' ⟨rfl, h1, hc⟩
  exact ⟨rfl, h.god h1 hc⟩
theorem two_rwrite (h : Two w0 gd gr sd sr w) (i : Int) (s : ByteArray) (hm : sr.many ≤ 1073741824) :
    Calls Try.prog 14 #[.pointer (some ⟨gr, 0, none⟩), .int .i64 i, .string s] w fun e w' => e = .returned (.int .i64 (sr.writeE i s)) ∧ Two w0 gd gr sd (sr.write i s) w' := by
  refine (rwrite_any _ _ _ i s w h.r hm).mono ?_
  rintro e w' ⟨rfl, h1, hc⟩
  exact ⟨rfl, h.gor h1 hc⟩
theorem two_barrier (h : Two w0 gd gr sd sr w) (hm : sd.many ≤ 1073741824) :
    Calls Try.prog 15 #[.pointer (some ⟨gd, 0, none⟩)] w fun e w' => e = .returned (.int .i64 sd.barrierE) ∧ Two w0 gd gr sd.barrier sr w' := by
  refine (barrier_any _ _ _ w h.d hm).mono ?_
  rintro e w' ⟨rfl, h1, hc⟩
  exact ⟨rfl, h.god h1 hc⟩
theorem two_rbarrier (h : Two w0 gd gr sd sr w) (hm : sr.many ≤ 1073741824) :
    Calls Try.prog 16 #[.pointer (some ⟨gr, 0, none⟩)] w fun e w' => e = .returned (.int .i64 sr.barrierE) ∧ Two w0 gd gr sd sr.barrier w' := by
  refine (rbarrier_any _ _ _ w h.r hm).mono ?_
  rintro e w' ⟨rfl, h1, hc⟩
  exact ⟨rfl, h.gor h1 hc⟩
theorem two_cut (h : Two w0 gd gr sd sr w) (x : Int) (keep : Nat) (hx : -9223372036854775808 ≤ x ∧ x ≤ 9223372036854775807) (hk : keep < 18446744073709551616) :
    Calls Try.prog 11 #[.pointer (some ⟨gd, 0, none⟩), .int .i64 x, .int .u64 (keep : Int)] w fun e w' => e = .returned (.tuple #[]) ∧ Two w0 gd gr (sd.cut x keep) sr w' := by
  refine (cut_any _ _ _ x keep w h.d hx hk).mono ?_
  rintro e w' ⟨rfl, h1, hc⟩
  exact ⟨rfl, h.god h1 hc⟩
theorem two_rcut (h : Two w0 gd gr sd sr w) (x : Int) (keep : Nat) (hx : x ≤ 9223372036854775807) (hk : keep < 18446744073709551616) :
    Calls Try.prog 12 #[.pointer (some ⟨gr, 0, none⟩), .int .i64 x, .int .u64 (keep : Int)] w fun e w' => e = .returned (.tuple #[]) ∧ Two w0 gd gr sd (sr.cut x keep) w' := by
  refine (rcut_any _ _ _ x keep w h.r hx hk).mono ?_
  rintro e w' ⟨rfl, h1, hc⟩
  exact ⟨rfl, h.gor h1 hc⟩
theorem two_fail (h : Two w0 gd gr sd sr w) (x : Int) (hx : -9223372036854775808 ≤ x ∧ x ≤ 9223372036854775807) :
    Calls Try.prog 26 #[.pointer (some ⟨gd, 0, none⟩), .int .i64 x] w fun e w' => e = .returned (.tuple #[]) ∧ Two w0 gd gr (sd.fail x) sr w' := by
  refine (fail_any _ _ _ x w h.d hx).mono ?_
  rintro e w' ⟨rfl, h1, hc⟩
  exact ⟨rfl, h.god h1 hc⟩
theorem two_rfail (h : Two w0 gd gr sd sr w) (x : Int) (hx : x ≤ 9223372036854775807) :
    Calls Try.prog 36 #[.pointer (some ⟨gr, 0, none⟩), .int .i64 x] w fun e w' => e = .returned (.tuple #[]) ∧ Two w0 gd gr sd (sr.fail x) w' := by
  refine (rfail_any _ _ _ x w h.r hx).mono ?_
  rintro e w' ⟨rfl, h1, hc⟩
  exact ⟨rfl, h.gor h1 hc⟩
theorem two_power (h : Two w0 gd gr sd sr w) :
    Calls Try.prog 21 #[.pointer (some ⟨gd, 0, none⟩)] w fun e w' => e = .returned (.tuple #[]) ∧ Two w0 gd gr sd.power sr w' := by
  refine (power_any _ _ _ w h.d).mono ?_
  rintro e w' ⟨rfl, h1, hc⟩
  exact ⟨rfl, h.god h1 hc⟩
theorem two_rpower (h : Two w0 gd gr sd sr w) :
    Calls Try.prog 24 #[.pointer (some ⟨gr, 0, none⟩)] w fun e w' => e = .returned (.tuple #[]) ∧ Two w0 gd gr sd sr.power w' := by
  refine (rpower_any _ _ _ w h.r).mono ?_
  rintro e w' ⟨rfl, h1, hc⟩
  exact ⟨rfl, h.gor h1 hc⟩
theorem two_rread (h : Two w0 gd gr sd sr w) (i : Int) : Calls Try.prog 35 #[.pointer (some ⟨gr, 0, none⟩), .int .i64 i] w fun e w' => e = .returned (.tuple #[.string (sr.read i), .int .i64 (sr.reach i)]) ∧ w = w' := rread_any _ _ _ i w h.r
theorem two_rdead (h : Two w0 gd gr sd sr w) : Calls Try.prog 37 #[.pointer (some ⟨gr, 0, none⟩)] w fun e w' => e = .returned (.bool sr.off) ∧ w = w' := rdead_any _ _ _ w h.r
theorem two_rcalls (h : Two w0 gd gr sd sr w) : Calls Try.prog 19 #[.pointer (some ⟨gr, 0, none⟩)] w fun e w' => e = .returned (.int .i64 (sr.many : Int)) ∧ w = w' := rcalls_any _ _ _ w h.r
end

end Go.Proofs.Ytfflopmbbmpeoaa
