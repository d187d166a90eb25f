/- What the law's encode and disks come to. -/
import Derived.Test.YtgahcbhdnplnoaaDoorCkLogChunksIn
import Derived.Test.YtgahcbhdnplnoaaDoorCkLogNewest
import Derived.Test.YtgahcbhdnplnoaaDoorCkChunkRefEncode
import Derived.Test.YtgahcbhdnplnoaaDoorCkDiskMany
import Derived.Test.YtgahcbhdnplnoaaDoorCkDiskRef
namespace Go.Proofs.YtgahcbhdnplnoaaDoor
open Go.RowKit

/-- A chunk's bytes, and whether it may be. -/
def Ck.b (x : Ck) : ByteArray := ⟨(Cn.encB x.c).toArray⟩
def Ck.ok (x : Ck) : Bool := ((Cn.encE x.c : Nat) : Int) == 0

theorem encoded_any (x : Ck) (w : World) :
    Calls Tryd.prog 38 #[ChV x.e x.q x.f x.l x.s] w fun y w' => y = .returned (.tuple #[.string x.b, .int .i64 ((Cn.encE x.c : Nat) : Int)]) ∧ Below w.heap.size w w' := by
  have hb := Blk.new w 45 (ChC x.e x.q x.f x.l x.s)
  have hg : Below w.heap.size w (w.alloc (.cells (ChC x.e x.q x.f x.l x.s) 45)) := (Below.refl _ _).alloc (Nat.le_refl _) _
  have HE := Lib.hid (fun W => encode_ref x.e x.q x.f x.l x.s W)
  obtain ⟨d0, d1, d2, d3, d4⟩ := five hb
  obtain ⟨S, hS⟩ : ∃ S, S = x.b := ⟨_, rfl⟩
  obtain ⟨E, hE⟩ : ∃ E, E = ((Cn.encE x.c : Nat) : Int) := ⟨_, rfl⟩
  have hV : EncV (⟨x.e, x.q, x.f, x.l, x.s.data.toList⟩ : Cn.Chu) = .tuple #[.string S, .int .i64 E] := by rw [hS, hE]; rfl
  rw [hV] at HE
  rw [← hS, ← hE]
  clear hS hE hV hb
  go_enter Tryd.func38, Tryd.ntmps38
  go_wp2_with fail
  generalize w.alloc (.cells (ChC x.e x.q x.f x.l x.s) 45) = w1 at *
  refine (HE.out w1).mono ?_
  rintro y w2 ⟨rfl, hb2⟩
  go_wp2_with fail
  go_ret2
  exact ⟨rfl, hg.trans (hb2.mono hg.size)⟩

theorem enc_any (x : Ck) (w : World) :
    Calls Tryd.prog 22 #[ChV x.e x.q x.f x.l x.s] w fun y w' => y = .returned (.tuple #[.string x.b, .bool x.ok]) ∧ Below w.heap.size w w' := by
  have hb := Blk.new w 45 (ChC x.e x.q x.f x.l x.s)
  have hg : Below w.heap.size w (w.alloc (.cells (ChC x.e x.q x.f x.l x.s) 45)) := (Below.refl _ _).alloc (Nat.le_refl _) _
  have HE := Lib.hid (fun W => encoded_any x W)
  obtain ⟨d0, d1, d2, d3, d4⟩ := five hb
  obtain ⟨E, hE⟩ : ∃ E, E = ((Cn.encE x.c : Nat) : Int) := ⟨_, rfl⟩
  have HK := Lib.hid (show x.ok = (E == 0) by rw [hE]; rfl)
  rw [← hE] at HE
  clear hE hb
  go_enter Tryd.func22, Tryd.ntmps22
  go_wp2_with fail
  generalize w.alloc (.cells (ChC x.e x.q x.f x.l x.s) 45) = w1 at *
  refine (HE.out w1).mono ?_
  rintro y w2 ⟨rfl, hb2⟩
  go_wp2_with fail
  go_ret2
  exact ⟨by rw [HK.out]; rfl, hg.trans (hb2.mono hg.size)⟩

set_option maxRecDepth 20000 in
set_option maxHeartbeats 1000000 in
theorem disks_any (B B' gd gr : Nat) (st : Dk.St) (w : World) (hd : Dsk w B gd st) (hr : Ref w B' gr st) :
    Calls Tryd.prog 26 #[.pointer (some ⟨gd, 0, none⟩), .pointer (some ⟨gr, 0, none⟩)] w fun y w' => y = .returned (.bool true) ∧ w = w' := by
  have HD := Lib.hid (fun i => dread_any B gd st i w hd)
  have HR := Lib.hid (fun i => rread_any B' gr st i w hr)
  have HDC := Lib.hid (calls_any B gd st w hd)
  have HRC := Lib.hid (rcalls_any B' gr st w hr)
  clear hd hr
  go_enter Tryd.func26, Tryd.ntmps26
  go_wp2_with fail
  go_loopw [5] (fun v wr => ∃ k : Nat, k ≤ 256 ∧ v = .int .i64 (k : Int) ∧ w = wr) (fun v _ => 256 - (intOf v).toNat)
  case atStart => exact ⟨0, by omega, rfl, rfl⟩
  case round =>
    obtain ⟨k, hk, rfl, rfl⟩ := hrel
    by_cases hlt : k < 256
    · have h1 := HD.out (k : Int)
      have h2 := HR.out (k : Int)
      generalize st.read (k : Int) = s at h1 h2
      generalize st.reach (k : Int) = E at h1 h2
      have H1 := Lib.hid h1
      have H2 := Lib.hid h2
      clear h1 h2
      go_wp2_with fail
      refine H1.out.mono ?_
      rintro e w2 ⟨rfl, rfl⟩
      go_wp2_with fail
      refine H2.out.mono ?_
      rintro e w2 ⟨rfl, rfl⟩
      go_wp2_with fail
      go_roundw
      case rel => exact ⟨k + 1, by omega, by go_num, by first | rfl | trivial⟩
      case measure => simp [intOf]; omega
    · obtain rfl : k = 256 := by omega
      go_wp2_with fail
      refine HDC.out.mono ?_
      rintro e w2 ⟨rfl, rfl⟩
      go_wp2_with fail
      refine HRC.out.mono ?_
      rintro e w2 ⟨rfl, rfl⟩
      go_wp2_with fail
      go_ret
      exact ⟨by simp, rfl⟩

end Go.Proofs.YtgahcbhdnplnoaaDoor
