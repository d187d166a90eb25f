/- The walk of KeepLong: true of any number of puts, any size. -/
import Derived.Test.YtimcepoleboldaaGreatDoorKpKeepDim
import Derived.Test.YtimcepoleboldaaGreatDoorKpKeepLongP
import Derived.Test.YtimcepoleboldaaGreatDoorPackBytes
import Derived.OwnWalk
import Derived.IntWalk
namespace Go.Proofs.YtimcepoleboldaaGreatDoor
open Go.RowKit Go.Deep

/-- The law's buffer: a row of bytes in the block bv. -/
abbrev Buf (w : World) (bv sz : Nat) (l : List UInt8) : Prop := w.ownsRow bv 5 1 (.slice (some ⟨bv, 0, none⟩) sz sz) sz (Cells l)
theorem buf_made {w : World} {bv sz : Nat} (h : w.ownsRow bv 5 1 (.slice (some ⟨bv, 0, none⟩) sz sz) sz (madeCells (Value.int .u8 0).cells (sz * 1)).toList) : Buf w bv sz (List.replicate sz 0) := by
  have hmade : (madeCells (Value.int .u8 0).cells (sz * 1)).toList = Cells (List.replicate sz 0) := by
    apply List.ext_getElem
    · simp [madeCells, Value.cells, Cells]
    · intro i h1 h2
      simp [madeCells, Value.cells, Nat.mod_one, Cells]
  rw [hmade] at h
  exact h
theorem not_odd_put (k v : ByteArray) : ¬ Kp.odd [⟨1, k, v⟩] := by
  rintro ⟨x, hx, h1, h2⟩
  simp at hx
  subst hx
  exact h1 rfl
theorem recs_put (w : World) (a b : ByteArray) : Recs (w.alloc (.cells #[.int .i64 1, .string a, .string b] 32)) (.slice (some ⟨w.heap.size, 0, none⟩) 1 1) [⟨1, a, b⟩] := by
  refine ⟨some ⟨w.heap.size, 0, none⟩, 1, rfl, fun j x hj => ?_⟩
  match j, hj with
  | 0, hj =>
    simp at hj
    subst hj
    exact ⟨by show (-9223372036854775808 : Int) ≤ 1 ∧ (1 : Int) ≤ 9223372036854775807; decide, w.heap.size, 0, rfl, by simp, by simp, by simp, by simp⟩
  | j + 1, hj => simp at hj

theorem fill_up {l : List UInt8} {k sz : Nat} (x : UInt8) (hl : l.length = sz) (hk : k < sz) : (Cells (List.replicate k x ++ l.drop k)).set k (.int .u8 (x.toNat : Int)) = Cells (List.replicate (k + 1) x ++ l.drop (k + 1)) := by
  have h1 : l.drop k = l[k]'(by omega) :: l.drop (k + 1) := List.drop_eq_getElem_cons (by omega)
  rw [h1]
  have h2 : (Cells (List.replicate k x ++ l[k]'(by omega) :: l.drop (k + 1))).set k (.int .u8 (x.toNat : Int)) = Cells (List.replicate k x) ++ (.int .u8 (x.toNat : Int) :: Cells (l.drop (k + 1))) := by
    unfold Cells
    rw [List.map_append, List.map_cons, List.set_append_right _ _ (by simp)]
    simp
  rw [h2, List.replicate_succ']
  unfold Cells
  simp
theorem buf_grown {w w' : World} {bv sz : Nat} {l : List UInt8} (h : Buf w bv sz l) (hg : w.grownBy w' none) : Buf w' bv sz l := by
  have hc : @Ch noKeep (fun _ => false) 0 w w' := Ch.of_grown hg (fun g h => by cases h)
  exact owns_ch h hc (fun _ => rfl)
theorem buf_block {w : World} {bv sz : Nat} {l : List UInt8} (h : Buf w bv sz l) : ∃ cur z, w.heap[bv]? = some (.cells cur 5 z) := by
  have h' : w.ownsRow bv 5 1 (.slice (some ⟨bv, 0, none⟩) sz sz) sz (Cells l) := h
  rcases h'.2 with ⟨h1, _⟩ | ⟨g, cap, cur, h1, _, hg, _⟩
  · injection h1 with h1
    cases h1
  · simp only [Value.slice.injEq, Option.some.injEq, Addr.mk.injEq, and_true, true_and] at h1
    rw [← h1.1] at hg
    exact ⟨cur, _, hg⟩
theorem buf_lt {w : World} {bv sz : Nat} {l : List UInt8} (h : Buf w bv sz l) : bv < w.heap.size := by
  obtain ⟨cur, z, hg⟩ := buf_block h
  exact (Array.getElem?_eq_some_iff.1 hg).1

def Tu : Obj → Bool
  | .cells _ t _ => t == 5
  | _ => false
theorem dsk_kept {K K' : Keep} {w w' : World} {B B' g : Nat} {st : Dk.St} {T : Obj → Bool} (h : @Dsk K w B g st) (hc : @Ch K' T B' w w') (h1 : ∀ cs, T (.cells cs 81 (0, 0)) = false) (h2 : ∀ es c, T (.map es c) = false) (h3 : ∀ cs, T (.cells cs 3 (0, 0)) = false) : @Dsk K w' B g st := h.kept hc h1 h2 h3
theorem shop_grown {K : Keep} {w w' : World} {B g s mb n : Nat} {room : Int} {m : Kp.Mp} {st : Dk.St} {e : Int} {bv sz : Nat} {l : List UInt8} (h : Shop K w B g s mb n room m st e) (hb : Buf w bv sz l) (hg : w.grownBy w' (some bv)) : Shop K w' B g s mb n room m st e := by
  have hblk : ∃ o, w.heap[bv]? = some o ∧ Tu o = true ∧ ∀ es c, o ≠ .map es c := by
    obtain ⟨cur, z, hc⟩ := buf_block hb
    exact ⟨_, hc, rfl, fun es c e => by cases e⟩
  obtain ⟨o, ho, hT, hm⟩ := hblk
  have hc : @Ch ⟨fun i => i ≠ bv⟩ Tu 0 w w' := Ch.of_grownK hg (fun g h => by injection h with h; subst h; exact ⟨Nat.zero_le _, fun hn => hn rfl, o, ho, hT⟩)
  obtain ⟨q, tb, t, L, N, ep, h1, h2, h3, h4⟩ := h
  have hmb : mb ≠ bv := by
    intro e
    obtain ⟨G, D, ht⟩ := h3.tab
    obtain ⟨es, c, hb⟩ := ht.map.block
    rw [e, ho] at hb
    injection hb with hb
    exact hm _ _ hb
  exact ⟨q, tb, t, L, N, ep, h1, dsk_kept h2 hc (fun _ => rfl) (fun _ _ => rfl) (fun _ => rfl), ⟨hc.blk h3.blk rfl, h3.ats, h3.free, h3.log.kept hc (fun _ => rfl), h3.tab.kept hc hmb (fun _ => rfl) (fun _ => rfl), h3.kept⟩, h4⟩
/-- A text of one byte. -/
theorem one_byte (w : World) (j : Nat) (c : Int) (hc : ((97 + j : Nat) : Int) = c) (hj : 97 + j < 256) : (convert 37 9 (.slice (some ⟨w.heap.size, 0, none⟩) 1 1)).run Tryz.prog (w.alloc (.cells #[.int .u8 c] 5)) = .ok (.string (Kp.lk j)) (w.alloc (.cells #[.int .u8 c] 5)) := by
  subst hc
  have hb : ((UInt8.ofNat (97 + j)).toNat : Int) = ((97 + j : Nat) : Int) := by rw [UInt8.toNat_ofNat']; omega
  have h : (w.alloc (.cells #[.int .u8 ((97 + j : Nat) : Int)] 5)).ownsRow w.heap.size 5 1 (.slice (some ⟨w.heap.size, 0, none⟩) 1 1) 1 (Cells [UInt8.ofNat (97 + j)]) := by
    refine ⟨rfl, .inr ⟨w.heap.size, 1, #[.int .u8 ((97 + j : Nat) : Int)], rfl, Nat.le_refl _, heap_alloc_new w _, Nat.le_refl _, by decide, rfl, ?_⟩⟩
    show [Value.int .u8 ((97 + j : Nat) : Int)] = [Value.int .u8 ((UInt8.ofNat (97 + j)).toNat : Int)]
    rw [hb]
  exact str_back _ _ _ _ _ [UInt8.ofNat (97 + j)] rfl h
theorem buf_text {w : World} {bv sz i : Nat} (h : Buf w bv sz (List.replicate sz (UInt8.ofNat i))) : (convert 37 9 (.slice (some ⟨bv, 0, none⟩) sz sz)).run Tryz.prog w = .ok (.string (Kp.lval sz i)) w :=
  str_back _ _ _ _ _ _ (by simp) h
theorem long_fits {sz i : Nat} {m : Kp.Mp} (h : Kp.LInv sz i m) (hs : sz ≤ 255) : (Kp.batch (Kp.puts m)).length ≤ 12192 := by
  have h1 := h.fits hs
  have := Kp.batch_short (m := m) (by omega) (by omega)
  omega

/-- What the loop of puts knows. -/
structure LongAt (w0 : World) (g s bv n sz i : Nat) (wr : World) : Prop where
  shop : ∃ (K : Keep) (mb nn : Nat) (m : Kp.Mp) (st : Dk.St) (e : Int), Shop K wr w0.heap.size g s mb nn 1048576 m st e ∧ Kp.LInv sz i m ∧ nn ≤ 12192 + i ∧ e ≤ 1 + i ∧ st.many ≤ 2 + 258 * i
  buf : ∃ l : List UInt8, Buf wr bv sz l ∧ l.length = sz ∧ (0 < i → l = List.replicate sz (UInt8.ofNat (i - 1)))
  below : Below w0.heap.size w0 wr
  le : i ≤ n
  base : w0.heap.size ≤ bv

set_option maxRecDepth 20000 in
set_option maxHeartbeats 8000000 in
theorem long_walk (n sz : Nat) (w : World) (hn : n < 256) (hs : sz < 256) :
    Calls Tryz.prog 4 #[.int .u8 (n : Int), .int .u8 (sz : Int)] w fun x w' => x = .returned (.bool true) ∧ Below w.heap.size w w' := by
  obtain ⟨i0, hi, hz0, hz1, hz2⟩ := info_parts info_u8
  have hni : (n : Int) < 256 := by omega
  have hsi : (sz : Int) < 256 := by omega
  go_enter Tryz.func4, Tryz.ntmps4
  go_wp2_with fail
  refine (disk_new w).mono ?_
  rintro e w1 ⟨rfl, hd1, hb1⟩
  obtain ⟨g, hg⟩ : ∃ g, g = w.heap.size + 1 := ⟨_, rfl⟩
  rw [← hg] at hd1 ⊢
  have HB1 := Lib.hid hb1
  have HD1 := Lib.hid hd1
  clear hg hb1 hd1
  go_wp2_with fail
  refine (shop_new HD1.out (by decide) (by decide)).mono ?_
  rintro e w2 ⟨K2, s, mb, nn, st2, rfl, -, hS, hnn, hc, hm⟩
  have HS2 := Lib.hid hS
  have HB2 := Lib.hid (HB1.out.trans (hc.to_below HB1.out.size))
  have HM2 := Lib.hid (show nn ≤ 12192 ∧ st2.many ≤ 2 from ⟨hnn, hm⟩)
  clear hS hc hnn hm HD1 HB1
  go_wp2_with (at_make; refine wpList_make_full _ rfl _ _ 37 rfl w2.heap.size 5 i0 (.int .u8 0) 1 Tryz.underlying37 hi hz0 hz1 _ _ _ _ sz rfl rfl rfl rfl (by rw [hz2]; omega) (by unfold maxLen; omega) (Nat.le_refl _) ?_; intro w3 hown3 hgrow3)
  obtain ⟨bv, hbv⟩ : ∃ bv, bv = w2.heap.size := ⟨_, rfl⟩
  have hL0 : LongAt w g s bv n sz 0 w3 := by
    refine ⟨⟨K2, mb, nn, [], st2, 1, HS2.out.below (gr_to_below hgrow3), Kp.LInv.zero sz, ?_, ?_, ?_⟩, ⟨List.replicate sz 0, ?_, by simp, fun h => absurd h (by decide)⟩, HB2.out.trans ((gr_to_below hgrow3).mono HB2.out.size), Nat.zero_le _, by rw [hbv]; exact HB2.out.size⟩
    · have := HM2.out; omega
    · omega
    · have := HM2.out; omega
    · rw [hbv]
      exact buf_made hown3
  have HL0 := Lib.hid hL0
  rw [← hbv]
  clear hL0 hown3 hgrow3 HS2 HB2 HM2 hbv
  go_loopw [9] (fun vi wr => ∃ i : Nat, vi = .int .i64 (i : Int) ∧ LongAt w g s bv n sz i wr) (fun vi _ => n - (intOf vi).toNat)
  case atStart => exact ⟨0, rfl, HL0.out⟩
  case round =>
    clear HL0
    obtain ⟨i, rfl, hA⟩ := hrel
    have HA := Lib.hid hA
    have hin := hA.le
    clear hA
    by_cases hlt : i < n
    · have hii : (i : Int) < (n : Int) := by omega
      obtain ⟨l, hl, hlen, -⟩ := HA.out.buf
      have HBF := Lib.hid hl
      have HLN := Lib.hid hlen
      have hlt0 := buf_lt hl
      have HLT := Lib.hid hlt0
      obtain ⟨x, hx⟩ : ∃ x : UInt8, x = UInt8.ofNat i := ⟨_, rfl⟩
      have hxi : ((x.toNat : Nat) : Int) = (i : Int) := by rw [hx, UInt8.toNat_ofNat']; omega
      have HX := Lib.hid hx
      have hmod : (i : Int).tmod 7 = ((i % 7 : Nat) : Int) := by rw [Int.tmod_eq_emod_of_nonneg (by omega)]; omega
      have hwrap : IntKind.u8.wrap (i : Int) = (i : Int) := by unfold IntKind.wrap; simp [IntKind.signed, IntKind.bits]; omega
      clear hl hlen hlt0 hx
      generalize wr = wo at *
      go_wp2_with fail
      go_loopw [11] (fun vk wx => ∃ k : Nat, vk = .int .i64 (k : Int) ∧ k ≤ sz ∧ Buf wx bv sz (List.replicate k x ++ l.drop k) ∧ wo.grownBy wx (some bv)) (fun vk _ => sz - (intOf vk).toNat)
      case atStart => exact ⟨0, rfl, Nat.zero_le _, by simpa using HBF.out, gr_refl wo _⟩
      case round =>
        obtain ⟨k, rfl, hk, hB, hg⟩ := hrel
        by_cases hkl : k < sz
        · have hcell : wr.cell? ⟨bv, k, none⟩ = some (.int .u8 ((l[k]'(by have := HLN.out; omega)).toNat : Int)) := by
            have h1 := World.ownsRow.cells hB (g := bv) rfl k (.int .u8 ((l[k]'(by have := HLN.out; omega)).toNat : Int)) (by
              have := HLN.out
              unfold Cells
              rw [List.map_append, List.getElem?_append_right (by simp)]
              simp [List.getElem?_drop, List.getElem?_eq_getElem (show k < l.length by omega)])
            have hadd : (⟨bv, 0, none⟩ : Addr).add k = ⟨bv, k, none⟩ := by unfold Addr.add; split <;> simp_all
            rw [hadd] at h1
            exact h1
          have hfr := World.ownsRow.frozenAt hB k
          have hst := World.ownsRow.stored hB k (.int .u8 (x.toNat : Int))
          have hki : (k : Int) < (sz : Int) := by omega
          have HST := Lib.hid (show Buf (wr.setCell ⟨bv, k, none⟩ (.int .u8 (i : Int))) bv sz (List.replicate (k + 1) x ++ l.drop (k + 1)) ∧ wo.grownBy (wr.setCell ⟨bv, k, none⟩ (.int .u8 (i : Int))) (some bv) by
            rw [← hxi]
            refine ⟨?_, gr_trans hg hst.2⟩
            have h1 := hst.1
            rw [fill_up x HLN.out hkl] at h1
            exact h1)
          clear hst hB hg hxi
          go_wp2_with fail
          go_roundw
          case rel => exact ⟨k + 1, by go_num, by omega, HST.out.1, HST.out.2⟩
          case measure => simp [intOf]; omega
        · obtain rfl : k = sz := by omega
          have HB9 := Lib.hid (show Buf wr bv k (List.replicate k x) by
            have := HLN.out
            rw [List.drop_of_length_le (by omega), List.append_nil] at hB
            exact hB)
          have HG9 := Lib.hid hg
          obtain ⟨K, mb, nn, m, st, e, hsh, hinv, hnn, he, hmm⟩ := HA.out.shop
          have hsh9 := shop_grown hsh HBF.out hg
          have hbw : Below w.heap.size w wr := HA.out.below.grown hg HA.out.below.size (fun k h => by injection h with h; rw [← h]; exact HA.out.base)
          clear hB hg hsh
          have hone := one_byte wr (i % 7) (97 + (i : Int) % 7) (by omega) (by omega)
          have hb1 : Below wr.heap.size wr (wr.alloc (.cells #[.int .u8 (97 + (i : Int) % 7)] 5)) := (Below.refl _ _).alloc (Nat.le_refl _) _
          have HBX := Lib.hid (show Buf wr bv k (List.replicate k (UInt8.ofNat i)) by rw [← HX.out]; exact HB9.out)
          have htext := buf_text (buf_grown HBX.out (gr_of_below hb1 none))
          have hb2 : Below wr.heap.size wr ((wr.alloc (.cells #[.int .u8 (97 + (i : Int) % 7)] 5)).alloc (.cells #[.int .i64 1, .string (Kp.lk (i % 7)), .string (Kp.lval k i)] 32)) := hb1.alloc hb1.size _
          have HR2 := Lib.hid (recs_put (wr.alloc (.cells #[.int .u8 (97 + (i : Int) % 7)] 5)) (Kp.lk (i % 7)) (Kp.lval k i))
          have HS2 := Lib.hid (hsh9.below hb2)
          have HB2 := Lib.hid (hbw.trans (hb2.mono hbw.size))
          have HF2 := Lib.hid (buf_grown HBX.out (gr_of_below hb2 none))
          have HI := Lib.hid hinv
          have HN2 := Lib.hid (show nn ≤ 12192 + i ∧ e ≤ 1 + i ∧ st.many ≤ 2 + 258 * i from ⟨hnn, he, hmm⟩)
          clear hsh9 hbw hb1 hb2 hinv hnn he hmm HBX HB9 HG9
          go_wp2_with fail
          rw [show (wr.alloc (.cells #[.int .u8 (97 + (i : Int) % 7)] 5)).heap.size = wr.heap.size + 1 by simp] at HR2
          generalize (wr.alloc (.cells #[.int .u8 (97 + (i : Int) % 7)] 5)).alloc (.cells #[.int .i64 1, .string (Kp.lk (i % 7)), .string (Kp.lval k i)] 32) = w5 at *
          generalize wr.heap.size + 1 = a5 at *
          have hfit := HI.out.fits (by omega)
          have hnext := HI.out.next
          have hfit2 := hnext.fits (by omega)
          have hlong := long_fits hnext (by omega)
          have hheavy : Kp.heavy [⟨1, Kp.lk (i % 7), Kp.lval k i⟩] = (Kp.lk (i % 7)).size + (Kp.lval k i).size + 0 := rfl
          rw [Kp.lk_size, Kp.lval_size] at hheavy
          refine (shop_put HS2.out (by have := HN2.out; omega) HR2.out (by rw [hheavy]; omega) (by show _ + 1 ≤ _; omega) (by have := HN2.out; omega) (by show _ + 1 ≤ _; have := HN2.out; omega)).mono ?_
          rintro e w6 ⟨E, K6, mb6, n6, st6, e6, rfl, -, hS6, he0, he1, hn6, hc6, -, hm6, hE, -, -⟩
          have h0 : E = 0 := by
            rcases hE with h | ⟨_, h⟩ | ⟨_, _, h | h⟩
            · exact h
            · exact absurd h (not_odd_put _ _)
            · omega
            · omega
          subst h0
          rw [if_pos rfl] at hS6
          have HA6 := Lib.hid (show LongAt w g s bv n k (i + 1) w6 from
            ⟨⟨K6, mb6, n6, _, st6, e6, hS6, hnext, by have := HN2.out; simp at hn6; omega, by have := HN2.out; omega, by have := HN2.out; omega⟩,
              ⟨_, owns_ch HF2.out hc6 (fun _ => rfl), by simp, fun _ => rfl⟩, HB2.out.trans (hc6.to_below HB2.out.size), by omega, HA.out.base⟩)
          clear hS6 he0 he1 hn6 hc6 hm6 hE hfit hnext hfit2 hlong hheavy HS2 HB2 HF2 HR2 HI HN2 HA hone htext
          go_wp2_with fail
          go_roundw
          case rel => exact ⟨i + 1, by go_num, HA6.out⟩
          case measure => simp [intOf]; omega
    · obtain rfl : i = n := by omega
      obtain ⟨K, mb, nn, m, st, e, hsh, hinv, hnn, he, hmm⟩ := HA.out.shop
      obtain ⟨l, hl, hlen, hlast⟩ := HA.out.buf
      obtain ⟨q, tb, t, L, N, ep, rfl, hd, hk, hst, hlv, hmap, hc0⟩ := hsh
      have HI := Lib.hid hinv
      have hfit := hinv.fits (by omega)
      have HFT := Lib.hid hfit
      have HK := Lib.hid hk
      have HBF := Lib.hid hl
      have HLL := Lib.hid hlast
      have HBW := Lib.hid HA.out.below
      have HO := Lib.hid (shop_open hd hst hlv.good (by omega) hc0 (by omega) (room := 1048576) (by decide) (by decide))
      rw [hmap] at HO
      clear hinv hl hlen hlast hd hk hst hlv hmap hc0 hnn he hmm hfit HA
      go_wp2_with fail
      refine HO.out.mono ?_
      rintro e w5 ⟨K5, t5, mb5, n5, st5, rfl, -, hS5, hn5, hc5, hm5⟩
      have HS5 := Lib.hid hS5
      have HB5 := Lib.hid (HBW.out.trans (hc5.to_below HBW.out.size))
      have HK5 := Lib.hid (HK.out.disk hc5)
      have HF5 := Lib.hid (show Buf w5 bv sz l from owns_ch HBF.out hc5 (fun _ => rfl))
      clear hS5 hn5 hc5 hm5 HO HK HBF HBW
      go_wp2_with fail
      refine (shop_keys HS5.out (by have := HFT.out; omega)).mono ?_
      rintro e w6 ⟨v6, rfl, hr6, hb6⟩
      obtain ⟨A6, c6, hv6, -, -⟩ := Strs.of_row hr6
      subst hv6
      rw [List.length_map]
      have HS6 := Lib.hid (HS5.out.below hb6)
      have HB6 := Lib.hid (HB5.out.trans (hb6.mono HB5.out.size))
      have HK6 := Lib.hid (HK5.out.below hb6)
      have HF6 := Lib.hid (buf_grown HF5.out (gr_of_below hb6 none))
      clear hr6 hb6 HS5 HB5 HK5 HF5
      obtain ⟨p, hp⟩ : ∃ p, p = min i 7 := ⟨_, rfl⟩
      have hlen : (m.length : Int) = (p : Int) := by rw [HI.out.len, hp]
      have hmin : min (i : Int) 7 = (p : Int) := by omega
      have hp7 : (p : Int) ≤ 7 := by omega
      have HP := Lib.hid hp
      clear hp
      go_wp2_with fail
      refine (shop_bytes HS6.out).mono ?_
      rintro e w' ⟨rfl, rfl⟩
      obtain ⟨z, hz⟩ : ∃ z, z = Kp.size m := ⟨_, rfl⟩
      rw [← hz]
      have hmul : (p : Int) * (1 + (sz : Int)) = (z : Int) := by
        rw [hz, HI.out.size, ← HP.out, Int.natCast_mul, Int.natCast_add]
        rfl
      have hz7 : (z : Int) ≤ 1792 := by have := HFT.out; omega
      have hcmp : ((z : Int) != wrap64 ((p : Int) * (1 + (sz : Int)))) = false := by
        rw [hmul, show wrap64 (z : Int) = (z : Int) by unfold wrap64; omega]
        simp
      clear hmul hz hz7
      go_wp2_with fail
      go_loopw [15] (fun vj wr => ∃ j : Nat, vj = .int .i64 (j : Int) ∧ j ≤ 7 ∧ Below w6.heap.size w6 wr) (fun vj _ => 7 - (intOf vj).toNat)
      case atStart => exact ⟨0, rfl, Nat.zero_le _, Below.refl _ _⟩
      case round =>
        obtain ⟨j, rfl, hj, hb⟩ := hrel
        have HBJ := Lib.hid hb
        by_cases hlt7 : j < 7
        · have hji : (j : Int) < 7 := by omega
          have hone := one_byte wr j (97 + (j : Int)) (by omega) (by omega)
          have hb2 : Below wr.heap.size wr (wr.alloc (.cells #[.int .u8 (97 + (j : Int))] 5)) := (Below.refl _ _).alloc (Nat.le_refl _) _
          have HB2 := Lib.hid (hb.trans (hb2.mono hb.size))
          clear hb hb2
          go_wp2_with fail
          generalize wr.alloc (.cells #[.int .u8 (97 + (j : Int))] 5) = w7 at *
          refine (@sget_any K w.heap.size s q g tb mb nn _ (Kp.lk j) w7 (HK6.out.below HB2.out) (by rw [Kp.lk_size]; decide) (by show m.length ≤ _; have := HFT.out; omega)).mono ?_
          rintro e w8 ⟨rfl, hb8⟩
          have HB8 := Lib.hid (HB2.out.trans (hb8.mono HB2.out.size))
          clear hb8 hone
          go_wp2_with fail
          refine (shop_get (HS6.out.below HB8.out) (key := Kp.lk j) (by rw [Kp.lk_size]; decide) (by have := HFT.out; omega)).mono ?_
          rintro e w9 ⟨rfl, hb9⟩
          have HB9 := Lib.hid (HB8.out.trans (hb9.mono HB8.out.size))
          clear hb9
          have hhas := HI.out.has j hlt7
          generalize (Kp.look m (Kp.lk j)).getD ByteArray.empty = sv at *
          generalize (Kp.look m (Kp.lk j)).isSome = is at *
          have hself : (sv.toList == sv.toList) = true := by simp
          by_cases hji2 : j < i
          · have h1 : (j : Int) < (i : Int) := by omega
            rw [decide_eq_true hji2] at hhas
            subst hhas
            go_wp2_with fail
            go_roundw
            case rel => exact ⟨j + 1, by go_num, by omega, HB9.out⟩
            case measure => simp [intOf]; omega
          · have h1 : ¬ (j : Int) < (i : Int) := by omega
            rw [decide_eq_false hji2] at hhas
            subst hhas
            go_wp2_with fail
            go_roundw
            case rel => exact ⟨j + 1, by go_num, by omega, HB9.out⟩
            case measure => simp [intOf]; omega
        · obtain rfl : j = 7 := by omega
          obtain ⟨r, hr⟩ : ∃ r, r = (i - 1) % 7 := ⟨_, rfl⟩
          have hone := one_byte wr r (97 + max ((i : Int) - 1) 0 % 7) (by
            rcases Nat.eq_zero_or_pos i with h | h
            · subst h
              rw [hr]
              rfl
            · rw [Int.max_eq_left (by omega)]
              omega) (by omega)
          have HR := Lib.hid hr
          have hb2 : Below wr.heap.size wr (wr.alloc (.cells #[.int .u8 (97 + max ((i : Int) - 1) 0 % 7)] 5)) := (Below.refl _ _).alloc (Nat.le_refl _) _
          have HB2 := Lib.hid (hb.trans (hb2.mono hb.size))
          clear hb hb2 hr
          go_wp2_with fail
          generalize wr.alloc (.cells #[.int .u8 (97 + max ((i : Int) - 1) 0 % 7)] 5) = w7 at *
          refine (shop_get (HS6.out.below HB2.out) (key := Kp.lk r) (by rw [Kp.lk_size]; decide) (by have := HFT.out; omega)).mono ?_
          rintro e w8 ⟨rfl, hb8⟩
          have hb68 := HB2.out.trans (hb8.mono HB2.out.size)
          have HF8 := Lib.hid (buf_grown HF6.out (gr_of_below hb68 none))
          have HEND := Lib.hid (HB6.out.trans (hb68.mono HB6.out.size))
          clear hb8 hb68 hone
          rcases Nat.eq_zero_or_pos i with h0 | h0
          · have hz0 : ((i : Int) == 0) = true := by simp [h0]
            generalize (Kp.look m (Kp.lk r)).getD ByteArray.empty = sv at *
            generalize (Kp.look m (Kp.lk r)).isSome = is at *
            go_wp2_with fail
            go_ret
            exact ⟨rfl, HEND.out⟩
          · have hz0 : ((i : Int) == 0) = false := by simp; omega
            have hlast := HI.out.last h0
            rw [← HR.out] at hlast
            rw [hlast]
            have htext := buf_text (show Buf w8 bv sz (List.replicate sz (UInt8.ofNat (i - 1))) by rw [← HLL.out h0]; exact HF8.out)
            have hself : ((Kp.lval sz (i - 1)).toList == (Kp.lval sz (i - 1)).toList) = true := by simp
            generalize Kp.lval sz (i - 1) = sv at *
            clear hlast
            go_wp2_with fail
            go_ret
            exact ⟨rfl, HEND.out⟩
end Go.Proofs.YtimcepoleboldaaGreatDoor
