/- The walk of LogRoom: true of any sizes. -/
import Derived.Test.YtgahcbhdnplnoaaDoorLogSole
import Derived.Test.YtgahcbhdnplnoaaDoorLogInputs
namespace Go.Proofs.YtgahcbhdnplnoaaDoor
open Go.RowKit

theorem u16_cells : Tryd.prog.cellsOf 37 = 1 := by kernel_rfl
theorem open_u16s {H : Type} {enc : TypeId × Value → H} {w : World} {v : Value} {d : DataW H} {ps : List MemPlace}
    (h : DataW.Trod enc Tryd.prog w 0 (fun _ => true) true 36 v d ps) (hlt : ∀ y ∈ ps, y.block < w.heap.size) (hv : ∃ A len cap, v = .slice A len cap) : ∃ l : List Int, Ints .u16 w v l :=
  open_ints Tryd.underlying36 Tryd.underlying37 u16_cells h hlt hv

theorem info_byte : (Tryd.prog.info? 5).map (fun i => (i.zero, i.size, i.bytes)) = some (some (.int .u8 0), 1, 1) := by kernel_rfl

/-- So many zero bytes. -/
def zeros (n : Nat) : ByteArray := ⟨(List.replicate n (0 : UInt8)).toArray⟩
theorem zeros_size (n : Nat) : (zeros n).size = n := by simp [zeros, ByteArray.size]

theorem zeros_back {w : World} {base g n : Nat} (h : w.ownsRow base 5 1 (.slice (some ⟨g, 0, none⟩) n n) n (madeCells (Value.int .u8 0).cells (n * 1)).toList) :
    (convert 38 9 (.slice (some ⟨g, 0, none⟩) n n)).run Tryd.prog w = .ok (.string (zeros n)) w := by
  have hmade : (madeCells (Value.int .u8 0).cells (n * 1)).toList = List.replicate n (Value.int .u8 0) := by
    apply List.ext_getElem
    · simp [madeCells, Value.cells]
    · intro i h1 h2
      simp [madeCells, Value.cells, Nat.mod_one]
  rw [hmade] at h
  have e : n = (List.replicate n (0 : UInt8)).length := by simp
  have := run_convert_bytes_back (P := Tryd.prog) w 38 9 5 ⟨g, 0, none⟩ n (List.replicate n (0 : UInt8)) Tryd.underlying38 Tryd.underlying5 Tryd.underlying9 (fun j hj => h.cells (g := g) rfl j _ (by
    rw [List.length_replicate] at hj
    simp [hj]))
  rw [List.length_replicate] at this
  exact this

/-- A row of one text, written down. -/
theorem strs_sole (w : World) (b : ByteArray) (t : TypeId) : Strs (w.alloc (.cells #[.string b] t)) (.slice (some ⟨w.heap.size, 0, none⟩) 1 1) [b] := by
  refine ⟨_, 1, rfl, ⟨Nat.le_refl _, fun h => by cases h⟩, fun j s hj => ⟨w.heap.size, 0, rfl, by simp, ?_⟩⟩
  have h := cell_one_new w (.string b) t j (.string s) (by
    cases j with
    | zero => simpa using hj
    | succ j => simp at hj)
  rw [Addr.add_lit] at h
  exact h
theorem size_zeros {m : Nat} (h : m < 4000) : size [zeros m] ≤ 1048576 := by
  have : size [zeros m] = 1 + (zeros m).size := by simp [size]
  rw [this, zeros_size]
  omega

/-- What the loop knows. -/
def RoomLoop (w0 : World) (g q : Nat) (len : Nat) (vr vi : Value) (wr : World) : Prop :=
  ∃ (k : Nat) (st : Dk.St) (t : Lg.Top) (L : List (Int × List UInt8)) (N : Nat) (ep : Int), vi = .int .i64 (k : Int) ∧ k ≤ len ∧ vr = .int .i64 (127 - (N : Int)) ∧ Sole w0 g st wr ∧ Lg.Still st ∧ Lg.Live st.is t L N ep ∧
    Lgw wr w0.heap.size q g ⟨t, N, 0⟩ ∧ t.e = 1 ∧ st.cuts = 0 ∧ st.many ≤ 4 + 128 * k

set_option maxRecDepth 20000 in
set_option maxHeartbeats 2000000 in
theorem room_walk (v : Value) (l : List Int) (w : World) (hl : Ints .u16 w v l) :
    Calls Tryd.prog 4 #[v] w fun x w' => x = .returned (.bool true) ∧ Below w.heap.size w w' := by
  have HL := Lib.hid hl
  obtain ⟨A, cap, rfl, hat⟩ := hl
  by_cases h30 : (l.length : Int) ≤ 30
  · obtain ⟨i0, hi, hz0, hz1, hz2⟩ := info_parts info_byte
    clear hat
    go_enter Tryd.func4, Tryd.ntmps4
    go_wp2_with fail
    refine (sole_new w).mono ?_
    rintro e w1 ⟨rfl, h1s⟩
    obtain ⟨g, hg⟩ : ∃ g, g = w.heap.size + 1 := ⟨_, rfl⟩
    rw [← hg] at h1s ⊢
    clear hg
    go_wp2_with fail
    refine (sole_open h1s Lg.Still.new Lg.Good.zero (by decide) (.inl rfl) (by decide)).mono ?_
    rintro e w2 ⟨q, vr, st2, rfl, h2s, hl2, -, -, hs2, hv2, hc2, hm2⟩
    have hc2' : st2.cuts = 0 := by rw [hc2]; rfl
    have hm2' : st2.many ≤ 2 := hm2
    have hroom := room_any _ _ _ _ w2 hl2
    have HG := Lib.hid (show RoomLoop w g q l.length (.int .i64 127) (.int .i64 0) w2 from ⟨0, st2, _, [], 0, 0, rfl, Nat.zero_le _, rfl, h2s, hs2, hv2, hl2, rfl, hc2', by omega⟩)
    clear hc2 hm2 h1s h2s hl2 hs2 hv2 hc2' hm2'
    go_wp2_with fail
    refine hroom.mono ?_
    rintro e w' ⟨rfl, rfl⟩
    clear hroom
    go_wp2_with fail
    go_loopw [7, 8] (fun vr vi wr => RoomLoop w g q l.length vr vi wr) (fun _ vi _ => l.length - (intOf vi).toNat)
    case atStart => exact HG.out
    case round =>
      obtain ⟨k, st, t, L, N, ep, rfl, hk, rfl, hS, hs, hv, hlg, hte, hc, hm⟩ := hrel
      have hN := hv.good.fit
      by_cases hlt : k < l.length
      · obtain ⟨n, hn⟩ : ∃ n, l[k]? = some n := ⟨_, List.getElem?_eq_getElem hlt⟩
        obtain ⟨A', cap', e1, hat⟩ := HL.out
        obtain ⟨hwf, b1, o1, rfl, l1, c1⟩ := hat k n hn
        injection e1 with e1 e2 e3
        subst e1 e3
        clear e2 hat hn
        have hn0 : 0 ≤ n ∧ n ≤ 65535 := by simpa [Lit.wf, IntKind.min, IntKind.max, IntKind.bits, IntKind.signed] using hwf
        obtain ⟨m, hm0⟩ : ∃ m : Nat, n.tmod 4000 = (m : Int) := ⟨(n.tmod 4000).toNat, by rw [Int.tmod_eq_emod_of_nonneg hn0.1]; omega⟩
        have hm4 : m < 4000 := by rw [Int.tmod_eq_emod_of_nonneg hn0.1] at hm0; omega
        have d1 := (hS.below.cell (p := ⟨b1, o1 + k, none⟩) l1).trans c1
        clear c1 hwf
        go_wp2_with (at_make; refine wpList_make_full _ rfl _ _ 38 rfl wr.heap.size 5 i0 (.int .u8 0) 1 Tryd.underlying38 hi hz0 hz1 _ _ _ _ m rfl rfl rfl rfl (by rw [hz2]; omega) (by unfold maxLen; omega) (Nat.le_refl _) ?_; intro w3 hown3 hgrow3; have hcv := zeros_back hown3)
        have hw3 := gr_to_below hgrow3
        have hb4 := hw3.alloc hw3.size (.cells #[.string (zeros m)] 9)
        have hS4 := hS.up hb4
        have hl4 := hlg.up hb4
        have hr4 := strs_sole w3 (zeros m) 9
        have hz := size_zeros hm4
        clear hown3 hgrow3 hcv hw3 hb4 hS hlg d1
        generalize w3.alloc (.cells #[.string (zeros m)] 9) = w4 at *
        generalize w3.heap.size = p at *
        generalize zeros m = z at *
        refine (refmany_any _ [z] w4 hr4 hz).mono ?_
        rintro e w5 ⟨x, rfl, hx1, hx2, hx3, hb5⟩
        have hS5 := hS4.up hb5
        have hl5 := hl4.up hb5
        have hr5 := hr4.below hb5
        clear hS4 hl4 hr4 hb5
        go_wp2_with fail
        refine (sole_append hS5 hs hv (by omega) hl5 hr5 hz (by omega)).mono ?_
        rintro e w6 ⟨st6, h6s, -, hm6, hcase⟩
        clear hS5 hl5 hr5
        rcases hcase with ⟨g1, rfl, rfl, hl6⟩ | ⟨g1, g2, rfl, hl6, hs6, hc6, ep', hv6⟩ | ⟨g1, g2, _⟩
        · have hxi : ¬ ((x : Int) ≤ 127 - (N : Int)) := by
            rcases Nat.lt_or_ge 127 x with h | h
            · omega
            · have := hx2 h; omega
          have hroom := room_any _ _ _ _ w6 hl6
          have herr := err_any _ _ _ _ w6 hl6
          have HR := Lib.hid (show RoomLoop w g q l.length (.int .i64 (127 - (N : Int))) (.int .i64 ((k + 1 : Nat) : Int)) w6 from ⟨k + 1, _, t, L, N, ep, rfl, by omega, rfl, h6s, hs, hv, hl6, hte, hc, by omega⟩)
          clear hx2 hx3 g1 h6s hl6 hs hv
          go_wp2_with fail
          refine hroom.mono ?_
          rintro e w' ⟨rfl, rfl⟩
          clear hroom
          go_wp2_with fail
          refine herr.mono ?_
          rintro e w' ⟨rfl, rfl⟩
          clear herr
          go_wp2_with fail
          go_roundw
          case rel =>
            have := HR.out
            rw [Int.natCast_add] at this
            exact this
          case measure => simp [intOf]; omega
        · have hx : x = manyB [z] := by
            rcases Nat.lt_or_ge 127 x with h | h
            · have := hx3 h; omega
            · exact hx2 h
          rw [← hx] at g1 hl6 hv6 hc6
          have hxi : (x : Int) ≤ 127 - (N : Int) := by omega
          have hroom := room_any _ _ _ _ w6 hl6
          have herr := err_any _ _ _ _ w6 hl6
          have er : (127 : Int) - ((N + x : Nat) : Int) = 127 - (N : Int) - (x : Int) := by omega
          have HR := Lib.hid (show RoomLoop w g q l.length (.int .i64 (127 - (N : Int) - (x : Int))) (.int .i64 ((k + 1 : Nat) : Int)) w6 from ⟨k + 1, st6, t, _, N + x, ep', rfl, by omega, by rw [er], h6s, hs6, hv6, hl6, hte, by omega, by omega⟩)
          rw [show (127 : Int) - (((⟨t, N + x, 0⟩ : Lg.Lo).next : Nat) : Int) = 127 - (N : Int) - (x : Int) from er] at hroom
          clear hx hx2 hx3 g1 g2 h6s hl6 hs6 hv6 hs hv er
          go_wp2_with fail
          refine hroom.mono ?_
          rintro e w' ⟨rfl, rfl⟩
          clear hroom
          go_wp2_with fail
          refine herr.mono ?_
          rintro e w' ⟨rfl, rfl⟩
          clear herr
          go_wp2_with fail
          go_roundw
          case rel =>
            have := HR.out
            rw [Int.natCast_add] at this
            exact this
          case measure => simp [intOf]; omega
        · omega
      · go_wp2_with fail
        go_ret
        exact ⟨rfl, hS.below⟩
  · go_enter Tryd.func4, Tryd.ntmps4
    go_wp2_with fail
    go_ret
    exact ⟨rfl, Below.refl _ _⟩

end Go.Proofs.YtgahcbhdnplnoaaDoor
