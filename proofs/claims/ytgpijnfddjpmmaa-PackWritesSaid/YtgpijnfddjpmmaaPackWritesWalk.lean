/- The walk of PackWrites: true of any items. -/
import Derived.Test.YtgpijnfddjpmmaaPackCode
import Derived.Test.YtgpijnfddjpmmaaPackRefs
import Derived.Test.YtgpijnfddjpmmaaPackItems
namespace Go.Proofs.Ytgpijnfddjpmmaa
open Go.RowKit

/-- What the loop knows: the Writer and the text have the bytes of the first k items. -/
def WritesLoop (w : World) (l : List It) (v4 v5 : Value) (wr : World) : Prop :=
  ∃ k : Nat, k ≤ l.length ∧ v5 = .int .i64 (k : Int) ∧ v4 = .string ⟨(itemsB (l.take k)).toArray⟩ ∧ Wr wr w.heap.size (itemsB (l.take k)) ∧ Below w.heap.size w wr

set_option maxRecDepth 20000 in
set_option maxHeartbeats 400000 in
theorem writes_walk (A : Option Addr) (cap : Nat) (l : List It) (w : World) (h : Items w w.heap.size A l) :
    Calls Try.prog 5 #[.slice A l.length cap] w fun e w' => e = .returned (.bool true) ∧ Below w.heap.size w w' := by
  have HH := Lib.hid (heavy_any A cap w.heap.size l w h)
  have HI := Lib.hid h; clear h
  cases hv : heavyB l with
  | true =>
    go_enter Try.func5, Try.ntmps5
    go_wp2_with fail
    refine HH.out.mono ?_
    rintro e w1 ⟨rfl, rfl⟩
    go_wp2_with fail
    go_ret
    exact ⟨rfl, Below.refl _ _⟩
  | false =>
    obtain ⟨hl, hs, hi⟩ := light_small hv
    have HS := Lib.hid hs; have HN := Lib.hid hi
    clear hs hi
    have hnew := Lib.hid (Wr.new w)
    go_enter Try.func5, Try.ntmps5
    go_wp2_with fail
    refine HH.out.mono ?_
    rintro e w1 ⟨rfl, rfl⟩
    clear HH
    have HV := Lib.hid hv
    go_wp2_with fail
    clear hv
    go_loopw [4, 5] (WritesLoop w l) (fun _ i _ => l.length - (intOf i).toNat)
    case atStart => exact ⟨0, Nat.zero_le _, rfl, rfl, hnew.out, (Below.refl _ _).alloc (Nat.le_refl _) _⟩
    case round =>
      obtain ⟨k, hk, rfl, rfl, hW, hbel⟩ := hrel
      have hlen := HN.out k
      by_cases hlt : k < l.length
      · obtain ⟨a, b, s, hit⟩ : ∃ a b s, l[k]? = some (a, b, s) := ⟨_, _, _, List.getElem?_eq_getElem hlt⟩
        obtain ⟨bl, off, rfl, hb, -⟩ := HI.out k _ hit
        have c := (HI.out.below hbel).cells hit
        obtain ⟨c0, c1, c2⟩ := c
        have HT := Lib.hid hit
        have hsz : s.size ≤ 2048 := HS.out _ (List.mem_of_getElem? hit)
        have hup : itemsB (l.take (k + 1)) = itemsB (l.take k) ++ itemB (a, b, s) := by rw [take_one hit, itemsB_snoc]
        have hlen2 := HN.out (k + 1)
        clear hit HN HS
        by_cases ha : a = 1
        · subst ha
          have hq : itemB (1, b, s) = Pk.texted s.data.toList := by unfold itemB; exact if_pos rfl
          rw [hq] at hup
          have H1 := Lib.hid (fun (W : World) (hWW : Wr W w.heap.size (itemsB (l.take k))) => text_any w.heap.size s _ W hWW (by omega) (by omega))
          have H2 := Lib.hid (fun W : World => texted_ref s W (by omega))
          rw [← hup] at H1
          have hlq : (itemsB (l.take k)).length + (Pk.texted s.data.toList).length = (itemsB (l.take (k + 1))).length := by rw [hup, List.length_append]
          have hcat : (⟨(itemsB (l.take k)).toArray⟩ : ByteArray) ++ (⟨(Pk.texted s.data.toList).toArray⟩ : ByteArray) = ⟨(itemsB (l.take (k + 1))).toArray⟩ := by rw [str_adds, hup]
          clear hup hq
          obtain ⟨nxt, hnxt⟩ : ∃ nxt, nxt = itemsB (l.take (k + 1)) := ⟨_, rfl⟩
          rw [← hnxt] at H1 hlq hcat hlen2
          have HX := Lib.hid hnxt; clear hnxt
          generalize itemsB (l.take k) = pre at *
          generalize Pk.texted s.data.toList = q at *
          have hadd : pre.length + q.length ≤ 9223372036854775807 := by omega
          clear hlq
          go_wp2_with (first
            | (go_at_call 13; refine (H1.out _ hW).mono ?_; rintro e w1 ⟨rfl, hW1, hg1⟩; have hbel1 := hbel.grown hg1 hbel.size (by intro j hj; injection hj; omega); obtain ⟨d0, d1, d2⟩ := (HI.out.below hbel1).cells HT.out)
            | (go_at_call 14; refine (H2.out _).mono ?_; rintro e w2 ⟨rfl, hb2⟩; have hbel2 := hbel1.trans (hb2.mono hbel1.size); have hW2 := hW1.quiet (gr_of_below hb2 none))
            | (go_at_call 16; refine (bytes_any w.heap.size _ _ hW2 (by omega)).mono ?_; rintro e w3 ⟨rfl, hb3⟩))
          have hW3 := hW2.quiet (gr_of_below hb3 none)
          have hbel3 := hbel2.trans (hb3.mono hbel2.size)
          go_roundw
          case rel =>
            obtain rfl := HX.out
            exact ⟨k + 1, by omega, by go_num, rfl, hW3, hbel3⟩
          case measure => simp [intOf]; omega
        · have hq : itemB (a, b, s) = Pk.code (Pk.cl b) := by unfold itemB; exact if_neg ha
          rw [hq] at hup
          have H1 := Lib.hid (fun (W : World) (hWW : Wr W w.heap.size (itemsB (l.take k))) => number_any w.heap.size b _ W hWW (by omega))
          have H2 := Lib.hid (fun W : World => code_ref b W)
          rw [← hup] at H1
          have hlq : (itemsB (l.take k)).length + (Pk.code (Pk.cl b)).length = (itemsB (l.take (k + 1))).length := by rw [hup, List.length_append]
          have hcat : (⟨(itemsB (l.take k)).toArray⟩ : ByteArray) ++ (⟨(Pk.code (Pk.cl b)).toArray⟩ : ByteArray) = ⟨(itemsB (l.take (k + 1))).toArray⟩ := by rw [str_adds, hup]
          clear hup hq
          obtain ⟨nxt, hnxt⟩ : ∃ nxt, nxt = itemsB (l.take (k + 1)) := ⟨_, rfl⟩
          rw [← hnxt] at H1 hlq hcat hlen2
          have HX := Lib.hid hnxt; clear hnxt
          generalize itemsB (l.take k) = pre at *
          generalize Pk.code (Pk.cl b) = q at *
          have hadd : pre.length + q.length ≤ 9223372036854775807 := by omega
          clear hlq
          go_wp2_with (first
            | (go_at_call 15; refine (H1.out _ hW).mono ?_; rintro e w1 ⟨rfl, hW1, hg1⟩; have hbel1 := hbel.grown hg1 hbel.size (by intro j hj; injection hj; omega); obtain ⟨d0, d1, d2⟩ := (HI.out.below hbel1).cells HT.out)
            | (go_at_call 8; refine (H2.out _).mono ?_; rintro e w2 ⟨rfl, hb2⟩; have hbel2 := hbel1.trans (hb2.mono hbel1.size); have hW2 := hW1.quiet (gr_of_below hb2 none))
            | (go_at_call 16; refine (bytes_any w.heap.size _ _ hW2 (by omega)).mono ?_; rintro e w3 ⟨rfl, hb3⟩))
          have hW3 := hW2.quiet (gr_of_below hb3 none)
          have hbel3 := hbel2.trans (hb3.mono hbel2.size)
          go_roundw
          case rel =>
            obtain rfl := HX.out
            exact ⟨k + 1, by omega, by go_num, rfl, hW3, hbel3⟩
          case measure => simp [intOf]; omega
      · have H0 := Lib.hid (fun W : World => code_ref 0 W)
        have H7 := Lib.hid (fun W : World => code_any 0 W)
        generalize itemsB (l.take k) = pre at *
        generalize Pk.code (Pk.cl 0) = z at *
        go_wp2_with (first
          | (go_at_call 16; refine (bytes_any w.heap.size _ _ hW (by omega)).mono ?_; rintro e w1 ⟨rfl, hb1⟩; have hbel1 := hbel.trans (hb1.mono hbel.size))
          | (go_at_call 8; refine (H0.out _).mono ?_; rintro e w2 ⟨rfl, hb2⟩; have hbel2 := hbel1.trans (hb2.mono hbel1.size))
          | (go_at_call 7; refine (H7.out _).mono ?_; rintro e w3 ⟨rfl, hb3⟩; have hbel3 := hbel2.trans (hb3.mono hbel2.size)))
        go_ret
        exact ⟨rfl, hbel3⟩

end Go.Proofs.Ytgpijnfddjpmmaa
