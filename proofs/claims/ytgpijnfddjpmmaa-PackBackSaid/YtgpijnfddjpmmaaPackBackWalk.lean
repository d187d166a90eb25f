/- The walk of PackBack: true of any items. -/
import Derived.Test.YtgpijnfddjpmmaaPackText
import Derived.Test.YtgpijnfddjpmmaaPackItems
import Derived.Test.YtgpijnfddjpmmaaPackReadText
namespace Go.Proofs.Ytgpijnfddjpmmaa
open Go.RowKit

theorem itemsB_drop {l : List It} {k : Nat} {it : It} (h : l[k]? = some it) : itemsB (l.drop k) = itemB it ++ itemsB (l.drop (k + 1)) := by
  obtain ⟨hk, rfl⟩ := List.getElem?_eq_some_iff.1 h
  unfold itemsB
  rw [List.drop_eq_getElem_cons hk, List.flatMap_cons]

theorem itemsB_drop_len (l : List It) (k : Nat) : (itemsB (l.drop k)).length ≤ (itemsB l).length := by
  have e : itemsB l = itemsB (l.take k) ++ itemsB (l.drop k) := by
    unfold itemsB
    rw [← List.flatMap_append, List.take_append_drop]
  rw [e, List.length_append]
  omega

/-- A text that stands first is read. -/
theorem back_text (br : Nat) (s t : ByteArray) (rest : List UInt8) (h : t.data.toList = Pk.texted s.data.toList ++ rest) (ht : t.size ≤ 65536) (w : World) (hb : Blk w br 55 #[.string t]) :
    Calls Try.prog 18 #[.pointer (some ⟨br, 0, none⟩)] w fun e w' => ∃ s1 : ByteArray, e = .returned (.tuple #[.string s, .int .i64 0]) ∧ s1.data.toList = rest ∧ Blk w' br 55 #[.string s1] ∧ w.grownBy w' (some br) := by
  have hsz : s.data.toList.length ≤ 72057594037927935 := by
    have e : t.data.toList.length = t.size := toList_len t
    rw [h, List.length_append] at e
    simp only [Pk.texted, List.length_append] at e
    omega
  refine (readtext_any br t w hb (by omega)).mono ?_
  rintro e w' ⟨s1, s2, rfl, h1, h2, h3, h4⟩
  rw [h, Pk.text_texted _ _ hsz] at h2 h3 ⊢
  obtain rfl : s2 = s := Go.WideShapes.bytes_inj h3
  exact ⟨s1, rfl, h2, h1, h4⟩

/-- A number that stands first is read. -/
theorem back_num (br : Nat) (n : Int) (t : ByteArray) (rest : List UInt8) (h : t.data.toList = Pk.code (Pk.cl n) ++ rest) (ht : t.size ≤ 65536) (w : World) (hb : Blk w br 55 #[.string t]) :
    Calls Try.prog 19 #[.pointer (some ⟨br, 0, none⟩)] w fun e w' => ∃ s1 : ByteArray, e = .returned (.tuple #[.int .i64 (Pk.cl n : Int), .int .i64 0]) ∧ s1.data.toList = rest ∧ Blk w' br 55 #[.string s1] ∧ w.grownBy w' (some br) := by
  refine (readnum_any br t w hb (by omega)).mono ?_
  rintro e w' ⟨s1, rfl, h2, h1, h4⟩
  rw [h, Pk.num_code _ (Pk.cl_le n)] at h2 ⊢
  exact ⟨s1, rfl, h2, h1, h4⟩

/-- Of nothing no number is read. -/
theorem back_none (br : Nat) (t : ByteArray) (h : t.data.toList = []) (w : World) (hb : Blk w br 55 #[.string t]) :
    Calls Try.prog 19 #[.pointer (some ⟨br, 0, none⟩)] w fun e w' => ∃ s1 : ByteArray, e = .returned (.tuple #[.int .i64 0, .int .i64 20]) ∧ endE s1 = 0 ∧ Blk w' br 55 #[.string s1] ∧ w.grownBy w' (some br) := by
  have ht : t.size = 0 := by rw [← toList_len, h]; rfl
  refine (readnum_any br t w hb (by omega)).mono ?_
  rintro e w' ⟨s1, rfl, h2, h1, h4⟩
  rw [h, Pk.num_nil] at h2 ⊢
  exact ⟨s1, rfl, if_pos h2, h1, h4⟩

/-- What the first loop knows. -/
def BackLoop (w : World) (l : List It) (v4 : Value) (wr : World) : Prop :=
  ∃ k : Nat, k ≤ l.length ∧ v4 = .int .i64 (k : Int) ∧ Wr wr w.heap.size (itemsB (l.take k)) ∧ Below w.heap.size w wr

/-- What the second loop knows: the Reader has the items from the k-th on. -/
def BackLoop2 (w : World) (br : Nat) (l : List It) (v6 : Value) (wr : World) : Prop :=
  ∃ (k : Nat) (s : ByteArray), k ≤ l.length ∧ v6 = .int .i64 (k : Int) ∧ s.data.toList = itemsB (l.drop k) ∧ Blk wr br 55 #[.string s] ∧ Below w.heap.size w wr

theorem below_row {B g : Nat} {a w w' : World} (h : Below B a w) (hB : B ≤ w.heap.size) (hg : w.grownBy w' (some g)) (hgB : B ≤ g) : Below B a w' :=
  h.grown hg hB (by intro j hj; injection hj; omega)

set_option maxRecDepth 20000 in
set_option maxHeartbeats 1000000 in
theorem back_walk (A : Option Addr) (cap : Nat) (l : List It) (w : World) (h : Items w w.heap.size A l) :
    Calls Try.prog 6 #[.slice A l.length cap] w fun e w' => e = .returned (.bool true) ∧ Below w.heap.size w w' := by
  have HH := Lib.hid (heavy_any A cap w.heap.size l w h)
  have HI := Lib.hid h; clear h
  cases hv : heavyB l with
  | true =>
    go_enter Try.func6, Try.ntmps6
    go_wp2_with fail
    refine HH.out.mono ?_
    rintro e w1 ⟨rfl, rfl⟩
    go_wp2_with fail
    go_ret
    exact ⟨rfl, Below.refl _ _⟩
  | false =>
    obtain ⟨hl, hs, hi⟩ := light_small hv
    have HS := Lib.hid hs; have HN := Lib.hid hi
    have hall : (itemsB l).length ≤ 65536 := by have := hi l.length; rwa [List.take_length] at this
    clear hs hi
    have hnew := Lib.hid (Wr.new w)
    go_enter Try.func6, Try.ntmps6
    go_wp2_with fail
    refine HH.out.mono ?_
    rintro e w1 ⟨rfl, rfl⟩
    clear HH
    go_wp2_with fail
    clear hv
    go_loopw [4] (BackLoop w l) (fun i _ => l.length - (intOf i).toNat)
    case atStart => exact ⟨0, Nat.zero_le _, rfl, hnew.out, (Below.refl _ _).alloc (Nat.le_refl _) _⟩
    case round =>
      obtain ⟨k, hk, rfl, hW, hbel⟩ := hrel
      have hlen := HN.out k
      by_cases hlt : k < l.length
      · obtain ⟨a, b, s, hit⟩ : ∃ a b s, l[k]? = some (a, b, s) := ⟨_, _, _, List.getElem?_eq_getElem hlt⟩
        obtain ⟨bl, off, rfl, hb, -⟩ := HI.out k _ hit
        obtain ⟨c0, c1, c2⟩ := (HI.out.below hbel).cells hit
        have hsz : s.size ≤ 2048 := HS.out _ (List.mem_of_getElem? hit)
        have hup : itemsB (l.take (k + 1)) = itemsB (l.take k) ++ itemB (a, b, s) := by rw [take_one hit, itemsB_snoc]
        clear hit
        by_cases ha : a = 1
        · subst ha
          have hq : itemB (1, b, s) = Pk.texted s.data.toList := by unfold itemB; exact if_pos rfl
          rw [hq] at hup
          have H1 := Lib.hid (fun (W : World) (hWW : Wr W w.heap.size (itemsB (l.take k))) => text_any w.heap.size s _ W hWW (by omega) (by omega))
          rw [← hup] at H1
          clear hup hq
          go_wp2_with (go_at_call 13; refine (H1.out _ hW).mono ?_; rintro e w1 ⟨rfl, hW1, hg1⟩; have hbel1 := below_row hbel hbel.size hg1 (Nat.le_refl _))
          go_roundw
          case rel => exact ⟨k + 1, by omega, by go_num, hW1, hbel1⟩
          case measure => simp [intOf]; omega
        · have hq : itemB (a, b, s) = Pk.code (Pk.cl b) := by unfold itemB; exact if_neg ha
          rw [hq] at hup
          have H1 := Lib.hid (fun (W : World) (hWW : Wr W w.heap.size (itemsB (l.take k))) => number_any w.heap.size b _ W hWW (by omega))
          rw [← hup] at H1
          clear hup hq
          go_wp2_with (go_at_call 15; refine (H1.out _ hW).mono ?_; rintro e w1 ⟨rfl, hW1, hg1⟩; have hbel1 := below_row hbel hbel.size hg1 (Nat.le_refl _))
          go_roundw
          case rel => exact ⟨k + 1, by omega, by go_num, hW1, hbel1⟩
          case measure => simp [intOf]; omega
      · obtain rfl : k = l.length := by omega
        rw [List.take_length] at hW
        go_wp2_with (first
          | (go_at_call 16; refine (bytes_any w.heap.size _ _ hW (by omega)).mono ?_; rintro e w2 ⟨rfl, hb2⟩; have hbel2 := hbel.trans (hb2.mono hbel.size))
          | (go_at_call 17; refine (read_any _ _).mono ?_; rintro e w3 ⟨rfl, rfl⟩))
        have hk3 := Blk.new w2 55 #[.string ⟨(itemsB l).toArray⟩]
        have hbel3 : Below w.heap.size w (w2.alloc (.cells #[.string ⟨(itemsB l).toArray⟩] 55)) := hbel2.alloc hbel2.size _
        have hbr := hbel2.size
        clear hb2 hbel2 hW hbel hlen hnew HN
        generalize w2.alloc (.cells #[.string ⟨(itemsB l).toArray⟩] 55) = w3 at *
        generalize w2.heap.size = br at *
        go_loopw [6] (BackLoop2 w br l) (fun i _ => l.length - (intOf i).toNat)
        case atStart => exact ⟨0, _, Nat.zero_le _, rfl, toList_mk _, hk3, hbel3⟩
        case round =>
          obtain ⟨k, t, hk, rfl, ht, hb, hbel⟩ := hrel
          have hts : t.size ≤ 65536 := by
            have := itemsB_drop_len l k
            rw [← ht, toList_len] at this
            omega
          by_cases hlt : k < l.length
          · obtain ⟨a, b, s, hit⟩ : ∃ a b s, l[k]? = some (a, b, s) := ⟨_, _, _, List.getElem?_eq_getElem hlt⟩
            obtain ⟨bl, off, rfl, hbb, -⟩ := HI.out k _ hit
            obtain ⟨c0, c1, c2⟩ := (HI.out.below hbel).cells hit
            rw [itemsB_drop hit] at ht
            have HT := Lib.hid hit; clear hit
            by_cases ha : a = 1
            · subst ha
              have hq : itemB (1, b, s) = Pk.texted s.data.toList := by unfold itemB; exact if_pos rfl
              rw [hq] at ht
              have H1 := Lib.hid (back_text br s t _ ht hts)
              clear ht hq
              go_wp2_with (go_at_call 18; refine (H1.out _ hb).mono ?_; rintro e w4 ⟨s1, rfl, hs1, hb4, hg4⟩; have hbel4 := below_row hbel hbel.size hg4 hbr; obtain ⟨d0, d1, d2⟩ := (HI.out.below hbel4).cells HT.out; have HS1 := Lib.hid hs1; clear hs1)
              go_roundw
              case rel => exact ⟨k + 1, s1, by omega, by go_num, HS1.out, hb4, hbel4⟩
              case measure => simp [intOf]; omega
            · have hq : itemB (a, b, s) = Pk.code (Pk.cl b) := by unfold itemB; exact if_neg ha
              rw [hq] at ht
              have H1 := Lib.hid (back_num br b t _ ht hts)
              have va := (Pk.cl_cast b).symm
              clear ht hq
              generalize Pk.cl b = n at *
              go_wp2_with (go_at_call 19; refine (H1.out _ hb).mono ?_; rintro e w4 ⟨s1, rfl, hs1, hb4, hg4⟩; have hbel4 := below_row hbel hbel.size hg4 hbr; obtain ⟨d0, d1, d2⟩ := (HI.out.below hbel4).cells HT.out; have HS1 := Lib.hid hs1; clear hs1)
              go_roundw
              case rel => exact ⟨k + 1, s1, by omega, by go_num, HS1.out, hb4, hbel4⟩
              case measure => simp [intOf]; omega
          · have hnil : t.data.toList = [] := by
              rw [ht, List.drop_of_length_le (by omega)]; rfl
            have H1 := Lib.hid (back_none br t hnil)
            clear ht hnil
            go_wp2_with (first
              | (go_at_call 19; refine (H1.out _ hb).mono ?_; rintro e w4 ⟨s1, rfl, hs1, hb4, hg4⟩; have hbel4 := below_row hbel hbel.size hg4 hbr)
              | (go_at_call 20; refine (end_any br s1 _ hb4).mono ?_; rintro e w5 ⟨rfl, rfl⟩))
            go_ret
            exact ⟨rfl, hbel4⟩

end Go.Proofs.Ytgpijnfddjpmmaa
