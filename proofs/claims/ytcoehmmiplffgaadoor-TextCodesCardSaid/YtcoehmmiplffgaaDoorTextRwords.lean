/- The document's words. -/
import Derived.Test.YtcoehmmiplffgaaDoorTextNums
import Derived.Test.YtcoehmmiplffgaaDoorStrs
import Derived.Test.YtcoehmmiplffgaaDoorIrNames
namespace Go.Proofs.YtcoehmmiplffgaaDoor
open Go.ChangeShapes Go.WideShapes Go.RowKit Go.Deep

/-- A row of texts of one's own. -/
def RowT (w : World) (base : Nat) (v : Value) (l : List ByteArray) : Prop := w.ownsRow base 9 1 v l.length (l.map Value.string)
theorem rowT_new (w : World) : RowT (w.alloc (.cells #[] 9)) w.heap.size (.slice (some ⟨w.heap.size, 0, none⟩) 0 0) [] :=
  ⟨rfl, .inr ⟨w.heap.size, 0, #[], rfl, Nat.le_refl _, heap_alloc_new w _, Nat.le_refl _, Nat.zero_le _, rfl, rfl⟩⟩
theorem rowT_one (w : World) (s : ByteArray) : Strs (w.alloc (.cells #[.string s] 9)) (.slice (some ⟨w.heap.size, 0, none⟩) 1 1) [s] :=
  ⟨some ⟨w.heap.size, 0, none⟩, 1, rfl, ⟨Nat.le_refl _, fun h => nomatch h⟩, fun j x hj => by
    match j, hj with
    | 0, hj =>
      simp at hj
      subst hj
      refine ⟨w.heap.size, 0, rfl, by simp, ?_⟩
      exact (Blk.new w 9 #[.string s]).cell 0⟩

/-- A line's words, as texts. -/
def wordsB (l : List UInt8) : List ByteArray := (Tx.words l).map Tx.mkB
def WordsPost (l : List UInt8) (w : World) (e : Ending) (w' : World) : Prop := ∃ v, e = .returned v ∧ RowT w' w.heap.size v (wordsB l) ∧ Below w.heap.size w w'

/-- How far the line is cut: the words so far, from where the next one goes. -/
def Cut (s : ByteArray) (d : List ByteArray) (f k : Nat) : Prop :=
  f ≤ k ∧ wordsB s.data.toList = d ++ (if k ≤ s.size then wordsB (s.data.toList.drop f) else []) ∧ d.length ≤ k ∧ ∀ j, f ≤ j → j < k → ∀ c, s.data.toList[j]? = some c → c ≠ 32
theorem ext_list (s : ByteArray) (f k : Nat) : s.extract f k = Tx.mkB ((s.data.toList.drop f).take (k - f)) := by
  apply ByteArray.ext
  rw [ByteArray.data_extract]
  unfold Tx.mkB
  apply Array.toList_inj.1
  simp [List.extract_eq_take_drop]
theorem seg_clean {l : List UInt8} {f k : Nat} (h : ∀ j, f ≤ j → j < k → ∀ c, l[j]? = some c → c ≠ 32) : (32 : UInt8) ∉ (l.drop f).take (k - f) := by
  intro hm
  obtain ⟨i, hi, he⟩ := List.mem_iff_getElem.1 hm
  rw [List.length_take, List.length_drop] at hi
  have h1 : l[f + i]? = some 32 := by
    rw [List.getElem_take, List.getElem_drop] at he
    rw [← he]
    exact List.getElem?_eq_getElem _
  exact h (f + i) (by omega) (by omega) 32 h1 rfl
theorem Cut.zero (s : ByteArray) : Cut s [] 0 0 := ⟨Nat.le_refl _, by rw [if_pos (Nat.zero_le _)]; rfl, Nat.le_refl _, fun j _ h => by omega⟩
theorem Cut.on {s : ByteArray} {d : List ByteArray} {f k : Nat} (h : Cut s d f k) (hk : k < s.size) (hc : s[k] ≠ 32) : Cut s d f (k + 1) := by
  obtain ⟨h1, h2, h3, h4⟩ := h
  refine ⟨by omega, ?_, by omega, fun j hj hjk c hc2 => ?_⟩
  · rw [h2, if_pos (by omega), if_pos (by omega)]
  · by_cases hjk2 : j < k
    · exact h4 j hj hjk2 c hc2
    · obtain rfl : j = k := by omega
      rw [byte_at hk] at hc2
      injection hc2 with hc2
      rw [← hc2]
      exact hc
theorem Cut.word {s : ByteArray} {d : List ByteArray} {f k : Nat} (h : Cut s d f k) (hk : k < s.size) (hc : s[k] = 32) : Cut s (d ++ [s.extract f k]) (k + 1) (k + 1) := by
  obtain ⟨h1, h2, h3, h4⟩ := h
  have hl := bytes_length s
  refine ⟨by omega, ?_, by simp; omega, fun j hj hjk => by omega⟩
  rw [h2, if_pos (by omega), if_pos (by omega), ext_list]
  have e : s.data.toList.drop f = (s.data.toList.drop f).take (k - f) ++ 32 :: s.data.toList.drop (k + 1) := by
    have e1 := byte_at hk
    rw [hc] at e1
    obtain ⟨h5, h6⟩ := List.getElem?_eq_some_iff.1 e1
    have e2 : s.data.toList.drop k = 32 :: s.data.toList.drop (k + 1) := by rw [List.drop_eq_getElem_cons h5, h6]
    conv => lhs; rw [← List.take_append_drop (k - f) (s.data.toList.drop f), List.drop_drop, show f + (k - f) = k by omega, e2]
  unfold wordsB
  conv => lhs; rw [e, Tx.words_blank _ _ (seg_clean h4)]
  simp
theorem Cut.last {s : ByteArray} {d : List ByteArray} {f : Nat} (h : Cut s d f s.size) : Cut s (d ++ [s.extract f s.size]) (s.size + 1) (s.size + 1) := by
  obtain ⟨h1, h2, h3, h4⟩ := h
  have hl := bytes_length s
  refine ⟨by omega, ?_, by simp; omega, fun j hj hjk => by omega⟩
  rw [h2, if_pos (Nat.le_refl _), if_neg (by omega), ext_list]
  have e : (s.data.toList.drop f).take (s.size - f) = s.data.toList.drop f := List.take_of_length_le (by simp)
  have hcl := seg_clean h4
  rw [e] at hcl ⊢
  unfold wordsB
  rw [Tx.words_one _ hcl]
  simp

set_option maxRecDepth 20000 in
set_option maxHeartbeats 1600000 in
theorem rwords_any (s : ByteArray) (w : World) (hs : s.size ≤ 1000000) : Calls Tryd.prog 35 #[.string s] w (WordsPost s.data.toList w) := by
  have HN0 := Lib.hid (rowT_new w)
  have HB0 := Lib.hid (show Below w.heap.size w (w.alloc (.cells #[] 9)) from (Below.refl _ _).alloc (Nat.le_refl _) _)
  have hsi : (s.size : Int) ≤ 1000000 := by omega
  go_enter Tryd.func35, Tryd.ntmps35
  go_wp2_with fail
  go_loopw [3, 4, 5] (fun v fr i wr => ∃ (d : List ByteArray) (f k : Nat), f ≤ s.size + 1 ∧ k ≤ s.size + 1 ∧ fr = .int .i64 (f : Int) ∧ i = .int .i64 (k : Int) ∧ Hid (Cut s d f k) ∧ Hid (RowT wr w.heap.size v d) ∧ Hid (Below w.heap.size w wr)) (fun _ _ i _ => s.size + 1 - (intOf i).toNat)
  case atStart => exact ⟨[], 0, 0, Nat.zero_le _, Nat.zero_le _, rfl, rfl, Lib.hid (Cut.zero s), HN0, HB0⟩
  case round =>
    obtain ⟨d, f, k, hf, hk, rfl, rfl, HC, HR, HB⟩ := hrel
    have hfk := HC.out.1
    have hfki : (f : Int) ≤ (k : Int) := by omega
    by_cases hle : k ≤ s.size
    · have hlei : (k : Int) ≤ (s.size : Int) := by omega
      have HLT := Lib.hid (show d.length + 1 ≤ 1048576 ∧ w.heap.size ≤ wr.heap.size from ⟨by have := HC.out.2.2.1; omega, HB.out.size⟩)
      obtain ⟨X, hX⟩ : ∃ X, X = s.extract f k := ⟨_, rfl⟩
      have HX := Lib.hid hX
      by_cases hlt : k < s.size
      · have hlti : (k : Int) < (s.size : Int) := by omega
        have hne : ((k : Int) == (s.size : Int)) = false := by rw [beq_eq_false_iff_ne]; omega
        by_cases hc : s[k] = 32
        · have hcb : ((s[k].toNat : Int) == 32) = true := by rw [hc]; rfl
          have HN := Lib.hid (HC.out.word hlt hc)
          rw [← hX] at HN
          clear hc
          have hX2 := hX.symm
          clear hX
          go_wp2_with (at_builtin; refine wpList_append_texts rfl (.tmp 23) (.tmp 28) rfl (World.ownsRow.alloc HR.out _) (rowT_one wr X) (by have := HLT.out.1; simp; omega) (by have := HLT.out.2; simp; omega) rfl rfl ?_; intro v7 w7 hrow7 hgrow7; have HR7 := Lib.hid (show RowT w7 w.heap.size v7 (d ++ [X]) from hrow7); have HB7 := Lib.hid ((HB.out.alloc HB.out.size _).grown hgrow7 (by have := HLT.out.2; simp; omega) (fun g hg => (World.ownsRow.lt HR.out g hg).1)); clear hrow7 hgrow7)
          go_roundw
          case rel => exact ⟨d ++ [X], k + 1, k + 1, by omega, by omega, by go_num, by go_num, HN, HR7, HB7⟩
          case measure => simp [intOf]; omega
        · have hcb : ((s[k].toNat : Int) == 32) = false := by
            rw [beq_eq_false_iff_ne]
            intro h2
            exact hc (UInt8.toNat_inj.1 (by show s[k].toNat = 32; omega))
          have HN := Lib.hid (HC.out.on hlt hc)
          clear hc hX
          go_wp2_with fail
          go_roundw
          case rel => exact ⟨d, f, k + 1, by omega, by omega, rfl, by go_num, HN, HR, HB⟩
          case measure => simp [intOf]; omega
      · obtain rfl : k = s.size := by omega
        have HN := Lib.hid HC.out.last
        rw [← hX] at HN
        have hX2 := hX.symm
        clear hX
        go_wp2_with (at_builtin; refine wpList_append_texts rfl (.tmp 23) (.tmp 28) rfl (World.ownsRow.alloc HR.out _) (rowT_one wr X) (by have := HLT.out.1; simp; omega) (by have := HLT.out.2; simp; omega) rfl rfl ?_; intro v7 w7 hrow7 hgrow7; have HR7 := Lib.hid (show RowT w7 w.heap.size v7 (d ++ [X]) from hrow7); have HB7 := Lib.hid ((HB.out.alloc HB.out.size _).grown hgrow7 (by have := HLT.out.2; simp; omega) (fun g hg => (World.ownsRow.lt HR.out g hg).1)); clear hrow7 hgrow7)
        go_roundw
        case rel => exact ⟨d ++ [X], s.size + 1, s.size + 1, by omega, by omega, by go_num, by go_num, HN, HR7, HB7⟩
        case measure => simp [intOf] <;> omega
    · have hk2 : (s.size : Int) < (k : Int) := by omega
      have HE := Lib.hid (show wordsB s.data.toList = d by have := HC.out.2.1; rw [if_neg hle, List.append_nil] at this; exact this)
      go_wp2_with fail
      go_ret
      exact ⟨_, rfl, by rw [HE.out]; exact HR.out, HB.out⟩
end Go.Proofs.YtcoehmmiplffgaaDoor
