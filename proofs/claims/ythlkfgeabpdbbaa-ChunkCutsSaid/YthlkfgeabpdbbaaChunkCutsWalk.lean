/- The walk of ChunkCuts: true of any text. -/
import Derived.Test.YthlkfgeabpdbbaaChunkRefCut
import Derived.Deep.QuietTactic
import Derived.BigQuiet
namespace Go.Proofs.Ythlkfgeabpdbbaa
open Go.RowKit

/-- All pieces but the last one are full, none is more. -/
theorem cutB_full : ∀ (n : Nat) (s : ByteArray), s.size ≤ n → ∀ (i : Nat) (x : ByteArray), (cutB s)[i]? = some x → x.size ≤ 96 ∧ (i + 1 < (cutB s).length → x.size = 96) := by
  intro n
  induction n using Nat.strongRecOn with
  | _ n ih =>
    intro s hs i x hx
    by_cases h : 96 < s.size
    · have h1 : (s.extract 96 s.size).size = s.size - 96 := by rw [ByteArray.size_extract]; omega
      have h2 : (s.extract 0 96).size = 96 := by rw [ByteArray.size_extract]; omega
      have h3 := cutB_pos (s.extract 96 s.size)
      rw [cutB_long s h] at hx ⊢
      cases i with
      | zero =>
        simp only [List.getElem?_cons_zero, Option.some.injEq] at hx
        subst hx
        exact ⟨by omega, fun _ => h2⟩
      | succ i =>
        rw [List.getElem?_cons_succ] at hx
        obtain ⟨a, b⟩ := ih (n - 96) (by omega) (s.extract 96 s.size) (by omega) i x hx
        exact ⟨a, fun hh => b (by simp only [List.length_cons] at hh; omega)⟩
    · rw [cutB_short s (by omega)] at hx ⊢
      cases i with
      | zero =>
        simp only [List.getElem?_cons_zero, Option.some.injEq] at hx
        subst hx
        exact ⟨by omega, fun hh => by simp at hh⟩
      | succ i => simp at hx

/-- Texts put together. -/
def joinB (l : List ByteArray) : List UInt8 := (l.map fun x => x.data.toList).flatten

theorem joinB_snoc (l : List ByteArray) (x : ByteArray) : joinB (l ++ [x]) = joinB l ++ x.data.toList := by simp [joinB]
theorem joinB_append (l m : List ByteArray) : joinB (l ++ m) = joinB l ++ joinB m := by simp [joinB]

theorem join_cutB : ∀ (n : Nat) (s : ByteArray), s.size ≤ n → joinB (cutB s) = s.data.toList := by
  intro n
  induction n using Nat.strongRecOn with
  | _ n ih =>
    intro s hs
    by_cases h : 96 < s.size
    · have h1 : (s.extract 96 s.size).size = s.size - 96 := by rw [ByteArray.size_extract]; omega
      have e := ih (n - 96) (by omega) (s.extract 96 s.size) (by omega)
      have h2 : (s.extract 0 96).data.toList = s.data.toList.take 96 := by
        rw [ByteArray.data_extract, Array.toList_extract]; simp [List.extract]
      have h3 : (s.extract 96 s.size).data.toList = s.data.toList.drop 96 := by
        rw [ByteArray.data_extract, Array.toList_extract]
        simp only [List.extract]
        exact List.take_of_length_le (by simp)
      rw [cutB_long s h]
      show (s.extract 0 96).data.toList ++ joinB (cutB (s.extract 96 s.size)) = _
      rw [e, h2, h3, List.take_append_drop]
    · rw [cutB_short s (by omega)]
      simp [joinB]

/-- What the first k pieces are together is no longer than the text. -/
theorem join_take (s T : ByteArray) (k : Nat) (hT : T.data.toList = joinB ((cutB s).take k)) : T.size ≤ s.size := by
  have h := join_cutB _ s (Nat.le_refl _)
  rw [← List.take_append_drop k (cutB s), joinB_append, ← hT] at h
  have h2 := congrArg List.length h
  rw [List.length_append] at h2
  have e1 : T.data.toList.length = T.size := Array.length_toList
  have e2 : s.data.toList.length = s.size := Array.length_toList
  omega

theorem join_up (s T x : ByteArray) (k : Nat) (hT : T.data.toList = joinB ((cutB s).take k)) (hx : (cutB s)[k]? = some x) : (T ++ x).data.toList = joinB ((cutB s).take (k + 1)) := by
  have hk := (List.getElem?_eq_some_iff.1 hx).1
  have e : (cutB s)[k] = x := (List.getElem?_eq_some_iff.1 hx).2
  rw [List.take_succ_eq_append_getElem hk, joinB_snoc, ← hT, e]
  simp

theorem join_all (s T : ByteArray) (k : Nat) (hT : T.data.toList = joinB ((cutB s).take k)) (hk : (cutB s).length ≤ k) : T = s := by
  rw [List.take_of_length_le hk, join_cutB _ s (Nat.le_refl _)] at hT
  have e : ∀ u : ByteArray, (⟨u.data.toList.toArray⟩ : ByteArray) = u := fun u => by simp
  rw [← e T, hT, e]

/-- A row of strings that is not empty is a slice, and its elements can be read. -/
theorem row_open {w : World} {base n : Nat} {v : Value} {l : List ByteArray} (h : w.ownsRow base 9 1 v n (l.map Value.string)) (hn : 0 < n) :
    ∃ g cap, v = .slice (some ⟨g, 0, none⟩) n cap ∧ ∀ j x, l[j]? = some x → w.cell? ⟨g, j, none⟩ = some (.string x) := by
  have h' := h
  rcases h.2 with hz | ⟨g, cap, cur, rfl, _⟩
  · have := hz.2; omega
  · refine ⟨g, cap, rfl, fun j x hx => ?_⟩
    have e := h'.cells (g := g) rfl j (.string x) (by simp [hx])
    have hadd : (⟨g, 0, none⟩ : Addr).add j = ⟨g, j, none⟩ := by unfold Addr.add; split <;> simp_all
    first
      | exact e
      | (rw [hadd] at e; exact e)

/-- What the law's loop knows. -/
def CutsLoop (s : ByteArray) (n g1 g2 : Nat) (w : World) (v5 v6 : Value) (wr : World) : Prop :=
  ∃ (k : Nat) (T : ByteArray), k ≤ n ∧ v6 = .int .i64 (k : Int) ∧ v5 = .string T ∧ T.data.toList = joinB ((cutB s).take k) ∧
    (∀ j x, (cutB s)[j]? = some x → wr.cell? ⟨g1, j, none⟩ = some (.string x)) ∧ (∀ j x, (cutB s)[j]? = some x → wr.cell? ⟨g2, j, none⟩ = some (.string x)) ∧ Below w.heap.size w wr

set_option maxRecDepth 20000 in
set_option maxHeartbeats 1000000 in
theorem cuts_walk (s : ByteArray) (w : World) (_ : s.size ≤ maxLen) :
    Calls Try.prog 8 #[.string s] w fun x w' => x = .returned (.bool true) ∧ Below w.heap.size w w' := by
  by_cases hs : (s.size : Int) ≤ 4096
  · have hlen := cutB_len _ s (Nat.le_refl _)
    have hpos := cutB_pos s
    obtain ⟨n, hn⟩ : ∃ n, (cutB s).length = n := ⟨_, rfl⟩
    have HA := Lib.hid (fun W : World => cut_any s W (by omega))
    have HR := Lib.hid (fun W : World => cut_ref s W (by omega))
    rw [hn] at HA HR hlen hpos
    have hn0 : ((n : Int) == 0) = false := by rw [beq_eq_false_iff_ne]; omega
    have HN := Lib.hid hn
    go_enter Try.func8, Try.ntmps8
    go_wp2_with fail
    refine (HA.out w).mono ?_
    rintro x w1 ⟨v1, rfl, hr1, hb1⟩
    obtain ⟨g1, cap1, rfl, hc1⟩ := row_open hr1 hpos
    go_wp2_with fail
    refine (HR.out w1).mono ?_
    rintro x w2 ⟨v2, rfl, hr2, hb2⟩
    obtain ⟨g2, cap2, rfl, hc2⟩ := row_open hr2 hpos
    have hg1 : g1 < w1.heap.size := (hr1.lt g1 rfl).2
    have hc1' : ∀ j x, (cutB s)[j]? = some x → w2.cell? ⟨g1, j, none⟩ = some (.string x) := fun j x hx => (hb2.cell (p := ⟨g1, j, none⟩) hg1).trans (hc1 j x hx)
    have hB := hb1.trans (hb2.mono hb1.size)
    have HL := Lib.hid (show CutsLoop s n g1 g2 w (.string ⟨#[]⟩) (.int .i64 0) w2 from ⟨0, ⟨#[]⟩, Nat.zero_le _, rfl, rfl, rfl, hc1', hc2, hB⟩)
    clear hr1 hr2 hc1 hc2 hb1 hb2 hB hc1' hg1 HA HR
    go_wp2_with fail
    go_loopw [5, 6] (CutsLoop s n g1 g2 w) (fun _ i _ => n - (intOf i).toNat)
    case atStart => exact HL.out
    case round =>
      obtain ⟨k, T, hk, rfl, rfl, hT, hc1, hc2, hB⟩ := hrel
      by_cases hlt : k < n
      · obtain ⟨x, hx⟩ : ∃ x, (cutB s)[k]? = some x := ⟨_, List.getElem?_eq_getElem (by rw [HN.out]; exact hlt)⟩
        obtain ⟨hx1, hx2⟩ := cutB_full _ s (Nat.le_refl _) k x hx
        have a1 := hc1 k x hx
        have a2 := hc2 k x hx
        have hTs := join_take s T k hT
        have hno : ¬ 9223372036854775807 < T.size + x.size := by omega
        have hki : (k : Int) < (n : Int) := by omega
        have hxi : (x.size : Int) ≤ 96 := by omega
        have HT := Lib.hid (join_up s T x k hT hx)
        have HC := Lib.hid (And.intro hc1 (And.intro hc2 hB))
        rw [HN.out] at hx2
        clear hT hx hc1 hc2 hB hn
        by_cases hl : k + 1 < n
        · have hx96 : x.size = 96 := hx2 hl
          clear hx2
          have hli : (k : Int) + 1 < (n : Int) := by omega
          go_wp2_with fail
          go_quiet (fail)
          go_wp2_with fail
          have hB := HC.out.2.2
          exact ⟨⟨k + 1, T ++ x, by omega, by go_num, rfl, HT.out, HC.out.1, HC.out.2.1, ⟨hB.os, hB.tape, hB.output, hB.size, hB.block⟩⟩, by simp [intOf]; omega⟩
        · clear hx2
          have hli : decide ((k : Int) + 1 < (n : Int)) = false := by rw [decide_eq_false_iff_not]; omega
          go_wp2_with fail
          go_quiet (fail)
          go_wp2_with fail
          have hB := HC.out.2.2
          exact ⟨⟨k + 1, T ++ x, by omega, by go_num, rfl, HT.out, HC.out.1, HC.out.2.1, ⟨hB.os, hB.tape, hB.output, hB.size, hB.block⟩⟩, by simp [intOf]; omega⟩
      · obtain rfl : T = s := join_all s T k hT (by rw [HN.out]; omega)
        clear hT hc1 hc2
        go_wp2_with fail
        go_ret
        exact ⟨rfl, hB⟩
  · go_enter Try.func8, Try.ntmps8
    go_wp2_with fail
    go_ret
    exact ⟨rfl, Below.refl _ _⟩

end Go.Proofs.Ythlkfgeabpdbbaa
