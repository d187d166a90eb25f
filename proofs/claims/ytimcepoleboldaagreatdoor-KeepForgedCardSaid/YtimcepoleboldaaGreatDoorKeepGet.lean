/- What get of a table comes to. -/
import Derived.Test.YtimcepoleboldaaGreatDoorKeepSmall
namespace Go.Proofs.YtimcepoleboldaaGreatDoor
open Go.RowKit Go.Deep

theorem cells_two {w : World} {g : Nat} {t : TypeId} {a b : Value} (h : Blk w g t #[a, b]) : w.cell? ⟨g, 0, none⟩ = some a ∧ w.cell? ⟨g, 1, none⟩ = some b ∧ w.frozen? ⟨g, 0, none⟩ = false ∧ w.frozen? ⟨g, 1, none⟩ = false := by
  have c0 := h.cell 0
  have c1 := h.cell 1
  simp at c0 c1
  exact ⟨c0, c1, h.frozen 0, h.frozen 1⟩
theorem puts_length (m : Kp.Mp) : (Kp.puts m).length = m.length := by unfold Kp.puts; rw [List.length_map]
theorem puts_at {m : Kp.Mp} {j : Nat} {e : ByteArray × ByteArray} (h : m[j]? = some e) : (Kp.puts m)[j]? = some ⟨1, e.1, e.2⟩ := by unfold Kp.puts; rw [List.getElem?_map, h]; rfl
theorem look_pref {l : Kp.Mp} {j : Nat} {e : ByteArray × ByteArray} (h : l[j]? = some e) {k : ByteArray} (hn : Kp.look (l.take j) k = none) (he : e.1 = k) : Kp.look l k = some e.2 :=
  Kp.look_take_some (j := j + 1) (by rw [Kp.look_take h k hn, if_pos he])

def GetPost (o : Option ByteArray) (w : World) (e : Ending) (w' : World) : Prop := e = .returned (.tuple #[.string (o.getD ByteArray.empty), .bool o.isSome]) ∧ Below w.heap.size w w'

set_option maxRecDepth 20000 in
set_option maxHeartbeats 800000 in
theorem get_any [R : Rows] (tb mb n : Nat) (m : Kp.Mp) (key : ByteArray) (w : World) (h : Tab w tb mb n m) (hk : key.size ≤ maxLen) (hm : m.length ≤ 1000000) :
    Calls Tryz.prog 40 #[.pointer (some ⟨tb, 0, none⟩), .string key] w (GetPost (Kp.look m key) w) := by
  obtain ⟨G, D, h⟩ := h
  obtain ⟨d, hd⟩ : ∃ d, d = Plain.mix key.data.toList := ⟨_, rfl⟩
  have hd64 : d < 18446744073709551616 := by rw [hd]; exact Kp.mixB_lt key
  have hsame : Kp.look (D d) key = Kp.look m key := by rw [hd]; exact h.tabs.same key
  have hmx : ∀ W, Calls Tryz.prog 75 #[.string key] W fun e w' => e = .returned (.int .u64 (d : Int)) ∧ w' = W := fun W => by rw [hd]; exact (mix_any key W hk).mono fun _ _ h => ⟨h.1, h.2.symm⟩
  have HM := Lib.hid hmx
  have hlook : ∀ q, (Instr.lookup 84 (.map (some mb)) (.int .u64 (d : Int)) false).run Tryz.prog (w.drewN q) = .ok ((G d).getD (.slice none 0 0)) (w.drewN q) := fun q => (h.map.move (w' := w.drewN q) rfl).look hd64
  obtain ⟨l, hl⟩ : ∃ l, l = D d := ⟨_, rfl⟩
  have hlen : (l.length : Int) ≤ 1000000 := by have := h.tabs.len h.up d; rw [← hl] at this; omega
  have hrow := (h.bucket d).recs
  rw [← hl] at hrow hsame
  obtain ⟨A, cap, hv, hat⟩ := hrow
  rw [hv, puts_length] at hlook
  have HA := Lib.hid hat
  have HS := Lib.hid hsame
  obtain ⟨c0, -, -⟩ := cells_two h.blk
  clear hv hat hsame hmx hl h hd hm hk
  go_enter Tryz.func40, Tryz.ntmps40
  go_wp2_with fail
  go_quiet (first | (go_at_call 75; refine Calls.quiet_of_same (HM.out _)) | fail)
  clear c0 hlook
  go_wp2_with fail
  go_loopw [16] (fun i wr => ∃ k : Nat, k ≤ l.length ∧ i = .int .i64 (k : Int) ∧ Kp.look (l.take k) key = none ∧ Below w.heap.size w wr) (fun i _ => l.length - (intOf i).toNat)
  case atStart => exact ⟨0, Nat.zero_le _, rfl, rfl, (Quiet.drewN w _).below⟩
  case round =>
    obtain ⟨k, hk, rfl, hn, hb⟩ := hrel
    by_cases hlt : k < l.length
    · obtain ⟨e, he⟩ : ∃ e, l[k]? = some e := ⟨_, List.getElem?_eq_getElem hlt⟩
      obtain ⟨-, b1, o1, rfl, l1, e0, e1, e2⟩ := HA.out k _ (puts_at he)
      have d0 := (hb.cell (p := ⟨b1, o1 + k * 3, none⟩) l1).trans e0
      have d1 := (hb.cell (p := ⟨b1, o1 + k * 3 + 1, none⟩) l1).trans e1
      have d2 := (hb.cell (p := ⟨b1, o1 + k * 3 + 2, none⟩) l1).trans e2
      simp only at d0 d1 d2
      have hki : (k : Int) < (l.length : Int) := by omega
      have HB := Lib.hid hb
      have HN := Lib.hid hn
      have HE := Lib.hid he
      clear e0 e1 e2 hb hn he
      by_cases hq : e.1 = key
      · have hey := key_eq hq
        have HQ := Lib.hid hq
        clear hq
        go_wp2_with fail
        go_ret2
        have := look_pref HE.out HN.out HQ.out
        rw [HS.out] at this
        rw [this]
        exact ⟨rfl, HB.out.alloc HB.out.size _⟩
      · have hey : (e.1.toList == key.toList) = false := by
          rw [beq_eq_false_iff_ne]
          intro e'
          rw [Lib.toList_data, Lib.toList_data] at e'
          exact hq (Kp.data_inj e')
        have HQ := Lib.hid hq
        clear hq
        go_wp2_with fail
        go_roundw
        case rel => exact ⟨k + 1, by omega, by go_num, by rw [Kp.look_take HE.out key HN.out, if_neg HQ.out], HB.out.alloc HB.out.size _⟩
        case measure => simp [intOf]; omega
    · have he : l.take k = l := List.take_of_length_le (by omega)
      rw [he, HS.out] at hn
      have HB := Lib.hid hb
      have HN := Lib.hid hn
      clear hb hn
      go_wp2_with fail
      go_ret2
      rw [HN.out]
      exact ⟨rfl, HB.out⟩
end Go.Proofs.YtimcepoleboldaaGreatDoor
