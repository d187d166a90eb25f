/- The walk of KeepTwice: true of any records, any key. -/
import Derived.Test.YtimcepoleboldaaGreatDoorKpD
import Derived.Test.YtimcepoleboldaaGreatDoorKeepLongs
import Derived.IntWalk
import Derived.Deep.RegionHeldLaw
namespace Go.Proofs.YtimcepoleboldaaGreatDoor
open Go.RowKit Go.Deep

theorem ents_empty (w : World) (o : Obj) : Ents (w.alloc o) (.slice (some ⟨w.heap.size, 0, none⟩) 0 0) [] := ⟨_, 0, rfl, fun j e hj => by simp at hj⟩
theorem recs_del (w : World) (a : ByteArray) : Recs (w.alloc (.cells #[.int .i64 2, .string a, .string ByteArray.empty] 32)) (.slice (some ⟨w.heap.size, 0, none⟩) 1 1) [⟨2, a, ByteArray.empty⟩] := by
  refine ⟨some ⟨w.heap.size, 0, none⟩, 1, rfl, fun j x hj => ?_⟩
  match j, hj with
  | 0, hj =>
    simp at hj
    subst hj
    exact ⟨by show (-9223372036854775808 : Int) ≤ 2 ∧ (2 : Int) ≤ 9223372036854775807; decide, w.heap.size, 0, rfl, by simp, by simp, by simp, by simp⟩
  | j + 1, hj => simp at hj
theorem not_odd_puts (m : Kp.Mp) : ¬ Kp.odd (Kp.puts m) := by
  rintro ⟨x, hx, h1, -⟩
  unfold Kp.puts at hx
  obtain ⟨e, -, rfl⟩ := List.mem_map.mp hx
  exact h1 rfl
theorem not_odd_del (k : ByteArray) : ¬ Kp.odd [⟨2, k, ByteArray.empty⟩] := by
  rintro ⟨x, hx, h1, h2⟩
  simp at hx
  subst hx
  exact h2 rfl

theorem recs_new (w : World) : RowR (w.alloc (.cells #[] 32)) w.heap.size (.slice (some ⟨w.heap.size, 0, none⟩) 0 0) [] :=
  ⟨rfl, .inr ⟨w.heap.size, 0, #[], rfl, Nat.le_refl _, heap_alloc_new w _, Nat.le_refl _, Nat.zero_le _, rfl, rfl⟩⟩
theorem puts_up {m : Kp.Mp} {j : Nat} {x : ByteArray × ByteArray} (h : m[j]? = some x) : (Kp.puts m).take (j + 1) = (Kp.puts m).take j ++ [⟨1, x.1, x.2⟩] := by
  have h1 := puts_at h
  obtain ⟨h2, h3⟩ := List.getElem?_eq_some_iff.1 h1
  rw [List.take_succ_eq_append_getElem h2, h3]
theorem del_all (m : Kp.Mp) (k : ByteArray) : Kp.all m [⟨2, k, ByteArray.empty⟩] = Kp.del m k := by
  show Kp.taken m ⟨2, k, ByteArray.empty⟩ = Kp.del m k
  unfold Kp.taken
  rw [if_neg (show ¬ (2 : Int) = 1 by decide), if_pos (show (2 : Int) = 2 from rfl)]
theorem del_gone {m : Kp.Mp} (hu : Kp.Up m) {k : ByteArray} (h : Kp.look m k = none) : Kp.del m k = m := by
  refine Kp.up_ext (Kp.up_del k hu) hu fun q => ?_
  rw [Kp.look_del]
  by_cases hq : q = k
  · rw [if_pos hq, hq, h]
  · rw [if_neg hq]
theorem del_short {m : Kp.Mp} (hu : Kp.Up m) (k : ByteArray) (h : Kp.size m + m.length ≤ 4096) : (Kp.batch (Kp.puts (Kp.del m k))).length ≤ 12192 := by
  have h1 := Kp.size_del_le m k
  have h2 := Kp.length_del_le m k
  have h3 := Kp.up_length (Kp.up_del k hu)
  have h4 := Kp.batch_short (m := Kp.del m k) (by omega) (by omega)
  omega
theorem recs_wf (m : Kp.Mp) : ∀ x ∈ Kp.puts m, x.wf := by
  intro x hx
  unfold Kp.puts at hx
  obtain ⟨e, -, rfl⟩ := List.mem_map.mp hx
  show (-9223372036854775808 : Int) ≤ 1 ∧ (1 : Int) ≤ 9223372036854775807
  decide

/-- Append of one record, at a step of a region that draws its order. -/
theorem step_append_rec {ops : Array Oper} {o : Oper} {a : Act} {w : World} {K : Act → World → Prop} {Q : Exit → Act → World → Prop} {E : Prop} (hg : o.guard = none) (s x : Operand)
    (ho : o.op = .call { callee := .builtin .append, args := #[s, x], argTypes := #[29, 29] })
    {base g c : Nat} {v1 : Value} {l : List Kp.Rc} {z : Kp.Rc} (h : RowR w base v1 l) (h0 : w.cell? ⟨g, 0, none⟩ = some (.int .i64 z.k)) (h1 : w.cell? ⟨g, 1, none⟩ = some (.string z.key)) (h2 : w.cell? ⟨g, 2, none⟩ = some (.string z.val)) (hl : l.length ≤ 1048576) (hb : base ≤ w.heap.size) (hs : a.eval s = v1) (hx : a.eval x = .slice (some ⟨g, 0, none⟩) 1 c)
    (hK : ∀ v3 w', RowR w' base v3 (l ++ [z]) → w.grownBy w' v1.ownBlock → K (a.put o.dst v3) w') : if Region.wanted o (yielded ops a.tmps) = true then Oper.wp Tryz.prog o a w K Q else E := by
  obtain ⟨i0, hi, hz0, hz1, hz2⟩ := info_parts info_record
  have hw : Region.wanted o (yielded ops a.tmps) = true := by simp [Region.wanted, hg]
  rw [if_pos hw]
  refine wp_append_own (P := Tryz.prog) w s x 29 ho base 32 i0 (.agg #[.int .i64 0, .string ⟨#[]⟩, .string ⟨#[]⟩]) 3 40 Tryz.underlying29 hi hz0 hz1 hz2 rfl (by decide) v1 l.length (flatR l) hs h ⟨g, 0, none⟩ 1 c (flatR [z]) hx rfl ?_ (flatR_one _) (by unfold maxLen; omega) (by omega) hb ?_
  · intro j u hj
    rw [Addr.add_lit]
    match j, hj with
    | 0, hj => rw [h0]; simpa [flatR] using hj
    | 1, hj => rw [h1]; simpa [flatR] using hj
    | 2, hj => rw [h2]; simpa [flatR] using hj
    | j + 3, hj => simp [flatR] at hj
  · intro v' w' h2 h3 _
    refine hK v' w' ?_ h3
    unfold RowR
    rw [List.length_append, flatR_append]
    exact h2

set_option maxRecDepth 20000 in
set_option maxHeartbeats 8000000 in
theorem twice_walk (v : Value) (l : List Kp.Rc) (key : ByteArray) (w : World) (hl : Recs w v l) :
    Calls Tryz.prog 7 #[v, .string key] w fun x w' => x = .returned (.bool true) ∧ Below w.heap.size w w' := by
  have HL := Lib.hid hl
  have HLN := Lib.hid (longs_any v l w hl)
  go_enter Tryz.func7, Tryz.ntmps7
  go_wp2_with fail
  refine HLN.out.mono ?_
  rintro e w0 ⟨nn, rfl, hn1, hn2, hn3, hq⟩
  have HQ := Lib.hid hq
  clear hq HLN hl
  by_cases k1 : 4096 < nn
  · have k1' : (4096 : Int) < (nn : Int) := by omega
    go_wp2_with fail
    go_ret
    exact ⟨rfl, HQ.out.below⟩
  by_cases k2 : 1024 < key.size
  · have k1' : (nn : Int) ≤ 4096 := by omega
    have k2' : (1024 : Int) < (key.size : Int) := by omega
    go_wp2_with fail
    go_ret
    exact ⟨rfl, HQ.out.below⟩
  have k1' : (nn : Int) ≤ 4096 := by omega
  have k2' : (key.size : Int) ≤ 1024 := by omega
  have HN := Lib.hid (show rsize l ≤ 4096 ∧ key.size ≤ 1024 from ⟨by rw [← hn2 (by omega)]; omega, by omega⟩)
  clear k1 k2 hn1 hn2 hn3
  go_wp2_with fail
  have HL0 := Lib.hid (HL.out.below HQ.out.below)
  refine (disk_new w0).mono ?_
  rintro e w1 ⟨rfl, hd1, hb1⟩
  obtain ⟨g, hg⟩ : ∃ g, g = w0.heap.size + 1 := ⟨_, rfl⟩
  rw [← hg] at hd1 ⊢
  have HB1 := Lib.hid hb1
  have HD1 := Lib.hid hd1
  clear hg hb1 hd1
  go_wp2_with fail
  refine (shop_new HD1.out (by decide) (by decide)).mono ?_
  rintro e w2 ⟨K2, s, mb, n, st2, rfl, -, hS, hn, hc, hm⟩
  have HS2 := Lib.hid hS
  have HB2 := Lib.hid (HB1.out.trans (hc.to_below HB1.out.size))
  have HM2 := Lib.hid (show n ≤ 12192 ∧ st2.many ≤ 2 from ⟨hn, hm⟩)
  clear hS hc hn hm HD1 HB1
  have hz : Kp.heavy l + l.length ≤ 4096 := by have := HN.out; unfold rsize at this; omega
  have HZ := Lib.hid hz
  go_wp2_with fail
  refine (shop_put HS2.out (by decide) (HL0.out.below HB2.out) (by show 0 + _ ≤ _; omega) (by show 0 + _ ≤ _; omega) (by have := HM2.out; omega) (by have := HM2.out; omega)).mono ?_
  rintro e w4 ⟨E, K4, mb4, n4, st4, e4, rfl, -, hS4, he0, he1, hn4, hc4, -, hm4, hE, -, -⟩
  obtain ⟨m, hmm⟩ : ∃ m, m = if E = 0 then Kp.all [] l else [] := ⟨_, rfl⟩
  rw [← hmm] at hS4
  have HS4 := Lib.hid hS4
  have HB4 := Lib.hid (HB2.out.trans (hc4.to_below HB2.out.size))
  have HM4 := Lib.hid (show n4 ≤ 17000 ∧ st4.many ≤ 260 ∧ e4 ≤ 2 by have := HM2.out; omega)
  have h1 := Kp.size_all_le l []
  have h2 := Kp.length_all_le l []
  have hms : Kp.size m ≤ 4096 ∧ m.length ≤ 4096 ∧ Kp.size m + m.length ≤ 4096 := by
    rw [hmm]
    split
    · change _ ≤ 0 + _ at h1
      change _ ≤ 0 + _ at h2
      omega
    · exact ⟨Nat.zero_le _, Nat.zero_le _, Nat.zero_le _⟩
  have HMS := Lib.hid hms
  clear hS4 hc4 hn4 he0 he1 hm4 hE HS2 HB2 HM2 hz h1 h2 hms
  go_wp2_with fail
  refine (shop_calls HS4.out).mono ?_
  rintro e w' ⟨rfl, rfl⟩
  have HBA := Lib.hid (show Below w4.heap.size w4 (w4.alloc (.cells #[] 65)) from (Below.refl _ _).alloc (Nat.le_refl _) _)
  have HEE := Lib.hid (ents_empty w4 (.cells #[] 65))
  have hsplit : (E == 0) = true ∧ m = Kp.all [] l ∨ (E == 0) = false ∧ m = [] := by
    by_cases h0 : E = 0
    · rw [if_pos h0] at hmm
      exact .inl ⟨by simp [h0], hmm⟩
    · rw [if_neg h0] at hmm
      exact .inr ⟨by simp [h0], hmm⟩
  clear hmm
  have hnext : ∀ w5 v5, Ents w5 v5 m → Below w4.heap.size w4 w5 → Shop K4 w5 w0.heap.size g s mb4 n4 1048576 m st4 e4 ∧ Below w0.heap.size w0 w5 := fun w5 v5 _ hb => ⟨HS4.out.below hb, HB4.out.trans (hb.mono HB4.out.size)⟩
  have HNX := Lib.hid hnext
  clear hnext
  rcases hsplit with ⟨h0, hmm⟩ | ⟨h0, hmm⟩
  focus
    go_wp2_with fail
    refine (eall_any _ v [] l _ HEE.out ((HL0.out.below HB4.out).below HBA.out) trivial (by show 0 + _ ≤ _; have := HZ.out; omega)).mono ?_
    rintro e w5 ⟨v5, rfl, he5, hb5⟩
    rw [← hmm] at he5
    have HE5 := Lib.hid he5
    have HN5 := Lib.hid (HNX.out w5 v5 he5 (HBA.out.trans (hb5.mono HBA.out.size)))
    clear he5 hb5 HEE HBA HNX HS4 HB4 hmm
    go_wp2_with fail
  rotate_left
  focus
    have HE5 := Lib.hid (show Ents (w4.alloc (.cells #[] 65)) (.slice (some ⟨w4.heap.size, 0, none⟩) 0 0) m by rw [hmm]; exact HEE.out)
    have HN5 := Lib.hid (HNX.out _ _ HE5.out HBA.out)
    clear HEE HBA HNX HS4 HB4 hmm
    go_wp2_with fail
    generalize w4.alloc (.cells #[] 65) = w5 at *
    generalize (Value.slice (some ⟨w4.heap.size, 0, none⟩) 0 0) = v5 at *
  all_goals
    refine (shop_has HN5.out.1 HE5.out (by have := HMS.out; omega) (by have := HMS.out; omega) (by have := HMS.out; omega)).mono ?_
    rintro e w6 ⟨b, rfl, hb, hb6⟩
    obtain rfl := hb rfl
    have HS6 := Lib.hid (HN5.out.1.below hb6)
    have HB6 := Lib.hid (HN5.out.2.trans (hb6.mono HN5.out.2.size))
    have HE6 := Lib.hid (HE5.out.below hb6)
    clear hb hb6 HN5 HE5
    have hb7 : Below w6.heap.size w6 (w6.alloc (.cells #[] 32)) := (Below.refl _ _).alloc (Nat.le_refl _) _
    have HR7 := Lib.hid (recs_new w6)
    have HB7 := Lib.hid hb7
    have hmi : (m.length : Int) ≤ 4096 := by have := HMS.out; omega
    obtain ⟨A, cap, hv, hat⟩ := HE6.out
    subst hv
    have HAT := Lib.hid hat
    clear hb7 hat
    go_wp2_with fail
    go_loopw [11, 12] (fun v i wr => ∃ j : Nat, j ≤ m.length ∧ i = .int .i64 (j : Int) ∧ RowR wr w6.heap.size v ((Kp.puts m).take j) ∧ Below w6.heap.size w6 wr) (fun _ i _ => m.length - (intOf i).toNat)
    case atStart => exact ⟨0, Nat.zero_le _, rfl, HR7.out, HB7.out⟩
    case round =>
      obtain ⟨j, hj, rfl, hR, hb⟩ := hrel
      have HR := Lib.hid hR
      have HB := Lib.hid hb
      by_cases hlt : j < m.length
      · obtain ⟨x, hx⟩ : ∃ x, m[j]? = some x := ⟨_, List.getElem?_eq_getElem hlt⟩
        obtain ⟨b1, o1, rfl, l1, e0, e1⟩ := HAT.out j x hx
        have d0 := (hb.cell (p := ⟨b1, o1 + j * 2, none⟩) l1).trans e0
        have d1 := (hb.cell (p := ⟨b1, o1 + j * 2 + 1, none⟩) l1).trans e1
        have hji : (j : Int) < (m.length : Int) := by omega
        have HX := Lib.hid (puts_up hx)
        clear e0 e1 hR hb hx
        go_wp2_with fail
        have hba := (Below.refl wr.heap.size wr).alloc (Nat.le_refl _) (.cells #[.int .i64 1, .string x.1, .string x.2] 32)
        have HRA := Lib.hid (HR.out.below hba)
        obtain ⟨y0, y1, y2⟩ := cells_three (Blk.new wr 32 #[.int .i64 1, .string x.1, .string x.2])
        have HY := Lib.hid (And.intro y0 (And.intro y1 y2))
        have HLT := Lib.hid (show ((Kp.puts m).take j).length + 1 ≤ 1048576 ∧ w6.heap.size ≤ wr.heap.size from ⟨by rw [List.length_take, puts_length]; omega, HB.out.size⟩)
        have HFAR := Lib.hid (fun g hg' => (HR.out.lt (g := g) hg').1)
        have HLB := Lib.hid (show b1 < wr.heap.size ∧ b1 < (wr.alloc (.cells #[.int .i64 1, .string x.1, .string x.2] 32)).heap.size from ⟨Nat.lt_of_lt_of_le l1 HB.out.size, by have := HB.out.size; simp; omega⟩)
        have HDD := Lib.hid (show (wr.alloc (.cells #[.int .i64 1, .string x.1, .string x.2] 32)).cell? ⟨b1, o1 + j * 2, none⟩ = some (.string x.1) ∧ (wr.alloc (.cells #[.int .i64 1, .string x.1, .string x.2] 32)).cell? ⟨b1, o1 + j * 2 + 1, none⟩ = some (.string x.2) from ⟨(hba.cell (p := ⟨b1, _, none⟩) HLB.out.1).trans d0, (hba.cell (p := ⟨b1, _, none⟩) HLB.out.1).trans d1⟩)
        clear y0 y1 y2 hba
        go_region_held_law (fun W => W.cell? ⟨b1, o1 + j * 2, none⟩ = some (.string x.1) ∧ W.cell? ⟨b1, o1 + j * 2 + 1, none⟩ = some (.string x.2)) (first | go_keep | exact ⟨d0, d1⟩ | exact ⟨(hgrow7.cell_far ⟨b1, o1 + j * 2, none⟩ HLB.out.2 (fun e => absurd (HFAR.out b1 e.symm) (by omega))).trans HDD.out.1, (hgrow7.cell_far ⟨b1, o1 + j * 2 + 1, none⟩ HLB.out.2 (fun e => absurd (HFAR.out b1 e.symm) (by omega))).trans HDD.out.2⟩) ((refine step_append_rec (by rfl) (.tmp 61) (.tmp 73) (by rfl) (z := ⟨1, x.1, x.2⟩) HRA.out HY.out.1 HY.out.2.1 HY.out.2.2 (by have := HLT.out; omega) (by have := HLT.out; simp; omega) (by rfl) (by rfl) ?_; intro v7 w7 hrow7 hgrow7))
        have HN := Lib.hid (show RowR w7 w6.heap.size v7 ((Kp.puts m).take (j + 1)) from by rw [HX.out]; exact hrow7)
        have HC := Lib.hid (gr_to_below (gr_row (gr_trans (gr_of_below HB.out none) (gr_of_below ((Below.refl wr.heap.size wr).alloc (Nat.le_refl _) (.cells #[.int .i64 1, .string x.1, .string x.2] 32)).drew none)) hgrow7 (fun g hg' => HFAR.out g hg')))
        clear hrow7 hgrow7 d0 d1
        go_wp2_with fail
        go_roundw
        case rel => exact ⟨j + 1, by omega, by go_num, HN.out, HC.out⟩
        case measure => simp [intOf]; omega
      · have he : (Kp.puts m).take j = Kp.puts m := List.take_of_length_le (by rw [puts_length]; omega)
        rw [he] at HR
        have HRR := Lib.hid (HR.out.recs (recs_wf m))
        have HSR := Lib.hid (HS6.out.below hb)
        have HBR := Lib.hid (HB6.out.trans (hb.mono HB6.out.size))
        have hup := HS6.out.up
        have hsame : Kp.all m (Kp.puts m) = m := Kp.all_same hup m (fun _ h => h)
        have HUP := Lib.hid hup
        have hhp := heavy_puts m
        have hlp := puts_length m
        clear hR hb he
        go_wp2_with fail
        refine (shop_put HSR.out (by have := HM4.out; omega) HRR.out (by rw [hhp]; have := HMS.out; omega) (by rw [hlp]; have := HMS.out; omega) (by have := HM4.out; omega) (by rw [hlp]; have := HM4.out; have := HMS.out; omega)).mono ?_
        rintro e w8 ⟨E8, K8, mb8, n8, st8, e8, rfl, -, hS8, -, he8, hn8, hc8, -, -, -, -, hE8⟩
        obtain ⟨rfl, rfl⟩ := hE8 (not_odd_puts m) hsame
        rw [if_pos rfl, hsame] at hS8
        have HS8 := Lib.hid hS8
        have HB8 := Lib.hid (HBR.out.trans (hc8.to_below HBR.out.size))
        have HM8 := Lib.hid (show n8 ≤ 30000 ∧ e8 ≤ 3 by have := HM4.out; have := HMS.out; rw [hlp] at hn8; omega)
        clear hS8 hc8 he8 hn8 hE8 HSR HBR HRR HS6 HB6 HR hsame hhp hlp hup
        go_wp2_with fail
        refine (shop_calls HS8.out).mono ?_
        rintro e w' ⟨rfl, rfl⟩
        have hcc : ((st8.many : Int) != (st8.many : Int)) = false := by simp
        have HG8 := Lib.hid (shop_get HS8.out (key := key) (by unfold maxLen; omega) (by have := HMS.out; omega))
        go_wp2_with fail
        refine HG8.out.mono ?_
        rintro e w9 ⟨rfl, hb9⟩
        have hb10 : Below w9.heap.size w9 (w9.alloc (.cells #[.int .i64 2, .string key, .string ByteArray.empty] 32)) := (Below.refl _ _).alloc (Nat.le_refl _) _
        have HR10 := Lib.hid (recs_del w9 key)
        have HS10 := Lib.hid ((HS8.out.below hb9).below hb10)
        have HB10 := Lib.hid ((HB8.out.trans (hb9.mono HB8.out.size)).trans (hb10.mono (HB8.out.trans (hb9.mono HB8.out.size)).size))
        clear hb9 hb10 HG8 HS8 HB8
        obtain ⟨p, hp⟩ : ∃ p, p = Kp.look m key := ⟨_, rfl⟩
        rw [← hp]
        have HP := Lib.hid hp
        clear hp
        go_wp2_with fail
        have h6 : Kp.heavy [⟨2, key, ByteArray.empty⟩] = key.size + ByteArray.empty.size + 0 := rfl
        have h7 : ByteArray.empty.size = 0 := rfl
        refine (shop_put HS10.out (by have := HM8.out; omega) HR10.out (by rw [h6, h7]; have := HMS.out; have := HN.out; omega) (by show _ + 1 ≤ _; have := HMS.out; omega) (by have := HM4.out; omega) (by show _ + 1 ≤ _; have := HM8.out; omega)).mono ?_
        rintro e w11 ⟨E, K11, mb11, n11, st11, e11, rfl, -, hS11, -, -, -, hc11, -, -, hE, -, hsm⟩
        rw [del_all] at hS11 hE hsm
        have h0 : E = 0 := by
          rcases hE with h | ⟨_, h⟩ | ⟨_, _, h | h⟩
          · exact h
          · exact absurd h (not_odd_del key)
          · have := Kp.size_del_le m key
            omega
          · have := del_short HUP.out key HMS.out.2.2
            omega
        subst h0
        rw [if_pos rfl] at hS11
        have HS11 := Lib.hid hS11
        have HB11 := Lib.hid (HB10.out.trans (hc11.to_below HB10.out.size))
        have hlk : Kp.look (Kp.del m key) key = none := by rw [Kp.look_del, if_pos rfl]
        have HG11 := Lib.hid (shop_get hS11 (key := key) (by unfold maxLen; omega) (by have := Kp.length_del_le m key; have := HMS.out; omega))
        rw [hlk] at HG11
        have HSM := Lib.hid hsm
        clear hS11 hc11 hE hsm HS10 HB10 HR10 h6 h7 hlk
        go_wp2_with fail
        refine HG11.out.mono ?_
        rintro e w12 ⟨rfl, hb12⟩
        have HS12 := Lib.hid (HS11.out.below hb12)
        have HB12 := Lib.hid (HQ.out.below.trans ((HB11.out.trans (hb12.mono HB11.out.size)).mono HQ.out.below.size))
        clear hb12 HG11 HS11 HB11
        cases p with
        | none =>
          obtain ⟨-, rfl⟩ := HSM.out (not_odd_del key) (del_gone HUP.out HP.out.symm)
          have hcc2 : ((st11.many : Int) == (st11.many : Int)) = true := by simp
          go_wp2_with fail
          refine (shop_calls HS12.out).mono ?_
          rintro e w' ⟨rfl, rfl⟩
          go_wp2_with fail
          go_ret
          exact ⟨rfl, HB12.out⟩
        | some y =>
          go_wp2_with fail
          go_ret
          exact ⟨rfl, HB12.out⟩
end Go.Proofs.YtimcepoleboldaaGreatDoor
