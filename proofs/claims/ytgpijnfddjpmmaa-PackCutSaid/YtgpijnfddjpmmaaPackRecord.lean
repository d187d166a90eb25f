/- What Record comes to, the program's and the document's. -/
import Derived.Test.YtgpijnfddjpmmaaPackText
import Derived.Test.YtgpijnfddjpmmaaPackRefs
import Derived.Deep.RegionWith
import Derived.Deep.RegionHeld3
namespace Go.Proofs.Ytgpijnfddjpmmaa
open Go.RowKit

theorem recd_add (k : Int) (key val : List UInt8) : Pk.recd k key val = (Pk.code (Pk.cl k) ++ Pk.texted key) ++ (if k = 1 then Pk.texted val else []) := rfl

theorem three {w : World} {g : Nat} {t : TypeId} {x y z : Value} (h : Blk w g t #[x, y, z]) : w.cell? ⟨g, 0, none⟩ = some x ∧ w.cell? ⟨g, 1, none⟩ = some y ∧ w.cell? ⟨g, 2, none⟩ = some z := by
  have c0 := h.cell 0
  have c1 := h.cell 1
  have c2 := h.cell 2
  simp at c0 c1 c2
  exact ⟨c0, c1, c2⟩

theorem recd_one (key val : List UInt8) : (([] ++ Pk.code (Pk.cl 1)) ++ Pk.texted key) ++ Pk.texted val = Pk.recd 1 key val := by
  rw [recd_add, if_pos rfl, List.nil_append]
theorem recd_other (k : Int) (hk : ¬ k = 1) (key val : List UInt8) : ([] ++ Pk.code (Pk.cl k)) ++ Pk.texted key = Pk.recd k key val := by
  rw [recd_add, if_neg hk, List.nil_append, List.append_nil]

theorem texted_len (s : ByteArray) (h : s.size ≤ 1048576) : (Pk.texted s.data.toList).length ≤ 2097152 := by
  have := Pk.code_len8 s.data.toList.length (by simp; omega)
  simp only [Pk.texted, List.length_append, toList_len] at this ⊢
  omega

set_option maxRecDepth 20000 in
set_option maxHeartbeats 400000 in
theorem record_any (k : Int) (key val : ByteArray) (w : World) (hk : key.size ≤ 1048576) (hv : val.size ≤ 1048576) :
    Calls Try.prog 9 #[.agg #[.int .i64 k, .string key, .string val]] w fun e w' => e = .returned (.string ⟨(Pk.recd k key.data.toList val.data.toList).toArray⟩) ∧ Below w.heap.size w w' := by
  have hnew := Wr.new (w.alloc (.cells #[.int .i64 k, .string key, .string val] 25))
  have hsz : (w.alloc (.cells #[.int .i64 k, .string key, .string val] 25)).heap.size = w.heap.size + 1 := by simp
  rw [hsz] at hnew
  have hb := (Blk.new w 25 #[.int .i64 k, .string key, .string val]).alloc (.cells #[.pointer none, .int .i64 0] 38)
  have hg : w.grownBy ((w.alloc (.cells #[.int .i64 k, .string key, .string val] 25)).alloc (.cells #[.pointer none, .int .i64 0] 38)) none := gr_alloc (gr_alloc (gr_refl w _) _) _
  have hl1 := Pk.code_len8 _ (Pk.cl_le k)
  have hl2 := texted_len key hk
  have hl3 := texted_len val hv
  have hB : w.heap.size ≤ w.heap.size + 1 := by omega
  have ho := recd_one key.data.toList val.data.toList
  have hoth := fun hk1 => recd_other k hk1 key.data.toList val.data.toList
  have HO := Lib.hid ho; have HOT := Lib.hid hoth
  clear ho hoth
  go_enter Try.func9, Try.ntmps9
  go_wp2_with fail
  generalize (w.alloc (.cells #[.int .i64 k, .string key, .string val] 25)).alloc (.cells #[.pointer none, .int .i64 0] 38) = w1 at *
  refine (number_any (w.heap.size + 1) k [] w1 hnew (by simp)).mono ?_
  rintro e w2 ⟨rfl, hW2, hg2⟩
  have hb2 := hb.grown hg2 (by intro e; injection e; omega)
  have hgg2 := gr_new hg hg2 hB
  obtain ⟨c0, c1, c2⟩ := three hb2
  clear hnew hg hg2 hb hsz
  go_wp2_with fail
  refine (text_any (w.heap.size + 1) key _ w2 hW2 (by simp; omega) (by omega)).mono ?_
  rintro e w3 ⟨rfl, hW3, hg3⟩
  have hb3 := hb2.grown hg3 (by intro e; injection e; omega)
  have hgg3 := gr_new hgg2 hg3 hB
  clear c0 c1 c2
  obtain ⟨c0, c1, c2⟩ := three hb3
  clear hW2 hg3 hb2 hgg2
  by_cases h1 : k = 1
  · subst h1
    go_wp2_with fail
    refine (text_any (w.heap.size + 1) val _ w3 hW3 (by simp; omega) (by omega)).mono ?_
    rintro e w4 ⟨rfl, hW4, hg4⟩
    have hgg4 := gr_new hgg3 hg4 hB
    rw [HO.out] at hW4
    have hlen : (Pk.recd 1 key.data.toList val.data.toList).length ≤ 1099511627776 := by
      rw [← HO.out]; simp only [List.length_append, List.length_nil]; omega
    clear hW3 hg4 hgg3 hb3 c0 c1 c2
    go_wp2_with (go_at_call 16; refine (bytes_any (w.heap.size + 1) _ _ hW4 hlen).mono ?_; rintro e w5 ⟨rfl, hb5⟩)
    go_ret
    exact ⟨rfl, (gr_to_below hgg4).trans (hb5.mono hgg4.size)⟩
  · rw [HOT.out h1] at hW3
    have hlen : (Pk.recd k key.data.toList val.data.toList).length ≤ 1099511627776 := by
      rw [← HOT.out h1]; simp only [List.length_append, List.length_nil]; omega
    go_wp2_with (go_at_call 16; refine (bytes_any (w.heap.size + 1) _ _ hW3 hlen).mono ?_; rintro e w5 ⟨rfl, hb5⟩)
    go_ret
    exact ⟨rfl, (gr_to_below hgg3).trans (hb5.mono hgg3.size)⟩

theorem cat_len {a b : List UInt8} (ha : a.length ≤ 4194304) (hb : b.length ≤ 4194304) : ¬ 9223372036854775807 < a.length + b.length := by omega

/-- A callee that leaves what was there leaves the struct's three cells. -/
theorem held_up {f : FuncId} {args : Array Value} {w W : World} {v x y z : Value} (h : Calls Try.prog f args W fun e w' => e = .returned v ∧ Below W.heap.size W w')
    (s : W.cell? ⟨w.heap.size, 0, none⟩ = some x ∧ W.cell? ⟨w.heap.size, 1, none⟩ = some y ∧ W.cell? ⟨w.heap.size, 2, none⟩ = some z ∧ w.heap.size < W.heap.size ∧ Below w.heap.size w W) :
    Calls Try.prog f args W fun e w' => e = .returned v ∧ w'.cell? ⟨w.heap.size, 0, none⟩ = some x ∧ w'.cell? ⟨w.heap.size, 1, none⟩ = some y ∧ w'.cell? ⟨w.heap.size, 2, none⟩ = some z ∧ w.heap.size < w'.heap.size ∧ Below w.heap.size w w' := by
  obtain ⟨s0, s1, s2, s3, s4⟩ := s
  refine h.mono ?_
  rintro e w' ⟨rfl, hb⟩
  have := hb.size
  exact ⟨rfl, (hb.cell (p := ⟨w.heap.size, 0, none⟩) s3).trans s0, (hb.cell (p := ⟨w.heap.size, 1, none⟩) s3).trans s1, (hb.cell (p := ⟨w.heap.size, 2, none⟩) s3).trans s2, by omega, s4.trans (hb.mono (by omega))⟩

set_option maxRecDepth 20000 in
set_option maxHeartbeats 400000 in
theorem record_ref (k : Int) (key val : ByteArray) (w : World) (hk : key.size ≤ 1048576) (hv : val.size ≤ 1048576) :
    Calls Try.prog 10 #[.agg #[.int .i64 k, .string key, .string val]] w fun e w' => e = .returned (.string ⟨(Pk.recd k key.data.toList val.data.toList).toArray⟩) ∧ Below w.heap.size w w' := by
  have hb := Blk.new w 25 #[.int .i64 k, .string key, .string val]
  have hg : Below w.heap.size w (w.alloc (.cells #[.int .i64 k, .string key, .string val] 25)) := (Below.refl _ _).alloc (Nat.le_refl _) _
  have hsz : w.heap.size < (w.alloc (.cells #[.int .i64 k, .string key, .string val] 25)).heap.size := by simp
  have H8 := Lib.hid (fun (W : World) (s : W.cell? ⟨w.heap.size, 0, none⟩ = some (.int .i64 k) ∧ W.cell? ⟨w.heap.size, 1, none⟩ = some (.string key) ∧ W.cell? ⟨w.heap.size, 2, none⟩ = some (.string val) ∧ w.heap.size < W.heap.size ∧ Below w.heap.size w W) => held_up (code_ref k W) s)
  have HK := Lib.hid (fun (W : World) (s : W.cell? ⟨w.heap.size, 0, none⟩ = some (.int .i64 k) ∧ W.cell? ⟨w.heap.size, 1, none⟩ = some (.string key) ∧ W.cell? ⟨w.heap.size, 2, none⟩ = some (.string val) ∧ w.heap.size < W.heap.size ∧ Below w.heap.size w W) => held_up (texted_ref key W (by omega)) s)
  have HV := Lib.hid (fun W : World => texted_ref val W (by omega))
  have hcat1 := str_adds (Pk.code (Pk.cl k)) (Pk.texted key.data.toList)
  have hcat2 := str_adds (Pk.code (Pk.cl k) ++ Pk.texted key.data.toList) (Pk.texted val.data.toList)
  have hl1 : (Pk.code (Pk.cl k)).length ≤ 8 := Pk.code_len8 _ (Pk.cl_le k)
  have hl2 := texted_len key hk
  have hl3 := texted_len val hv
  have hadd := recd_add k key.data.toList val.data.toList
  generalize Pk.recd k key.data.toList val.data.toList = R at *
  generalize Pk.code (Pk.cl k) = q0 at *
  generalize Pk.texted key.data.toList = q1 at *
  generalize Pk.texted val.data.toList = q2 at *
  obtain ⟨q01, h01⟩ : ∃ q, q = q0 ++ q1 := ⟨_, rfl⟩
  have hl01 : q01.length ≤ 4194304 := by rw [h01, List.length_append]; omega
  have h1 := cat_len (a := q0) (b := q1) (by omega) (by omega)
  have h2 := cat_len (a := q01) (b := q2) hl01 (by omega)
  rw [← h01] at hcat1 hcat2 hadd
  have HA := Lib.hid hadd; have H01 := Lib.hid h01
  clear hadd h01
  go_enter Try.func10, Try.ntmps10
  go_wp2_with fail
  generalize w.alloc (.cells #[.int .i64 k, .string key, .string val] 25) = w1 at *
  obtain ⟨c0, c1, c2⟩ := three hb
  go_region_held3 (fun W => W.cell? ⟨w.heap.size, 0, none⟩ = some (.int .i64 k) ∧ W.cell? ⟨w.heap.size, 1, none⟩ = some (.string key) ∧ W.cell? ⟨w.heap.size, 2, none⟩ = some (.string val) ∧ w.heap.size < W.heap.size ∧ Below w.heap.size w W) (first | assumption | exact ⟨c0, c1, c2, hsz, hg.drew⟩ | go_keep)
    (first
      | (go_at_call 8; refine (H8.out _ (by assumption)).mono ?_; rintro e w2 ⟨rfl, s2⟩)
      | (go_at_call 14; refine (HK.out _ (by assumption)).mono ?_; rintro e w3 ⟨rfl, s3⟩))
  clear hb hg hsz c0 c1 c2 s2 H8 HK
  obtain ⟨c0, c1, c2, s4, s5⟩ := s3
  by_cases hk1 : k = 1
  · subst hk1
    have hcat3 : (⟨q01.toArray⟩ : ByteArray) ++ (⟨q2.toArray⟩ : ByteArray) = ⟨R.toArray⟩ := by rw [hcat2, HA.out, if_pos rfl]
    clear hcat2
    go_wp2_with (go_at_call 14; refine (HV.out _).mono ?_; rintro e w4 ⟨rfl, hb4⟩)
    go_ret
    exact ⟨rfl, s5.trans (hb4.mono s5.size)⟩
  · obtain rfl : R = q01 := by rw [HA.out, if_neg hk1, List.append_nil]
    go_wp2_with fail
    go_ret
    exact ⟨rfl, s5⟩

end Go.Proofs.Ytgpijnfddjpmmaa
