/- The walks of FlowNext and FlowTurned: true of any blocks. -/
import Derived.Test.YtamadegodenobaaDoorFlowRef
import Derived.Test.YtamadegodenobaaDoorFlowLaw
namespace Go.Proofs.YtamadegodenobaaDoor
open Go.ChangeShapes Go.WideShapes Go.RowKit Go.Deep

theorem predsTo_in64 {bs : List (List Ir.In)} {w : World} {v : Value} (hv : Blks w v bs) (i : Int) : In64 (Fl.preds bs i) := fun n hn => by
  have h1 := blks_lt hv
  have h2 := (Fl.mem_preds.1 hn).1
  omega
theorem open_blkss {H : Type} {enc : TypeId × Value → H} {w : World} {v : Value} {d : DataW H} {ps : List MemPlace}
    (h : DataW.Trod enc Tryd.prog w 0 (fun _ => true) true 22 v d ps) (hlt : ∀ y ∈ ps, y.block < w.heap.size) (hv : ∃ A len cap, v = .slice A len cap) : ∃ l : List (List Ir.In), Blks w v l := by
  obtain ⟨fuel, hf⟩ := h
  obtain ⟨A0, len0, cap0, rfl⟩ := hv
  obtain ⟨v1, l, hcs, hb⟩ := open_blks hf hlt
  simp [Value.cells] at hcs
  subst hcs
  exact ⟨l, hb⟩

/-- A list comes back that reads as l. -/
def NumsP (l : List Int) (w : World) (e : Ending) (w' : World) : Prop := ∃ v, e = .returned v ∧ Nums w' v l ∧ Below w.heap.size w w'
theorem ListPost.numsP {l : List Int} {w : World} {e : Ending} {w' : World} (h : ListPost l w e w') (hl : In64 l) : NumsP l w e w' := by
  obtain ⟨v, h1, h2, h3⟩ := h
  exact ⟨v, h1, h2.nums hl, h3⟩
theorem fsame_same (u v : Value) (a : List Int) (w : World) (hu : Nums w u a) (hv : Nums w v a) (hla : a.length ≤ 1048576) :
    Calls Tryd.prog 16 #[u, v] w fun e w' => e = .returned (.bool true) ∧ Below w.heap.size w w' :=
  (fsame_any u v a a w hu hv hla hla).mono fun e w' ⟨h1, h2⟩ => ⟨by rw [h1, beq_self_eq_true], h2.below⟩

set_option maxRecDepth 20000 in
set_option maxHeartbeats 3200000 in
theorem next_walk (bs : List (List Ir.In)) (v : Value) (i : Int) (w : World) (hv : Blks w v bs) (_hi : -9223372036854775808 ≤ i ∧ i ≤ 9223372036854775807) (ht : Tbl w) :
    Calls Tryd.prog 5 #[v, .int .i64 i] w fun e w' => e = .returned (.bool true) ∧ Below w.heap.size w w' := by
  have HH := Lib.hid (fheavy_any v bs w hv)
  have H1 := Lib.hid (fun (W : World) (hb : Below w.heap.size w W) => (succs_any bs v i W (hv.below hb) (ht.below hb)).mono fun e w' h => h.numsP (succs_in64 hv i))
  have H2 := Lib.hid (fun (W : World) (hb : Below w.heap.size w W) => (rsuccs_any bs v i W (hv.below hb)).mono fun e w' h => h.numsP (succs_in64 hv i))
  have H3 := Lib.hid (fun (W : World) (hb : Below w.heap.size w W) (hn : bs.length ≤ 1000000) => (preds_any bs v i W (hv.below hb) (ht.below hb) hn).mono fun e w' h => h.numsP (predsTo_in64 hv i))
  have H4 := Lib.hid (fun (W : World) (hb : Below w.heap.size w W) (hn : bs.length ≤ 1000000) => (rpreds_any bs v i W (hv.below hb) hn).mono fun e w' h => h.numsP (predsTo_in64 hv i))
  have HLS := Lib.hid (succs_two bs i)
  have HLP := Lib.hid (show (Fl.preds bs i).length ≤ bs.length by have h2 := Fl.len_predsTo bs i bs.length; rw [Fl.predsTo_all] at h2; exact h2)
  clear hv ht
  generalize Fl.succs bs i = S at *
  generalize Fl.preds bs i = T at *
  go_enter Tryd.func5, Tryd.ntmps5
  go_wp2_with fail
  refine HH.out.mono ?_
  rintro e w1 ⟨h, rfl, rfl, hl⟩
  cases h with
  | true =>
    go_wp2_with fail
    go_ret
    exact ⟨rfl, Below.refl _ _⟩
  | false =>
    have HN := Lib.hid (show bs.length ≤ 1000000 by have := hl rfl; omega)
    clear hl
    go_wp2_with (first
      | (go_at_call 12; (with_reducible refine (H1.out _ (Below.refl _ _)).mono ?_); rintro e w2 ⟨v2, rfl, hr, hb⟩; have R2 := Lib.hid hr; have B2 := Lib.hid hb; clear hr hb)
      | (go_at_call 14; (with_reducible refine (H2.out _ B2.out).mono ?_); rintro e w3 ⟨v3, rfl, hr, hb⟩; have R3 := Lib.hid hr; have S3 := Lib.hid (R2.out.below hb); have B3 := Lib.hid (B2.out.trans (hb.mono B2.out.size)); clear hr hb)
      | (go_at_call 16; (with_reducible refine (fsame_same v2 v3 S w3 S3.out R3.out (Nat.le_trans HLS.out (by decide))).mono ?_); rintro e w4 ⟨rfl, hb⟩; have B4 := Lib.hid (B3.out.trans (hb.mono B3.out.size)); clear hb)
      | (go_at_call 13; (with_reducible refine (H3.out _ B4.out HN.out).mono ?_); rintro e w5 ⟨v5, rfl, hr, hb⟩; have R5 := Lib.hid hr; have B5 := Lib.hid (B4.out.trans (hb.mono B4.out.size)); clear hr hb)
      | (go_at_call 18; (with_reducible refine (H4.out _ B5.out HN.out).mono ?_); rintro e w6 ⟨v6, rfl, hr, hb⟩; have R6 := Lib.hid hr; have S6 := Lib.hid (R5.out.below hb); have B6 := Lib.hid (B5.out.trans (hb.mono B5.out.size)); clear hr hb)
      | (go_at_call 16; (with_reducible refine (fsame_same v5 v6 T w6 S6.out R6.out (Nat.le_trans HLP.out (Nat.le_trans HN.out (by decide)))).mono ?_); rintro e w7 ⟨rfl, hb⟩; have B7 := Lib.hid (B6.out.trans (hb.mono B6.out.size)); clear hb))
    go_ret
    exact ⟨rfl, B7.out⟩

/-! ### FlowTurned -/
set_option maxRecDepth 20000 in
theorem order_nil (w : World) : Calls Tryd.prog 10 #[.slice none 0 0] w fun e w' => e = .returned (.slice none 0 0) ∧ Below w.heap.size w w' := by
  have hb1 : Below w.heap.size w (w.alloc (.cells #[.slice none 0 0] 22)) := (Below.refl _ _).alloc (Nat.le_refl _) _
  go_enter Tryd.func10, Tryd.ntmps10
  go_wp2_with fail
  go_ret
  exact ⟨rfl, hb1⟩
theorem rest_mod (a : Int) (n : Nat) (ha : 0 ≤ a) (hn : 0 < n) : ∃ k : Nat, k < n ∧ a.tmod (n : Int) = (k : Int) := by
  have h1 : 0 ≤ a.tmod (n : Int) := Int.tmod_nonneg _ ha
  have h2 := Int.tmod_lt_of_pos a (show (0 : Int) < (n : Int) by omega)
  exact ⟨(a.tmod (n : Int)).toNat, by omega, by omega⟩
theorem byte_i64 {a : Int} (h : 0 ≤ a ∧ a ≤ 255) : IntKind.i64.wrap a = a := IntWalk.i64_in _ (by omega)

set_option maxRecDepth 20000 in
set_option maxHeartbeats 3200000 in
theorem turned_walk (bs : List (List Ir.In)) (v : Value) (a b : Int) (w : World) (hv : Blks w v bs) (ha : 0 ≤ a ∧ a ≤ 255) (hb : 0 ≤ b ∧ b ≤ 255) (ht : Tbl w) :
    Calls Tryd.prog 3 #[v, .int .u8 a, .int .u8 b] w fun e w' => e = .returned (.bool true) ∧ Below w.heap.size w w' := by
  obtain ⟨A, cap, rfl⟩ := hv.form
  have HH := Lib.hid (fheavy_any _ bs w hv)
  have H1 := Lib.hid (fun (i : Int) (W : World) (hb : Below w.heap.size w W) => (succs_any bs _ i W (hv.below hb) (ht.below hb)).mono fun e w' h => h.numsP (succs_in64 hv i))
  have H2 := Lib.hid (fun (i : Int) (W : World) (hb : Below w.heap.size w W) => (rsuccs_any bs _ i W (hv.below hb)).mono fun e w' h => h.numsP (succs_in64 hv i))
  have H3 := Lib.hid (fun (i : Int) (W : World) (hb : Below w.heap.size w W) (hn : bs.length ≤ 1000000) => (preds_any bs _ i W (hv.below hb) (ht.below hb) hn).mono fun e w' h => h.numsP (predsTo_in64 hv i))
  have HA := Lib.hid (And.intro ha hb)
  clear hv ht
  go_enter Tryd.func3, Tryd.ntmps3
  go_wp2_with fail
  refine HH.out.mono ?_
  rintro e w1 ⟨h, rfl, rfl, hl⟩
  cases h with
  | true =>
    go_wp2_with (go_at_call 10; refine (order_nil w).mono ?_; rintro e w2 ⟨rfl, hb2⟩; have B2 := Lib.hid hb2; clear hb2)
    go_ret
    exact ⟨rfl, B2.out⟩
  | false =>
    by_cases h0 : bs.length = 0
    · have h0i : (bs.length : Int) = 0 := by omega
      have h0e : ((bs.length : Int) == 0) = true := by simp [h0i]
      clear h0 hl
      go_wp2_with (go_at_call 10; refine (order_nil w).mono ?_; rintro e w2 ⟨rfl, hb2⟩; have B2 := Lib.hid hb2; clear hb2)
      go_ret
      exact ⟨rfl, B2.out⟩
    · have hne : ((bs.length : Int) == 0) = false := by
        rw [beq_eq_false_iff_ne]
        omega
      have hne2 : ¬ (bs.length : Int) = 0 := by omega
      obtain ⟨i, hi, hmi⟩ := rest_mod a bs.length ha.1 (by omega)
      obtain ⟨k, hk, hmk⟩ := rest_mod b bs.length hb.1 (by omega)
      have hcv1 := byte_i64 ha
      have hcv2 := byte_i64 hb
      have HN := Lib.hid (show bs.length ≤ 1000000 by have := hl rfl; omega)
      have hw1 : IntKind.i64.wrap (i : Int) = (i : Int) := IntWalk.i64_in _ (by have := hl rfl; omega)
      have hw2 : IntKind.i64.wrap (k : Int) = (k : Int) := IntWalk.i64_in _ (by have := hl rfl; omega)
      have HS1 := Lib.hid (H1.out (i : Int))
      have HS2 := Lib.hid (H2.out (i : Int))
      have HS3 := Lib.hid (fun W hb => H3.out (k : Int) W hb HN.out)
      have hc : decide ((k : Int) ∈ Fl.succs bs i) = decide ((i : Int) ∈ Fl.preds bs k) := decide_eq_decide.2 (Fl.turned ⟨by omega, by omega⟩)
      generalize Fl.succs bs (i : Int) = S at *
      generalize Fl.preds bs (k : Int) = T at *
      have HC1 := Lib.hid (fun u W (h : Nums W u S) => lhas_any u S k W h)
      have HC2 := Lib.hid (fun u W (h : Nums W u T) => lhas_any u T i W h)
      rw [hc] at HC1
      generalize decide ((i : Int) ∈ T) = c at *
      have hcc : (c == c) = true := by simp
      clear hl h0 ha hb hi hk hc H1 H2 H3
      go_wp2_with (first
        | (go_at_call 12; (with_reducible refine (HS1.out w (Below.refl _ _)).mono ?_); rintro e w2 ⟨v2, rfl, hr, hb⟩; have R2 := Lib.hid hr; have B2 := Lib.hid hb; clear hr hb)
        | (go_at_call 11; (with_reducible refine (HC1.out v2 w2 R2.out).mono ?_); rintro e w3 ⟨rfl, rfl⟩)
        | (go_at_call 13; (with_reducible refine (HS3.out w2 B2.out).mono ?_); rintro e w4 ⟨v4, rfl, hr, hb⟩; have R4 := Lib.hid hr; have B4 := Lib.hid (B2.out.trans (hb.mono B2.out.size)); clear hr hb)
        | (go_at_call 11; (with_reducible refine (HC2.out v4 w4 R4.out).mono ?_); rintro e w5 ⟨rfl, rfl⟩)
        | (go_at_call 12; (with_reducible refine (HS1.out w4 B4.out).mono ?_); rintro e w6 ⟨v6, rfl, hr, hb⟩; have R6 := Lib.hid hr; have B6 := Lib.hid (B4.out.trans (hb.mono B4.out.size)); clear hr hb)
        | (go_at_call 11; (with_reducible refine (HC1.out v6 w6 R6.out).mono ?_); rintro e w7 ⟨rfl, rfl⟩)
        | (go_at_call 14; (with_reducible refine (HS2.out w6 B6.out).mono ?_); rintro e w8 ⟨v8, rfl, hr, hb⟩; have R8 := Lib.hid hr; have B8 := Lib.hid (B6.out.trans (hb.mono B6.out.size)); clear hr hb)
        | (go_at_call 11; (with_reducible refine (HC1.out v8 w8 R8.out).mono ?_); rintro e w9 ⟨rfl, rfl⟩))
      go_ret
      exact ⟨rfl, B8.out⟩
end Go.Proofs.YtamadegodenobaaDoor
