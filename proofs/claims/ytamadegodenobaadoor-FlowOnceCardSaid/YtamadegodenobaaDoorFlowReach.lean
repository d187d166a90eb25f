/- Reach of the program. -/
import Derived.Test.YtamadegodenobaaDoorFlowOrder
import Derived.Test.YtamadegodenobaaDoorFlowMet
namespace Go.Proofs.YtamadegodenobaaDoor
open Go.ChangeShapes Go.WideShapes Go.RowKit Go.Deep

/-- The block g tells of each k below n whether it is of l. -/
def Bl (W : World) (g n : Nat) (l : List Int) : Prop := ∃ cs : Array Value, Blk W g 4 cs ∧ ∀ k : Nat, k < n → cs[k]? = some (.bool (decide ((k : Int) ∈ l)))
section
variable {W W' : World} {g n : Nat} {l : List Int}
theorem Bl.older (h : Bl W g n l) (hb : Below W.heap.size W W') : Bl W' g n l := by
  obtain ⟨cs, h1, h2⟩ := h
  exact ⟨cs, h1.older hb h1.lt, h2⟩
theorem Bl.lt (h : Bl W g n l) : g < W.heap.size := by
  obtain ⟨cs, h1, -⟩ := h
  exact h1.lt
theorem Bl.cell (h : Bl W g n l) (k : Nat) (hk : k < n) : W.cell? ⟨g, k, none⟩ = some (.bool (decide ((k : Int) ∈ l))) := by
  obtain ⟨cs, h1, h2⟩ := h
  exact (h1.cell k).trans (h2 k hk)
theorem Bl.frozen (h : Bl W g n l) (k : Nat) : W.frozen? ⟨g, k, none⟩ = false := by
  obtain ⟨cs, h1, -⟩ := h
  exact h1.frozen k
theorem Bl.set (h : Bl W g n l) (k : Nat) {m : List Int} (hm : ∀ j : Nat, j < n → ((j : Int) ∈ m ↔ (j : Int) ∈ l ∨ j = k)) : Bl (W.setCell ⟨g, k, none⟩ (.bool true)) g n m := by
  obtain ⟨cs, h1, h2⟩ := h
  refine ⟨_, h1.set k _, fun j hj => ?_⟩
  have h3 := h2 j hj
  by_cases hjk : j = k
  · subst hjk
    have h4 := (Array.getElem?_eq_some_iff.1 h3).1
    rw [Array.getElem?_setIfInBounds_self_of_lt h4]
    have : (j : Int) ∈ m := (hm j hj).2 (.inr rfl)
    simp [this]
  · rw [Array.getElem?_setIfInBounds_ne (fun e => hjk e.symm), h3]
    have : (j : Int) ∈ m ↔ (j : Int) ∈ l := by rw [hm j hj]; simp [hjk]
    simp only [this]
end

/-- What Reach comes to. -/
def ReachPost (bs : List (List Ir.In)) (l : List Int) (w : World) (e : Ending) (w' : World) : Prop := ∃ g, e = .returned (.slice (some ⟨g, 0, none⟩) bs.length bs.length) ∧ Bl w' g bs.length l ∧ w.heap.size ≤ g ∧ Below w.heap.size w w'

set_option maxRecDepth 20000 in
set_option maxHeartbeats 3200000 in
theorem reach_any (bs : List (List Ir.In)) (v : Value) (w : World) (hv : Blks w v bs) (ht : Tbl w) (hN : bs.length ≤ 1000000) :
    Calls Tryd.prog 15 #[v] w (ReachPost bs (Fl.ord bs) w) := by
  obtain ⟨A, cap, rfl⟩ := hv.form
  have hmk : ∀ W : World, (Instr.makeSlice 29 (.int .i64 (bs.length : Int)) (.int .i64 (bs.length : Int))).run Tryd.prog W = .ok (.slice (some ⟨W.heap.size, 0, none⟩) bs.length bs.length) (W.alloc (.cells (madeCells #[.bool false] bs.length) 4)) := fun W => run_make_row' 29 4 (.bool false) 1 Tryd.underlying29 info_bool rfl .i64 .i64 bs.length (by omega) (by omega) W
  have hb1 : Below w.heap.size w (w.alloc (.cells (madeCells #[.bool false] bs.length) 4)) := (Below.refl _ _).alloc (Nat.le_refl _) _
  have HO := Lib.hid (show Calls Tryd.prog 10 #[.slice A bs.length cap] (w.alloc (.cells (madeCells #[.bool false] bs.length) 4)) _ from order_any bs (.slice A bs.length cap) (w.alloc (.cells (madeCells #[.bool false] bs.length) 4)) (hv.below hb1) (ht.below hb1) hN)
  have HBL := Lib.hid (show Bl (w.alloc (.cells (madeCells #[.bool false] bs.length) 4)) w.heap.size bs.length [] from ⟨_, Blk.new _ _ _, fun k hk => falses_at _ k hk⟩)
  have HB1 := Lib.hid hb1
  have HRG := Lib.hid (fun x (hx : x ∈ Fl.ord bs) => Fl.ord_rng hx)
  have HLN := Lib.hid (Fl.ord_len (bs := bs))
  have HOD := Lib.hid (show Fl.ord bs = if bs.length = 0 then [] else (Fl.post bs).reverse from rfl)
  rw [← HOD.out] at HO
  generalize Fl.ord bs = L at *
  have hni : (bs.length : Int) ≤ 1000000 := by omega
  clear hb1 hv ht
  go_enter Tryd.func15, Tryd.ntmps15
  go_upto_region 2 with fail
  generalize w.alloc (.cells (madeCells #[.bool false] bs.length) 4) = w1 at *
  go_wp2_with fail
  refine HO.out.mono ?_
  rintro e w2 ⟨u, rfl, hu, hb2, hfr⟩
  obtain ⟨AT, ct, rfl, -⟩ := id hu
  have HU := Lib.hid hu
  have HB2 := Lib.hid (HBL.out.older hb2)
  have HBB := Lib.hid (HB1.out.trans (hb2.mono HB1.out.size))
  have HFR := Lib.hid (show ∀ a, AT = some a → a.block ≠ w.heap.size from fun a e => by
    subst e
    have := hfr a.block rfl
    have h2 := HBL.out.lt
    omega)
  have hli : (L.length : Int) ≤ 1000000 := by have := HLN.out; omega
  clear hu hb2 hfr
  go_wp2_with fail
  go_loopw [12] (fun j wr => ∃ q : Nat, q ≤ L.length ∧ j = .int .i64 (q : Int) ∧ Bl wr w.heap.size bs.length (L.take q) ∧ Nums wr (.slice AT L.length ct) L ∧ Below w.heap.size w wr) (fun j _ => L.length - (intOf j).toNat)
  case atStart => exact ⟨0, Nat.zero_le _, rfl, HB2.out, HU.out, HBB.out⟩
  case round =>
    obtain ⟨q, hq, rfl, hbl, hnu, hbr⟩ := hrel
    have HBL := Lib.hid hbl
    have HNU := Lib.hid hnu
    have HBR := Lib.hid hbr
    clear hbl hnu hbr
    by_cases hlt : q < L.length
    · have hqi : (q : Int) < (L.length : Int) := by omega
      obtain ⟨t, htq⟩ : ∃ t, L[q]? = some t := ⟨_, List.getElem?_eq_getElem hlt⟩
      obtain ⟨b3, o3, rfl, l3, t1⟩ := HNU.out.at htq
      have htr := HRG.out t (List.mem_of_getElem? htq)
      obtain ⟨tk, rfl⟩ : ∃ tk : Nat, t = (tk : Int) := ⟨t.toNat, by omega⟩
      have htk : (tk : Int) < (bs.length : Int) := htr.2
      have c0 := HBL.out.cell tk (by omega)
      have c1 := HBL.out.frozen tk
      have HS := Lib.hid (HBL.out.set tk (m := L.take (q + 1)) (fun j hj => by
        obtain ⟨h1, h2⟩ := List.getElem?_eq_some_iff.1 htq
        rw [List.take_succ_eq_append_getElem h1, h2, List.mem_append, List.mem_singleton]
        exact or_congr Iff.rfl Int.ofNat_inj))
      have HN2 := Lib.hid (nums_move (w' := wr.setCell ⟨w.heap.size, tk, none⟩ (.bool true)) HNU.out (by simp [World.setCell]) (fun a e _ => heap_setCell_other wr ⟨w.heap.size, tk, none⟩ a.block _ (by show a.block ≠ w.heap.size; exact HFR.out a e)))
      have HB9 := Lib.hid (HBR.out.setCell (p := ⟨w.heap.size, tk, none⟩) (by show w.heap.size ≤ w.heap.size; exact Nat.le_refl _) (.bool true))
      clear htq htr
      go_wp2_with fail
      go_roundw
      case rel => exact ⟨q + 1, by omega, by go_num, HS.out, HN2.out, HB9.out⟩
      case measure => simp [intOf]; omega
    · obtain rfl : q = L.length := by omega
      have hall : L.take L.length = L := List.take_of_length_le (Nat.le_refl _)
      rw [hall] at HBL
      clear hq hall
      go_wp2_with fail
      go_ret
      exact ⟨_, rfl, HBL.out, Nat.le_refl _, HBR.out⟩
end Go.Proofs.YtamadegodenobaaDoor
