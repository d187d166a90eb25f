/- Which fields an Op has: the program's table, as start-up lays it, and what fieldsOf comes to. -/
import Derived.Test.YtamadegodenobaaDoorIrRead
import Derived.OpenShut
import Derived.MakeChecks
import Derived.FnData
namespace Go.Proofs.YtamadegodenobaaDoor
open Go.ChangeShapes Go.WideShapes Go.RowKit Go.Deep Go.Joins

/-- The program's table lies in memory as start-up lays it. -/
def Tbl (w : World) : Prop := 0 < w.heap.size ∧ ∀ i : Nat, i < 15 →
  w.cell? ⟨0, i * 4, none⟩ = some (.int .i64 (Ir.fd i)) ∧ w.cell? ⟨0, i * 4 + 1, none⟩ = some (.int .i64 (Ir.fa i)) ∧
  w.cell? ⟨0, i * 4 + 2, none⟩ = some (.int .i64 (Ir.fb i)) ∧ w.cell? ⟨0, i * 4 + 3, none⟩ = some (.bool (Ir.fc i))
theorem Tbl.below {w w' : World} (h : Tbl w) (hb : Below w.heap.size w w') : Tbl w' := by
  have hc : ∀ k, w'.cell? ⟨0, k, none⟩ = w.cell? ⟨0, k, none⟩ := fun k => hb.cell (p := ⟨0, k, none⟩) h.1
  exact ⟨Nat.lt_of_lt_of_le h.1 hb.size, fun i hi => by rw [hc, hc, hc, hc]; exact h.2 i hi⟩

def rowD (op : Int) : DataW Unit := .agg [.lit (.int .i64 (Ir.fd op)), .lit (.int .i64 (Ir.fa op)), .lit (.int .i64 (Ir.fb op)), .lit (.bool (Ir.fc op))]
theorem table_rows : Rows.laid_cubby_ir_table = .agg ((List.range 15).map fun i : Nat => rowD (i : Int)) := by kernel_rfl
theorem gTable : Tryd.prog.globalNamed "cubby/ir.table" = some 0 := by kernel_rfl
theorem tTable : (Tryd.prog.globals[0]?).map (·.type) = some 49 := by kernel_rfl
theorem fields_cells : Tryd.prog.cellsOf 46 = 4 := by kernel_rfl
theorem field_cells : Tryd.prog.cellsOf 44 = 1 := by kernel_rfl
theorem bool_cells : Tryd.prog.cellsOf 4 = 1 := by kernel_rfl
theorem table_cells : Tryd.prog.cellsOf 49 = 60 := by kernel_rfl

set_option maxRecDepth 20000 in
theorem open_fields {w : World} {fuel : Nat} {cs : List Value} {x : DataW Unit × List MemPlace} {op : Int} (h : DataW.trod (fun _ => ()) Tryd.prog w 0 (fun _ => true) false fuel 46 cs = some x) (hx : x.1 = rowD op) :
    cs = [.int .i64 (Ir.fd op), .int .i64 (Ir.fa op), .int .i64 (Ir.fb op), .bool (Ir.fc op)] := by
  obtain ⟨y0, y1, y2, y3, m, rfl, hl, t0, t1, t2, t3⟩ := trod_struct4 Tryd.underlying46 h
  rw [fields_cells] at hl
  match cs, hl with
  | [c0, c1, c2, c3], _ =>
    simp only [field_cells, bool_cells] at t0 t1 t2 t3
    simp at t0 t1 t2 t3
    obtain ⟨a0, e0, f0, _⟩ := DataW.trod_int Tryd.underlying44 t0
    obtain ⟨a1, e1, f1, _⟩ := DataW.trod_int Tryd.underlying44 t1
    obtain ⟨a2, e2, f2, _⟩ := DataW.trod_int Tryd.underlying44 t2
    obtain ⟨a3, e3, f3⟩ := DataW.trod_bool Tryd.underlying4 t3
    rw [f0, f1, f2, f3] at hx
    simp [rowD] at hx
    obtain ⟨h0, h1, h2, h3⟩ := hx
    simp at e0 e1 e2 e3
    rw [e0, e1, e2, e3, h0, h1, h2, h3]

theorem tbl_of_laid {W : World} (h : laidMetH Tryd.prog [("cubby/ir.table", Rows.laid_cubby_ir_table)] W) : Tbl W := by
  rw [MakeChecks.laidMetH_plain _ _ _ (by kernel_rfl)] at h
  obtain ⟨ps, ⟨g, t, cs, fuel, p, q, hg, ht, hvar, hd, _, _⟩, _⟩ := h
  obtain rfl := Option.some.inj (gTable.symm.trans hg)
  obtain rfl := Option.some.inj (tTable.symm.trans ht)
  rw [table_rows] at hd
  obtain ⟨xs, m, _, hx, hl, hn, hel⟩ := DataW.trod_array Tryd.underlying49 hd
  rw [fields_cells] at hel
  rw [table_cells] at hl
  simp only [Prod.mk.injEq, DataW.agg.injEq] at hx
  have key : ∀ i : Nat, i < 15 → (cs.toList.drop (i * 4)).take 4 = [.int .i64 (Ir.fd i), .int .i64 (Ir.fa i), .int .i64 (Ir.fb i), .bool (Ir.fc i)] := by
    intro i hi
    have h1 := hel i hi
    rw [List.getElem?_eq_getElem (by omega)] at h1
    refine open_fields h1 ?_
    have h2 : (xs.map (·.1))[i]? = some (rowD i) := by rw [← hx.1]; simp [hi]
    rw [List.getElem?_map, List.getElem?_eq_getElem (by omega)] at h2
    simpa using h2
  have cell := World.var?_cell hg hvar
  have at' : ∀ i k : Nat, i < 15 → k < 4 → W.cell? ⟨0, i * 4 + k, none⟩ = ([.int .i64 (Ir.fd i), .int .i64 (Ir.fa i), .int .i64 (Ir.fb i), .bool (Ir.fc i)] : List Value)[k]? := by
    intro i k hi hk
    rw [cell, ← key i hi, List.getElem?_take_of_lt hk, List.getElem?_drop, Array.getElem?_toList]
  refine ⟨?_, fun i hi => ⟨at' i 0 hi (by decide), at' i 1 hi (by decide), at' i 2 hi (by decide), at' i 3 hi (by decide)⟩⟩
  have h0 := at' 0 0 (by decide) (by decide)
  exact World.block_lt_of_cell? W ⟨0, 0, none⟩ h0

/-- The fields of an Op, by value. -/
abbrev FlV (op : Int) : Value := .agg #[.int .i64 (Ir.fd op), .int .i64 (Ir.fa op), .int .i64 (Ir.fb op), .bool (Ir.fc op)]
theorem FlV_low {op : Int} (h : op < 1) : FlV op = .agg #[.int .i64 0, .int .i64 0, .int .i64 0, .bool false] := by
  unfold FlV Ir.fd Ir.fa Ir.fb Ir.fc
  rw [if_neg (by omega), if_neg (by omega), if_neg (by omega), if_neg (by omega), if_neg (by omega), if_neg (by omega), if_neg (by omega), decide_eq_false (by omega)]
theorem FlV_high {op : Int} (h : 14 < op) : FlV op = .agg #[.int .i64 0, .int .i64 0, .int .i64 0, .bool false] := by
  unfold FlV Ir.fd Ir.fa Ir.fb Ir.fc
  rw [if_neg (by omega), if_neg (by omega), if_neg (by omega), if_neg (by omega), if_neg (by omega), if_neg (by omega), if_neg (by omega), decide_eq_false (by omega)]

theorem info_fields : (Tryd.prog.info? 46).map (·.size) = some 4 := by kernel_rfl

/-- A result that is what the block holds. -/
theorem result_fields {fn : Func} (h : fn.results = #[.cell 2 46]) (tmps : Array Value) (W : World) (B : Nat) (a b c d : Value)
    (hp : tmps.getD 2 undef = .pointer (some ⟨B, 0, none⟩)) (hb : Blk W B 46 #[a, b, c, d]) :
    (results fn tmps).run Tryd.prog W = .ok (.agg #[a, b, c, d]) W := by
  have hp' : tmps[2]?.getD undef = .pointer (some ⟨B, 0, none⟩) := by simpa using hp
  simp [results, h, hp', asAddr, run_loadVar_row W B 46 46 #[a, b, c, d] (0, 0) _ hb Tryd.underlying46 rfl info_fields]

section
variable {w : World} {g : Nat} {t : TypeId} {a b c d : Value}
theorem Blk.q4 (h : Blk w g t #[a, b, c, d]) (a' b' c' d' : Value) : Blk ((((w.setCell ⟨g, 0, none⟩ a').setCell ⟨g, 1, none⟩ b').setCell ⟨g, 2, none⟩ c').setCell ⟨g, 3, none⟩ d') g t #[a', b', c', d'] := by
  have e0 : Blk (w.setCell ⟨g, 0, none⟩ a') g t #[a', b, c, d] := by simpa [Blk] using heap_setCell_same w g 0 _ t a' h
  have e1 : Blk ((w.setCell ⟨g, 0, none⟩ a').setCell ⟨g, 1, none⟩ b') g t #[a', b', c, d] := by simpa [Blk] using heap_setCell_same _ g 1 _ t b' e0
  have e2 : Blk (((w.setCell ⟨g, 0, none⟩ a').setCell ⟨g, 1, none⟩ b').setCell ⟨g, 2, none⟩ c') g t #[a', b', c', d] := by simpa [Blk] using heap_setCell_same _ g 2 _ t c' e1
  simpa [Blk] using heap_setCell_same _ g 3 _ t d' e2
theorem four_cells (h : Blk w g t #[a, b, c, d]) : (w.cell? ⟨g, 0, none⟩ = some a ∧ w.cell? ⟨g, 1, none⟩ = some b ∧ w.cell? ⟨g, 2, none⟩ = some c ∧ w.cell? ⟨g, 3, none⟩ = some d) ∧
    w.frozen? ⟨g, 0, none⟩ = false ∧ w.frozen? ⟨g, 1, none⟩ = false ∧ w.frozen? ⟨g, 2, none⟩ = false ∧ w.frozen? ⟨g, 3, none⟩ = false :=
  ⟨⟨h.cell 0, h.cell 1, h.cell 2, h.cell 3⟩, h.frozen 0, h.frozen 1, h.frozen 2, h.frozen 3⟩
end
theorem gr_q4 {a b : World} {row : Option Nat} {g : Nat} (h : a.grownBy b row) (hg : a.heap.size ≤ g) (v x y z : Value) : a.grownBy ((((b.setCell ⟨g, 0, none⟩ v).setCell ⟨g, 1, none⟩ x).setCell ⟨g, 2, none⟩ y).setCell ⟨g, 3, none⟩ z) row :=
  gr_set_new (gr_set_new (gr_set_new (gr_set_new h hg 0 v) hg 1 x) hg 2 y) hg 3 z

set_option maxRecDepth 20000 in
set_option maxHeartbeats 800000 in
theorem fields_any (op : Int) (w : World) (ht : Tbl w) (hop : -9223372036854775808 ≤ op ∧ op ≤ 9223372036854775807) :
    Calls Tryd.prog 28 #[.int .i64 op] w fun e w' => e = .returned (FlV op) ∧ Below w.heap.size w w' := by
  obtain ⟨lo, hi⟩ := hop
  have hB := Blk.new w 46 #[.int .i64 0, .int .i64 0, .int .i64 0, .bool false]
  obtain ⟨-, f0, f1, f2, f3⟩ := four_cells hB
  have hlt := ht.1
  clear hB
  by_cases h1 : op < 1
  · have HF := Lib.hid (FlV_low h1)
    rw [HF.out]
    go_enter Tryd.func28, Tryd.ntmps28
    go_wp2_with fail
    exact bodyPost_ret (result_fields rfl _ _ _ _ _ _ _ rfl (Blk.new _ _ _)) rfl ⟨rfl, (Below.refl _ _).alloc (Nat.le_refl _) _⟩
  · by_cases h2 : 14 < op
    · have HF := Lib.hid (FlV_high h2)
      rw [HF.out]
      go_enter Tryd.func28, Tryd.ntmps28
      go_wp2_with fail
      exact bodyPost_ret (result_fields rfl _ _ _ _ _ _ _ rfl (Blk.new _ _ _)) rfl ⟨rfl, (Below.refl _ _).alloc (Nat.le_refl _) _⟩
    · obtain ⟨k, hk⟩ : ∃ k : Nat, op = (k : Int) := ⟨op.toNat, by omega⟩
      subst hk
      obtain ⟨t0, t1, t2, t3⟩ := ht.2 k (by omega)
      go_enter Tryd.func28, Tryd.ntmps28
      go_wp2_with fail
      exact bodyPost_ret (result_fields rfl _ _ _ _ _ _ _ rfl (Blk.new _ _ _)) rfl ⟨rfl, (Below.refl _ _).alloc (Nat.le_refl _) _⟩
end Go.Proofs.YtamadegodenobaaDoor
