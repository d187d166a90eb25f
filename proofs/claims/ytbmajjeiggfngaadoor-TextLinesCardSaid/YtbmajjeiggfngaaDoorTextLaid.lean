/- What the listed variables read as gives the walks their tables. -/
import Derived.Test.YtbmajjeiggfngaaDoorTextPrint
import Derived.Lib.LaidTab
import Derived.MakeChecks
import Derived.Test.YtbmajjeiggfngaaDoorIrRead
namespace Go.Proofs.YtbmajjeiggfngaaDoor
open Go.ChangeShapes Go.WideShapes Go.RowKit Go.Deep Go.Joins

theorem laid_mem {P : Program} {w : World} : ∀ {laid : List (String × DataW Unit)} {ps : List MemPlace}, DataW.LaidVars P w laid ps → ∀ n d, (n, d) ∈ laid →
    ∃ g t cs fuel p, P.globalNamed n = some g ∧ (P.globals[g]?).map (·.type) = some t ∧ w.var? P n = some cs ∧ DataW.trod (fun _ => ()) P w 0 (fun _ => true) false fuel t cs.toList = some (d, p)
  | [], _, _, n, d, hm => by cases hm
  | (n0, d0) :: r, ps, h, n, d, hm => by
    obtain ⟨g, t, cs, fuel, p, q, hg, ht, hv, hd, hr, _⟩ := h
    rcases List.mem_cons.1 hm with e | hm
    · injection e with e1 e2
      subst e1 e2
      exact ⟨g, t, cs, fuel, p, hg, ht, hv, hd⟩
    · exact laid_mem hr n d hm

theorem var_heap {P : Program} {w : World} {n : String} {cs : Array Value} {g : Nat} (hg : P.globalNamed n = some g) (hv : w.var? P n = some cs) : ∃ t fr, w.heap[g]? = some (.cells cs t fr) := by
  unfold World.var? at hv
  rw [hg] at hv
  simp only [Option.bind_some] at hv
  split at hv
  · rename_i cs' t fr h
    injection hv with hv
    subst hv
    exact ⟨t, fr, h⟩
  · cases hv
theorem heap_lt {w : World} {g : Nat} {o : Obj} (h : w.heap[g]? = some o) : g < w.heap.size := (Array.getElem?_eq_some_iff.1 h).1

theorem tPow : (Tryd.prog.globals[2]?).map (·.type) = some 138 := by kernel_rfl
theorem pow_datum : Rows.laid_internal_strconv_uint64pow10 = (Lib.tabData .u64 Lib.pow10Tab : DataW Unit) := by kernel_rfl
theorem cells_u64 : Tryd.prog.cellsOf 125 = 1 := by kernel_rfl
theorem cells_pow : Tryd.prog.cellsOf 138 = 20 := by kernel_rfl

theorem gRows : Tryd.prog.globalNamed "cubby/text.rows" = some 0 := by kernel_rfl
theorem tRows : (Tryd.prog.globals[0]?).map (·.type) = some 114 := by kernel_rfl
theorem rows_cells : Tryd.prog.cellsOf 114 = 85 := by kernel_rfl
theorem kind_cells : Tryd.prog.cellsOf 48 = 1 := by kernel_rfl
theorem bool_cells8 : Tryd.prog.cellsOf 4 = 1 := by kernel_rfl

def rowDt (r : Rw) : DataW Unit := .agg [.lit (.int .i64 r.op), .lit (.string r.w), .lit (.string r.f), .lit (.bool r.a), .lit (.int .i64 r.o)]
theorem rows_datum : Rows.laid_cubby_text_rows = .agg (rowL.map rowDt) := by kernel_rfl

theorem trod_struct5 {H : Type} {enc : TypeId × Value → H} {w : World} {P : Program} {base : Nat} {spare : Nat → Bool} {held : Bool} {t : TypeId} {f0 f1 f2 f3 f4 : Field} {fuel : Nat} {cs : List Value} {x : DataW H × List MemPlace} (ht : P.underlying t = some (.struct #[f0, f1, f2, f3, f4])) (h : DataW.trod enc P w base spare held fuel t cs = some x) :
    ∃ y0 y1 y2 y3 y4 n, x = (.agg [y0.1, y1.1, y2.1, y3.1, y4.1], y0.2 ++ (y1.2 ++ (y2.2 ++ (y3.2 ++ y4.2)))) ∧ cs.length = P.cellsOf t ∧ DataW.trod enc P w base spare held n f0.type ((cs.drop f0.offset).take (P.cellsOf f0.type)) = some y0 ∧
      DataW.trod enc P w base spare held n f1.type ((cs.drop f1.offset).take (P.cellsOf f1.type)) = some y1 ∧ DataW.trod enc P w base spare held n f2.type ((cs.drop f2.offset).take (P.cellsOf f2.type)) = some y2 ∧
      DataW.trod enc P w base spare held n f3.type ((cs.drop f3.offset).take (P.cellsOf f3.type)) = some y3 ∧ DataW.trod enc P w base spare held n f4.type ((cs.drop f4.offset).take (P.cellsOf f4.type)) = some y4 := by
  obtain ⟨xs, n, _, rfl, hl, hlen, hf⟩ := DataW.trod_struct ht h
  match xs, hlen with
  | [y0, y1, y2, y3, y4], _ => exact ⟨y0, y1, y2, y3, y4, n, by simp, hl, by simpa using hf 0 f0 rfl, by simpa using hf 1 f1 rfl, by simpa using hf 2 f2 rfl, by simpa using hf 3 f3 rfl, by simpa using hf 4 f4 rfl⟩

set_option maxRecDepth 20000 in
theorem open_row {w : World} {fuel : Nat} {cs : List Value} {x : DataW Unit × List MemPlace} {r : Rw} (h : DataW.trod (fun _ => ()) Tryd.prog w 0 (fun _ => true) false fuel 100 cs = some x) (hx : x.1 = rowDt r) : cs = r.arr.toList := by
  obtain ⟨y0, y1, y2, y3, y4, m, rfl, hl, t0, t1, t2, t3, t4⟩ := trod_struct5 Tryd.underlying100 h
  rw [row_cells] at hl
  match cs, hl with
  | [c0, c1, c2, c3, c4], _ =>
    simp only [int_cells, string_cells, bool_cells8, kind_cells] at t0 t1 t2 t3 t4
    simp at t0 t1 t2 t3 t4
    obtain ⟨a0, e0, f0, _⟩ := DataW.trod_int Tryd.underlying3 t0
    obtain ⟨a1, e1, f1, _⟩ := DataW.trod_string Tryd.underlying9 t1
    obtain ⟨a2, e2, f2, _⟩ := DataW.trod_string Tryd.underlying9 t2
    obtain ⟨a3, e3, f3⟩ := DataW.trod_bool Tryd.underlying4 t3
    obtain ⟨a4, e4, f4, _⟩ := DataW.trod_int Tryd.underlying48 t4
    rw [f0, f1, f2, f3, f4] at hx
    simp [rowDt] at hx
    obtain ⟨h0, h1, h2, h3, h4⟩ := hx
    simp at e0 e1 e2 e3 e4
    rw [e0, e1, e2, e3, e4, h0, h3, h4]
    have k1 : a1 = ⟨r.w.toArray⟩ := by rw [← Tx.mkB_list a1, ← h1]; simp [Tx.mkB]
    have k2 : a2 = ⟨r.f.toArray⟩ := by rw [← Tx.mkB_list a2, ← h2]; simp [Tx.mkB]
    rw [k1, k2]

theorem rws_of {W : World} {fuel : Nat} {cs : Array Value} {p : List MemPlace} (hv : W.var? Tryd.prog "cubby/text.rows" = some cs) (hd : DataW.trod (fun _ => ()) Tryd.prog W 0 (fun _ => true) false fuel 114 cs.toList = some (Rows.laid_cubby_text_rows, p)) : Rws W := by
  rw [rows_datum] at hd
  obtain ⟨xs, m, _, hx, hl, hn, hel⟩ := DataW.trod_array Tryd.underlying114 hd
  rw [row_cells] at hel
  rw [rows_cells] at hl
  simp only [Prod.mk.injEq, DataW.agg.injEq] at hx
  have key : ∀ i : Nat, i < 17 → ∀ r, rowL[i]? = some r → (cs.toList.drop (i * 5)).take 5 = r.arr.toList := by
    intro i hi r hr
    have h1 := hel i hi
    rw [List.getElem?_eq_getElem (by omega)] at h1
    refine open_row h1 ?_
    have h2 : (xs.map (·.1))[i]? = some (rowDt r) := by rw [← hx.1, List.getElem?_map, hr]; rfl
    rw [List.getElem?_map, List.getElem?_eq_getElem (by omega)] at h2
    simpa using h2
  have hc : cs = rowC := by
    apply Array.ext_getElem?
    intro j
    by_cases hj : j < 85
    · obtain ⟨i, k, hi, hk, rfl⟩ : ∃ i k, i < 17 ∧ k < 5 ∧ j = i * 5 + k := ⟨j / 5, j % 5, by omega, by omega, by omega⟩
      obtain ⟨r, hr⟩ := row_lt hi
      have h1 := congrArg (·[k]?) (key i hi r hr)
      simp only [List.getElem?_take_of_lt hk, List.getElem?_drop, Array.getElem?_toList] at h1
      rw [h1]
      rcases cases17 hi with rfl | rfl | rfl | rfl | rfl | rfl | rfl | rfl | rfl | rfl | rfl | rfl | rfl | rfl | rfl | rfl | rfl <;>
        (injection hr with hr; subst hr; rcases (by omega : k = 0 ∨ k = 1 ∨ k = 2 ∨ k = 3 ∨ k = 4) with rfl | rfl | rfl | rfl | rfl <;> rfl)
    · rw [Array.getElem?_eq_none (by simp at hl; omega), Array.getElem?_eq_none (by show rowC.size ≤ j; have : rowC.size = 85 := rfl; omega)]
  subst hc
  exact var_heap gRows hv

theorem prworld_of_laid {W : World} {laid : List (String × DataW Unit)} (hp : (laid.all fun x => x.2.handleName?.isNone) = true) (h : laidMetH Tryd.prog laid W)
    (m1 : ("internal/strconv.uint64pow10", Rows.laid_internal_strconv_uint64pow10) ∈ laid) (m2 : ("cubby/text.rows", Rows.laid_cubby_text_rows) ∈ laid) : PrWorld W := by
  rw [MakeChecks.laidMetH_plain _ _ _ hp] at h
  obtain ⟨ps, hl, _⟩ := h
  obtain ⟨g1, t1, cs1, fuel1, p1, hg1, ht1, hv1, hd1⟩ := laid_mem hl _ _ m1
  obtain ⟨g2, t2, cs2, fuel2, p2, hg2, ht2, hv2, hd2⟩ := laid_mem hl _ _ m2
  obtain rfl := Option.some.inj (gPow.symm.trans hg1)
  obtain rfl := Option.some.inj (tPow.symm.trans ht1)
  obtain rfl := Option.some.inj (gRows.symm.trans hg2)
  obtain rfl := Option.some.inj (tRows.symm.trans ht2)
  rw [pow_datum] at hd1
  have e1 := Lib.cells_of_tab Tryd.underlying138 Tryd.underlying125 cells_u64 cells_pow hd1
  obtain ⟨_, _, k1⟩ := var_heap gPow hv1
  obtain ⟨_, _, k2⟩ := var_heap gRows hv2
  refine ⟨?_, rws_of hv2 hd2, heap_lt k1, heap_lt k2⟩
  unfold Pow Lib.TabIs
  rw [hv1, ← e1]
end Go.Proofs.YtbmajjeiggfngaaDoor
