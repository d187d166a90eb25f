/- What the comparison of two Puts comes to; the library's sort, at this program's functions. -/
import Derived.Test.YtimcepoleboldaaGreatDoorKeepTakes
import Derived.Lib.Bytealg
import Derived.Shelf.SlSortCmp.NoneTotal
import Derived.Sort.OwnSorted
namespace Go.Proofs.YtimcepoleboldaaGreatDoor
open Go.RowKit Go.Deep
open Go.Sort (flatK size_flatK get_flatK HoldsK putRowK grow heap_grow_old grow_grow alloc_eq_grow)

set_option maxHeartbeats 1000000 in
set_option maxRecDepth 100000 in
theorem compare_in (a b : ByteArray) (w : World) :
    Calls Tryz.prog 108 #[.string a, .string b] w fun e w' => e = .returned (.int .i64 (Lib.compareBytes a.data.toList b.data.toList)) ∧ w' = w := by
  go_enter Tryz.func108, Tryz.ntmps108
  go_wp2
  rw [run_callFunc_extern Tryz.func135 (by kernel_rfl) (by kernel_rfl) (by kernel_rfl) (e := Extern.BytealgCompare.compare) (by kernel_rfl), Lib.run_compareString]
  simp only [Result.andThen]
  rw [Oper.upon_value]
  go_wp2
  go_ret
  exact ⟨rfl, rfl⟩
theorem compare_any (a b : ByteArray) (w : World) :
    Calls Tryz.prog 74 #[.string a, .string b] w fun e w' => e = .returned (.int .i64 (Lib.compareBytes a.data.toList b.data.toList)) ∧ w' = w := by
  go_enter Tryz.func74, Tryz.ntmps74
  go_wp2_with fail
  refine (compare_in a b w).mono ?_
  rintro e w2 ⟨rfl, rfl⟩
  go_wp2_with fail
  go_ret
  exact ⟨rfl, rfl⟩

/-! ### The library's sort at this program's functions -/
def sortRen : Shelf.Ren := ⟨fun
    | 6 => 72
    | 15 => 107
    | 14 => 106
    | 28 => 133
    | 29 => 134
    | 20 => 125
    | 21 => 126
    | 22 => 127
    | 23 => 128
    | 24 => 129
    | 25 => 130
    | 26 => 131
    | 27 => 132
    | 46 => 142
    | 47 => 143
    | 48 => 144
    | 49 => 145
    | 50 => 146
    | 57 => 153
    | n => n, fun
    | 22 => 29
    | 24 => 32
    | 25 => 127
    | 3 => 3
    | 39 => 162
    | 0 => 0
    | 53 => 164
    | 55 => 51
    | 4 => 4
    | 46 => 178
    | 45 => 177
    | 50 => 182
    | 5 => 5
    | 9 => 9
    | 66 => 195
    | 70 => 135
    | 76 => 208
    | 77 => 209
    | n => n, fun n => n⟩
set_option maxRecDepth 100000 in
theorem sortLays : SlLaysF0.n6 Tryz.prog sortRen := {
  mixed := by kernel_rfl
  f6 := ⟨Tryz.f72.name, by decide, Tryz.func72⟩
  f14 := ⟨Tryz.f106.name, by decide, Tryz.func106⟩
  f15 := by kernel_rfl
  f20 := ⟨Tryz.f125.name, by decide, Tryz.func125⟩
  f21 := ⟨Tryz.f126.name, by decide, Tryz.func126⟩
  f22 := ⟨Tryz.f127.name, by decide, Tryz.func127⟩
  f23 := ⟨Tryz.f128.name, by decide, Tryz.func128⟩
  f24 := ⟨Tryz.f129.name, by decide, Tryz.func129⟩
  f25 := ⟨Tryz.f130.name, by decide, Tryz.func130⟩
  f26 := ⟨Tryz.f131.name, by decide, Tryz.func131⟩
  f27 := ⟨Tryz.f132.name, by decide, Tryz.func132⟩
  f28 := by kernel_rfl
  f29 := by kernel_rfl
  f46 := ⟨Tryz.f142.name, by decide, Tryz.func142⟩
  f47 := by kernel_rfl
  f48 := by kernel_rfl
  f49 := ⟨Tryz.f145.name, by decide, Tryz.func145⟩
  f50 := ⟨Tryz.f146.name, by decide, Tryz.func146⟩
  f57 := ⟨Tryz.f153.name, by decide, Tryz.func153⟩
  t0 := by kernel_rfl
  a0 := fun _ => by kernel_rfl
  z0 := fun _ => by kernel_rfl
  v0 := fun _ => by kernel_rfl
  t3 := by kernel_rfl
  a3 := fun _ => by kernel_rfl
  z3 := fun _ => by kernel_rfl
  v3 := fun _ => by kernel_rfl
  t4 := by kernel_rfl
  a4 := fun _ => by kernel_rfl
  z4 := fun _ => by kernel_rfl
  v4 := fun _ => by kernel_rfl
  t5 := by kernel_rfl
  a5 := fun _ => by kernel_rfl
  z5 := fun _ => by kernel_rfl
  v5 := fun _ => by kernel_rfl
  t9 := by kernel_rfl
  a9 := fun _ => by kernel_rfl
  z9 := fun _ => by kernel_rfl
  v9 := fun _ => by kernel_rfl
  t22 := by kernel_rfl
  a22 := fun _ => by kernel_rfl
  z22 := fun _ => by kernel_rfl
  v22 := fun _ => by kernel_rfl
  t25 := by kernel_rfl
  a25 := fun _ => by kernel_rfl
  z25 := fun _ => by kernel_rfl
  v25 := fun _ => by kernel_rfl
  t39 := by kernel_rfl
  a39 := fun _ => by kernel_rfl
  z39 := fun _ => by kernel_rfl
  v39 := fun _ => by kernel_rfl
  t45 := by kernel_rfl
  a45 := fun _ => by kernel_rfl
  z45 := fun _ => by kernel_rfl
  v45 := fun _ => by kernel_rfl
  t46 := by kernel_rfl
  a46 := fun _ => by kernel_rfl
  z46 := fun _ => by kernel_rfl
  v46 := fun _ => by kernel_rfl
  t50 := by kernel_rfl
  a50 := fun _ => by kernel_rfl
  z50 := fun _ => by kernel_rfl
  v50 := fun _ => by kernel_rfl
  t53 := by kernel_rfl
  a53 := fun _ => by kernel_rfl
  z53 := fun _ => by kernel_rfl
  v53 := fun _ => by kernel_rfl
  t55 := by kernel_rfl
  a55 := fun _ => by kernel_rfl
  z55 := fun _ => by kernel_rfl
  v55 := fun _ => by kernel_rfl
  t66 := by kernel_rfl
  a66 := fun _ => by kernel_rfl
  z66 := fun _ => by kernel_rfl
  v66 := fun _ => by kernel_rfl
  t70 := by kernel_rfl
  a70 := fun _ => by kernel_rfl
  z70 := fun _ => by kernel_rfl
  v70 := fun _ => by kernel_rfl
  t76 := by kernel_rfl
  a76 := fun _ => by kernel_rfl
  z76 := fun _ => by kernel_rfl
  v76 := fun _ => by kernel_rfl
  t77 := by kernel_rfl
  a77 := fun _ => by kernel_rfl
  z77 := fun _ => by kernel_rfl
  v77 := fun _ => by kernel_rfl
  }

/-! ### A row of Puts, as the sort has it -/
def encP (e : ByteArray × ByteArray) : List Value := [.int .i64 1, .string e.1, .string e.2]

theorem flatP_flatK (l : Kp.Mp) : flatP l = (flatK encP 3 l.toArray).toList := by
  apply List.ext_getElem?
  intro t
  by_cases ht : t < l.length * 3
  · have hs : t < (flatK encP 3 l.toArray).size := by rw [size_flatK]; simpa using ht
    have h1 := get_flatK encP 3 l.toArray t (by simpa using ht)
    have hj : t / 3 < l.length := by omega
    obtain ⟨e0, e1, e2⟩ := flatP_at (m := l) (j := t / 3) (e := l[t / 3]) (List.getElem?_eq_getElem hj)
    rw [Array.getElem?_toList (xs := flatK encP 3 l.toArray), Array.getElem?_eq_getElem hs, ← getElem!_pos (flatK encP 3 l.toArray) t hs, h1]
    have hg : l.toArray[t / 3]! = l[t / 3] := by rw [getElem!_pos _ _ (by simpa using hj)]; simp
    rw [hg]
    have h3 : t % 3 < 3 := Nat.mod_lt _ (by decide)
    have ht3 : t = t / 3 * 3 + t % 3 := by omega
    generalize t / 3 = j at *
    generalize t % 3 = c at *
    subst ht3
    match c, h3 with
    | 0, _ => rw [Nat.add_zero, e0]; rfl
    | 1, _ => rw [e1]; rfl
    | 2, _ => rw [e2]; rfl
  · rw [List.getElem?_eq_none (by rw [flatP_length]; omega), List.getElem?_eq_none (by rw [Array.length_toList, size_flatK]; simp; omega)]

theorem holds_of_row {w : World} {g : Nat} {cur : Array Value} {e : TypeId} {l : Kp.Mp} (hb : w.heap[g]? = some (.cells cur e (0, 0))) (ht : cur.toList.take (l.length * 3) = flatP l) : HoldsK encP 3 w g 0 l.toArray := by
  intro t hts
  have ht3 : t < l.length * 3 := by rw [size_flatK] at hts; simpa using hts
  refine ⟨?_, by simp [World.frozen?, hb]⟩
  have h1 : (cur.toList.take (l.length * 3))[t]? = (flatP l)[t]? := by rw [ht]
  rw [List.getElem?_take_of_lt ht3, flatP_flatK, Array.getElem?_toList, Array.getElem?_toList, Array.getElem?_eq_getElem hts] at h1
  simp only [World.cell?, hb, Nat.zero_add]
  simp only [Option.isSome_none, Bool.false_eq_true, if_false]
  rw [h1, getElem!_pos _ t hts]
  rfl

theorem heap_sortedK {w : World} {g n : Nat} {os : Array Obj} {cur : Array Value} {e : TypeId} {fr : Nat × Nat} (d : Array (ByteArray × ByteArray)) (hb : w.heap[g]? = some (.cells cur e fr)) :
    (sortWorldK encP 3 w g 0 n d os).heap[g]? = some (.cells (Sort.putCells id 0 (flatK encP 3 d) cur) e fr) := by
  have hg : g < w.heap.size := (Array.getElem?_eq_some_iff.1 hb).1
  unfold sortWorldK putRowK
  rw [heap_grow_old _ _ (by simpa using hg)]
  simp [Sort.putRow, Sort.mapBlock, Sort.ahead, Array.getElem?_modify, hb, Sort.onCells]
theorem grownBy_sortedK {w : World} {g n : Nat} {os : Array Obj} (d : Array (ByteArray × ByteArray)) : w.grownBy (sortWorldK encP 3 w g 0 n d os) (some g) := by
  refine ⟨rfl, rfl, rfl, by simp [sortWorldK, putRowK], fun k hk hne => ?_⟩
  unfold sortWorldK putRowK
  rw [heap_grow_old _ _ (by simpa using hk)]
  have : g ≠ k := fun e => hne (by rw [e])
  simp [Sort.putRow, Sort.mapBlock, Sort.ahead, Array.getElem?_modify, this]
theorem take_putCellsK (cur F : Array Value) (h : F.size ≤ cur.size) : (Sort.putCells id 0 F cur).toList.take F.size = F.toList := by
  apply List.ext_getElem?
  intro j
  by_cases hj : j < F.size
  · rw [List.getElem?_take_of_lt hj, Array.getElem?_toList]
    simp [Sort.putCells, hj, show j < cur.size by omega]
  · rw [List.getElem?_take_eq_none (by omega), List.getElem?_eq_none (by simp; omega)]

theorem less_compare : ∀ a b : List UInt8, decide (Lib.compareBytes a b < 0) = Op.bytesLess a b
  | [], [] => rfl
  | [], _ :: _ => rfl
  | _ :: _, [] => rfl
  | a :: x, b :: y => by
    show decide ((if a < b then (-1 : Int) else if b < a then 1 else Lib.compareBytes x y) < 0) = (decide (a < b) || (a == b && Op.bytesLess x y))
    by_cases h1 : a < b
    · simp [h1]
    · by_cases h2 : b < a
      · have h3 : a ≠ b := fun e => by subst e; exact absurd h2 (by exact UInt8.lt_irrefl _)
        simp [h1, h2, h3]
      · have h3 : a = b := by
          have e1 := UInt8.le_iff_toNat_le.mp (UInt8.not_lt.mp h1)
          have e2 := UInt8.le_iff_toNat_le.mp (UInt8.not_lt.mp h2)
          exact UInt8.toNat_inj.mp (by omega)
        rw [if_neg h1, if_neg h2, less_compare x y]
        simp [h3]

def cmpP (a b : ByteArray × ByteArray) : Int := Lib.compareBytes a.1.data.toList b.1.data.toList
theorem lt_cmp (a b : ByteArray × ByteArray) : ltOf cmpP a b = Kp.lt a.1 b.1 := less_compare _ _
theorem swo_cmp : Sort.SWO (ltOf cmpP) where
  irrefl x := by rw [lt_cmp]; exact Kp.lt_irrefl _
  trans x y z h1 h2 := by rw [lt_cmp] at *; exact Kp.lt_trans h1 h2
  ntrans x y z h1 h2 := by
    rw [lt_cmp] at *
    rcases Kp.lt_total x.1 y.1 with h | h | h
    · rw [h] at h1; cases h1
    · rw [h]; exact h2
    · cases h3 : Kp.lt x.1 z.1 with
      | false => rfl
      | true =>
        have := Kp.lt_trans h h3
        rw [this] at h2
        cases h2

theorem closure_any (x y : ByteArray × ByteArray) (W : World) : Calls Tryz.prog 73 #[.agg (encP x).toArray, .agg (encP y).toArray] W fun e w' => e = .returned (.int .i64 (cmpP x y)) ∧ ∃ q os', w' = grow (W.drewN q) os' := by
  have hcon := fun W' => compare_any x.1 y.1 W'
  change Calls Tryz.prog _ #[.agg #[.int .i64 1, .string x.1, .string x.2], .agg #[.int .i64 1, .string y.1, .string y.2]] W _
  unfold cmpP
  generalize Lib.compareBytes x.1.data.toList y.1.data.toList = r at hcon ⊢
  go_enter Tryz.func73, Tryz.ntmps73
  go_wp2_with (go_at_call 74; refine (hcon _).mono ?_; rintro e w' ⟨rfl, rfl⟩)
  go_ret
  exact ⟨rfl, 0, _, by rw [alloc_eq_grow, alloc_eq_grow, grow_grow]; rfl⟩

theorem agg_record (w : World) : (isAgg 32).run Tryz.prog w = .ok true w := by kernel_rfl
theorem size_record (w : World) : (Go.sizeOf 32).run Tryz.prog w = .ok 3 w := by kernel_rfl

def SortPost (v : Value) (base : Nat) (l : Kp.Mp) (w : World) (e : Ending) (w' : World) : Prop :=
  e = .returned (.tuple #[]) ∧ ∃ l', l'.Perm l ∧ (l'.Pairwise fun a b => Kp.lt b.1 a.1 = false) ∧ RowP w' base v l' ∧ w.grownBy w' v.ownBlock

theorem sort_any (v : Value) (base : Nat) (l : Kp.Mp) (w : World) (h : RowP w base v l) (hl : l.length ≤ 1000000) :
    Calls Tryz.prog 72 #[v, .func (.func 73) #[] #[]] w (SortPost v base l w) := by
  have eg : ∀ args w, (callFunc 73 args).run Tryz.prog w = .ok (.enter 73 args) w := enters_of Tryz.func73 (by kernel_rfl) rfl
  rcases h.2 with ⟨rfl, h0⟩ | ⟨g, cap, cur, rfl, hbase, hg, hn, hm, hc, ht⟩
  · have hl0 : l = [] := List.length_eq_zero_iff.mp h0
    subst hl0
    have hcon := AnyF.slices_SortFunc_none sortLays none 0 (.func (.func 73) #[] #[]) w
    change Calls Tryz.prog 72 _ _ _ at hcon
    refine hcon.mono ?_
    rintro e w' ⟨rfl, rfl⟩
    exact ⟨rfl, [], List.Perm.refl _, List.Pairwise.nil, h, gr_refl _ _⟩
  · have hcon := AnyQ.slices_SortFunc sortLays 3 agg_record size_record encP (fun _ => rfl) (fun x v hv => by simp [encP] at hv; rcases hv with rfl | rfl | rfl <;> rfl) cmpP swo_cmp 73 #[] g 0 cap l.toArray w eg
      (fun _ _ _ _ x y => closure_any x y _) (holds_of_row hg ht) (Array.getElem?_eq_some_iff.1 hg).1 (by simp; omega)
    change Calls Tryz.prog 72 _ _ _ at hcon
    rw [List.size_toArray] at hcon
    refine hcon.mono ?_
    rintro e w' ⟨rfl, d', n, os, hp, hs, rfl⟩
    have hsz : d'.size = l.length := by have := hp.1; simpa using this
    have hperm : d'.toList.Perm l := by
      have := hp.2.2
      have e1 : d'.extract 0 l.length = d' := by rw [← hsz]; exact Array.extract_size
      have e2 : l.toArray.extract 0 l.length = l.toArray := by simp
      rw [e1, e2] at this
      simpa using this
    refine ⟨rfl, d'.toList, hperm, ?_, ?_, grownBy_sortedK _⟩
    · rw [List.pairwise_iff_getElem]
      intro i j hi hj hij
      have := hs i j (Nat.zero_le _) hij (by simpa [hsz] using hj)
      rw [lt_cmp] at this
      rw [getElem!_pos _ j (by simpa using hj), getElem!_pos _ i (by simpa using hi)] at this
      simpa using this
    · have hd : d' = d'.toList.toArray := by simp
      refine ⟨by rw [flatP_length], .inr ⟨g, cap, _, by simp [hsz], hbase, heap_sortedK _ hg, by simpa [hsz] using hn, hm, by simp [Sort.putCells, hc], ?_⟩⟩
      rw [flatP_flatK, ← hd]
      have h1 := take_putCellsK cur (flatK encP 3 d') (by rw [size_flatK, hsz, hc]; omega)
      rw [size_flatK] at h1
      simpa using h1
end Go.Proofs.YtimcepoleboldaaGreatDoor
