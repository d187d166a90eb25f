/- Lists of numbers and blocks for layer 9: among, Index, Contains, has, same, heavy. -/
import Derived.Test.YtamadegodenobaaDoorIrTargets
import Derived.Test.YtamadegodenobaaDoorIrBelow
import Derived.Test.YtamadegodenobaaDoorIrAt
import Derived.BigQuiet
import Derived.Maps.AppendAt
namespace Go.Proofs.YtamadegodenobaaDoor
open Go.ChangeShapes Go.WideShapes Go.RowKit Go.Deep

theorem nums_lt {w : World} {v : Value} {l : List Int} (h : Nums w v l) : (l.length : Int) ≤ 9223372036854775807 := by
  obtain ⟨A, cap, -, ⟨h1, h2, -⟩, -⟩ := h
  have h3 : cap ≤ maxLen := h2
  have h4 : maxLen = 9223372036854775807 := rfl
  omega
theorem insl_lt {w : World} {v : Value} {l : List Ir.In} (h : Insl w v l) : (l.length : Int) ≤ 9223372036854775807 := by
  obtain ⟨A, cap, -, ⟨h1, h2, -⟩, -⟩ := h
  have h3 : cap ≤ maxLen := h2
  have h4 : maxLen = 9223372036854775807 := rfl
  omega
theorem blks_lt {w : World} {v : Value} {l : List (List Ir.In)} (h : Blks w v l) : (l.length : Int) ≤ 9223372036854775807 := by
  obtain ⟨A, cap, -, ⟨h1, h2, -⟩, -⟩ := h
  have h3 : cap ≤ maxLen := h2
  have h4 : maxLen = 9223372036854775807 := rfl
  omega
theorem notin_up {l : List Int} {k : Nat} {x n : Int} (hx : l[k]? = some x) (h : n ∉ l.take k) (hr : ¬ x = n) : n ∉ l.take (k + 1) := by
  obtain ⟨h1, rfl⟩ := List.getElem?_eq_some_iff.1 hx
  rw [List.take_succ_eq_append_getElem h1]
  intro hm
  rcases List.mem_append.1 hm with hm | hm
  · exact h hm
  · have h2 : n = l[k] := by simpa using hm
    exact hr h2.symm

/-- A row of numbers stays where something else grew. -/
theorem nums_off {w w' : World} {A : Option Addr} {n cap : Nat} {l : List Int} {row : Option Nat} (h : Nums w (.slice A n cap) l) (hg : w.grownBy w' row) (hr : ∀ a, A = some a → row ≠ some a.block) : Nums w' (.slice A n cap) l := by
  obtain ⟨A', cap', e, h2, h3⟩ := h
  simp at e
  obtain ⟨rfl, rfl, rfl⟩ := e
  refine ⟨_, _, rfl, h2, fun j x hj => ?_⟩
  obtain ⟨b, off, cs, h4, h5, h6, h7, h8⟩ := h3 j x hj
  refine ⟨b, off, cs, h4, Nat.lt_of_lt_of_le h5 hg.size, h6, fun i u hu => ?_, h8⟩
  have hb := hg.block b h5 (fun e => hr _ h4 e.symm)
  have := h7 i u hu
  simp only [World.cell?, hb] at this ⊢
  exact this

set_option maxRecDepth 20000 in
/-- Append onto a row of one's own: it stays in its block, or lies in a new one. -/
theorem run_append_nums2 {w : World} {base : Nat} {v1 v2 : Value} {l m : List Int} (h : RowI w base v1 l) (hm : Nums w v2 m) (hl : l.length + m.length ≤ 1048576) (hb : base ≤ w.heap.size) (ty : TypeId) :
    ∃ v3 w', (Builtin.append_ #[24, 24] ty #[v1, v2]).run Tryd.prog w = .ok v3 w' ∧ RowI w' base v3 (l ++ m) ∧ w.grownBy w' v1.ownBlock ∧ (v3.ownBlock = v1.ownBlock ∨ v3.ownBlock = some w.heap.size) := by
  obtain ⟨i0, hi, hz0, hz1, hz2⟩ := info_parts info_int
  obtain ⟨A, cap, rfl, ⟨hcap, hmx, hnil⟩, hat⟩ := hm
  cases A with
  | none =>
    have hc := hnil rfl
    subst hc
    have hm0 : m = [] := List.eq_nil_of_length_eq_zero (by omega)
    subst hm0
    exact ⟨v1, w, run_append_owned_none w base 24 ty 3 i0 1 Tryd.underlying24 hi v1 l.length _ h, by simpa using h, gr_refl w _, .inl rfl⟩
  | some a =>
    obtain ⟨v3, w', hr, h2, h3, -, h4⟩ := run_append_own_at (P := Tryd.prog) w base 24 ty 3 i0 (.int .i64 0) 1 8 Tryd.underlying24 hi hz0 hz1 hz2 rfl (by decide) v1 l.length _ h a m.length cap (m.map (Value.int .i64)) (by simp) (fun j u hj => by
      rw [List.getElem?_map] at hj
      cases hmj : m[j]? with
      | none => rw [hmj] at hj; simp at hj
      | some s =>
        rw [hmj] at hj
        simp at hj
        obtain ⟨b, off, cs, e, h5, h6, h7, h8⟩ := hat j s hmj
        injection e with e
        subst e
        have := h7 0 (.int .i64 s) (by rw [h8.1]; rfl)
        rw [Nat.mul_one, Nat.add_zero] at this
        rw [Addr.add_lit, this, hj]) (one_ints m) (by unfold maxLen; omega) (by omega) hb
    exact ⟨v3, w', hr, by simpa [RowI] using h2, h3, h4⟩
theorem wpList_append_nums2 {ops : Array Oper} {rest : List Oper} {o : Oper} {a : Act} {w : World} {Q : Exit → Act → World → Prop} (hg : o.guard = none) (s x : Operand)
    (ho : o.op = .call { callee := .builtin .append, args := #[s, x], argTypes := #[24, 24] })
    {base : Nat} {v1 v2 : Value} {l m : List Int} (h : RowI w base v1 l) (hm : Nums w v2 m) (hl : l.length + m.length ≤ 1048576) (hb : base ≤ w.heap.size) (hs : a.eval s = v1) (hx : a.eval x = v2)
    (hK : ∀ v3 w', RowI w' base v3 (l ++ m) → w.grownBy w' v1.ownBlock → (v3.ownBlock = v1.ownBlock ∨ v3.ownBlock = some w.heap.size) → wpList Tryd.prog ops Q rest (a.put o.dst v3) w') : wpList Tryd.prog ops Q (o :: rest) a w := by
  refine wpList_plain hg fun K' hK' => ?_
  obtain ⟨v3, w', hrun, r1, r2, r3⟩ := run_append_nums2 h hm hl hb o.type
  unfold Oper.wp
  simp [execOp, ho, resolve, invoke, builtin, hs, hx, hrun, Result.andThen]
  exact hK' _ _ (hK v3 w' r1 r2 r3)

/-- Whether there is a block i. -/
def amg (n : Nat) (i : Int) : Bool := decide (0 ≤ i ∧ i < (n : Int))

set_option maxRecDepth 20000 in
theorem among_any (v : Value) (bs : List (List Ir.In)) (i : Int) (w : World) (hv : Blks w v bs) :
    Calls Tryd.prog 22 #[v, .int .i64 i] w fun e w' => e = .returned (.bool (amg bs.length i)) ∧ w = w' := by
  obtain ⟨A, cap, rfl⟩ := hv.form
  clear hv
  by_cases h0 : 0 ≤ i
  · have HN := Lib.hid (show decide (i < (bs.length : Int)) = amg bs.length i by simp [amg, h0])
    go_enter Tryd.func22, Tryd.ntmps22
    go_wp2_with fail
    go_ret
    exact ⟨retb HN.out, rfl⟩
  · have HN := Lib.hid (show false = amg bs.length i by simp [amg, h0])
    have h2 : i < 0 := by omega
    clear h0
    go_enter Tryd.func22, Tryd.ntmps22
    go_wp2_with fail
    go_ret
    exact ⟨retb HN.out, rfl⟩

set_option maxRecDepth 20000 in
set_option maxHeartbeats 800000 in
theorem index_any (v : Value) (l : List Int) (n : Int) (w : World) (hv : Nums w v l) :
    Calls Tryd.prog 29 #[v, .int .i64 n] w fun e w' => (∃ r : Int, e = .returned (.int .i64 r) ∧ ((n ∈ l ∧ 0 ≤ r) ∨ (n ∉ l ∧ r = -1))) ∧ w = w' := by
  have hlm := nums_lt hv
  obtain ⟨A, cap, rfl, -⟩ := id hv
  have HV := Lib.hid hv
  have HLM := Lib.hid hlm
  clear hv
  go_enter Tryd.func29, Tryd.ntmps29
  go_wp2_with fail
  go_loop [8] (fun i => ∃ k : Nat, k ≤ l.length ∧ i = .int .i64 (k : Int) ∧ n ∉ l.take k) (fun i => l.length - (intOf i).toNat)
  case atStart => exact ⟨0, Nat.zero_le _, rfl, by simp⟩
  case round =>
    obtain ⟨k, hk, rfl, hall⟩ := hrel
    have HA := Lib.hid hall
    clear hall
    by_cases hlt : k < l.length
    · have hki : (k : Int) < (l.length : Int) := by omega
      obtain ⟨x, hx⟩ : ∃ x, l[k]? = some x := ⟨_, List.getElem?_eq_getElem hlt⟩
      obtain ⟨b1, o1, rfl, l1, c1⟩ := HV.out.at hx
      by_cases hr : x = n
      · have HN := Lib.hid (show n ∈ l by rw [← hr]; exact List.mem_of_getElem? hx)
        subst hr
        have hne : (x == x) = true := by simp
        clear hx
        go_wp2_with fail
        go_ret
        exact ⟨⟨_, rfl, .inl ⟨HN.out, by omega⟩⟩, rfl⟩
      · have HN := Lib.hid (notin_up hx HA.out hr)
        have hne : (n == x) = false := by simpa using fun h : n = x => hr h.symm
        clear hx hr
        go_wp2_with fail
        go_round
        case rel => exact ⟨k + 1, by omega, by go_num, HN.out⟩
        case measure => simp [intOf]; omega
    · have HN := Lib.hid (show n ∉ l by
        have := HA.out
        rw [List.take_of_length_le (by omega)] at this
        exact this)
      obtain rfl : k = l.length := by omega
      clear hk
      go_wp2_with fail
      go_ret
      exact ⟨⟨_, rfl, .inr ⟨HN.out, rfl⟩⟩, rfl⟩

set_option maxRecDepth 20000 in
theorem contains_any (v : Value) (l : List Int) (n : Int) (w : World) (hv : Nums w v l) :
    Calls Tryd.prog 24 #[v, .int .i64 n] w fun e w' => e = .returned (.bool (decide (n ∈ l))) ∧ w = w' := by
  have HI := Lib.hid (index_any v l n w hv)
  clear hv
  go_enter Tryd.func24, Tryd.ntmps24
  go_wp2_with fail
  refine HI.out.mono ?_
  rintro e w2 ⟨⟨r, rfl, ⟨hm, hr⟩ | ⟨hm, rfl⟩⟩, rfl⟩
  · have HN := Lib.hid (show true = decide (n ∈ l) by simp [hm])
    clear hm
    go_wp2_with fail
    go_ret
    exact ⟨retb HN.out, rfl⟩
  · have HN := Lib.hid (show false = decide (n ∈ l) by simp [hm])
    clear hm
    go_wp2_with fail
    go_ret
    exact ⟨retb HN.out, rfl⟩

set_option maxRecDepth 20000 in
set_option maxHeartbeats 800000 in
theorem rhas_any (v : Value) (l : List Int) (n : Int) (w : World) (hv : Nums w v l) :
    Calls Tryd.prog 26 #[v, .int .i64 n] w fun e w' => e = .returned (.bool (decide (n ∈ l))) ∧ w = w' := by
  have hlm := nums_lt hv
  obtain ⟨A, cap, rfl, -⟩ := id hv
  have HV := Lib.hid hv
  have HLM := Lib.hid hlm
  clear hv
  go_enter Tryd.func26, Tryd.ntmps26
  go_wp2_with fail
  go_loop [5] (fun i => ∃ k : Nat, k ≤ l.length ∧ i = .int .i64 (k : Int) ∧ n ∉ l.take k) (fun i => l.length - (intOf i).toNat)
  case atStart => exact ⟨0, Nat.zero_le _, rfl, by simp⟩
  case round =>
    obtain ⟨k, hk, rfl, hall⟩ := hrel
    have HA := Lib.hid hall
    clear hall
    by_cases hlt : k < l.length
    · have hki : (k : Int) < (l.length : Int) := by omega
      obtain ⟨x, hx⟩ : ∃ x, l[k]? = some x := ⟨_, List.getElem?_eq_getElem hlt⟩
      obtain ⟨b1, o1, rfl, l1, c1⟩ := HV.out.at hx
      by_cases hr : x = n
      · have HN := Lib.hid (show true = decide (n ∈ l) by rw [← hr]; simp [List.mem_of_getElem? hx])
        subst hr
        have hne : (x == x) = true := by simp
        clear hx
        go_wp2_with fail
        go_ret
        exact ⟨retb HN.out, rfl⟩
      · have HN := Lib.hid (notin_up hx HA.out hr)
        have hne : (x == n) = false := by simpa using hr
        clear hx hr
        go_wp2_with fail
        go_round
        case rel => exact ⟨k + 1, by omega, by go_num, HN.out⟩
        case measure => simp [intOf]; omega
    · have HN := Lib.hid (show false = decide (n ∈ l) by
        have := HA.out
        rw [List.take_of_length_le (by omega)] at this
        simp [this])
      obtain rfl : k = l.length := by omega
      clear hk
      go_wp2_with fail
      go_ret
      exact ⟨retb HN.out, rfl⟩
end Go.Proofs.YtamadegodenobaaDoor
