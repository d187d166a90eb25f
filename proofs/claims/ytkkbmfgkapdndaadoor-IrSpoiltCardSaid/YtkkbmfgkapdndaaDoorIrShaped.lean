/- shaped, Shape. -/
import Derived.Test.YtkkbmfgkapdndaaDoorIrShape
import Derived.Test.YtkkbmfgkapdndaaDoorIrBelow
import Derived.Deep.Cut
namespace Go.Proofs.YtkkbmfgkapdndaaDoor
open Go.ChangeShapes Go.WideShapes Go.RowKit Go.Deep

theorem shape_range {p r : Int} {bs : List (List Ir.In)} (h : ¬ (0 ≤ p ∧ p ≤ 4 ∧ p ≤ r ∧ r ≤ 64 ∧ 1 ≤ bs.length ∧ bs.length ≤ 32)) : Ir.shape p r bs = false := by unfold Ir.shape; rw [decide_eq_false h]; rfl
theorem shape_empty {p r : Int} {bs : List (List Ir.In)} {b : List Ir.In} {k : Nat} (h : bs[k]? = some b) (h0 : b.length = 0) : Ir.shape p r bs = false := by
  unfold Ir.shape
  have : (bs.all fun b => decide (1 ≤ b.length)) = false := by
    rw [List.all_eq_false]
    exact ⟨b, List.mem_of_getElem? h, by simp [h0]⟩
  rw [this, Bool.and_false]
  rfl
theorem shape_end {p r : Int} {bs : List (List Ir.In)} (h : 0 ≤ p ∧ p ≤ 4 ∧ p ≤ r ∧ r ≤ 64 ∧ 1 ≤ bs.length ∧ bs.length ≤ 32) (hall : ∀ (j : Nat) (b : List Ir.In), bs[j]? = some b → 1 ≤ b.length) : Ir.shape p r bs = decide (Ir.count bs ≤ 200) := by
  unfold Ir.shape
  have : (bs.all fun b => decide (1 ≤ b.length)) = true := by
    rw [List.all_eq_true]
    intro b hb
    obtain ⟨j, hj, rfl⟩ := List.mem_iff_getElem.1 hb
    exact decide_eq_true (hall j _ (List.getElem?_eq_getElem hj))
  rw [decide_eq_true h, this]
  rfl
theorem shape_many {p r : Int} {bs : List (List Ir.In)} (h : 200 < Ir.count bs) : Ir.shape p r bs = false := by
  unfold Ir.shape
  rw [decide_eq_false (p := Ir.count bs ≤ 200) (by omega), Bool.and_false]
theorem count_ge {bs : List (List Ir.In)} {k : Nat} {b : List Ir.In} (h : bs[k]? = some b) : b.length ≤ Ir.count bs := by
  have h1 := Ir.count_up h
  have h2 := Ir.count_take bs (k + 1)
  omega

/-- What stands wrong with the numbers of a shape. -/
theorem shape_ways (p r : Int) (n : Nat) : (0 ≤ p ∧ p ≤ 4 ∧ p ≤ r ∧ r ≤ 64 ∧ 1 ≤ n ∧ n ≤ 32) ∨ (¬ (0 ≤ p ∧ p ≤ 4 ∧ p ≤ r ∧ r ≤ 64 ∧ 1 ≤ n ∧ n ≤ 32) ∧
    ((p < 0) ∨ (0 ≤ p ∧ 4 < p) ∨ (0 ≤ p ∧ p ≤ 4 ∧ r < p) ∨ (0 ≤ p ∧ p ≤ 4 ∧ p ≤ r ∧ 64 < r) ∨ (0 ≤ p ∧ p ≤ 4 ∧ p ≤ r ∧ r ≤ 64 ∧ (n : Int) < 1) ∨ (0 ≤ p ∧ p ≤ 4 ∧ p ≤ r ∧ r ≤ 64 ∧ 1 ≤ (n : Int) ∧ 32 < (n : Int)))) := by omega

/-- A function's box: its cells, and what its blocks read as. -/
structure BoxF (w0 : World) (bf : Nat) (f : Ir.Fu) (A : Option Addr) (cap : Nat) (w : World) : Prop where
  fn : Blk w bf 24 #[.string f.name, .int .i64 f.params, .int .i64 f.regs, .slice A f.blocks.length cap]
  blks : Blks w (.slice A f.blocks.length cap) f.blocks
  below : Below w0.heap.size w0 w
theorem BoxF.to {w0 w w' : World} {bf : Nat} {f : Ir.Fu} {A : Option Addr} {cap : Nat} (h : BoxF w0 bf f A cap w) (hb : Below w.heap.size w w') : BoxF w0 bf f A cap w' :=
  ⟨h.fn.older hb h.fn.lt, h.blks.below hb, h.below.trans (hb.mono h.below.size)⟩
theorem BoxF.cells {w0 w : World} {bf : Nat} {f : Ir.Fu} {A : Option Addr} {cap : Nat} (h : BoxF w0 bf f A cap w) :
    w.cell? ⟨bf, 0, none⟩ = some (.string f.name) ∧ w.cell? ⟨bf, 1, none⟩ = some (.int .i64 f.params) ∧ w.cell? ⟨bf, 2, none⟩ = some (.int .i64 f.regs) ∧ w.cell? ⟨bf, 3, none⟩ = some (.slice A f.blocks.length cap) :=
  ⟨h.fn.cell 0, h.fn.cell 1, h.fn.cell 2, h.fn.cell 3⟩
theorem BoxF.new {w : World} {f : Ir.Fu} {A : Option Addr} {cap : Nat} (h : Blks w (.slice A f.blocks.length cap) f.blocks) :
    BoxF w w.heap.size f A cap (w.alloc (.cells #[.string f.name, .int .i64 f.params, .int .i64 f.regs, .slice A f.blocks.length cap] 24)) := by
  have hb : Below w.heap.size w (w.alloc (.cells #[.string f.name, .int .i64 f.params, .int .i64 f.regs, .slice A f.blocks.length cap] 24)) := (Below.refl _ _).alloc (Nat.le_refl _) _
  exact ⟨Blk.new _ _ _, h.below hb, hb⟩

set_option maxRecDepth 20000 in
set_option maxHeartbeats 1600000 in
theorem shaped_any (f : Ir.Fu) (A : Option Addr) (cap : Nat) (w : World) (hv : Blks w (.slice A f.blocks.length cap) f.blocks) (hL : Light f.blocks) :
    Calls Tryd.prog 22 #[FuV f (.slice A f.blocks.length cap)] w fun e w' => e = .returned (.bool (Ir.shape f.params f.regs f.blocks)) ∧ Below w.heap.size w w' := by
  have hB := BoxF.new hv
  obtain ⟨c0, c1, c2, c3⟩ := hB.cells
  have HB := Lib.hid hB
  have HC := Lib.hid hL.count
  have hb1 : (f.blocks.length : Int) ≤ 100 := by have := hL.blocks; omega
  clear hB hL hv
  have hw := shape_ways f.params f.regs f.blocks.length
  go_enter Tryd.func22, Tryd.ntmps22
  go_upto_region 1 with fail
  generalize w.alloc (.cells #[.string f.name, .int .i64 f.params, .int .i64 f.regs, .slice A f.blocks.length cap] 24) = w1 at *
  rcases hw with hok | ⟨hno, hcase⟩
  · have HOK := Lib.hid hok
    obtain ⟨z1, z2, z3, z4, z5, z6⟩ := hok
    have z5' : (1 : Int) ≤ (f.blocks.length : Int) := by omega
    have z6' : (f.blocks.length : Int) ≤ 32 := by omega
    clear z5 z6
    go_wp2_with fail
    go_loop [3, 39] (fun n i => ∃ k : Nat, k ≤ f.blocks.length ∧ i = .int .i64 (k : Int) ∧ n = .int .i64 ((Ir.count (f.blocks.take k) : Nat) : Int) ∧ ∀ (j : Nat) (b : List Ir.In), j < k → f.blocks[j]? = some b → 1 ≤ b.length) (fun _ i => f.blocks.length - (intOf i).toNat)
    case atStart => exact ⟨0, Nat.zero_le _, rfl, rfl, fun j b h => absurd h (Nat.not_lt_zero _)⟩
    case round =>
      obtain ⟨k, hk, rfl, rfl, hall⟩ := hrel
      have HA := Lib.hid hall
      clear hall
      have hcle := Ir.count_take f.blocks k
      obtain ⟨n0, hn0⟩ : ∃ n0, n0 = Ir.count (f.blocks.take k) := ⟨_, rfl⟩
      rw [← hn0] at hcle ⊢
      have HN := Lib.hid hn0
      have hcn : (n0 : Int) ≤ 500 := by have := HC.out; omega
      clear hn0 hcle
      by_cases hlt : k < f.blocks.length
      · have hki : (k : Int) < (f.blocks.length : Int) := by omega
        obtain ⟨b, hb⟩ : ∃ b, f.blocks[k]? = some b := ⟨_, List.getElem?_eq_getElem hlt⟩
        obtain ⟨bl, off, B, cbp, rfl, l1, d1, -⟩ := HB.out.blks.at hb
        have hble := count_ge hb
        have hbi : (b.length : Int) ≤ 500 := by have := HC.out; omega
        have HU := Lib.hid (Ir.count_up hb)
        have HBK := Lib.hid hb
        by_cases hz : b.length = 0
        · have HE := Lib.hid (shape_empty (p := f.params) (r := f.regs) hb hz)
          have hz' : ((b.length : Int) == 0) = true := by simp [hz]
          clear hb hz hble
          go_wp2_with fail
          go_ret
          exact ⟨retb HE.out.symm, HB.out.below⟩
        · have HZ := Lib.hid hz
          have hz' : ((b.length : Int) == 0) = false := beq_eq_false_iff_ne.2 (by omega)
          clear hb hz hble
          go_wp2_with fail
          go_round
          case rel => exact ⟨k + 1, by omega, by go_num, congrArg (Value.int .i64) (by have := HU.out; have := HN.out; omega), fun j c hj hc => by
            rcases Nat.lt_succ_iff_lt_or_eq.1 hj with h | rfl
            · exact HA.out j c h hc
            · rw [HBK.out] at hc
              injection hc with hc
              subst hc
              have := HZ.out
              omega⟩
          case measure => simp [intOf]; omega
      · have HE := Lib.hid (shape_end HOK.out (fun j b hb => HA.out j b (by have := (List.getElem?_eq_some_iff.1 hb).1; omega) hb))
        have HN2 := Lib.hid (show n0 = Ir.count f.blocks by have := HN.out; rwa [List.take_of_length_le (by omega)] at this)
        go_wp2_with fail
        go_ret
        exact ⟨by rw [HE.out, ← HN2.out]; first | rfl | exact retb (decide_eq_decide.2 (by omega)), HB.out.below⟩
  · have HE := Lib.hid (shape_range hno)
    clear hno
    rcases hcase with h | ⟨h1, h2⟩ | ⟨h1, h2, h3⟩ | ⟨h1, h2, h3, h4⟩ | ⟨h1, h2, h3, h4, h5⟩ | ⟨h1, h2, h3, h4, h5, h6⟩
    all_goals
      go_wp2_with fail
      go_ret
      exact ⟨retb HE.out.symm, HB.out.below⟩

set_option maxRecDepth 20000 in
set_option maxHeartbeats 1600000 in
theorem rshape_any (f : Ir.Fu) (A : Option Addr) (cap : Nat) (w : World) (hv : Blks w (.slice A f.blocks.length cap) f.blocks) (hL : Light f.blocks) :
    Calls Tryd.prog 25 #[.int .i64 f.params, .int .i64 f.regs, .slice A f.blocks.length cap] w fun e w' => e = .returned (.bool (Ir.shape f.params f.regs f.blocks)) ∧ w = w' := by
  have HV := Lib.hid hv
  have HC := Lib.hid hL.count
  have hb1 : (f.blocks.length : Int) ≤ 100 := by have := hL.blocks; omega
  clear hL hv
  have hw := shape_ways f.params f.regs f.blocks.length
  go_enter Tryd.func25, Tryd.ntmps25
  go_upto_region 1 with fail
  rcases hw with hok | ⟨hno, hcase⟩
  · have HOK := Lib.hid hok
    obtain ⟨z1, z2, z3, z4, z5, z6⟩ := hok
    have z5' : (1 : Int) ≤ (f.blocks.length : Int) := by omega
    have z6' : (f.blocks.length : Int) ≤ 32 := by omega
    clear z5 z6
    go_wp2_with fail
    go_loop [7, 8] (fun n i => ∃ k : Nat, k ≤ f.blocks.length ∧ i = .int .i64 (k : Int) ∧ n = .int .i64 ((Ir.count (f.blocks.take k) : Nat) : Int) ∧ ∀ (j : Nat) (b : List Ir.In), j < k → f.blocks[j]? = some b → 1 ≤ b.length) (fun _ i => f.blocks.length - (intOf i).toNat)
    case atStart => exact ⟨0, Nat.zero_le _, rfl, rfl, fun j b h => absurd h (Nat.not_lt_zero _)⟩
    case round =>
      obtain ⟨k, hk, rfl, rfl, hall⟩ := hrel
      have HA := Lib.hid hall
      clear hall
      have hcle := Ir.count_take f.blocks k
      obtain ⟨n0, hn0⟩ : ∃ n0, n0 = Ir.count (f.blocks.take k) := ⟨_, rfl⟩
      rw [← hn0] at hcle ⊢
      have HN := Lib.hid hn0
      have hcn : (n0 : Int) ≤ 500 := by have := HC.out; omega
      clear hn0 hcle
      by_cases hlt : k < f.blocks.length
      · have hki : (k : Int) < (f.blocks.length : Int) := by omega
        obtain ⟨b, hb⟩ : ∃ b, f.blocks[k]? = some b := ⟨_, List.getElem?_eq_getElem hlt⟩
        obtain ⟨bl, off, B, cbp, rfl, l1, d1, -⟩ := HV.out.at hb
        have hble := count_ge hb
        have hbi : (b.length : Int) ≤ 500 := by have := HC.out; omega
        have HU := Lib.hid (Ir.count_up hb)
        have HBK := Lib.hid hb
        by_cases hz : b.length = 0
        · have HE := Lib.hid (shape_empty (p := f.params) (r := f.regs) hb hz)
          have hz' : ((b.length : Int) == 0) = true := by simp [hz]
          clear hb hz hble
          go_wp2_with fail
          go_ret
          exact ⟨retb HE.out.symm, rfl⟩
        · by_cases hm : 200 < b.length
          · have HE := Lib.hid (shape_many (p := f.params) (r := f.regs) (Nat.lt_of_lt_of_le hm hble))
            have hz' : ((b.length : Int) == 0) = false := beq_eq_false_iff_ne.2 (by omega)
            have hm' : (200 : Int) < (b.length : Int) := by omega
            clear hb hz hble hm
            go_wp2_with fail
            go_ret
            exact ⟨retb HE.out.symm, rfl⟩
          · have HZ := Lib.hid hz
            have hz' : ((b.length : Int) == 0) = false := beq_eq_false_iff_ne.2 (by omega)
            have hm' : (b.length : Int) ≤ 200 := by omega
            clear hb hz hble hm
            go_wp2_with fail
            go_round
            case rel => exact ⟨k + 1, by omega, by go_num, congrArg (Value.int .i64) (by have := HU.out; have := HN.out; omega), fun j c hj hc => by
              rcases Nat.lt_succ_iff_lt_or_eq.1 hj with h | rfl
              · exact HA.out j c h hc
              · rw [HBK.out] at hc
                injection hc with hc
                subst hc
                have := HZ.out
                omega⟩
            case measure => simp [intOf]; omega
      · have HE := Lib.hid (shape_end HOK.out (fun j b hb => HA.out j b (by have := (List.getElem?_eq_some_iff.1 hb).1; omega) hb))
        have HN2 := Lib.hid (show n0 = Ir.count f.blocks by have := HN.out; rwa [List.take_of_length_le (by omega)] at this)
        go_wp2_with fail
        go_ret
        exact ⟨by rw [HE.out, ← HN2.out]; first | rfl | exact retb (decide_eq_decide.2 (by omega)), rfl⟩
  · have HE := Lib.hid (shape_range hno)
    clear hno
    rcases hcase with h | ⟨h1, h2⟩ | ⟨h1, h2, h3⟩ | ⟨h1, h2, h3, h4⟩ | ⟨h1, h2, h3, h4, h5⟩ | ⟨h1, h2, h3, h4, h5, h6⟩
    all_goals
      go_wp2_with fail
      go_ret
      exact ⟨retb HE.out.symm, rfl⟩
end Go.Proofs.YtkkbmfgkapdndaaDoor
