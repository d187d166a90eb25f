/- What take, clone, known and same of tables come to. -/
import Derived.Test.YtimcepoleboldaaGreatDoorKeepTakeW
import Derived.Test.YtimcepoleboldaaGreatDoorKeepDisk
namespace Go.Proofs.YtimcepoleboldaaGreatDoor
open Go.RowKit Go.Deep

theorem cell_same {w w' : World} {b o : Nat} (h : w'.heap[b]? = w.heap[b]?) : w'.cell? ⟨b, o, none⟩ = w.cell? ⟨b, o, none⟩ := by
  unfold World.cell?
  simp only [h]
/-- Records that were there stay while a table changes. -/
theorem Recs.two [R : Rows] {w w' : World} {v : Value} {l : List Kp.Rc} {tb mb n : Nat} {m : Kp.Mp} (h : Recs w v l) (ht : Tab w tb mb n m) (hc : Two tb mb w w') : Recs w' v l := by
  obtain ⟨G, D, ht⟩ := ht
  obtain ⟨A, cap, rfl, hat⟩ := h
  refine ⟨A, cap, rfl, fun j x hj => ?_⟩
  obtain ⟨hw, b, off, hA, hlt, h0, h1, h2⟩ := hat j x hj
  have n1 : b ≠ tb := by
    intro e
    subst e
    rw [ht.blk.cell] at h0 h1
    match off + j * 3, h0, h1 with
    | 0, h0, _ => simp at h0
    | 1, _, h1 => simp at h1
    | k + 2, h0, _ => simp at h0
  have n2 : b ≠ mb := by
    intro e
    subst e
    obtain ⟨es, c, hb⟩ := ht.map.block
    unfold World.cell? at h0
    simp [hb] at h0
  have hk := hc.keep hlt (show b ≠ tb ∧ b ≠ mb from ⟨n1, n2⟩)
  exact ⟨hw, b, off, hA, Nat.lt_of_lt_of_le hlt hc.size, (cell_same hk).trans h0, (cell_same hk).trans h1, (cell_same hk).trans h2⟩

theorem Two.refl (a b : Nat) (w : World) : Two a b w w := ⟨rfl, rfl, rfl, Nat.le_refl _, fun _ _ _ => rfl⟩
theorem Two.up {a b : Nat} {w w1 w2 : World} (h : Two a b w w1) (hb : Below w1.heap.size w1 w2) : Two a b w w2 :=
  Chg.trans h ⟨hb.os, hb.tape, hb.output, hb.size, fun i hi _ => hb.block i hi⟩

theorem heavy_take (l : List Kp.Rc) : ∀ (j : Nat) {x : Kp.Rc}, l[j]? = some x → Kp.heavy (l.take j) + x.key.size + x.val.size ≤ Kp.heavy l := by
  induction l with
  | nil => intro j x h; simp at h
  | cons y l ih =>
    intro j x h
    match j, h with
    | 0, h =>
      simp at h
      subst h
      show 0 + _ + _ ≤ y.key.size + y.val.size + Kp.heavy l
      omega
    | j + 1, h =>
      have := ih j (by simpa using h)
      show y.key.size + y.val.size + Kp.heavy (l.take j) + _ + _ ≤ y.key.size + y.val.size + Kp.heavy l
      omega

set_option maxRecDepth 20000 in
set_option maxHeartbeats 800000 in
theorem take_any [R : Rows] (tb mb n : Nat) (m : Kp.Mp) (l : List Kp.Rc) (vl : Value) (w : World) (h : Tab w tb mb n m) (hl : Recs w vl l) (hk : ∀ x ∈ l, x.k = 1 ∨ x.k = 2) (hs : Kp.size m + Kp.heavy l ≤ 1000000) (hm : m.length + l.length ≤ 1000000) (hn : n + l.length ≤ 1000000000) (hR : ∀ g, w.heap.size ≤ g → R.p g) :
    Calls Tryz.prog 31 #[.pointer (some ⟨tb, 0, none⟩), vl] w (TakePost tb mb (n + l.length) (Kp.all m l) w) := by
  obtain ⟨A, cap, hv⟩ : ∃ A cap, vl = .slice A l.length cap := by obtain ⟨A, cap, e, _⟩ := hl; exact ⟨A, cap, e⟩
  subst hv
  have HRR := Lib.hid hR
  clear hR
  have HL := Lib.hid hl
  have HT := Lib.hid h
  have HK := Lib.hid hk
  have HS := Lib.hid hs
  have HM := Lib.hid hm
  have HN := Lib.hid hn
  have hleni : (l.length : Int) ≤ 1000000 := by omega
  clear h hl hk hs hm hn
  go_enter Tryz.func31, Tryz.ntmps31
  go_wp2_with fail
  go_loopw [8] (fun i wr => ∃ j : Nat, j ≤ l.length ∧ i = .int .i64 (j : Int) ∧ Tab wr tb mb (n + j) (Kp.all m (l.take j)) ∧ Two tb mb w wr ∧ Recs wr (.slice A l.length cap) l) (fun i _ => l.length - (intOf i).toNat)
  case atStart => exact ⟨0, Nat.zero_le _, rfl, HT.out, Two.refl _ _ _, HL.out⟩
  case round =>
    obtain ⟨j, hj, rfl, hT, hC, hR⟩ := hrel
    have HT2 := Lib.hid hT
    have HC := Lib.hid hC
    have HR := Lib.hid hR
    by_cases hlt : j < l.length
    · obtain ⟨x, hx⟩ : ∃ x, l[j]? = some x := ⟨_, List.getElem?_eq_getElem hlt⟩
      obtain ⟨A', cap', hv, hat⟩ := hR
      injection hv with hv1 hv2 hv3
      subst hv1 hv3
      obtain ⟨-, b1, o1, rfl, l1, d0, d1, d2⟩ := hat j x hx
      have hji : (j : Int) < (l.length : Int) := by omega
      have HX := Lib.hid hx
      have h1 := heavy_take l j hx
      have h2 := Kp.size_all_le (l.take j) m
      have h3 := Kp.length_all_le (l.take j) m
      have h4 : (l.take j).length ≤ l.length := by rw [List.length_take]; omega
      have HB := Lib.hid (show Kp.size (Kp.all m (l.take j)) + x.key.size + x.val.size ≤ 2000000 ∧ (Kp.all m (l.take j)).length ≤ 1000000 ∧ n + j ≤ 1000000000 by have := HS.out; have := HM.out; have := HN.out; omega)
      have HKX := Lib.hid (HK.out x (List.mem_of_getElem? hx))
      have hb0 : Below wr.heap.size wr (wr.alloc (.cells #[.int .i64 x.k, .string x.key, .string x.val] 32)) := (Below.refl _ _).alloc (Nat.le_refl _) _
      have HB0 := Lib.hid hb0
      clear hx hat hT hC hv2 h1 h2 h3 h4 hb0
      go_wp2_with fail
      refine (takeone_any tb mb (n + j) _ x _ (HT2.out.below HB0.out) HKX.out HB.out.1 HB.out.2.1 HB.out.2.2 (fun g hg => HRR.out g (Nat.le_trans (HC.out.up HB0.out).size hg))).mono ?_
      rintro e w2 ⟨rfl, hT3, hC3⟩
      rw [← all_up HX.out] at hT3
      have HT3 := Lib.hid hT3
      have HC3 := Lib.hid ((HC.out.up HB0.out).trans hC3)
      have HR3 := Lib.hid ((HR.out.below HB0.out).two (HT2.out.below HB0.out) hC3)
      clear hT3 hC3 d0 d1 d2
      go_wp2_with fail
      go_roundw
      case rel => exact ⟨j + 1, by omega, by go_num, HT3.out, HC3.out, HR3.out⟩
      case measure => simp [intOf]; omega
    · obtain rfl : j = l.length := by omega
      clear hT hC hR
      go_wp2_with fail
      go_end0
      have := HT2.out
      rw [List.take_length] at this
      exact ⟨rfl, this, HC.out⟩

set_option maxRecDepth 20000 in
set_option maxHeartbeats 800000 in
theorem clone_any [R : Rows] (tb mb n : Nat) (m : Kp.Mp) (w : World) (h : Tab w tb mb n m) (hs : Kp.size m ≤ 1000000000) :
    Calls Tryz.prog 35 #[.pointer (some ⟨tb, 0, none⟩)] w fun e w' => e = .returned (.pointer (some ⟨w.heap.size + 1, 0, none⟩)) ∧ Tab w' (w.heap.size + 1) w.heap.size n m ∧ Below w.heap.size w w' := by
  obtain ⟨G, D, h⟩ := h
  obtain ⟨es, clock, hb, hm⟩ := h.map.clone
  have hsz : (w.alloc (.map es clock)).heap.size = w.heap.size + 1 := by simp
  have hbel : Below w.heap.size w ((w.alloc (.map es clock)).alloc (.cells #[.map (some w.heap.size), .int .i64 ((Kp.size m : Nat) : Int)] 86)).drew := (((Below.refl _ _).alloc (Nat.le_refl _) _).alloc (by rw [hsz]; omega) _).drew
  have hnew := Blk.new (w.alloc (.map es clock)) 86 #[.map (some w.heap.size), .int .i64 ((Kp.size m : Nat) : Int)]
  rw [hsz] at hnew
  have HE := Lib.hid (show Tab ((w.alloc (.map es clock)).alloc (.cells #[.map (some w.heap.size), .int .i64 ((Kp.size m : Nat) : Int)] 86)).drew (w.heap.size + 1) w.heap.size n m from
    ⟨G, D, ⟨hnew.drew, (hm.grown (World.grownBy_alloc _ _ none) (by simp)).move rfl, h.free, fun d v hd => ⟨(h.rows d v hd).1, (h.rows d v hd).2.below hbel⟩, h.tabs, h.up, h.far⟩⟩)
  have HB := Lib.hid hbel
  have HBB := Lib.hid hb
  obtain ⟨c0, c1, -, -⟩ := cells_two h.blk
  have hlt := h.blk.lt
  have hz : ((Kp.size m : Nat) : Int) ≤ 1000000000 := by omega
  clear h hm hb hbel hnew hs
  go_enter Tryz.func35, Tryz.ntmps35
  go_wp2_with fail
  go_region_with (first | (go_at_call 68; refine (mapclone_any mb es clock w.drew HBB.out).mono ?_; rintro e' w4 ⟨rfl, rfl⟩) | fail)
  all_goals
    go_wp2_with fail
    go_ret
    exact ⟨rfl, HE.out, HB.out⟩

set_option maxRecDepth 20000 in
set_option maxHeartbeats 800000 in
theorem known_any (l : List Kp.Rc) (vl : Value) (w : World) (hl : Recs w vl l) (hm : l.length ≤ 1000000) :
    Calls Tryz.prog 34 #[vl] w fun e w' => e = .returned (.bool (decide (¬ Kp.odd l))) ∧ Below w.heap.size w w' := by
  obtain ⟨A, cap, rfl, hat⟩ := hl
  have HA := Lib.hid hat
  have hleni : (l.length : Int) ≤ 1000000 := by omega
  clear hat
  go_enter Tryz.func34, Tryz.ntmps34
  go_wp2_with fail
  go_loopw [7] (fun i wr => ∃ j : Nat, j ≤ l.length ∧ i = .int .i64 (j : Int) ∧ ¬ Kp.odd (l.take j) ∧ Below w.heap.size w wr) (fun i _ => l.length - (intOf i).toNat)
  case atStart => exact ⟨0, Nat.zero_le _, rfl, by rintro ⟨x, hx, _⟩; simp at hx, Below.refl _ _⟩
  case round =>
    obtain ⟨j, hj, rfl, hO, hb⟩ := hrel
    have HO := Lib.hid hO
    have HB := Lib.hid hb
    by_cases hlt : j < l.length
    · obtain ⟨x, hx⟩ : ∃ x, l[j]? = some x := ⟨_, List.getElem?_eq_getElem hlt⟩
      obtain ⟨-, b1, o1, rfl, l1, e0, e1, e2⟩ := HA.out j x hx
      have d0 := (hb.cell (p := ⟨b1, o1 + j * 3, none⟩) l1).trans e0
      have d1 := (hb.cell (p := ⟨b1, o1 + j * 3 + 1, none⟩) l1).trans e1
      have d2 := (hb.cell (p := ⟨b1, o1 + j * 3 + 2, none⟩) l1).trans e2
      have hji : (j : Int) < (l.length : Int) := by omega
      have HX := Lib.hid hx
      clear e0 e1 e2 hO hb hx
      have hup : ∀ y ∈ l.take (j + 1), y ∈ l.take j ∨ y = x := by
        intro y hy
        have hx := HX.out
        obtain ⟨h1, rfl⟩ := List.getElem?_eq_some_iff.1 hx
        rw [List.take_succ_eq_append_getElem h1, List.mem_append] at hy
        rcases hy with hy | hy
        · exact .inl hy
        · exact .inr (by simpa using hy)
      have HUP := Lib.hid hup
      clear hup
      by_cases h1 : x.k = 1
      · have k1 : (x.k != 1) = false := int_eq h1
        have HN := Lib.hid (show ¬ Kp.odd (l.take (j + 1)) from by
          rintro ⟨y, hy, hy1, hy2⟩
          rcases HUP.out y hy with h | rfl
          · exact HO.out ⟨y, h, hy1, hy2⟩
          · exact hy1 h1)
        clear h1
        go_wp2_with fail
        go_roundw
        case rel => exact ⟨j + 1, by omega, by go_num, HN.out, HB.out.alloc HB.out.size _⟩
        case measure => simp [intOf]; omega
      · have k1 : (x.k != 1) = true := int_ne h1
        by_cases h2 : x.k = 2
        · have k2 : (x.k != 2) = false := int_eq h2
          have HN := Lib.hid (show ¬ Kp.odd (l.take (j + 1)) from by
            rintro ⟨y, hy, hy1, hy2⟩
            rcases HUP.out y hy with h | rfl
            · exact HO.out ⟨y, h, hy1, hy2⟩
            · exact hy2 h2)
          clear h1 h2
          go_wp2_with fail
          go_roundw
          case rel => exact ⟨j + 1, by omega, by go_num, HN.out, HB.out.alloc HB.out.size _⟩
          case measure => simp [intOf]; omega
        · have k2 : (x.k != 2) = true := int_ne h2
          have HN := Lib.hid (show Kp.odd l from ⟨x, List.mem_of_getElem? HX.out, h1, h2⟩)
          clear h1 h2
          go_wp2_with fail
          go_ret
          exact ⟨by rw [decide_eq_false (fun h => h HN.out)]; rfl, HB.out.alloc HB.out.size _⟩
    · have he : l.take j = l := List.take_of_length_le (by omega)
      rw [he] at HO
      clear hO hb he
      go_wp2_with fail
      go_ret
      exact ⟨by rw [decide_eq_true HO.out]; rfl, HB.out⟩
end Go.Proofs.YtimcepoleboldaaGreatDoor
