/- What puts of a table comes to: all of its map, rising. -/
import Derived.Test.YtimcepoleboldaaGreatDoorKeepSort
namespace Go.Proofs.YtimcepoleboldaaGreatDoor
open Go.RowKit Go.Deep
open Go.Maps (Keyed)

theorem Kp.Tabs.lens {D : Nat → Kp.Mp} {m : Kp.Mp} (h : Kp.Tabs D m) (hu : Kp.Up m) {ds : List Nat} (hn : ds.Nodup) : (ds.flatMap D).length ≤ m.length := by
  have h1 : ∀ e ∈ ds.flatMap D, e ∈ m := by
    intro e he
    obtain ⟨d, _, hd⟩ := List.mem_flatMap.mp he
    have h2 := Kp.keys_look (h.keys d) hd
    rw [← h.home d e hd, h.same] at h2
    exact Kp.look_some h2
  have h2 : (ds.flatMap D).Nodup := by
    clear h1
    induction ds with
    | nil => exact List.nodup_nil
    | cons d ds ih =>
      rw [List.flatMap_cons, List.nodup_append]
      obtain ⟨h1, h2⟩ := List.nodup_cons.mp hn
      refine ⟨Kp.nodup_of_keys (h.keys d), ih h2, fun a ha b hb e => ?_⟩
      subst e
      obtain ⟨d', hd', hb'⟩ := List.mem_flatMap.mp hb
      have := (h.home d a ha).symm.trans (h.home d' a hb')
      rw [this] at h1
      exact h1 hd'
  have hp : (ds.flatMap D).Perm (m.filter fun e => decide (Kp.mixB e.1 ∈ ds)) := (List.perm_ext_iff_of_nodup h2 (List.Pairwise.filter _ (Kp.nodup_of_keys (Kp.up_keys hu)))).mpr (fun e => by
    rw [List.mem_filter]
    constructor
    · intro he
      obtain ⟨d, hd, hd2⟩ := List.mem_flatMap.mp he
      exact ⟨h1 e he, by rw [h.home d e hd2]; simpa using hd⟩
    · rintro ⟨h3, he⟩
      have h4 := (Kp.mem_iff (Kp.up_keys hu)).mp h3
      rw [← h.same] at h4
      exact List.mem_flatMap.mpr ⟨_, by simpa using he, Kp.look_some h4⟩)
  rw [hp.length_eq]
  exact List.length_filter_le _ _

set_option maxRecDepth 20000 in
theorem wpList_append_puts {ops : Array Oper} {rest : List Oper} {o : Oper} {a : Act} {w : World} {Q : Exit → Act → World → Prop} (hg : o.guard = none) (s x : Operand)
    (ho : o.op = .call { callee := .builtin .append, args := #[s, x], argTypes := #[29, 29] })
    {base b2 : Nat} {v1 u : Value} {l k : Kp.Mp} (h : RowP w base v1 l) (hu : RowP w b2 u k) (hne : k ≠ []) (hl : l.length + k.length ≤ 16777216) (hb : base ≤ w.heap.size) (hs : a.eval s = v1) (hx : a.eval x = u)
    (hK : ∀ v3 w', RowP w' base v3 (l ++ k) → w.grownBy w' v1.ownBlock → wpList Tryz.prog ops Q rest (a.put o.dst v3) w') : wpList Tryz.prog ops Q (o :: rest) a w := by
  obtain ⟨i0, hi, hz0, hz1, hz2⟩ := info_parts info_record
  rcases hu.2 with ⟨_, h0⟩ | ⟨g, cap, cur, rfl, _⟩
  · exact absurd (List.length_eq_zero_iff.mp h0) hne
  · refine wpList_append_own (P := Tryz.prog) w hg s x 29 ho base 32 i0 (.agg #[.int .i64 0, .string ⟨#[]⟩, .string ⟨#[]⟩]) 3 40 Tryz.underlying29 hi hz0 hz1 hz2 rfl (by decide) v1 l.length (flatP l) hs h ⟨g, 0, none⟩ k.length cap (flatP k) hx (flatP_length k) ?_ (flatP_one _) (by unfold maxLen; omega) (by omega) hb ?_
    · intro j z hj
      exact World.ownsRow.cells hu (g := g) rfl j z hj
    · intro v' w' h2 h3 _
      refine hK v' w' ?_ h3
      unfold RowP
      rw [List.length_append, flatP_append]
      exact h2

/-- What puts' loop knows. -/
structure PutsAt (w : World) (mb n : Nat) (G : Nat → Option Value) (D : Nat → Kp.Mp) (D0 : DataW Unit) (ds : List Nat) (left : Lit → Bool) (cnt : Nat) (v : Value) (wr : World) : Prop where
  rg : wr.ranges Tryz.prog 51 slcR mb w.heap.size n D0 left cnt
  nodup : ds.Nodup
  out : ∀ d ∈ ds, left (.int .u64 (d : Int)) = false
  here : ∀ d, d < 18446744073709551616 → G d ≠ none → d ∈ ds ∨ left (.int .u64 (d : Int)) = true
  row : RowP wr (w.heap.size + 1) v (ds.flatMap D)
  below : Below w.heap.size w wr

theorem u64_nat {x : Int} (h : (Lit.int .u64 x).wf = true) : ∃ d : Nat, x = (d : Int) ∧ d < 18446744073709551616 := by
  simp [Lit.wf, IntKind.min, IntKind.max, IntKind.bits, IntKind.signed] at h
  exact ⟨x.toNat, by omega, by omega⟩

section
variable {w wr w1 : World} {mb n d cnt cnt' : Nat} {G : Nat → Option Value} {D : Nat → Kp.Mp} {D0 : DataW Unit} {ds : List Nat} {left : Lit → Bool} {v v' u : Value}
/-- A bucket has come. -/
theorem PutsAt.next (h : PutsAt w mb n G D D0 ds left cnt v wr) (hl : left (.int .u64 (d : Int)) = true) (hrg : w1.ranges Tryz.prog 51 slcR mb w.heap.size n D0 (fun z => left z && !z.sameKey (.int .u64 (d : Int))) cnt')
    (hrow : RowP w1 (w.heap.size + 1) v' (ds.flatMap D ++ D d)) (hb : Below w.heap.size w w1) : PutsAt w mb n G D D0 (ds ++ [d]) (fun z => left z && !z.sameKey (.int .u64 (d : Int))) cnt' v' w1 := by
  have hnd : d ∉ ds := fun hd => by rw [h.out d hd] at hl; cases hl
  refine ⟨hrg, ?_, ?_, ?_, ?_, hb⟩
  · rw [List.nodup_append]
    exact ⟨h.nodup, List.nodup_cons.mpr ⟨by simp, List.nodup_nil⟩, fun a ha b hb e => by simp at hb; subst hb; subst e; exact hnd ha⟩
  · intro i hi
    show (left _ && !(Lit.int .u64 (i : Int)).sameKey (.int .u64 (d : Int))) = false
    rcases List.mem_append.mp hi with hi | hi
    · rw [h.out i hi]; rfl
    · simp at hi
      subst hi
      have : (Lit.int .u64 (i : Int)).sameKey (.int .u64 (i : Int)) = true := WideAt.sameKey_self trivial
      rw [this]
      simp
  · intro i hi hg
    by_cases e : i = d
    · exact .inl (List.mem_append_right _ (by simp [e]))
    · rcases h.here i hi hg with h1 | h1
      · exact .inl (List.mem_append_left _ h1)
      · refine .inr ?_
        show (left _ && !(Lit.int .u64 (i : Int)).sameKey (.int .u64 (d : Int))) = true
        rw [h1]
        cases hs : (Lit.int .u64 (i : Int)).sameKey (.int .u64 (d : Int)) with
        | false => rfl
        | true => exact absurd (WideAt.sameKey_eq hs) (dig_ne (fun e' => e e'.symm))
  · rw [List.flatMap_append]
    simpa using hrow
end

def PutsPost (m : Kp.Mp) (w : World) (e : Ending) (w' : World) : Prop := ∃ v, e = .returned v ∧ RowP w' w.heap.size v m ∧ Below w.heap.size w w'

theorem seen_bucket {D0 : DataW Unit} {G : Nat → Option Value} {d : Nat} {c : Value} {y : DataW Unit × List MemPlace} (hd : d < 18446744073709551616) (hat : ∀ d : Nat, d < 18446744073709551616 → ∀ z, D0.atKey (.int .u64 (d : Int)) z = match G d with | some v => (slcD v).getD z | none => z)
    (hok : ∀ d v, G d = some v → ∃ y, slcD v = some y) (hv : slcR c = some y) (h : ∀ zd, D0.atKey (.int .u64 (d : Int)) zd = y.1) : G d = some c := by
  cases hg : G d with
  | none =>
    have h1 := (hat d hd .nil).symm.trans (h .nil)
    have h2 := (hat d hd (.lit (.bool true))).symm.trans (h (.lit (.bool true)))
    rw [hg] at h1 h2
    simp only at h1 h2
    rw [← h1] at h2
    cases h2
  | some u =>
    obtain ⟨z, hz⟩ := hok d u hg
    have h1 := (hat d hd .nil).symm.trans (h .nil)
    rw [hg] at h1
    simp only [hz, Option.getD_some] at h1
    have h2 : slcD c = some y.1 := slcR_some (ps := y.2) hv
    rw [← h1] at h2
    rw [slcD_inj h2 hz]

set_option maxRecDepth 100000 in
set_option maxHeartbeats 2000000 in
theorem puts_any [R : Rows] (tb mb n : Nat) (m : Kp.Mp) (w : World) (h : Tab w tb mb n m) (hm : m.length ≤ 1000000) :
    Calls Tryz.prog 39 #[.pointer (some ⟨tb, 0, none⟩)] w (PutsPost m w) := by
  obtain ⟨G, D, h⟩ := h
  obtain ⟨D0, hown, hmap, hat, hok⟩ := h.map
  have HAT := Lib.hid hat
  have HOK := Lib.hid hok
  have HT := Lib.hid h
  have HM := Lib.hid hm
  have HO := Lib.hid hown
  obtain ⟨c0, -, -, -⟩ := cells_two h.blk
  have hhas : ∀ d, d < 18446744073709551616 → G d ≠ none → Maps.has D0 (.int .u64 (d : Int)) = true := by
    intro d hd hg
    cases hgd : G d with
    | none => exact absurd hgd hg
    | some u =>
      obtain ⟨y, hy⟩ := hok d u hgd
      exact Maps.has_true_of_atKey (y := y) (fun z => by rw [hat d hd, hgd]; simp only [hy, Option.getD_some])
  have HH := Lib.hid hhas
  clear h hmap hat hok hm hhas
  go_enter Tryz.func39, Tryz.ntmps39
  go_wp2_with (at_range; refine wpList_range_own _ rfl _ 84 rfl 51 29 key_u64 Tryz.underlying84 slcR mb n D0 rfl HO.out ?_; intro w0 hrg0 hg0 hs0)
  have h0 : PutsAt w mb n G D D0 [] (Maps.has D0) (Maps.size D0) (.slice none 0 0) w0 := ⟨hrg0, List.nodup_nil, fun d hd => by simp at hd, fun d hd hg => .inr (HH.out d hd hg), RowP.nil _ _, gr_to_below hg0⟩
  have H0 := Lib.hid h0
  have HS0 := Lib.hid hs0
  clear hrg0 hg0 h0 hs0 c0 hown
  go_frame
  go_loopw [3] (fun v wr => ∃ (ds : List Nat) (left : Lit → Bool) (cnt : Nat), PutsAt w mb n G D D0 ds left cnt v wr ∧ w.heap.size + 1 ≤ wr.heap.size) (fun _ wr => wr.rangeLeft mb w.heap.size)
  case atStart => exact ⟨_, _, _, H0.out, by rw [HS0.out]; exact Nat.le_refl _⟩
  case round =>
    obtain ⟨ds, left, cnt, hP, hsz⟩ := hrel
    have HP := Lib.hid hP
    have HZ := Lib.hid hsz
    clear hP hsz
    go_wp2_with (at_next; refine wpList_next_ranges _ rfl _ rfl 51 key_u64 slcR (Value.int .u64) (fun v : Value => v) (fun key kl hk => by obtain ⟨x, hx, _⟩ := Maps.keyOf_int_inv Tryz.underlying51 hk; exact ⟨x, hx⟩) (fun v _ _ => ⟨v, rfl⟩) mb w.heap.size n D0 _ _ rfl HP.out.rg ?_ ?_)
    · intro _ hl0
      have hall : ∀ d, D d ≠ [] → d ∈ ds := by
        intro d hd
        have hd64 : d < 18446744073709551616 := by
          obtain ⟨e, he⟩ := List.exists_mem_of_ne_nil _ hd
          rw [← HT.out.tabs.home d e he]
          exact Kp.mixB_lt _
        rcases HP.out.here d hd64 (fun hg => hd (HT.out.free d hg)) with h1 | h1
        · exact h1
        · rw [hl0] at h1; cases h1
      have HPM := Lib.hid (HT.out.tabs.perm HT.out.up HP.out.nodup hall)
      have HLN := Lib.hid (HT.out.tabs.lens HT.out.up HP.out.nodup)
      clear hall hl0
      go_wp2_with fail
      refine (sort_any _ _ _ _ HP.out.row (Nat.le_trans HLN.out HM.out)).mono ?_
      rintro e w2 ⟨rfl, l', hp, hs, hr, hg⟩
      have hlm : l' = m := Kp.sorted_eq (hp.trans HPM.out) HT.out.up hs
      subst hlm
      have HR := Lib.hid (hr.lower (Nat.le_succ _))
      have HB := Lib.hid (gr_to_below (gr_row (gr_of_below HP.out.below none) hg (fun g hg' => by have := (HP.out.row.lt hg').1; omega)))
      clear hp hs hr hg
      go_wp2_with fail
      go_ret
      exact ⟨_, rfl, HR.out, HB.out⟩
    · intro x c kl yd yp w1 cnt1 hkey hlk hv hatk hrg1 hlt hg1 hs1 hen
      obtain ⟨x', ex, rfl, hwx⟩ := Maps.keyOf_int_inv Tryz.underlying51 hkey
      cases ex
      obtain ⟨d, rfl, hd⟩ := u64_nat hwx
      have hgd := seen_bucket (y := (yd, yp)) hd HAT.out HOK.out hv hatk
      obtain ⟨hne, hrow⟩ := HT.out.rows d c hgd
      have hb1 : Below w.heap.size w w1 := gr_to_below (by
        have h2 := gr_of_below HP.out.below none
        exact gr_new (gr_of_below (Below.refl w.heap.size w) none) (gr_trans (gr_of_below HP.out.below _) hg1) (Nat.le_refl _))
      have hr1 := HP.out.row.grown hg1 (.inr (fun e' => by have := (HP.out.row.lt e').1; omega))
      have hu1 : RowP w1 0 c (D d) := hrow.below hb1
      have HU1 := Lib.hid hu1
      have HR1 := Lib.hid hr1
      have HB1 := Lib.hid hb1
      have HRG := Lib.hid hrg1
      have HLT := Lib.hid hlt
      have HLK := Lib.hid hlk
      have HNE := Lib.hid hne
      have HZ1 := Lib.hid (show w.heap.size + 1 ≤ w1.heap.size by rw [hs1]; exact HZ.out)
      have hlen : (ds.flatMap D).length + (D d).length ≤ 16777216 := by
        have h1 := HT.out.tabs.lens HT.out.up HP.out.nodup
        have h2 := HT.out.tabs.len HT.out.up d
        have := HM.out
        omega
      have HLEN := Lib.hid hlen
      clear hkey hwx hv hatk hgd hrow hb1 hr1 hu1 hrg1 hlt hg1 hs1 hne hlen hlk
      go_wp2_with (at_builtin; refine wpList_append_puts rfl (.tmp 15) (.tmp 16) rfl HR1.out HU1.out HNE.out HLEN.out HZ1.out rfl rfl ?_; intro v7 w7 hrow7 hgrow7; have hlt7 := (fun g hg' => (HR1.out.lt (g := g) hg').1); have hrg7 := HRG.out.kept hgrow7 (fun e => by have h1 := hlt7 mb e.symm; have := HT.out.map.lt; omega) (fun e => by have h1 := hlt7 _ e.symm; omega); have HN := Lib.hid (And.intro (HP.out.next HLK.out hrg7 hrow7 (gr_to_below (gr_row (gr_of_below HB1.out none) hgrow7 (fun g hg' => by have := hlt7 g hg'; omega)))) (And.intro (show w.heap.size + 1 ≤ w7.heap.size by have := hgrow7.size; have := HZ1.out; omega) hrg7)); clear hrow7 hgrow7 hrg7 hlt7)
      go_roundw
      case rel => exact ⟨_, _, cnt1, HN.out.1, HN.out.2.1⟩
      case measure => rw [HN.out.2.2.left_eq, HP.out.rg.left_eq]; exact HLT.out
end Go.Proofs.YtimcepoleboldaaGreatDoor
