/- Which functions have a shape that may be: the program's shaped, the document's Shape, the law's heavy. -/
import Derived.Test.YtkkbmfgkapdndaaDoorIrRow
namespace Go.Proofs.YtkkbmfgkapdndaaDoor
open Go.ChangeShapes Go.WideShapes Go.RowKit Go.Deep

theorem Blks.at {w : World} {A : Option Addr} {n cap : Nat} {bs : List (List Ir.In)} (h : Blks w (.slice A n cap) bs) {k : Nat} {b : List Ir.In} (hx : bs[k]? = some b) :
    ∃ bl off B cbp, A = some ⟨bl, off, none⟩ ∧ bl < w.heap.size ∧ w.cell? ⟨bl, off + k, none⟩ = some (.slice B b.length cbp) ∧ Insl w (.slice B b.length cbp) b := by
  obtain ⟨A', cap', e, -, h3⟩ := h
  simp at e
  obtain ⟨rfl, rfl, rfl⟩ := e
  obtain ⟨bl, off, cs, h4, h5, -, h7, v, h8, h9⟩ := h3 k b hx
  obtain ⟨B, cbp, rfl, -⟩ := id h9
  have := h7 0 (.slice B b.length cbp) (by rw [h8]; rfl)
  rw [Nat.mul_one, Nat.add_zero] at this
  exact ⟨bl, off, B, cbp, h4, h5, this, h9⟩

theorem Insl.at {w : World} {A : Option Addr} {n cap : Nat} {b : List Ir.In} (h : Insl w (.slice A n cap) b) {k : Nat} {x : Ir.In} (hx : b[k]? = some x) :
    ∃ bl off B cbp, A = some ⟨bl, off, none⟩ ∧ bl < w.heap.size ∧ (w.cell? ⟨bl, off + k * 6, none⟩ = some (.int .i64 x.op) ∧ w.cell? ⟨bl, off + k * 6 + 1, none⟩ = some (.int .i64 x.d) ∧ w.cell? ⟨bl, off + k * 6 + 2, none⟩ = some (.int .i64 x.a) ∧
      w.cell? ⟨bl, off + k * 6 + 3, none⟩ = some (.int .i64 x.b) ∧ w.cell? ⟨bl, off + k * 6 + 4, none⟩ = some (.string x.name) ∧ w.cell? ⟨bl, off + k * 6 + 5, none⟩ = some (.slice B x.args.length cbp)) ∧ InR w (InsC x (.slice B x.args.length cbp)).toList x := by
  obtain ⟨A', cap', e, -, h3⟩ := h
  simp at e
  obtain ⟨rfl, rfl, rfl⟩ := e
  obtain ⟨bl, off, cs, h4, h5, -, h7, h8⟩ := h3 k x hx
  have h8' := h8
  obtain ⟨sl, e, hn, -⟩ := h8
  obtain ⟨B, cbp, rfl, -⟩ := hn
  rw [e] at h7 h8'
  exact ⟨bl, off, B, cbp, h4, h5, ⟨h7 0 _ rfl, h7 1 _ rfl, h7 2 _ rfl, h7 3 _ rfl, h7 4 _ rfl, h7 5 _ rfl⟩, h8'⟩

theorem Blks.form {w : World} {v : Value} {bs : List (List Ir.In)} (h : Blks w v bs) : ∃ A cap, v = .slice A bs.length cap := by
  obtain ⟨A, cap, e, -⟩ := h
  exact ⟨A, cap, e⟩

/-! ### heavy -/
def okIn (x : Ir.In) : Prop := x.args.length ≤ 100 ∧ x.name.size ≤ 1024
/-- Not heavier than the law's bound. -/
structure Light (bs : List (List Ir.In)) : Prop where
  blocks : bs.length ≤ 100
  count : Ir.count bs ≤ 500
  ins : ∀ b, b ∈ bs → ∀ x, x ∈ b → okIn x

def msum : List (List Ir.In) → Nat
  | [] => 0
  | b :: l => min b.length 1048576 + msum l
theorem msum_append : ∀ a b : List (List Ir.In), msum (a ++ b) = msum a + msum b
  | [], b => by simp [msum]
  | x :: a, b => by
    show _ + msum (a ++ b) = _ + msum a + msum b
    rw [msum_append a b]
    omega
theorem msum_up {bs : List (List Ir.In)} {k : Nat} {b : List Ir.In} (h : bs[k]? = some b) : msum (bs.take (k + 1)) = msum (bs.take k) + min b.length 1048576 := by
  obtain ⟨h1, rfl⟩ := List.getElem?_eq_some_iff.1 h
  rw [List.take_succ_eq_append_getElem h1, msum_append]
  show _ + (_ + 0) = _
  omega
theorem msum_small : ∀ bs : List (List Ir.In), msum bs ≤ 500 → Ir.count bs = msum bs ∧ ∀ b, b ∈ bs → b.length ≤ 500
  | [], _ => ⟨rfl, fun _ h => by cases h⟩
  | b :: l, h => by
    have h' : min b.length 1048576 + msum l ≤ 500 := h
    obtain ⟨h1, h2⟩ := msum_small l (by omega)
    refine ⟨by show b.length + Ir.count l = min b.length 1048576 + msum l; omega, fun c hc => ?_⟩
    rcases List.mem_cons.1 hc with rfl | hc
    · omega
    · exact h2 c hc

/-- The instructions of a block that the law looks at. -/
def seen (b : List Ir.In) (k : Nat) : Prop := ∀ m, m < k → m ≤ 500 → ∀ x, b[m]? = some x → okIn x

def HeavyPost (bs : List (List Ir.In)) (w : World) (e : Ending) (w' : World) : Prop := ∃ h : Bool, e = .returned (.bool h) ∧ w = w' ∧ (h = false → Light bs)

theorem light_of {bs : List (List Ir.In)} (hl : bs.length ≤ 100) (hm : msum bs ≤ 500) (hs : ∀ (j : Nat) (b : List Ir.In), bs[j]? = some b → seen b 501) : Light bs := by
  obtain ⟨h1, h2⟩ := msum_small bs hm
  refine ⟨hl, by omega, fun b hb x hx => ?_⟩
  obtain ⟨j, hj, rfl⟩ := List.mem_iff_getElem.1 hb
  obtain ⟨k, hk, rfl⟩ := List.mem_iff_getElem.1 hx
  have := h2 _ hb
  exact hs j _ (List.getElem?_eq_getElem hj) k (by omega) (by omega) _ (List.getElem?_eq_getElem hk)

set_option maxRecDepth 20000 in
set_option maxHeartbeats 1600000 in
theorem heavy_any (v : Value) (bs : List (List Ir.In)) (w : World) (hv : Blks w v bs) : Calls Tryd.prog 7 #[v] w (HeavyPost bs w) := by
  obtain ⟨A, cap, rfl⟩ := hv.form
  have HV := Lib.hid hv
  clear hv
  by_cases hbig : 100 < bs.length
  · have hb1 : (100 : Int) < (bs.length : Int) := by omega
    clear hbig
    go_enter Tryd.func7, Tryd.ntmps7
    go_wp2_with fail
    go_ret
    exact ⟨true, rfl, rfl, fun h => by cases h⟩
  · have hb1 : (bs.length : Int) ≤ 100 := by omega
    have HB := Lib.hid (show bs.length ≤ 100 by omega)
    clear hbig
    go_enter Tryd.func7, Tryd.ntmps7
    go_wp2_with fail
    go_loop [3, 4] (fun n i => ∃ k : Nat, k ≤ bs.length ∧ msum (bs.take k) ≤ 1049076 ∧ i = .int .i64 (k : Int) ∧ n = .int .i64 ((msum (bs.take k) : Nat) : Int) ∧ ∀ j b, j < k → bs[j]? = some b → seen b 501) (fun _ i => bs.length - (intOf i).toNat)
    case atStart => exact ⟨0, Nat.zero_le _, by simp [msum], rfl, rfl, fun j b h => absurd h (Nat.not_lt_zero _)⟩
    case round =>
      obtain ⟨k, hk, hsz, rfl, rfl, hall⟩ := hrel
      have HA := Lib.hid hall
      clear hall
      obtain ⟨n0, hn0⟩ : ∃ n0, n0 = msum (bs.take k) := ⟨_, rfl⟩
      rw [← hn0] at hsz ⊢
      have HN := Lib.hid hn0
      clear hn0
      by_cases hn : n0 ≤ 500
      · have hni : (n0 : Int) ≤ 500 := by omega
        by_cases hlt : k < bs.length
        · have hki : (k : Int) < (bs.length : Int) := by omega
          obtain ⟨b, hb⟩ : ∃ b, bs[k]? = some b := ⟨_, List.getElem?_eq_getElem hlt⟩
          obtain ⟨bl, off, B, cbp, rfl, l1, c1, hI⟩ := HV.out.at hb
          have HI := Lib.hid hI
          have HU := Lib.hid (msum_up hb)
          have HBK := Lib.hid hb
          clear hI hb
          go_wp2_with fail
          all_goals
            go_loop [5] (fun m => ∃ k2 : Nat, k2 ≤ 501 ∧ m = .int .i64 (k2 : Int) ∧ seen b k2) (fun m => 501 - (intOf m).toNat)
            case atStart => exact ⟨0, Nat.zero_le _, rfl, fun m h => absurd h (Nat.not_lt_zero _)⟩
            case round =>
              obtain ⟨k2, hk2, rfl, hs2⟩ := hrel
              have HS := Lib.hid hs2
              clear hs2
              by_cases hlt2 : k2 < b.length
              · have hki2 : (k2 : Int) < (b.length : Int) := by omega
                by_cases h500 : k2 ≤ 500
                · have h5i : (k2 : Int) ≤ 500 := by omega
                  obtain ⟨x, hx⟩ : ∃ x, b[k2]? = some x := ⟨_, List.getElem?_eq_getElem hlt2⟩
                  obtain ⟨bl2, off2, B2, cbp2, rfl, l2, ⟨-, -, -, -, c4, c5⟩, -⟩ := HI.out.at hx
                  have HX := Lib.hid hx
                  clear hx
                  by_cases hok : okIn x
                  · have HOK := Lib.hid hok
                    have o1 : (x.args.length : Int) ≤ 100 := by have := hok.1; omega
                    have o2 : (x.name.size : Int) ≤ 1024 := by have := hok.2; omega
                    clear hok
                    go_wp2_with fail
                    go_round
                    case rel => exact ⟨k2 + 1, by omega, by go_num, fun m hm hm5 y hy => by
                      rcases Nat.lt_succ_iff_lt_or_eq.1 hm with h | rfl
                      · exact HS.out m h hm5 y hy
                      · rw [HX.out] at hy
                        injection hy with hy
                        subst hy
                        exact HOK.out⟩
                    case measure => simp [intOf]; omega
                  · have hcase : 100 < (x.args.length : Int) ∨ ((x.args.length : Int) ≤ 100 ∧ 1024 < (x.name.size : Int)) := by
                      unfold okIn at hok
                      omega
                    clear hok
                    rcases hcase with h | ⟨h, h'⟩
                    all_goals
                      go_wp2_with fail
                      go_ret
                      exact ⟨true, rfl, rfl, fun h => by cases h⟩
                · have h5i : decide ((k2 : Int) ≤ 500) = false := decide_eq_false (by omega)
                  have HS9 := Lib.hid (show seen b 501 from fun m hm h5 y hy => HS.out m (by omega) h5 y hy)
                  go_wp2_with fail
                  go_round
                  case rel => exact ⟨k + 1, by omega, by have := HU.out; have := HN.out; omega, by go_num, congrArg (Value.int .i64) (by have := HU.out; have := HN.out; omega), fun j c hj hc => by
                    rcases Nat.lt_succ_iff_lt_or_eq.1 hj with h | rfl
                    · exact HA.out j c h hc
                    · rw [HBK.out] at hc
                      injection hc with hc
                      subst hc
                      exact HS9.out⟩
                  case measure => simp [intOf]; omega
              · have HS9 := Lib.hid (show seen b 501 from fun m hm h5 y hy => HS.out m (by have := (List.getElem?_eq_some_iff.1 hy).1; omega) h5 y hy)
                go_wp2_with fail
                go_round
                case rel => exact ⟨k + 1, by omega, by have := HU.out; have := HN.out; omega, by go_num, congrArg (Value.int .i64) (by have := HU.out; have := HN.out; omega), fun j c hj hc => by
                  rcases Nat.lt_succ_iff_lt_or_eq.1 hj with h | rfl
                  · exact HA.out j c h hc
                  · rw [HBK.out] at hc
                    injection hc with hc
                    subst hc
                    exact HS9.out⟩
                case measure => simp [intOf]; omega
        · have HL := Lib.hid (show Light bs from light_of HB.out (by have := HN.out; rw [List.take_of_length_le (by omega)] at this; omega) (fun j b hb => HA.out j b (by have := (List.getElem?_eq_some_iff.1 hb).1; omega) hb))
          go_wp2_with fail
          go_ret
          exact ⟨false, by first | rfl | exact congrArg (fun z => Ending.returned (Value.bool z)) (decide_eq_false (by omega)), rfl, fun _ => HL.out⟩
      · have hni : (500 : Int) < (n0 : Int) := by omega
        by_cases hlt : k < bs.length
        all_goals
          go_wp2_with fail
          go_ret
          exact ⟨true, rfl, rfl, fun h => by cases h⟩
end Go.Proofs.YtkkbmfgkapdndaaDoor
