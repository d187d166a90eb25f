/- The walk of DiskEither: true of any texts. -/
import Derived.Test.YtfflopmbbmpeoaaDiskEitherPlain
import Derived.Test.YtfflopmbbmpeoaaDiskTwo
import Derived.LoopTactic
import Derived.Outline
import Derived.Deep.Slices
import Derived.Deep.Strs
namespace Go.Proofs.Ytfflopmbbmpeoaa
open Go.ChangeShapes Go.WideShapes Go.RowKit Go.Deep

/-- The slice at A reads as l, and lies below block B. -/
def Texts (w : World) (B : Nat) (A : Option Addr) (l : List ByteArray) : Prop :=
  ∀ i s, l[i]? = some s → ∃ b off, A = some ⟨b, off, none⟩ ∧ b < B ∧ w.cell? ⟨b, off + i, none⟩ = some (.string s)

theorem Texts.below {w w' : World} {B : Nat} {A : Option Addr} {l : List ByteArray} (h : Texts w B A l) (hb : Below B w w') : Texts w' B A l := by
  intro i s hi
  obtain ⟨b, off, hA, hlt, h0⟩ := h i s hi
  exact ⟨b, off, hA, hlt, (hb.cell (p := ⟨b, _, none⟩) hlt).trans h0⟩
theorem Texts.at {w0 : World} {l : List ByteArray} {bl off k : Nat} {s : ByteArray} (h : Texts w0 w0.heap.size (some ⟨bl, off, none⟩) l) (hit : l[k]? = some s) (W : World) (hb : Below w0.heap.size w0 W) :
    W.cell? ⟨bl, off + k, none⟩ = some (.string s) := by
  obtain ⟨b', off', e, hlt, c⟩ := (h.below hb) k s hit
  injection e with e
  injection e with e1 e2
  subst e1 e2
  exact c

theorem text_cells : Try.prog.cellsOf 9 = 1 := by kernel_rfl

theorem open_texts {H : Type} {enc : TypeId × Value → H} {w : World} {a0 : Option Addr} {len cap B : Nat} {d : DataW H} {ps : List MemPlace}
    (h : DataW.Trod enc Try.prog w 0 (fun _ => true) true 40 (.slice a0 len cap) d ps) (hlt : ∀ y ∈ ps, y.block < B) : ∃ l : List ByteArray, l.length = len ∧ Texts w B a0 l := by
  obtain ⟨fuel, hf⟩ := h
  rcases open_slice Try.underlying40 hf with ⟨hcs, _⟩ | ⟨a, len', cap', m, n, D, Pl, hcs, _, hl, _, hm, hx, hi⟩
  · simp [Value.cells] at hcs
    obtain ⟨rfl, rfl, rfl⟩ := hcs
    exact ⟨[], rfl, fun i it hi => by simp at hi⟩
  · simp [Value.cells] at hcs
    obtain ⟨rfl, rfl, rfl⟩ := hcs
    simp only [if_true] at hm
    subst hm
    simp only [Prod.mk.injEq] at hx
    obtain ⟨_, rfl⟩ := hx
    rw [text_cells] at hi hlt
    obtain ⟨f, hf'⟩ := choose_lt (α := ByteArray) (n := len) (p := fun i s => w.cell? (a.add i) = some (.string s)) (fun i hlen => by
      obtain ⟨cs', h1, h2⟩ := hi i (by omega)
      obtain ⟨s, rfl, _⟩ := DataW.trod_string Try.underlying9 h2
      obtain ⟨_, _, hat⟩ := World.cells?_some h1
      have := hat 0 (by decide)
      rw [Go.Deep.add_add] at this
      exact ⟨s, by simpa using this⟩)
    refine ⟨(List.range len).map f, by simp, fun i s hit => ?_⟩
    obtain ⟨hlen, rfl⟩ : ∃ h : i < len, f i = s := by
      have h1 := (List.getElem?_eq_some_iff.1 hit).1
      simp only [List.length_map, List.length_range] at h1
      refine ⟨h1, ?_⟩
      simpa [h1] using hit
    obtain ⟨b, off, spot⟩ := a
    have hspot : spot = none := by
      have := hf' 0 (by omega)
      simpa [Addr.add] using World.cell?_spot this
    subst hspot
    have hb : b < B := hlt (.cell b off) (List.mem_append_left _ (MemPlace.mem_row.2 ⟨0, by omega, by simp⟩))
    have c0 := hf' i hlen
    simp only [Addr.add_lit] at c0
    exact ⟨b, off, rfl, hb, c0⟩

/-- What is too much. -/
def tweight (l : List ByteArray) : Nat := (l.map fun s => min s.size 1048576).sum
theorem tweight_append (a b : List ByteArray) : tweight (a ++ b) = tweight a + tweight b := by simp [tweight]
theorem take_text {α : Type} {l : List α} {k : Nat} {x : α} (h : l[k]? = some x) : l.take (k + 1) = l.take k ++ [x] := by
  obtain ⟨hk, rfl⟩ := List.getElem?_eq_some_iff.1 h
  exact List.take_succ_eq_append_getElem hk
theorem tweight_up {l : List ByteArray} {k : Nat} {x : ByteArray} (h : l[k]? = some x) : tweight (l.take (k + 1)) = tweight (l.take k) + min x.size 1048576 := by
  rw [take_text h, tweight_append]
  simp [tweight]
theorem tweight_take_le (l : List ByteArray) (k : Nat) : tweight (l.take k) ≤ k * 1048576 := by
  induction k with
  | zero => simp [tweight]
  | succ k ih =>
    cases h : l[k]? with
    | none =>
      rw [List.take_of_length_le (by have := List.getElem?_eq_none_iff.1 h; omega)]
      rw [List.take_of_length_le (by have := List.getElem?_eq_none_iff.1 h; omega)] at ih
      exact Nat.le_trans ih (Nat.mul_le_mul_right _ (Nat.le_succ k))
    | some x =>
      rw [tweight_up h, Nat.add_mul, Nat.one_mul]
      exact Nat.add_le_add ih (Nat.min_le_right _ _)
theorem bit_test {keep c : Nat} {b : Bool} (h : Dk.bit keep c = b) : (((keep : Int) / 2 ^ (c % 64)).tmod 2 == 1) = b := by
  have e : ((keep : Int) / 2 ^ (c % 64)) = ((keep / 2 ^ (c % 64) : Nat) : Int) := by simp
  rw [e, Int.tmod_eq_emod_of_nonneg (Int.natCast_nonneg _), ← h]
  unfold Dk.bit
  generalize keep / 2 ^ (c % 64) = x
  by_cases hx : x % 2 = 1
  · rw [decide_eq_true hx]; simp; omega
  · rw [decide_eq_false hx]; simp; omega

/-- What the loop of writing knows. -/
def EitherLoop (w0 : World) (gd : Nat) (t : Nat → ByteArray) (n : Nat) (v : Value) (wr : World) : Prop :=
  ∃ i : Nat, i ≤ n ∧ v = .int .i64 (i : Int) ∧ One w0 gd (Dk.ts t i) wr

set_option maxRecDepth 100000 in
set_option maxHeartbeats 1600000 in
theorem either_walk (A : Option Addr) (cap : Nat) (l : List ByteArray) (keep : Nat) (w : World) (h : Texts w w.heap.size A l) (hk : keep < 18446744073709551616) :
    Calls Try.prog 7 #[.slice A l.length cap, .int .u64 (keep : Int)] w fun e w' => e = .returned (.bool true) ∧ Below w.heap.size w w' := by
  have HI := Lib.hid h; clear h
  have HN := Lib.hid (one_new w)
  go_enter Try.func7, Try.ntmps7
  go_wp2_with fail
  go_loop [5, 6] (fun n i => ∃ k : Nat, k ≤ l.length ∧ i = .int .i64 (k : Int) ∧ n = .int .i64 ((l.length + tweight (l.take k) : Nat) : Int)) (fun _ i => l.length - (intOf i).toNat)
  case atStart => exact ⟨0, Nat.zero_le _, rfl, by simp [tweight]⟩
  case round =>
    obtain ⟨k, hk1, rfl, rfl⟩ := hrel
    have hwt := tweight_take_le l k
    by_cases hn : l.length + tweight (l.take k) ≤ 2048
    · by_cases hlt : k < l.length
      · obtain ⟨x, hit⟩ : ∃ x, l[k]? = some x := ⟨_, List.getElem?_eq_getElem hlt⟩
        obtain ⟨bl, off, rfl, hb, c0⟩ := HI.out k _ hit
        have hup := Lib.hid (tweight_up hit)
        clear hit
        go_wp2_with fail
        go_round
        case rel => exact ⟨k + 1, by omega, by go_num, congrArg (Value.int .i64) (by rw [hup.out]; omega)⟩
        case measure => simp [intOf]; omega
      · by_cases h100 : 100 < l.length
        · go_wp2_with fail
          go_ret
          exact ⟨rfl, Below.refl _ _⟩
        · obtain ⟨t, ht⟩ : ∃ t : Nat → ByteArray, ∀ i s, l[i]? = some s → t i = s := ⟨fun i => l[i]?.getD ByteArray.empty, fun i s e => by simp [e]⟩
          have HT := Lib.hid ht
          have hlen : l.length ≤ 100 := by omega
          clear ht
          go_wp2_with fail
          refine HN.out.mono ?_
          rintro e w1 ⟨rfl, h1⟩
          clear hwt hn hk1
          generalize w.heap.size + 1 = gd at *
          clear HN
          go_wp2_with fail
          go_loopw [9] (EitherLoop w gd t l.length) (fun v _ => l.length - (intOf v).toNat)
          case atStart => exact ⟨0, Nat.zero_le _, rfl, h1⟩
          case round =>
            obtain ⟨i, hi, rfl, hO⟩ := hrel
            clear h1
            have hmany : (Dk.ts t i).many ≤ 1073741824 := by have := (Dk.ts_at t i (by omega)).2.2.2.2; omega
            by_cases hlt2 : i < l.length
            · obtain ⟨s, hit⟩ : ∃ s, l[i]? = some s := ⟨_, List.getElem?_eq_getElem hlt2⟩
              obtain ⟨bl, off, rfl, hb, -⟩ := HI.out i s hit
              have SC := Lib.hid (HI.out.at hit)
              have c0 := SC.out wr hO.below
              have hts := HT.out i s hit
              have HS := Dk.ts_says t (show i < 128 by omega)
              have hnx : Dk.ts t (i + 1) = (Dk.ts t i).write (2 * (i : Int)) (t i) := rfl
              rw [hts] at HS hnx
              have HNX := Lib.hid hnx
              clear hit hts hnx
              by_cases hs : s.size ≤ 128
              · have hsd : decide ((s.size : Int) ≤ 128) = true := decide_eq_true (by omega)
                rw [if_pos hs] at HS
                have HE := Lib.hid HS; clear HS
                go_wp2_with fail
                refine (one_write hO (2 * (i : Int)) s hmany).mono ?_
                rintro e w2 ⟨rfl, h2⟩
                rw [HE.out]
                rw [← HNX.out] at h2
                have c1 := SC.out w2 h2.below
                clear hO c0 hmany
                go_wp2_with fail
                go_roundw
                case rel => exact ⟨i + 1, by omega, by go_num, h2⟩
                case measure => simp [intOf]; omega
              · have hsd : decide ((s.size : Int) ≤ 128) = false := decide_eq_false (by omega)
                rw [if_neg hs] at HS
                have HE := Lib.hid HS; clear HS
                go_wp2_with fail
                refine (one_write hO (2 * (i : Int)) s hmany).mono ?_
                rintro e w2 ⟨rfl, h2⟩
                rw [HE.out]
                rw [← HNX.out] at h2
                have c1 := SC.out w2 h2.below
                clear hO c0 hmany
                go_wp2_with fail
                go_roundw
                case rel => exact ⟨i + 1, by omega, by go_num, h2⟩
                case measure => simp [intOf]; omega
            · obtain rfl : i = l.length := by omega
              have hcalm := (Dk.ts_at t l.length (by omega)).1
              have hE := Lib.hid (Dk.cut_barrier hcalm keep).1
              have HEND := Lib.hid (Dk.ts_end t keep hlen)
              have HRD := Lib.hid (fun j (hj : j < l.length) (hs : (t j).size ≤ 128) => Dk.ts_read t keep hlen hj hs)
              have hbm : ((Dk.ts t l.length).back keep).many ≤ 1073741824 := by
                have := Dk.back_many hcalm keep
                have := (Dk.ts_at t l.length (by omega)).2.2.2.2
                omega
              clear hcalm
              generalize hst : Dk.ts t l.length = st at *
              have hmm : (st.cut 1 keep).many ≤ 1073741824 := hmany
              clear hst hmany
              go_wp2_with fail
              refine (one_cut hO 1 keep (by decide) hk).mono ?_
              rintro e w2 ⟨rfl, h2⟩
              clear hO
              go_wp2_with fail
              refine (one_barrier h2 hmm).mono ?_
              rintro e w3 ⟨rfl, h3⟩
              rw [hE.out]
              clear h2 hmm hE
              go_wp2_with fail
              refine (one_power h3).mono ?_
              rintro e w4 ⟨rfl, h4⟩
              rw [show (st.cut 1 keep).barrier.power = st.back keep from rfl] at h4
              generalize st.back keep = sd at *
              clear h3
              go_wp2_with fail
              go_loop [8, 11] (fun m v => ∃ j : Nat, j ≤ l.length ∧ v = .int .i64 (j : Int) ∧ m = .int .i64 (Dk.cnt t j : Int)) (fun _ v => l.length - (intOf v).toNat)
              case atStart => exact ⟨0, Nat.zero_le _, rfl, rfl⟩
              case round =>
                obtain ⟨j, hj, rfl, rfl⟩ := hrel
                by_cases hlt3 : j < l.length
                · obtain ⟨s, hit⟩ : ∃ s, l[j]? = some s := ⟨_, List.getElem?_eq_getElem hlt3⟩
                  obtain ⟨bl, off, rfl, hb, -⟩ := HI.out j s hit
                  have c0 := (HI.out.at hit) w4 h4.below
                  have hts := HT.out j s hit
                  have hcle := Dk.cnt_le t j
                  clear hit
                  by_cases hs : s.size ≤ 128
                  · have HR := HRD.out j hlt3 (by rw [hts]; exact hs)
                    have hcu := Lib.hid (Dk.cnt_short (t := t) (i := j) (by rw [hts]; exact hs))
                    rw [hts] at HR
                    have HR2 := Lib.hid HR.2
                    have HR1 := Lib.hid HR.1
                    clear HR hts
                    go_wp2_with fail
                    refine (one_read h4 (2 * (j : Int))).mono ?_
                    rintro e w5 ⟨rfl, rfl⟩
                    rw [HR1.out, HR2.out]
                    cases hbit : Dk.bit keep (Dk.cnt t j) with
                    | true =>
                      rw [if_pos rfl]
                      have hbt := bit_test hbit
                      clear hbit
                      go_wp2_with fail
                      go_round
                      case rel => exact ⟨j + 1, by omega, by go_num, by rw [hcu.out]; go_num⟩
                      case measure => simp [intOf]; omega
                    | false =>
                      rw [if_neg (by decide)]
                      have hbt := bit_test hbit
                      clear hbit
                      go_wp2_with fail
                      go_round
                      case rel => exact ⟨j + 1, by omega, by go_num, by rw [hcu.out]; go_num⟩
                      case measure => simp [intOf]; omega
                  · have hcu := Lib.hid (Dk.cnt_long (t := t) (i := j) (by rw [hts]; exact hs))
                    clear hts
                    go_wp2_with fail
                    go_round
                    case rel => exact ⟨j + 1, by omega, by go_num, by rw [hcu.out]⟩
                    case measure => simp [intOf]; omega
                · go_wp2_with fail
                  refine (one_barrier h4 hbm).mono ?_
                  rintro e w5 ⟨rfl, h5⟩
                  rw [HEND.out]
                  go_wp2_with fail
                  go_ret
                  exact ⟨rfl, h5.below⟩
    · by_cases hlt : k < l.length
      · go_wp2_with fail
        go_ret
        exact ⟨rfl, Below.refl _ _⟩
      · go_wp2_with fail
        go_ret
        exact ⟨rfl, Below.refl _ _⟩

end Go.Proofs.Ytfflopmbbmpeoaa
