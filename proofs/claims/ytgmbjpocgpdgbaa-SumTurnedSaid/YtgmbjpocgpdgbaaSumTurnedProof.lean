/- SumTurned is true of every input: of three texts of one length, mixed byte by byte, the check sum is that of the three mixed; and each is the document's. Conditions: none (texts of unlike lengths, or above the statement's own bound, are answered by its first line). -/
import Derived.Test.YtgmbjpocgpdgbaaRows
import Derived.Test.YtgmbjpocgpdgbaaCalls
import Derived.WalkKit
import Derived.ProofKit
import Derived.OpenShut
import Derived.ShutString
import Derived.Lib.SlBytesRow
import Derived.RegionTactic
import Derived.Below
import Derived.Deep.RegionLaw
import Derived.Deep.AppendLies
namespace Go.Proofs.Ytgmbjpocgpdgbaa.sumTurned
open Go.ChangeShapes Go.WideShapes Go.ChangeAt Go.RowKit
open Go.ChangeMaps (open_string shut_string)
set_option linter.unusedVariables false      -- a walk need not use every 'w<i>' (that an integer argument fits its kind)

theorem own : ownKnob Try.prog.godebug = none := by kernel_rfl

def Cells (l : List UInt8) : List Value := l.map fun b => Value.int .u8 (b.toNat : Int)

theorem own_empty (w : World) : (w.alloc (.cells #[] 5)).ownsRow w.heap.size 5 1 (.slice (some ⟨w.heap.size, 0, none⟩) 0 0) 0 [] :=
  ⟨rfl, .inr ⟨w.heap.size, 0, #[], rfl, Nat.le_refl _, heap_alloc_new w _, Nat.le_refl _, Nat.zero_le _, rfl, rfl⟩⟩

theorem info5 : (Try.prog.info? 5).map (fun i => (i.zero, i.size, i.bytes)) = some (some (.int .u8 0), 1, 1) := by kernel_rfl

theorem mixed_byte (a b c : UInt8) : bits .xor .u8 (bits .xor .u8 (a.toNat : Int) (b.toNat : Int)) (c.toNat : Int) = ((a ^^^ b ^^^ c).toNat : Int) := by
  have ha := Plain.byte_lt a; have hb := Plain.byte_lt b; have hc := Plain.byte_lt c
  have hab : a.toNat ^^^ b.toNat < 256 := by
    have h := Plain.byte_lt (a ^^^ b)
    rwa [UInt8.toNat_xor] at h
  rw [u8_xor_nat _ _ ha hb, u8_xor_nat _ _ hab hc, UInt8.toNat_xor, UInt8.toNat_xor]

theorem mixed_take (s : List UInt8) : ∀ (t u : List UInt8) (k : Nat) (a b c : UInt8), s[k]? = some a → t[k]? = some b → u[k]? = some c →
    (Plain.mixed s t u).take (k + 1) = (Plain.mixed s t u).take k ++ [a ^^^ b ^^^ c] := by
  induction s with
  | nil => intro t u k a b c h; simp at h
  | cons x s ih =>
    intro t u k a b c ha hb hc
    cases t with
    | nil => simp at hb
    | cons y t =>
      cases u with
      | nil => simp at hc
      | cons z u =>
        cases k with
        | zero => simp at ha hb hc; subst ha hb hc; simp [Plain.mixed]
        | succ k =>
          simp only [Plain.mixed, List.take_succ_cons, List.cons_append]
          rw [ih t u k a b c (by simpa using ha) (by simpa using hb) (by simpa using hc)]

theorem mixed_length (s : List UInt8) : ∀ (t u : List UInt8), s.length ≤ t.length → s.length ≤ u.length → (Plain.mixed s t u).length = s.length := by
  induction s with
  | nil => intro t u _ _; simp [Plain.mixed]
  | cons x s ih =>
    intro t u ht hu
    cases t with
    | nil => simp at ht
    | cons y t =>
      cases u with
      | nil => simp at hu
      | cons z u => simp only [Plain.mixed, List.length_cons]; rw [ih t u (by simpa using ht) (by simpa using hu)]

theorem byte_at (s : ByteArray) (k : Nat) (h : k < s.size) : s.data.toList[k]? = some s[k] := by
  rw [List.getElem?_eq_getElem (by simpa using h)]; rfl

theorem cells_up (s t u : ByteArray) (k : Nat) (x : UInt8) (h1 : k < s.size) (h2 : k < t.size) (h3 : k < u.size) (hx : s[k] ^^^ t[k] ^^^ u[k] = x) :
    Cells ((Plain.mixed s.data.toList t.data.toList u.data.toList).take k) ++ [.int .u8 (x.toNat : Int)] = Cells ((Plain.mixed s.data.toList t.data.toList u.data.toList).take (k + 1)) := by
  rw [mixed_take _ _ _ k _ _ _ (byte_at s k h1) (byte_at t k h2) (byte_at u k h3), hx]
  simp [Cells]

theorem cell_new (w : World) (x : Value) (t : TypeId) : ∀ j u, [x][j]? = some u → (w.alloc (.cells #[x] t)).drew.cell? ((⟨w.heap.size, 0, none⟩ : Addr).add j) = some u :=
  fun j u h => cell_one_new w x t j u h

theorem back (w : World) (base g n cap : Nat) (l : List UInt8) (hl : l.length = n) (h : w.ownsRow base 5 1 (.slice (some ⟨g, 0, none⟩) n cap) n (Cells l)) :
    (convert 26 9 (.slice (some ⟨g, 0, none⟩) n cap)).run Try.prog w = .ok (.string ⟨l.toArray⟩) w := by
  subst hl
  exact run_convert_bytes_back (P := Try.prog) w 26 9 5 ⟨g, 0, none⟩ cap l Try.underlying26 Try.underlying5 Try.underlying9 (fun j hj => h.cells (g := g) rfl j _ (by simp [Cells, List.getElem?_eq_getElem hj]))

theorem mixed_crc (s t u : ByteArray) (ht : s.size = t.size) (hu : s.size = u.size) :
    ((Plain.crc (Plain.mixed s.data.toList t.data.toList u.data.toList) : Nat) : Int) = bits .xor .u32 (bits .xor .u32 ((Plain.crc s.data.toList : Nat) : Int) ((Plain.crc t.data.toList : Nat) : Int)) ((Plain.crc u.data.toList : Nat) : Int) := by
  rw [Plain.crc_mixed _ _ _ (by simpa using ht) (by simpa using hu)]
  have h1 := Plain.crc_lt s.data.toList; have h2 := Plain.crc_lt t.data.toList; have h3 := Plain.crc_lt u.data.toList
  rw [u32_xor_nat _ _ h1 h2, u32_xor_nat _ _ (Plain.xor_lt32 _ _ h1 h2) h3]

theorem one_cell (x : UInt8) : ∀ u ∈ [Value.int .u8 (x.toNat : Int)], u.oneCell' = true := by
  intro u hu; simp at hu; subst hu; rfl
theorem room_max (k n : Nat) (h : k < n) (hn : (n : Int) ≤ 1024) : k + 1 ≤ maxLen := by unfold maxLen; omega
theorem room_bytes (k n : Nat) (h : k < n) (hn : (n : Int) ≤ 1024) : (k + 1) * 1 ≤ 140737488355328 := by omega
theorem base_le {B : Nat} {w wr : World} (h : Below B w wr) (hB : B ≤ w.heap.size) (o : Obj) : B ≤ (wr.alloc o).drew.heap.size := by
  have h1 := h.size
  show B ≤ (wr.heap.push o).size
  rw [Array.size_push]; omega
theorem below_up {B : Nat} {w wr w1 : World} {row : Option Nat} (h : Below B w wr) (hB : B ≤ w.heap.size) (o : Obj) (hg : (wr.alloc o).drew.grownBy w1 row) (hr : ∀ k, row = some k → B ≤ k) : Below B w w1 :=
  ((h.alloc (Nat.le_trans hB h.size) o).drew).grown hg (base_le h hB o) hr

theorem list_size (l : List UInt8) (h : l.length ≤ 1024) : (⟨l.toArray⟩ : ByteArray).size ≤ maxLen := by
  have e : (⟨l.toArray⟩ : ByteArray).size = l.length := by simp [ByteArray.size]
  rw [e]; unfold maxLen; omega

theorem abc_size : (⟨#[97, 98, 99]⟩ : ByteArray).size ≤ maxLen := list_size [97, 98, 99] (by simp)

set_option maxHeartbeats 400000 in
theorem same_length (s t u : ByteArray) (w : World) (w0 : s.size ≤ maxLen) (w1 : t.size ≤ maxLen) (w2 : u.size ≤ maxLen) (hs : (s.size : Int) ≤ 1024) (ht : s.size = t.size) (hu : s.size = u.size) :
    Calls Try.prog 4 #[.string s, .string t, .string u] w fun e w' => e = .returned (.bool true) ∧ Below w.heap.size w w' := by
  have nt : ((s.size : Int) != (t.size : Int)) = false := by rw [ht]; exact bne_self_eq_false _
  have nu : ((s.size : Int) != (u.size : Int)) = false := by rw [hu]; exact bne_self_eq_false _
  have hq := mixed_crc s t u ht hu
  have H := Lib.hid hq; clear hq
  have hlen := mixed_length s.data.toList t.data.toList u.data.toList (by simp; omega) (by simp; omega)
  have hlen' : (Plain.mixed s.data.toList t.data.toList u.data.toList).length = s.size := by simpa using hlen
  have HL := Lib.hid hlen'; clear hlen hlen'
  have ht1 : s.size ≤ t.size := by omega
  have hu1 : s.size ≤ u.size := by omega
  clear ht hu
  obtain ⟨i0, hi, hz0, hz1, hz2⟩ := info_parts info5
  go_enter Try.func4, Try.ntmps4
  go_wp2_with fail
  go_loopw [7, 8] (fun v i wr => ∃ k : Nat, k ≤ s.size ∧ i = .int .i64 k ∧ wr.ownsRow w.heap.size 5 1 v k (Cells ((Plain.mixed s.data.toList t.data.toList u.data.toList).take k)) ∧ Below w.heap.size w wr ∧ ∃ g cap, v = .slice (some ⟨g, 0, none⟩) k cap) (fun _ i _ => s.size - (intOf i).toNat)
  case atStart => exact ⟨0, Nat.zero_le _, rfl, own_empty w, (Below.refl _ _).alloc (Nat.le_refl _) _, _, _, rfl⟩
  case round =>
    obtain ⟨k, hk, rfl, hown, hbel, g, cap, rfl⟩ := hrel
    by_cases hlt : k < s.size
    · have hlt2 : k < t.size := by omega
      have hlt3 : k < u.size := by omega
      have hx := mixed_byte s[k] t[k] u[k]
      have hup := cells_up s t u k _ hlt hlt2 hlt3 rfl
      generalize (s[k] ^^^ t[k] ^^^ u[k]) = x at hx hup
      have HU := Lib.hid hup; clear hup
      go_wp2_with fail
      go_region_law (refine step_append_lies _ rfl (.tmp 36) (.tmp 48) 26 rfl w.heap.size 5 i0 (.int .u8 0) 1 1 Try.underlying26 hi hz0 hz1 hz2 rfl (by decide) _ k _ rfl (hown.alloc (.cells #[.int .u8 (x.toNat : Int)] 5)).drew ⟨wr.heap.size, 0, none⟩ 1 1 [.int .u8 (x.toNat : Int)] rfl rfl (cell_new wr _ 5) (one_cell x) (by decide) (room_max k _ hlt hs) (room_bytes k _ hlt hs) (base_le hbel (Nat.le_refl _) _) _ rfl ?_; intro g1 cap1 wq hown1 hgrow1 _ _)
      all_goals
        have hown2 := hown1
        rw [HU.out] at hown2
        have hbel2 := below_up hbel (Nat.le_refl _) _ hgrow1 (fun j hj => (hown.lt j hj).1)
        clear hgrow1 hown1 hx hown hbel
        go_wp2_with fail
        go_roundw
        case rel => exact ⟨k + 1, by omega, by go_num, hown2, hbel2, g1, cap1, rfl⟩
        case measure => simp [intOf]; omega
    · obtain rfl : k = s.size := by omega
      have hall : (Plain.mixed s.data.toList t.data.toList u.data.toList).take s.size = Plain.mixed s.data.toList t.data.toList u.data.toList := List.take_of_length_le (Nat.le_of_eq HL.out)
      rw [hall] at hown
      clear hall
      have hback := back wr w.heap.size g s.size cap _ HL.out hown
      have hz : (⟨(Plain.mixed s.data.toList t.data.toList u.data.toList).toArray⟩ : ByteArray).size ≤ maxLen := list_size _ (by rw [HL.out]; omega)
      clear hown
      generalize Plain.mixed s.data.toList t.data.toList u.data.toList = l at *
      go_wp2_with (first | (go_at_call 12; refine (f12 _ _ (by assumption)).mono ?_; rintro e w' ⟨rfl, rfl⟩) | (go_at_call 13; refine (f13 _ _ (by assumption)).mono ?_; rintro e w' ⟨rfl, rfl⟩))
      go_ret
      exact ⟨by simp, hbel⟩

/-! ### STEP 1: THE WALK -/
theorem walk (a0 : ByteArray) (a1 : ByteArray) (a2 : ByteArray) (w0 : a0.size ≤ maxLen) (w1 : a1.size ≤ maxLen) (w2 : a2.size ≤ maxLen) (w : World) :
    Calls Try.prog 4 #[.string a0, .string a1, .string a2] w fun e w' => e = .returned (.bool true) ∧ Below w.heap.size w w' := by
  have e0 := abc_size
  by_cases hs : (a0.size : Int) ≤ 1024
  · by_cases ht : a0.size = a1.size
    · by_cases hu : a0.size = a2.size
      · exact same_length a0 a1 a2 w w0 w1 w2 hs ht hu
      · have nt : ((a0.size : Int) != (a1.size : Int)) = false := by rw [ht]; exact bne_self_eq_false _
        have nu : ((a0.size : Int) != (a2.size : Int)) = true := by rw [bne_iff_ne]; omega
        clear ht hu
        go_enter Try.func4, Try.ntmps4
        go_wp2_with (first | (go_at_call 12; refine (f12 _ _ (by assumption)).mono ?_; rintro e w' ⟨rfl, rfl⟩) | (go_at_call 13; refine (f13 _ _ (by assumption)).mono ?_; rintro e w' ⟨rfl, rfl⟩))
        go_ret
        exact ⟨by simp, Below.refl _ _⟩
    · have nt : ((a0.size : Int) != (a1.size : Int)) = true := by rw [bne_iff_ne]; omega
      clear ht
      go_enter Try.func4, Try.ntmps4
      go_wp2_with (first | (go_at_call 12; refine (f12 _ _ (by assumption)).mono ?_; rintro e w' ⟨rfl, rfl⟩) | (go_at_call 13; refine (f13 _ _ (by assumption)).mono ?_; rintro e w' ⟨rfl, rfl⟩))
      go_ret
      exact ⟨by simp, Below.refl _ _⟩
  · have hs1 : (1024 : Int) < (a0.size : Int) := by omega
    clear hs
    go_enter Try.func4, Try.ntmps4
    go_wp2_with (first | (go_at_call 12; refine (f12 _ _ (by assumption)).mono ?_; rintro e w' ⟨rfl, rfl⟩) | (go_at_call 13; refine (f13 _ _ (by assumption)).mono ?_; rintro e w' ⟨rfl, rfl⟩))
    go_ret
    exact ⟨by simp, Below.refl _ _⟩

/-! ### THE ROW's STEP: WRITTEN OUT: LEAVE IT -/
set_option maxRecDepth 100000 in
theorem lifted (os : Os) (started : os.Started) (H : Type) (enc : TypeId × Value → H) :
    ReturnsInHanded {} Try.checked os 4 .any (Rows.sumTurnedSpec.pre6 enc Try.prog Try.f4 Rows.sumTurnedRow.domain false) (Rows.sumTurnedSpec.post enc Try.prog Try.f4 false true false false) := by
  refine returnsInHanded_of_change (C := Try.checked) own started (by kernel_rfl) Try.func4
    (ChangeSpec.witness6 (enc := enc) (C := Try.checked) false ⟨#[], #[.string ByteArray.empty, .string ByteArray.empty, .string ByteArray.empty], []⟩ 8 (by kernel_rfl) (by kernel_rfl) (by kernel_rfl) (by kernel_rfl)) ?_
  intro W base args ds gs before hval0 hW hcnd _
  have hval : ∀ (j : Nat) t v, Try.f4.params[j]? = some t → args[j]? = some v → Value.okWide Try.prog W .any base t v := hval0
  have hW' := hW
  obtain ⟨p, q, hA0, hV, rfl, hfz, hnd⟩ := hW
  have hA : DataW.TrodAll enc Try.prog W 0 (fun _ => true) true Try.f4.params.toList args.toList ds p := hA0
  rw [Try.params4] at hA hval
  obtain ⟨v0, vs0, d0, ds0, p0, q0, hargs, rfl, rfl, h0, r0⟩ := trodAll_cons hA
  obtain ⟨v1, vs1, d1, ds1, p1, q1, rfl, rfl, rfl, h1, r1⟩ := trodAll_cons r0
  obtain ⟨v2, vs2, d2, ds2, p2, q2, rfl, rfl, rfl, h2, r2⟩ := trodAll_cons r1
  obtain ⟨rfl, rfl, rfl⟩ := trodAll_nil r2
  obtain rfl : args = #[v0, v1, v2] := by cases args; simp_all
  obtain ⟨rfl, rfl⟩ := trodVars_none hV
  obtain ⟨a0, rfl, rfl, rfl, w0⟩ := open_string Try.underlying9 (hval 0 9 v0 rfl rfl) h0
  obtain ⟨a1, rfl, rfl, rfl, w1⟩ := open_string Try.underlying9 (hval 1 9 v1 rfl rfl) h1
  obtain ⟨a2, rfl, rfl, rfl, w2⟩ := open_string Try.underlying9 (hval 2 9 v2 rfl rfl) h2
  clear hA0 hval0
  simp only [List.append_nil] at hW'
  refine (walk a0 a1 a2 w0 w1 w2 W).mono fun e W' ⟨he, bel⟩ => ?_
  subst he
  exact ⟨_, rfl, _, _, _, [], _, [], hW', trodAll_mk1 (shut_bool Try.underlying4 _), (trodAll_cons_mk (shut_string Try.underlying9 w0) (trodAll_cons_mk (shut_string Try.underlying9 w1) (trodAll_cons_mk (shut_string Try.underlying9 w2) trodAll_mk0))), rfl, bel.frame _, fun h => by cases h⟩

theorem over : Rows.sumTurnedRow.holds Try.pinned (OpenSpec.ofChange Rows.sumTurnedSpec) :=
  OpenClaim.holds_of_wide 4 Try.f4 rfl rfl rfl rfl rfl rfl rfl ⟨rfl, rfl, rfl, rfl, rfl⟩ rfl rfl rfl rfl rfl (by kernel_rfl) Try.func4 (by kernel_rfl)
    (of_decide_eq_true (by kernel_rfl)) (by unfold Func.isWrapper; first | (rw [if_pos (by decide +kernel)]; kernel_rfl) | (rw [if_neg (by decide +kernel)]; exact ⟨rfl, rfl⟩))
    (fun os started H enc _ => lifted os started H enc)

/--  THE STATEMENT  -/
theorem proved : Rows.SumTurnedSaid :=
  over
#print axioms proved
end Go.Proofs.Ytgmbjpocgpdgbaa.sumTurned
