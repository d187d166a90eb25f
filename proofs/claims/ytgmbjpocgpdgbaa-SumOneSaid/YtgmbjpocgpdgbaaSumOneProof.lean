/- SumOne is true of every input: a text of which one byte is put anew has another check sum just where the byte is another one, and that sum is the document's. Conditions: none (a text that is empty, or above the statement's own bound, is answered by its first line). -/
import Derived.Test.YtgmbjpocgpdgbaaRows
import Derived.Test.YtgmbjpocgpdgbaaCalls
import Derived.WalkKit
import Derived.ProofKit
import Derived.OpenShut
import Derived.ShutString
import Derived.Lib.SlBytesRow
import Derived.RegionTactic
import Derived.Deep.QuietTactic
import Derived.BigQuiet
namespace Go.Proofs.Ytgmbjpocgpdgbaa.sumOne
open Go.ChangeShapes Go.WideShapes Go.ChangeAt Go.RowKit
open Go.ChangeMaps (open_string shut_string)
set_option linter.unusedVariables false      -- a walk need not use every 'w<i>' (that an integer argument fits its kind)

theorem own : ownKnob Try.prog.godebug = none := by kernel_rfl

theorem one_byte' (b : UInt8) (w : World) : (convert 26 9 (.slice (some ⟨w.heap.size, 0, none⟩) 1 1)).run Try.prog (w.alloc (.cells #[.int .u8 (b.toNat : Int)] 5)).drew = .ok (.string ⟨#[b]⟩) (w.alloc (.cells #[.int .u8 (b.toNat : Int)] 5)).drew :=
  run_convert_bytes_back (P := Try.prog) _ 26 9 5 ⟨w.heap.size, 0, none⟩ 1 [b] Try.underlying26 Try.underlying5 Try.underlying9 (fun j hj => by
    obtain rfl : j = 0 := by simpa using hj
    simp [Addr.add])
theorem byte_of (n : Int) (h : 0 ≤ n ∧ n ≤ 255) : ∃ b : UInt8, n = (b.toNat : Int) :=
  ⟨UInt8.ofNat n.toNat, by simp; omega⟩
theorem f12q (s : ByteArray) (w : World) (hs : s.size ≤ maxLen) :
    Calls Try.prog 12 #[.string s] w fun e w' => e = .returned (.int .u32 (Plain.crc s.data.toList : Nat)) ∧ w' = w := (f12 s w hs).mono fun _ _ ⟨h, h'⟩ => ⟨h, h'.symm⟩
theorem f13q (s : ByteArray) (w : World) (hs : s.size ≤ maxLen) :
    Calls Try.prog 13 #[.string s] w fun e w' => e = .returned (.int .u32 (Plain.crc s.data.toList : Nat)) ∧ w' = w := (f13 s w hs).mono fun _ _ ⟨h, h'⟩ => ⟨h, h'.symm⟩

/-- The place that the law reckons out of any number is one of the text's. -/
theorem place_in (n : Nat) (p : Int) (h0 : 0 < n) (hs : n ≤ 1024) : ∃ K : Nat, (wrap64 (p.tmod (n : Int) + (n : Int))).tmod (n : Int) = (K : Int) ∧ K < n := by
  have h1 : -(n : Int) < p.tmod n := by
    have := Int.lt_tmod_of_pos p (b := (n : Int)) (by omega)
    omega
  have h2 : p.tmod (n : Int) < n := Int.tmod_lt_of_pos p (by omega)
  have hw : wrap64 (p.tmod (n : Int) + (n : Int)) = p.tmod (n : Int) + (n : Int) := IntWalk.wrap64_in _ ⟨by omega, by omega⟩
  rw [hw]
  have h3 : 0 ≤ (p.tmod (n : Int) + (n : Int)).tmod n := Int.tmod_nonneg _ (by omega)
  have h4 : (p.tmod (n : Int) + (n : Int)).tmod n < n := Int.tmod_lt_of_pos _ (by omega)
  exact ⟨((p.tmod (n : Int) + (n : Int)).tmod n).toNat, by omega, by omega⟩

theorem parted (s : ByteArray) (K : Nat) (h : K < s.size) : s.data.toList = s.data.toList.take K ++ s[K] :: s.data.toList.drop (K + 1) := by
  have hk : K < s.data.toList.length := by simpa using h
  have e : s.data.toList.drop K = s[K] :: s.data.toList.drop (K + 1) := List.drop_eq_getElem_cons hk
  rw [← e, List.take_append_drop]

theorem turned_list (s : ByteArray) (K : Nat) (b : UInt8) :
    (s.extract 0 K ++ (⟨#[b]⟩ : ByteArray) ++ s.extract (K + 1) s.size).data.toList = s.data.toList.take K ++ b :: s.data.toList.drop (K + 1) := by
  simp [ByteArray.data_append]
  exact List.take_of_length_le (by rw [List.length_drop]; simp)

theorem turned_size (s : ByteArray) (K : Nat) (b : UInt8) (h : K < s.size) : (s.extract 0 K ++ (⟨#[b]⟩ : ByteArray) ++ s.extract (K + 1) s.size).size = s.size := by
  rw [ByteArray.size_append, ByteArray.size_append, ByteArray.size_extract, ByteArray.size_extract]
  show _ + 1 + _ = _
  omega

/-- The sums are alike just where the byte is. -/
theorem alike (s t : ByteArray) (K : Nat) (b : UInt8) (h : K < s.size) (ht : t.data.toList = s.data.toList.take K ++ b :: s.data.toList.drop (K + 1)) :
    ((((Plain.crc s.data.toList : Nat) : Int) == ((Plain.crc t.data.toList : Nat) : Int)) == ((s[K].toNat : Int) == (b.toNat : Int))) = true := by
  have e : (((Plain.crc s.data.toList : Nat) : Int) == ((Plain.crc t.data.toList : Nat) : Int)) = ((s[K].toNat : Int) == (b.toNat : Int)) := by
    rw [Bool.eq_iff_iff, beq_iff_eq, beq_iff_eq]
    constructor
    · intro h1
      have h2 : Plain.crc s.data.toList = Plain.crc t.data.toList := by omega
      rw [ht, parted s K h] at h2
      have h3 : (s.data.toList.take K).length = K := by rw [List.length_take]; have := h; simp; omega
      have h4 : List.take K (s.data.toList.take K ++ s[K] :: s.data.toList.drop (K + 1)) = s.data.toList.take K := by rw [← parted s K h]
      have h5 : List.drop (K + 1) (s.data.toList.take K ++ s[K] :: s.data.toList.drop (K + 1)) = s.data.toList.drop (K + 1) := by rw [← parted s K h]
      rw [h4, h5] at h2
      rw [Plain.crc_one _ _ _ _ h2]
    · intro h1
      have h2 : s[K] = b := UInt8.toNat_inj.1 (by omega)
      have h3 : t.data.toList = s.data.toList := by rw [ht, ← h2, ← parted s K h]
      rw [h3]
  rw [e, beq_self_eq_true]


theorem Grown.drewN {w w2 : World} (h : Grown w w2) (n : Nat) : Grown w (w2.drewN n) := h

theorem small_size (l : List UInt8) (h : l.length ≤ 3) : (⟨l.toArray⟩ : ByteArray).size ≤ maxLen := by
  have e : (⟨l.toArray⟩ : ByteArray).size = l.length := by simp [ByteArray.size]
  rw [e]; unfold maxLen; omega

/-! ### STEP 1: THE WALK: the Go text returns true. 'Grown w w'': the world has at most new blocks (Derived/RowKit3.lean). Part the cases AHEAD of 'go_enter' where a test parts the walk; take each callee by a contract of your own. -/
theorem walk (a0 : ByteArray) (a1 : Int) (a2 : Int) (w0 : a0.size ≤ maxLen) (w1 : (Lit.int .i64 a1).wf = true) (w2 : (Lit.int .u8 a2).wf = true) (w : World) :
    Calls Try.prog 7 #[.string a0, .int .i64 a1, .int .u8 a2] w fun e w' => e = .returned (.bool true) ∧ Grown w w' := by
  obtain ⟨b, rfl⟩ := byte_of a2 (bounds_u8 w2)
  clear w1 w2
  have e0 : (⟨#[]⟩ : ByteArray).size ≤ maxLen := small_size [] (by simp)
  have e1 : (⟨#[97]⟩ : ByteArray).size ≤ maxLen := small_size [97] (by simp)
  by_cases hb : (1024 : Int) < (a0.size : Int)
  · go_enter Try.func7, Try.ntmps7
    go_wp2_with (first | (go_at_call 12; refine (f12 _ _ (by assumption)).mono ?_; rintro e w' ⟨rfl, rfl⟩) | (go_at_call 13; refine (f13 _ _ (by assumption)).mono ?_; rintro e w' ⟨rfl, rfl⟩))
    go_ret
    exact ⟨by simp, Grown.refl _⟩
  · by_cases h0 : a0.size = 0
    · have hn : ((a0.size : Int) == 0) = true := beq_iff_eq.2 (by omega)
      clear h0
      go_enter Try.func7, Try.ntmps7
      go_wp2_with (first | (go_at_call 12; refine (f12 _ _ (by assumption)).mono ?_; rintro e w' ⟨rfl, rfl⟩) | (go_at_call 13; refine (f13 _ _ (by assumption)).mono ?_; rintro e w' ⟨rfl, rfl⟩))
      go_ret
      exact ⟨by simp, Grown.refl _⟩
    · clear e0 e1
      have hs : a0.size ≤ 1024 := by omega
      obtain ⟨K, hk, hlt⟩ := place_in a0.size a1 (by omega) hs
      have HK := Lib.hid hk; clear hk
      have hn : ((a0.size : Int) == 0) = false := beq_eq_false_iff_ne.2 (by omega)
      have hc := one_byte' b
      have hK1 : K ≤ a0.size := by omega
      have hK2 : K + 1 ≤ a0.size := by omega
      clear hb h0
      go_enter Try.func7, Try.ntmps7
      go_wp2_with fail
      rw [HK.out]
      go_region
      have hz1 : (a0.extract 0 K ++ (⟨#[b]⟩ : ByteArray) ++ a0.extract (K + 1) a0.size).size ≤ maxLen := by rw [turned_size a0 K b hlt]; exact w0
      have hl := alike a0 _ K b hlt (turned_list a0 K b)
      generalize (a0.extract 0 K ++ (⟨#[b]⟩ : ByteArray) ++ a0.extract (K + 1) a0.size) = t at *
      clear hc
      go_wp2_with fail
      have hg : Grown w (w.alloc (.cells #[.int .u8 (b.toNat : Int)] 5)).drew := ((Grown.refl _).alloc _ _).drew
      generalize (w.alloc (.cells #[.int .u8 (b.toNat : Int)] 5)).drew = w2 at *
      have HG := Lib.hid hg; clear hg
      go_quiet ((first | (go_at_call 12; exact Calls.quiet_of_same (f12q _ _ (by assumption))) | (go_at_call 13; exact Calls.quiet_of_same (f13q _ _ (by assumption)))))
      go_wp2_with fail
      go_ret
      exact ⟨by simp, Grown.drewN HG.out nq⟩

/-! ### THE ROW's STEP: WRITTEN OUT: LEAVE IT -/
set_option maxRecDepth 100000 in
theorem lifted (os : Os) (started : os.Started) (H : Type) (enc : TypeId × Value → H) :
    ReturnsInHanded {} Try.checked os 7 .any (Rows.sumOneSpec.pre6 enc Try.prog Try.f7 Rows.sumOneRow.domain false) (Rows.sumOneSpec.post enc Try.prog Try.f7 false true false false) := by
  refine returnsInHanded_of_change (C := Try.checked) own started (by kernel_rfl) Try.func7
    (ChangeSpec.witness6 (enc := enc) (C := Try.checked) false ⟨#[], #[.string ByteArray.empty, .int .i64 0, .int .u8 0], []⟩ 8 (by kernel_rfl) (by kernel_rfl) (by kernel_rfl) (by kernel_rfl)) ?_
  intro W base args ds gs before hval0 hW hcnd _
  have hval : ∀ (j : Nat) t v, Try.f7.params[j]? = some t → args[j]? = some v → Value.okWide Try.prog W .any base t v := hval0
  have hW' := hW
  obtain ⟨p, q, hA0, hV, rfl, hfz, hnd⟩ := hW
  have hA : DataW.TrodAll enc Try.prog W 0 (fun _ => true) true Try.f7.params.toList args.toList ds p := hA0
  rw [Try.params7] at hA hval
  obtain ⟨v0, vs0, d0, ds0, p0, q0, hargs, rfl, rfl, h0, r0⟩ := trodAll_cons hA
  obtain ⟨v1, vs1, d1, ds1, p1, q1, rfl, rfl, rfl, h1, r1⟩ := trodAll_cons r0
  obtain ⟨v2, vs2, d2, ds2, p2, q2, rfl, rfl, rfl, h2, r2⟩ := trodAll_cons r1
  obtain ⟨rfl, rfl, rfl⟩ := trodAll_nil r2
  obtain rfl : args = #[v0, v1, v2] := by cases args; simp_all
  obtain ⟨rfl, rfl⟩ := trodVars_none hV
  obtain ⟨a0, rfl, rfl, rfl, w0⟩ := open_string Try.underlying9 (hval 0 9 v0 rfl rfl) h0
  obtain ⟨a1, rfl, rfl, rfl, w1⟩ := open_int Try.underlying3 (hval 1 3 v1 rfl rfl) h1
  obtain ⟨a2, rfl, rfl, rfl, w2⟩ := open_int Try.underlying5 (hval 2 5 v2 rfl rfl) h2
  clear hA0 hval0
  simp only [List.append_nil] at hW'
  refine (walk a0 a1 a2 w0 w1 w2 W).mono fun e W' ⟨he, hg⟩ => ?_
  subst he
  exact ⟨_, rfl, post_of_same (pa := []) (pv := []) hW' (fun _ _ _ => (trodAll_cons_mk (shut_bool Try.underlying4 _) trodAll_mk0)) (fun sp _ => (trodAll_cons_mk (shut_string Try.underlying9 w0) (trodAll_cons_mk (shut_int Try.underlying3 w1) (trodAll_cons_mk (shut_int Try.underlying5 w2) trodAll_mk0)))) (fun _ _ => rfl) rfl
    (hg.frame _) hg.2.1 (ok_one (by kernel_rfl) rfl (okWide_bool_mk Try.underlying4 _))⟩

theorem over : Rows.sumOneRow.holds Try.pinned (OpenSpec.ofChange Rows.sumOneSpec) :=
  OpenClaim.holds_of_wide 7 Try.f7 rfl rfl rfl rfl rfl rfl rfl ⟨rfl, rfl, rfl, rfl, rfl⟩ rfl rfl rfl rfl rfl (by kernel_rfl) Try.func7 (by kernel_rfl)
    (of_decide_eq_true (by kernel_rfl)) (by unfold Func.isWrapper; first | (rw [if_pos (by decide +kernel)]; kernel_rfl) | (rw [if_neg (by decide +kernel)]; exact ⟨rfl, rfl⟩))
    (fun os started H enc _ => lifted os started H enc)

/--  THE STATEMENT  -/
theorem proved : Rows.SumOneSaid :=
  over
#print axioms proved
end Go.Proofs.Ytgmbjpocgpdgbaa.sumOne
