/- The document's line, of a word, a name, numbers. -/
import Derived.Test.YtcoehmmiplffgaaDoorTextRefNums
namespace Go.Proofs.YtcoehmmiplffgaaDoor
open Go.ChangeShapes Go.WideShapes Go.RowKit Go.Deep

/-! ### what it comes to -/
def stepP (named : Bool) (b : Nat) (name : ByteArray) (l : List Int) (j : Nat) : List Tx.Pt := (if named = true ∧ j = b then [.nm name] else []) ++ ((l[j]?).toList.map Tx.Pt.num)
def upP (named : Bool) (b : Nat) (name : ByteArray) (l : List Int) (k : Nat) : List Tx.Pt := (List.range k).flatMap (stepP named b name l)
def ptsOf (named : Bool) (b : Nat) (name : ByteArray) (l : List Int) : List Tx.Pt := if named then (l.take b).map Tx.Pt.num ++ .nm name :: (l.drop b).map Tx.Pt.num else l.map Tx.Pt.num
theorem upP_succ (named : Bool) (b : Nat) (name : ByteArray) (l : List Int) (k : Nat) : upP named b name l (k + 1) = upP named b name l k ++ stepP named b name l k := by
  unfold upP
  rw [List.range_succ, List.flatMap_append]
  simp
theorem take_at {α : Type} (l : List α) (k : Nat) : l.take (k + 1) = l.take k ++ (l[k]?).toList := by
  cases h : l[k]? with
  | none =>
    have := List.getElem?_eq_none_iff.1 h
    rw [List.take_of_length_le (by omega), List.take_of_length_le this]
    simp
  | some x =>
    obtain ⟨h1, rfl⟩ := List.getElem?_eq_some_iff.1 h
    rw [List.take_succ_eq_append_getElem h1]
    rfl
theorem upP_no (b : Nat) (name : ByteArray) (l : List Int) : ∀ k, upP false b name l k = (l.take k).map Tx.Pt.num
  | 0 => by simp [upP]
  | k + 1 => by
    rw [upP_succ, upP_no b name l k, take_at, List.map_append]
    simp [stepP]
theorem upP_yes (b : Nat) (name : ByteArray) (l : List Int) : ∀ k, upP true b name l k = if k ≤ b then (l.take k).map Tx.Pt.num else (l.take b).map Tx.Pt.num ++ .nm name :: ((l.take k).drop b).map Tx.Pt.num
  | 0 => by simp [upP]
  | k + 1 => by
    rw [upP_succ, upP_yes b name l k]
    rcases Nat.lt_trichotomy k b with h | h | h
    · rw [if_pos (by omega), if_pos (by omega), take_at l k, List.map_append]
      unfold stepP
      rw [if_neg (fun h2 => by omega)]
      simp
    · subst h
      rw [if_pos (Nat.le_refl _), if_neg (by omega)]
      unfold stepP
      rw [if_pos ⟨rfl, rfl⟩, take_at l k]
      have e : (l.take k ++ (l[k]?).toList).drop k = (l[k]?).toList := by
        cases h2 : l[k]? with
        | none =>
          rw [Option.toList_none, List.append_nil]
          exact List.drop_of_length_le (by rw [List.length_take]; omega)
        | some x =>
          have h3 := (List.getElem?_eq_some_iff.1 h2).1
          rw [List.drop_append, List.drop_of_length_le (by rw [List.length_take]; omega), List.length_take, Nat.min_eq_left (by omega), Nat.sub_self]
          simp
      rw [e]
      simp
    · rw [if_neg (by omega), if_neg (by omega)]
      unfold stepP
      rw [if_neg (fun h2 => by omega), take_at l k]
      cases h2 : l[k]? with
      | none => simp
      | some x =>
        have h3 := (List.getElem?_eq_some_iff.1 h2).1
        rw [List.drop_append_of_le_length (by rw [List.length_take]; omega)]
        simp
theorem upP_end {named : Bool} {b : Nat} {name : ByteArray} {l : List Int} (hb : b ≤ l.length) : upP named b name l (l.length + 1) = ptsOf named b name l := by
  cases named with
  | false =>
    have e : l.take (l.length + 1) = l := List.take_of_length_le (by omega)
    rw [upP_no, e]
    rfl
  | true =>
    have e : l.take (l.length + 1) = l := List.take_of_length_le (by omega)
    rw [upP_yes, if_neg (by omega), e]
    rfl

/-- What is wrong with a line. -/
def rlE (wd : List UInt8) (named : Bool) (name : ByteArray) (l : List Int) : Int := if wd = [] ∨ (named = true ∧ Ir.nm name = false) then 80 else if l.any (fun n => !Tx.okN n) then 81 else 0
def rlW (wd : List UInt8) (named : Bool) (b : Nat) (name : ByteArray) (l : List Int) : List UInt8 := if rlE wd named name l = 0 then Tx.lineW wd (ptsOf named b name l) else []

theorem catB (a : List UInt8) (s : ByteArray) : Tx.mkB a ++ s = Tx.mkB (a ++ s.data.toList) := by rw [← mkB_append, Tx.mkB_list]
theorem pw_append (a b : List Tx.Pt) : pw (a ++ b) = pw a ++ pw b := by simp [pw]

theorem pw_num_len {l : List Int} (h : ∀ n ∈ l, Tx.okN n = true) : (pw (l.map Tx.Pt.num)).length ≤ 13 * l.length := by
  have := pw_len (xs := l.map Tx.Pt.num) (fun x hx => by
    obtain ⟨n, hn, rfl⟩ := List.mem_map.1 hx
    exact h n hn)
  simpa using this
theorem pw_up_len {named : Bool} {b : Nat} {name : ByteArray} {l : List Int} (hn : name.size ≤ 1048576) (k : Nat) (h : ∀ n ∈ l.take k, Tx.okN n = true) : (pw (upP named b name l k)).length ≤ 13 * k + 1048577 := by
  have h0 : (l.take k).length ≤ k := by rw [List.length_take]; omega
  cases named with
  | false =>
    rw [upP_no]
    have := pw_num_len h
    omega
  | true =>
    rw [upP_yes]
    by_cases hk : k ≤ b
    · rw [if_pos hk]
      have := pw_num_len h
      omega
    · rw [if_neg hk]
      have e : (l.take k).take b = l.take b := by rw [List.take_take, Nat.min_eq_left (by omega)]
      have h1 := pw_num_len (l := l.take b) (fun n hn => h n (by rw [← e] at hn; exact List.mem_of_mem_take hn))
      have h2 := pw_num_len (l := (l.take k).drop b) (fun n hn => h n (List.mem_of_mem_drop hn))
      have h3 : (l.take b).length + ((l.take k).drop b).length ≤ k := by
        rw [List.length_drop, List.length_take, List.length_take]
        omega
      have e2 : ∀ (u : Tx.Pt) (m : List Tx.Pt), pw (u :: m) = 32 :: u.w ++ pw m := fun u m => by simp [pw]
      have e3 : (Tx.Pt.nm name).w.length = name.size := by show name.data.toList.length = _; simp
      rw [pw_append, e2]
      simp only [List.length_append, List.length_cons, e3]
      omega

def StrPost (s : List UInt8) (c : Int) (w : World) (e : Ending) (w' : World) : Prop := e = .returned (.tuple #[.string (Tx.mkB s), .int .i64 c]) ∧ w = w'

theorem any_upN {l : List Int} {k : Nat} {n : Int} (hx : l[k]? = some n) (ha : ∀ m ∈ l.take k, Tx.okN m = true) (hn : Tx.okN n = true) : ∀ m ∈ l.take (k + 1), Tx.okN m = true := by
  intro m hm
  rw [take_at, hx] at hm
  simp at hm
  rcases hm with hm | rfl
  · exact ha m hm
  · exact hn

set_option maxRecDepth 100000 in
set_option maxHeartbeats 8000000 in
theorem rline_any (wd name : ByteArray) (named : Bool) (b : Nat) (v : Value) (l : List Int) (w : World) (hv : Nums w v l) (hb : named = true → b ≤ l.length) (hl : l.length ≤ 100000) (hw : wd.size ≤ 1000) (hn : name.size ≤ 1048576) :
    Calls Tryd.prog 21 #[.string wd, .string name, .bool named, .int .i64 (b : Int), v] w (StrPost (rlW wd.data.toList named b name l) (rlE wd.data.toList named name l) w) := by
  obtain ⟨A, cap, rfl, ⟨hcap, hmx, -⟩, hat⟩ := id hv
  have hcell : ∀ (k : Nat) (n : Int), l[k]? = some n → ∃ bb off, A = some ⟨bb, off, none⟩ ∧ w.cell? ⟨bb, off + k, none⟩ = some (.int .i64 n) ∧ -9223372036854775808 ≤ n ∧ n ≤ 9223372036854775807 := fun k n hk => by
    obtain ⟨bb, off, cs, h1, h2, h3, h4, h5⟩ := hat k n hk
    refine ⟨bb, off, h1, ?_, h5.2⟩
    have := h4 0 (.int .i64 n) (by rw [h5.1]; rfl)
    rwa [Nat.mul_one, Nat.add_zero] at this
  have HC := Lib.hid hcell
  have HH := Lib.hid (And.intro hb (And.intro hl (And.intro hw hn)))
  have hli : (l.length : Int) ≤ 100000 := by omega
  have HLI := Lib.hid hli
  clear hcell hat hv hcap hmx
  by_cases hwd : wd.data.toList = []
  · have HE := Lib.hid (show rlE wd.data.toList named name l = 80 by unfold rlE; rw [if_pos (.inl hwd)])
    have HW := Lib.hid (show rlW wd.data.toList named b name l = [] by unfold rlW; rw [HE.out]; rfl)
    obtain rfl : wd = ⟨#[]⟩ := by rw [← Tx.mkB_list wd, hwd]; rfl
    clear hwd hb hl hw hn
    go_enter Tryd.func21, Tryd.ntmps21
    go_wp2_with fail
    go_ret2
    exact ⟨by rw [HE.out, HW.out] <;> rfl, rfl⟩
  have hwe : (wd.toList == []) = false := by rw [beq_eq_false_iff_ne, ByteArray.toList_eq]; exact hwd
  have hwe2 : wd.toList.isEmpty = false := by rw [ByteArray.toList_eq]; simpa using hwd
  cases hbad : (named && !Ir.nm name) with
  | true =>
    obtain ⟨hn1, hn2⟩ : named = true ∧ Ir.nm name = false := by simpa using hbad
    have HE := Lib.hid (show rlE wd.data.toList named name l = 80 by unfold rlE; rw [if_pos (.inr ⟨hn1, hn2⟩)])
    have HW := Lib.hid (show rlW wd.data.toList named b name l = [] by unfold rlW; rw [HE.out]; rfl)
    have HNA := Lib.hid (rname_any name w)
    rw [hn2] at HNA
    subst hn1
    clear hwd hb hl hw hn hn2 hbad
    go_enter Tryd.func21, Tryd.ntmps21
    go_wp2_with (go_at_call 27; (with_reducible refine HNA.out.mono ?_); rintro e w2 ⟨rfl, rfl⟩)
    go_ret2
    exact ⟨by rw [HE.out, HW.out] <;> rfl, rfl⟩
  | false =>
    have hE : rlE wd.data.toList named name l = if l.any (fun n => !Tx.okN n) then 81 else 0 := by
      unfold rlE
      rw [if_neg]
      rintro (h | ⟨h1, h2⟩)
      · exact hwd h
      · rw [h1, h2] at hbad; cases hbad
    have HE := Lib.hid hE
    clear hE hwd hb hl hw hn
    cases named with
    | true =>
      obtain hnm : Ir.nm name = true := by simpa using hbad
      have HNA := Lib.hid (rname_any name w)
      rw [hnm] at HNA
      clear hnm hbad
      have HB := Lib.hid (HH.out.1 rfl)
      go_enter Tryd.func21, Tryd.ntmps21
      go_wp2_with (go_at_call 27; (with_reducible refine HNA.out.mono ?_); rintro e w2 ⟨rfl, rfl⟩)
      go_loop [12, 13] (fun s i => ∃ k : Nat, k ≤ l.length + 1 ∧ i = .int .i64 (k : Int) ∧ s = .string (Tx.mkB (wd.data.toList ++ pw (upP true b name l k))) ∧ Hid (∀ n ∈ l.take k, Tx.okN n = true)) (fun _ i => l.length + 1 - (intOf i).toNat)
      case atStart => exact ⟨0, Nat.zero_le _, rfl, by simp [upP, pw, Tx.mkB_list], Lib.hid (fun n hn => by simp at hn)⟩
      case round =>
        obtain ⟨k, hk, rfl, rfl, HA⟩ := hrel
        have hlen : (wd.data.toList ++ pw (upP true b name l k)).length ≤ 4000000 := by
          have h1 := pw_up_len (named := true) (b := b) (l := l) HH.out.2.2.2 k HA.out
          have h2 := HH.out.2.1
          have h3 := HH.out.2.2.1
          have e : wd.data.toList.length = wd.size := by simp
          rw [List.length_append, e]
          omega
        have HLN := Lib.hid hlen
        obtain ⟨S, hS⟩ : ∃ S, S = Tx.mkB (wd.data.toList ++ pw (upP true b name l k)) := ⟨_, rfl⟩
        have hSs : S.size ≤ 4000000 := by rw [hS, mkB_size]; exact hlen
        rw [← hS]
        have HS := Lib.hid hS
        have hki0 : (k : Int) ≤ 100001 := by have := HH.out.2.1; omega
        clear hlen hS
        by_cases hle : k ≤ l.length
        · have hlei : (k : Int) ≤ (l.length : Int) := by omega
          by_cases hkb : k = b
          · have hkb2 : ((k : Int) == (b : Int)) = true := by simp; omega
            obtain ⟨S1, hS1⟩ : ∃ S1, S1 = S ++ (⟨#[32]⟩ : ByteArray) := ⟨_, rfl⟩
            obtain ⟨S2, hS2⟩ : ∃ S2, S2 = S1 ++ name := ⟨_, rfl⟩
            have hs1 : S1.size = S.size + 1 := by rw [hS1, ByteArray.size_append]; rfl
            have hs2 : S2.size = S1.size + name.size := by rw [hS2, ByteArray.size_append]
            have hnz := HH.out.2.2.2
            have q1 : ¬ 9223372036854775807 < S.size + 1 := by omega
            have q2 : ¬ 9223372036854775807 < S1.size + name.size := by omega
            have hS2s : S2.size ≤ 6000000 := by omega
            have HS2 := Lib.hid (show S2 = Tx.mkB (wd.data.toList ++ pw (upP true b name l k) ++ [32] ++ name.data.toList) by
              rw [hS2, hS1, HS.out, catB, catB])
            have HKB := Lib.hid hkb
            have e1 := hS1.symm
            have e2 := hS2.symm
            clear hS1 hS2 hs1 hs2 hnz hkb
            by_cases hlt : k < l.length
            · have hlti : (k : Int) < (l.length : Int) := by omega
              have hxk : l[k]? = some l[k] := List.getElem?_eq_getElem hlt
              obtain ⟨bb, off, rfl, c1, hn1, hn2⟩ := HC.out k _ hxk
              obtain ⟨n, hnn⟩ : ∃ n, l[k] = n := ⟨_, rfl⟩
              rw [hnn] at c1 hn1 hn2 hxk
              have HXK := Lib.hid hxk
              clear hxk hnn
              by_cases hok : 0 ≤ n ∧ n ≤ 2147483647
              · obtain ⟨ho1, ho2⟩ := hok
                have HOK := Lib.hid (show Tx.okN n = true from decide_eq_true ⟨ho1, ho2⟩)
                have HDG := Lib.hid (digits_any n w ho1 ho2)
                obtain ⟨D, hD⟩ : ∃ D, D = Tx.mkB (Lib.decDigits n.toNat) := ⟨_, rfl⟩
                rw [← hD] at HDG
                have hDs : D.size ≤ 100 := by rw [hD, mkB_size]; have := Tx.dec_len' 10 n.toNat (by omega) (by omega); omega
                obtain ⟨S3, hS3⟩ : ∃ S3, S3 = S2 ++ (⟨#[32]⟩ : ByteArray) := ⟨_, rfl⟩
                obtain ⟨S4, hS4⟩ : ∃ S4, S4 = S3 ++ D := ⟨_, rfl⟩
                have hs3 : S3.size = S2.size + 1 := by rw [hS3, ByteArray.size_append]; rfl
                have q3 : ¬ 9223372036854775807 < S2.size + 1 := by omega
                have q4 : ¬ 9223372036854775807 < S3.size + D.size := by omega
                have HN := Lib.hid (show S4 = Tx.mkB (wd.data.toList ++ pw (upP true b name l (k + 1))) from by
                  rw [hS4, hS3, hD, upP_succ, pw_append]
                  unfold stepP
                  rw [HXK.out]
                  rw [if_pos ⟨rfl, HKB.out⟩, HS2.out]
                  rw [catB, mkB_append]
                  exact congrArg Tx.mkB (by simp [pw, Tx.Pt.w]))
                have e3 := hS3.symm
                have e4 := hS4.symm
                clear hS3 hS4 hD hs3
                go_wp2_with (go_at_call 30; (with_reducible refine HDG.out.mono ?_); rintro e w2 ⟨rfl, rfl⟩)
                go_round
                case rel => exact ⟨k + 1, by omega, by go_num, by rw [HN.out], Lib.hid (any_upN HXK.out HA.out HOK.out)⟩
                case measure => simp [intOf]; omega
              · have HE1 := Lib.hid (show rlE wd.data.toList true name l = 81 by
                  rw [HE.out, if_pos]
                  exact List.any_eq_true.2 ⟨n, List.mem_of_getElem? HXK.out, by simp [Tx.okN]; omega⟩)
                have HW1 := Lib.hid (show rlW wd.data.toList true b name l = [] by unfold rlW; rw [HE1.out]; rfl)
                by_cases hneg : n < 0
                · clear hok
                  go_wp2_with fail
                  go_ret2
                  exact ⟨by rw [HE1.out, HW1.out] <;> rfl, rfl⟩
                · have hbig : 2147483647 < n := by omega
                  have hneg2 : 0 ≤ n := by omega
                  have hneg3 : decide (n < 0) = false := decide_eq_false hneg
                  clear hok hneg
                  go_wp2_with fail
                  go_ret2
                  exact ⟨by rw [HE1.out, HW1.out] <;> rfl, rfl⟩
            · obtain rfl : k = l.length := by omega
              have HN := Lib.hid (show S2 = Tx.mkB (wd.data.toList ++ pw (upP true b name l (l.length + 1))) from by
                rw [upP_succ, pw_append]
                unfold stepP
                rw [List.getElem?_eq_none (Nat.le_refl _)]
                rw [if_pos ⟨rfl, HKB.out⟩, HS2.out]
                exact congrArg Tx.mkB (by simp [pw, Tx.Pt.w]))
              go_wp2_with fail
              go_round
              case rel => exact ⟨l.length + 1, by omega, by go_num, by rw [HN.out], Lib.hid (fun m hm => HA.out m (by rw [List.take_of_length_le (by omega)] at hm; rw [List.take_of_length_le (Nat.le_refl _)]; exact hm))⟩
              case measure => simp [intOf] <;> omega
          · have hkb2 : ((k : Int) == (b : Int)) = false := by simp; omega
            have HKB := Lib.hid hkb
            clear hkb
            by_cases hlt : k < l.length
            · have hlti : (k : Int) < (l.length : Int) := by omega
              have hxk : l[k]? = some l[k] := List.getElem?_eq_getElem hlt
              obtain ⟨bb, off, rfl, c1, hn1, hn2⟩ := HC.out k _ hxk
              obtain ⟨n, hnn⟩ : ∃ n, l[k] = n := ⟨_, rfl⟩
              rw [hnn] at c1 hn1 hn2 hxk
              have HXK := Lib.hid hxk
              clear hxk hnn
              by_cases hok : 0 ≤ n ∧ n ≤ 2147483647
              · obtain ⟨ho1, ho2⟩ := hok
                have HOK := Lib.hid (show Tx.okN n = true from decide_eq_true ⟨ho1, ho2⟩)
                have HDG := Lib.hid (digits_any n w ho1 ho2)
                obtain ⟨D, hD⟩ : ∃ D, D = Tx.mkB (Lib.decDigits n.toNat) := ⟨_, rfl⟩
                rw [← hD] at HDG
                have hDs : D.size ≤ 100 := by rw [hD, mkB_size]; have := Tx.dec_len' 10 n.toNat (by omega) (by omega); omega
                obtain ⟨S3, hS3⟩ : ∃ S3, S3 = S ++ (⟨#[32]⟩ : ByteArray) := ⟨_, rfl⟩
                obtain ⟨S4, hS4⟩ : ∃ S4, S4 = S3 ++ D := ⟨_, rfl⟩
                have hs3 : S3.size = S.size + 1 := by rw [hS3, ByteArray.size_append]; rfl
                have q3 : ¬ 9223372036854775807 < S.size + 1 := by omega
                have q4 : ¬ 9223372036854775807 < S3.size + D.size := by omega
                have HN := Lib.hid (show S4 = Tx.mkB (wd.data.toList ++ pw (upP true b name l (k + 1))) from by
                  rw [hS4, hS3, hD, upP_succ, pw_append]
                  unfold stepP
                  rw [HXK.out]
                  rw [if_neg (fun h => HKB.out h.2), HS.out]
                  rw [catB, mkB_append]
                  exact congrArg Tx.mkB (by simp [pw, Tx.Pt.w]))
                have e3 := hS3.symm
                have e4 := hS4.symm
                clear hS3 hS4 hD hs3
                go_wp2_with (go_at_call 30; (with_reducible refine HDG.out.mono ?_); rintro e w2 ⟨rfl, rfl⟩)
                go_round
                case rel => exact ⟨k + 1, by omega, by go_num, by rw [HN.out], Lib.hid (any_upN HXK.out HA.out HOK.out)⟩
                case measure => simp [intOf]; omega
              · have HE1 := Lib.hid (show rlE wd.data.toList true name l = 81 by
                  rw [HE.out, if_pos]
                  exact List.any_eq_true.2 ⟨n, List.mem_of_getElem? HXK.out, by simp [Tx.okN]; omega⟩)
                have HW1 := Lib.hid (show rlW wd.data.toList true b name l = [] by unfold rlW; rw [HE1.out]; rfl)
                by_cases hneg : n < 0
                · clear hok
                  go_wp2_with fail
                  go_ret2
                  exact ⟨by rw [HE1.out, HW1.out] <;> rfl, rfl⟩
                · have hbig : 2147483647 < n := by omega
                  have hneg2 : 0 ≤ n := by omega
                  have hneg3 : decide (n < 0) = false := decide_eq_false hneg
                  clear hok hneg
                  go_wp2_with fail
                  go_ret2
                  exact ⟨by rw [HE1.out, HW1.out] <;> rfl, rfl⟩
            · obtain rfl : k = l.length := by omega
              have HN := Lib.hid (show S = Tx.mkB (wd.data.toList ++ pw (upP true b name l (l.length + 1))) from by
                rw [upP_succ, pw_append]
                unfold stepP
                rw [List.getElem?_eq_none (Nat.le_refl _)]
                rw [if_neg (fun h => HKB.out h.2), HS.out]
                exact congrArg Tx.mkB (by simp [pw, Tx.Pt.w]))
              go_wp2_with fail
              go_round
              case rel => exact ⟨l.length + 1, by omega, by go_num, by rw [HN.out], Lib.hid (fun m hm => HA.out m (by rw [List.take_of_length_le (by omega)] at hm; rw [List.take_of_length_le (Nat.le_refl _)]; exact hm))⟩
              case measure => simp [intOf] <;> omega
        · have hkl : k = l.length + 1 := by omega
          have hgt : (l.length : Int) < (k : Int) := by omega
          obtain ⟨S1, hS1⟩ : ∃ S1, S1 = S ++ (⟨#[10]⟩ : ByteArray) := ⟨_, rfl⟩
          have q1 : ¬ 9223372036854775807 < S.size + 1 := by omega
          have hall : l.any (fun n => !Tx.okN n) = false := by
            rw [List.any_eq_false]
            intro n hn
            have := HA.out n (by rw [List.take_of_length_le (by omega)]; exact hn)
            simp [this]
          have HE1 := Lib.hid (show rlE wd.data.toList true name l = 0 by rw [HE.out, hall]; rfl)
          have HW1 := Lib.hid (show S1 = Tx.mkB (rlW wd.data.toList true b name l) by
            unfold rlW
            rw [HE1.out, if_pos rfl, lineW_is, hS1, HS.out, catB, hkl, upP_end HB.out]
            try rfl)
          have e1 := hS1.symm
          clear hS1 hall hkl hle hk
          go_wp2_with fail
          go_ret2
          exact ⟨by rw [HE1.out, ← HW1.out] <;> rfl, rfl⟩

    | false =>
      clear hbad
      go_enter Tryd.func21, Tryd.ntmps21
      go_wp2_with fail
      go_loop [12, 13] (fun s i => ∃ k : Nat, k ≤ l.length + 1 ∧ i = .int .i64 (k : Int) ∧ s = .string (Tx.mkB (wd.data.toList ++ pw (upP false b name l k))) ∧ Hid (∀ n ∈ l.take k, Tx.okN n = true)) (fun _ i => l.length + 1 - (intOf i).toNat)
      case atStart => exact ⟨0, Nat.zero_le _, rfl, by simp [upP, pw, Tx.mkB_list], Lib.hid (fun n hn => by simp at hn)⟩
      case round =>
        obtain ⟨k, hk, rfl, rfl, HA⟩ := hrel
        have hlen : (wd.data.toList ++ pw (upP false b name l k)).length ≤ 4000000 := by
          have h1 := pw_up_len (named := false) (b := b) (l := l) HH.out.2.2.2 k HA.out
          have h2 := HH.out.2.1
          have h3 := HH.out.2.2.1
          have e : wd.data.toList.length = wd.size := by simp
          rw [List.length_append, e]
          omega
        have HLN := Lib.hid hlen
        obtain ⟨S, hS⟩ : ∃ S, S = Tx.mkB (wd.data.toList ++ pw (upP false b name l k)) := ⟨_, rfl⟩
        have hSs : S.size ≤ 4000000 := by rw [hS, mkB_size]; exact hlen
        rw [← hS]
        have HS := Lib.hid hS
        have hki0 : (k : Int) ≤ 100001 := by have := HH.out.2.1; omega
        clear hlen hS
        by_cases hle : k ≤ l.length
        · have hlei : (k : Int) ≤ (l.length : Int) := by omega
          by_cases hlt : k < l.length
          · have hlti : (k : Int) < (l.length : Int) := by omega
            have hxk : l[k]? = some l[k] := List.getElem?_eq_getElem hlt
            obtain ⟨bb, off, rfl, c1, hn1, hn2⟩ := HC.out k _ hxk
            obtain ⟨n, hnn⟩ : ∃ n, l[k] = n := ⟨_, rfl⟩
            rw [hnn] at c1 hn1 hn2 hxk
            have HXK := Lib.hid hxk
            clear hxk hnn
            by_cases hok : 0 ≤ n ∧ n ≤ 2147483647
            · obtain ⟨ho1, ho2⟩ := hok
              have HOK := Lib.hid (show Tx.okN n = true from decide_eq_true ⟨ho1, ho2⟩)
              have HDG := Lib.hid (digits_any n w ho1 ho2)
              obtain ⟨D, hD⟩ : ∃ D, D = Tx.mkB (Lib.decDigits n.toNat) := ⟨_, rfl⟩
              rw [← hD] at HDG
              have hDs : D.size ≤ 100 := by rw [hD, mkB_size]; have := Tx.dec_len' 10 n.toNat (by omega) (by omega); omega
              obtain ⟨S3, hS3⟩ : ∃ S3, S3 = S ++ (⟨#[32]⟩ : ByteArray) := ⟨_, rfl⟩
              obtain ⟨S4, hS4⟩ : ∃ S4, S4 = S3 ++ D := ⟨_, rfl⟩
              have hs3 : S3.size = S.size + 1 := by rw [hS3, ByteArray.size_append]; rfl
              have q3 : ¬ 9223372036854775807 < S.size + 1 := by omega
              have q4 : ¬ 9223372036854775807 < S3.size + D.size := by omega
              have HN := Lib.hid (show S4 = Tx.mkB (wd.data.toList ++ pw (upP false b name l (k + 1))) from by
                rw [hS4, hS3, hD, upP_succ, pw_append]
                unfold stepP
                rw [HXK.out]
                rw [if_neg (fun h => absurd h.1 (by decide)), HS.out]
                rw [catB, mkB_append]
                exact congrArg Tx.mkB (by simp [pw, Tx.Pt.w]))
              have e3 := hS3.symm
              have e4 := hS4.symm
              clear hS3 hS4 hD hs3
              go_wp2_with (go_at_call 30; (with_reducible refine HDG.out.mono ?_); rintro e w2 ⟨rfl, rfl⟩)
              go_round
              case rel => exact ⟨k + 1, by omega, by go_num, by rw [HN.out], Lib.hid (any_upN HXK.out HA.out HOK.out)⟩
              case measure => simp [intOf]; omega
            · have HE1 := Lib.hid (show rlE wd.data.toList false name l = 81 by
                rw [HE.out, if_pos]
                exact List.any_eq_true.2 ⟨n, List.mem_of_getElem? HXK.out, by simp [Tx.okN]; omega⟩)
              have HW1 := Lib.hid (show rlW wd.data.toList false b name l = [] by unfold rlW; rw [HE1.out]; rfl)
              by_cases hneg : n < 0
              · clear hok
                go_wp2_with fail
                go_ret2
                exact ⟨by rw [HE1.out, HW1.out] <;> rfl, rfl⟩
              · have hbig : 2147483647 < n := by omega
                have hneg2 : 0 ≤ n := by omega
                have hneg3 : decide (n < 0) = false := decide_eq_false hneg
                clear hok hneg
                go_wp2_with fail
                go_ret2
                exact ⟨by rw [HE1.out, HW1.out] <;> rfl, rfl⟩
          · obtain rfl : k = l.length := by omega
            have HN := Lib.hid (show S = Tx.mkB (wd.data.toList ++ pw (upP false b name l (l.length + 1))) from by
              rw [upP_succ, pw_append]
              unfold stepP
              rw [List.getElem?_eq_none (Nat.le_refl _)]
              rw [if_neg (fun h => absurd h.1 (by decide)), HS.out]
              exact congrArg Tx.mkB (by simp [pw, Tx.Pt.w]))
            go_wp2_with fail
            go_round
            case rel => exact ⟨l.length + 1, by omega, by go_num, by rw [HN.out], Lib.hid (fun m hm => HA.out m (by rw [List.take_of_length_le (by omega)] at hm; rw [List.take_of_length_le (Nat.le_refl _)]; exact hm))⟩
            case measure => simp [intOf] <;> omega
        · have hkl : k = l.length + 1 := by omega
          have hgt : (l.length : Int) < (k : Int) := by omega
          obtain ⟨S1, hS1⟩ : ∃ S1, S1 = S ++ (⟨#[10]⟩ : ByteArray) := ⟨_, rfl⟩
          have q1 : ¬ 9223372036854775807 < S.size + 1 := by omega
          have hall : l.any (fun n => !Tx.okN n) = false := by
            rw [List.any_eq_false]
            intro n hn
            have := HA.out n (by rw [List.take_of_length_le (by omega)]; exact hn)
            simp [this]
          have HE1 := Lib.hid (show rlE wd.data.toList false name l = 0 by rw [HE.out, hall]; rfl)
          have HW1 := Lib.hid (show S1 = Tx.mkB (rlW wd.data.toList false b name l) by
            unfold rlW
            rw [HE1.out, if_pos rfl, lineW_is, hS1, HS.out, catB, hkl, upP_no, List.take_of_length_le (by omega)]
            try rfl)
          have e1 := hS1.symm
          clear hS1 hall hkl hle hk
          go_wp2_with fail
          go_ret2
          exact ⟨by rw [HE1.out, ← HW1.out] <;> rfl, rfl⟩

end Go.Proofs.YtcoehmmiplffgaaDoor
