/- The document's read. -/
import Derived.Test.YtcoehmmiplffgaaDoorTextRnum
import Derived.Test.YtcoehmmiplffgaaDoorTextRwords
import Derived.Test.YtcoehmmiplffgaaDoorIrRow
import Derived.Test.YtcoehmmiplffgaaDoorTextRefNums
namespace Go.Proofs.YtcoehmmiplffgaaDoor
open Go.ChangeShapes Go.WideShapes Go.RowKit Go.Deep

/-- Which of m words is a name. -/
def kAt (nm : Int) (m : Nat) : List Bool := (List.range m).map fun (i : Nat) => decide ((i : Int) = nm)
theorem kAt_len (nm : Int) (m : Nat) : (kAt nm m).length = m := by simp [kAt]
theorem kAt_at {nm : Int} {m k : Nat} (h : k < m) : (kAt nm m)[k]? = some (decide ((k : Int) = nm)) := by simp [kAt, h]
def numsP : List Tx.Pt → List Int
  | [] => []
  | .num n :: l => n :: numsP l
  | .nm _ :: l => numsP l
def nmP : ByteArray → List Tx.Pt → ByteArray
  | s, [] => s
  | s, .num _ :: l => nmP s l
  | _, .nm t :: l => nmP t l
theorem numsP_num (n : Int) : ∀ l : List Tx.Pt, numsP (l ++ [.num n]) = numsP l ++ [n]
  | [] => rfl
  | .num m :: l => by show m :: numsP (l ++ [.num n]) = m :: (numsP l ++ [n]); rw [numsP_num n l]
  | .nm _ :: l => numsP_num n l
theorem numsP_nm (s : ByteArray) : ∀ l : List Tx.Pt, numsP (l ++ [.nm s]) = numsP l
  | [] => rfl
  | .num m :: l => by show m :: numsP (l ++ [.nm s]) = m :: numsP l; rw [numsP_nm s l]
  | .nm _ :: l => numsP_nm s l
theorem nmP_num (n : Int) : ∀ (l : List Tx.Pt) (u : ByteArray), nmP u (l ++ [.num n]) = nmP u l
  | [], _ => rfl
  | .num _ :: l, u => nmP_num n l u
  | .nm t :: l, _ => nmP_num n l t
theorem nmP_nm (s : ByteArray) : ∀ (l : List Tx.Pt) (u : ByteArray), nmP u (l ++ [.nm s]) = s
  | [], _ => rfl
  | .num _ :: l, u => nmP_nm s l u
  | .nm t :: l, _ => nmP_nm s l t
theorem numsP_len : ∀ l : List Tx.Pt, (numsP l).length ≤ l.length
  | [] => Nat.le_refl _
  | .num _ :: l => Nat.succ_le_succ (numsP_len l)
  | .nm _ :: l => Nat.le_succ_of_le (numsP_len l)

/-- How far the words are read: ps so far. -/
def Rd (ks : List Bool) (os : List (List UInt8)) (ps : List Tx.Pt) (k : Nat) : Prop :=
  ps.length = k ∧ Tx.takeL ks os = ((Tx.takeL (ks.drop k) (os.drop k)).1, ps ++ (Tx.takeL (ks.drop k) (os.drop k)).2)
theorem Rd.zero (ks : List Bool) (os : List (List UInt8)) : Rd ks os [] 0 := ⟨rfl, rfl⟩
theorem Rd.name {ks : List Bool} {os : List (List UInt8)} {ps : List Tx.Pt} {k : Nat} {u : ByteArray} (h : Rd ks os ps k) (hk : ks[k]? = some true) (ho : os[k]? = some u.data.toList) (hn : Ir.nm u = true) : Rd ks os (ps ++ [.nm u]) (k + 1) := by
  refine ⟨by simp [h.1], ?_⟩
  rw [h.2, Ir.drop_cons hk, Ir.drop_cons ho, Tx.takeL, Tx.mkB_list, if_pos hn]
  simp
theorem Rd.noname {ks : List Bool} {os : List (List UInt8)} {ps : List Tx.Pt} {k : Nat} {u : ByteArray} (h : Rd ks os ps k) (hk : ks[k]? = some true) (ho : os[k]? = some u.data.toList) (hn : Ir.nm u = false) : (Tx.takeL ks os).1 = 80 := by
  rw [h.2, Ir.drop_cons hk, Ir.drop_cons ho, Tx.takeL, Tx.mkB_list, hn]
  rfl
theorem Rd.num {ks : List Bool} {os : List (List UInt8)} {ps : List Tx.Pt} {k : Nat} {u : List UInt8} {n : Int} (h : Rd ks os ps k) (hk : ks[k]? = some false) (ho : os[k]? = some u) (hn : Tx.number u = some n) : Rd ks os (ps ++ [.num n]) (k + 1) := by
  refine ⟨by simp [h.1], ?_⟩
  rw [h.2, Ir.drop_cons hk, Ir.drop_cons ho, Tx.takeL]
  simp [hn]
theorem Rd.nonum {ks : List Bool} {os : List (List UInt8)} {ps : List Tx.Pt} {k : Nat} {u : List UInt8} (h : Rd ks os ps k) (hk : ks[k]? = some false) (ho : os[k]? = some u) (hn : Tx.number u = none) : (Tx.takeL ks os).1 = 81 := by
  rw [h.2, Ir.drop_cons hk, Ir.drop_cons ho, Tx.takeL]
  simp [hn]
theorem Rd.all {ks : List Bool} {os : List (List UInt8)} {ps : List Tx.Pt} (h : Rd ks os ps ks.length) : Tx.takeL ks os = (0, ps) := by
  rw [h.2, List.drop_length]
  simp [Tx.takeL]

/-- Words read: the numbers and the name, or what is wrong. -/
def RdPost (q : Int × List Tx.Pt) (w : World) (e : Ending) (w' : World) : Prop :=
  Below w.heap.size w w' ∧ ((q.1 = 0 ∧ ∃ v, e = .returned (.tuple #[v, .string (nmP ByteArray.empty q.2), .int .i64 0]) ∧ RowI w' w.heap.size v (numsP q.2)) ∨
    (q.1 ≠ 0 ∧ e = .returned (.tuple #[.slice none 0 0, .string ⟨#[]⟩, .int .i64 q.1])))
theorem rdPost_no {q : Int × List Tx.Pt} {w w' : World} {E : Int} (h : q.1 = E) (h0 : E ≠ 0) (hb : Below w.heap.size w w') : RdPost q w (.returned (.tuple #[.slice none 0 0, .string ⟨#[]⟩, .int .i64 E])) w' := ⟨hb, .inr ⟨by rw [h]; exact h0, by rw [h]⟩⟩
theorem rdPost_ok {q : Int × List Tx.Pt} {ps : List Tx.Pt} {w w' : World} {v : Value} (h : q = (0, ps)) (hb : Below w.heap.size w w') (hr : RowI w' w.heap.size v (numsP ps)) : RdPost q w (.returned (.tuple #[v, .string (nmP ByteArray.empty ps), .int .i64 0])) w' := by
  subst h
  exact ⟨hb, .inl ⟨rfl, v, rfl, hr⟩⟩

set_option maxRecDepth 20000 in
set_option maxHeartbeats 1600000 in
theorem rread_any (v : Value) (u : ByteArray) (os : List ByteArray) (m : Nat) (nm : Int) (w : World) (hv : Strs w v (u :: os)) (hm : m ≤ 1000000) (hnm : -1 ≤ nm ∧ nm ≤ 10) (hl : os.length ≤ 1000000) :
    Calls Tryd.prog 36 #[v, .int .i64 (m : Int), .int .i64 nm] w (RdPost (Tx.take (kAt nm m) (os.map fun b => b.data.toList)) w) := by
  obtain ⟨A, cap, rfl, ⟨hcap, -⟩, hat⟩ := hv
  have hmi : (m : Int) ≤ 1000000 := by omega
  simp only [List.length_cons] at hcap
  show Calls _ _ #[.slice A (os.length + 1) cap, _, _] _ _
  have hoi : (os.length : Int) ≤ 1000000 := by omega
  have e1 : ((os.length + 1 : Nat) : Int) = (os.length : Int) + 1 := by omega
  by_cases hlen : os.length = m
  · subst hlen
    have hat2 : ∀ (k : Nat) (t : ByteArray), os[k]? = some t → ∃ b off, A = some ⟨b, off, none⟩ ∧ b < w.heap.size ∧ w.cell? ⟨b, off + (k + 1), none⟩ = some (.string t) := fun k t hk => by
      have := hat (k + 1) t (by simpa using hk)
      exact this
    have HA := Lib.hid hat2
    have HTK := Lib.hid (show Tx.take (kAt nm os.length) (os.map fun b => b.data.toList) = Tx.takeL (kAt nm os.length) (os.map fun b => b.data.toList) by
      unfold Tx.take
      rw [if_pos (by rw [List.length_map, kAt_len])])
    have hnb : ((os.length : Int) + 1 != (os.length : Int) + 1) = false := by rw [bne_eq_false_iff_eq]
    have HN0 := Lib.hid (row_none w w.heap.size (Nat.le_refl _))
    have HB0 := Lib.hid (show Below w.heap.size w (w.alloc (.cells #[] 3)) from (Below.refl _ _).alloc (Nat.le_refl _) _)
    clear hat hat2
    go_enter Tryd.func36, Tryd.ntmps36
    go_wp2_with fail
    go_loopw [9, 10, 11] (fun v s i wr => ∃ (ps : List Tx.Pt) (k : Nat), k ≤ os.length ∧ s = .string (nmP ByteArray.empty ps) ∧ i = .int .i64 (k : Int) ∧ Hid (Rd (kAt nm os.length) (os.map fun b => b.data.toList) ps k) ∧ Hid (RowI wr w.heap.size v (numsP ps)) ∧ Hid (Below w.heap.size w wr)) (fun _ _ i _ => os.length - (intOf i).toNat)
    case atStart => exact ⟨[], 0, Nat.zero_le _, rfl, rfl, Lib.hid (Rd.zero _ _), HN0, HB0⟩
    case round =>
      obtain ⟨ps, k, hk, rfl, rfl, HR, HW, HB⟩ := hrel
      by_cases hlt : k < os.length
      · have hki : (k : Int) < (os.length : Int) := by omega
        have ht : os[k]? = some os[k] := List.getElem?_eq_getElem (by omega)
        obtain ⟨t, htt⟩ : ∃ t, os[k]'(by omega) = t := ⟨_, rfl⟩
        rw [htt] at ht
        obtain ⟨b, off, rfl, hb1, c0⟩ := HA.out k t ht
        have d0 := (HB.out.cell (p := ⟨b, off + (k + 1), none⟩) hb1).trans c0
        have d1 : wr.cell? ⟨b, off + ((k : Int) + 1).toNat, none⟩ = some (.string t) := by rw [show ((k : Int) + 1).toNat = k + 1 by omega]; exact d0
        have HO := Lib.hid (show (os.map fun b => b.data.toList)[k]? = some t.data.toList by rw [List.getElem?_map, ht]; rfl)
        have HK := Lib.hid (kAt_at (nm := nm) hlt)
        clear c0 ht htt
        by_cases hn : (k : Int) = nm
        · subst hn
          have HK2 := Lib.hid (show (kAt (k : Int) os.length)[k]? = some true by rw [HK.out, decide_eq_true rfl])
          have HNA := Lib.hid (rname_any t wr)
          clear HK
          cases hnm2 : Ir.nm t with
          | true =>
            rw [hnm2] at HNA
            have HN := Lib.hid (HR.out.name HK2.out HO.out hnm2)
            go_wp2_with (go_at_call 27; (with_reducible refine HNA.out.mono ?_); rintro e w2 ⟨rfl, rfl⟩)
            go_roundw
            case rel => exact ⟨ps ++ [.nm t], k + 1, by omega, by rw [nmP_nm], by go_num, HN, by rw [numsP_nm]; exact HW, HB⟩
            case measure => simp [intOf] <;> omega
          | false =>
            rw [hnm2] at HNA
            have HN := Lib.hid (show (Tx.take (kAt (k : Int) os.length) (os.map fun b => b.data.toList)).1 = 80 by rw [HTK.out]; exact HR.out.noname HK2.out HO.out hnm2)
            go_wp2_with (go_at_call 27; (with_reducible refine HNA.out.mono ?_); rintro e w2 ⟨rfl, rfl⟩)
            go_ret3
            exact rdPost_no HN.out (by decide) HB.out
        · have hnb2 : ((k : Int) == nm) = false := by rw [beq_eq_false_iff_ne]; exact hn
          have HK2 := Lib.hid (show (kAt nm os.length)[k]? = some false by rw [HK.out, decide_eq_false hn])
          have HNU := Lib.hid (rnum_any t wr)
          clear HK
          cases hnu : Tx.number t.data.toList with
          | some n =>
            obtain ⟨n1, n2, -⟩ := Tx.number_some hnu
            have HN := Lib.hid (HR.out.num HK2.out HO.out hnu)
            have HI := Lib.hid (show In64 [n] from fun x hx => by simp at hx; subst hx; omega)
            have HLT := Lib.hid (show (numsP ps).length + 1 ≤ 1048576 ∧ w.heap.size ≤ wr.heap.size from ⟨by have := numsP_len ps; have := HR.out.1; omega, HB.out.size⟩)
            have HM := Lib.hid hnu
            clear hnu
            go_wp2_with first
              | (go_at_call 55; (with_reducible refine HNU.out.mono ?_); rintro e w2 ⟨n', rfl, hn', rfl⟩; obtain rfl := hn' n HM.out; rw [HM.out])
              | (at_builtin; refine wpList_append_nums rfl (.tmp 51) (.tmp 53) rfl (HW.out.alloc _) (nums_one wr _ HI.out) HLT.out.1 (by have := HLT.out.2; simp; omega) rfl rfl ?_; intro v4 w4 hr4 hg4; have HR4 := Lib.hid hr4; have HB4 := Lib.hid (below_rowf HB.out HW.out hg4); clear hr4 hg4)
            go_roundw
            case rel => exact ⟨ps ++ [.num _], k + 1, by omega, by rw [nmP_num], by go_num, HN, by rw [numsP_num]; exact HR4, HB4⟩
            case measure => simp [intOf] <;> omega
          | none =>
            have HN := Lib.hid (show (Tx.take (kAt nm os.length) (os.map fun b => b.data.toList)).1 = 81 by rw [HTK.out]; exact HR.out.nonum HK2.out HO.out hnu)
            have HM := Lib.hid hnu
            clear hnu
            go_wp2_with (go_at_call 55; (with_reducible refine HNU.out.mono ?_); rintro e w2 ⟨n', rfl, hn', rfl⟩; rw [HM.out])
            go_ret3
            exact rdPost_no HN.out (by decide) HB.out
      · obtain rfl : k = os.length := by omega
        have HN := Lib.hid (show Tx.take (kAt nm os.length) (os.map fun b => b.data.toList) = (0, ps) by
          rw [HTK.out]
          exact Rd.all (by rw [kAt_len]; exact HR.out))
        go_wp2_with fail
        go_ret3
        exact rdPost_ok HN.out HB.out HW.out
  · have HN := Lib.hid (show (Tx.take (kAt nm m) (os.map fun b => b.data.toList)).1 = 80 by
      unfold Tx.take
      rw [if_neg (by rw [List.length_map, kAt_len]; exact hlen)])
    have hne : ((os.length : Int) + 1 != (m : Int) + 1) = true := by rw [bne_iff_ne]; omega
    clear hat hlen
    go_enter Tryd.func36, Tryd.ntmps36
    go_wp2_with fail
    go_ret3
    exact rdPost_no HN.out (by decide) (Below.refl _ _)
end Go.Proofs.YtcoehmmiplffgaaDoor
