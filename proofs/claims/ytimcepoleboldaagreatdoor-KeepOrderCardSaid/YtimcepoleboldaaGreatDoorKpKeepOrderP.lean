/- Plain mathematics of KeepOrder: records of unlike keys, in whatever order. It speaks of no program. -/
import Derived.Test.YtimcepoleboldaaGreatDoorKpD
import Derived.Test.YtimcepoleboldaaGreatDoorKeepBk
namespace Go.Proofs.YtimcepoleboldaaGreatDoor.Kp

/-- Puts of unlike keys. -/
structure Apart (l : List Rc) : Prop where
  puts : ∀ x ∈ l, x.k = 1
  keys : (l.map (·.key)).Nodup

theorem look_apart : ∀ (l : List Rc) (m : Mp) (x : Rc), Apart l → x ∈ l → look (all m l) x.key = some x.val
  | [], _, _, _, h => by simp at h
  | y :: l, m, x, ha, h => by
    have hk := ha.keys
    rw [List.map_cons, List.nodup_cons] at hk
    have ha' : Apart l := ⟨fun z hz => ha.puts z (List.mem_cons_of_mem _ hz), hk.2⟩
    rw [all_cons]
    rcases List.mem_cons.mp h with rfl | h
    · rw [look_all_other l _ _ (fun z hz e => hk.1 (by rw [← e]; exact List.mem_map_of_mem hz)), look_taken, if_pos ⟨ha.puts x List.mem_cons_self, rfl⟩]
    · exact look_apart l _ x ha' h
theorem Apart.perm {l l' : List Rc} (h : Apart l) (hp : l.Perm l') : Apart l' :=
  ⟨fun x hx => h.puts x (hp.mem_iff.mpr hx), (hp.map _).nodup_iff.mp h.keys⟩
/-- In whatever order they are put: the same map. -/
theorem all_perm {l l' : List Rc} (h : Apart l) (hp : l.Perm l') : all [] l = all [] l' := by
  refine up_ext (up_all l (m := []) trivial) (up_all l' (m := []) trivial) fun q => ?_
  by_cases hq : ∃ x ∈ l, x.key = q
  · obtain ⟨x, hx, rfl⟩ := hq
    rw [look_apart l [] x h hx, look_apart l' [] x (h.perm hp) (hp.mem_iff.mp hx)]
  · rw [look_all_other l _ _ (fun x hx e => hq ⟨x, hx, e⟩), look_all_other l' _ _ (fun x hx e => hq ⟨x, hp.mem_iff.mpr hx, e⟩)]
/-- Turned by b. -/
def turned (l : List Rc) (b : Nat) : List Rc := l.drop b ++ l.take b
theorem turned_perm (l : List Rc) (b : Nat) : l.Perm (turned l b) := by
  have := List.perm_append_comm (l₁ := l.take b) (l₂ := l.drop b)
  rwa [List.take_append_drop] at this
theorem turned_at {l : List Rc} {i by_ : Nat} (hi : i < l.length) : (turned l (by_ % l.length))[i]? = l[(i + by_) % l.length]? := by
  have hb := Nat.mod_lt by_ (show 0 < l.length by omega)
  have e : (i + by_) % l.length = (i + by_ % l.length) % l.length := by rw [Nat.add_mod, Nat.add_mod i (by_ % l.length), Nat.mod_mod]
  rw [e]
  generalize by_ % l.length = b at *
  unfold turned
  by_cases h : i < l.length - b
  · rw [List.getElem?_append_left (by rw [List.length_drop]; omega), List.getElem?_drop, Nat.mod_eq_of_lt (by omega), Nat.add_comm]
  · rw [List.getElem?_append_right (by rw [List.length_drop]; omega), List.length_drop]
    have e2 : (i + b) % l.length = i + b - l.length := by rw [Nat.mod_eq_sub_mod (by omega), Nat.mod_eq_of_lt (by omega)]
    rw [e2, List.getElem?_take, if_pos (by omega)]
    congr 1
    omega
theorem turned_length (l : List Rc) (b : Nat) : (turned l b).length = l.length := (turned_perm l b).length_eq.symm
theorem heavy_append : ∀ (a b : List Rc), heavy (a ++ b) = heavy a + heavy b
  | [], b => by simp [heavy]
  | x :: a, b => by
    show x.key.size + x.val.size + heavy (a ++ b) = x.key.size + x.val.size + heavy a + heavy b
    rw [heavy_append a b]
    omega
theorem heavy_turned (l : List Rc) (b : Nat) : heavy (turned l b) = heavy l := by
  have h := heavy_append (l.take b) (l.drop b)
  rw [List.take_append_drop] at h
  unfold turned
  rw [heavy_append, h]
  omega
theorem heavy_part (l : List Rc) (j : Nat) : heavy (l.take j) ≤ heavy l := by
  have h := heavy_append (l.take j) (l.drop j)
  rw [List.take_append_drop] at h
  omega

/-! ### The law's records -/
def okey (j : Nat) : ByteArray := ⟨#[UInt8.ofNat (97 + j)]⟩
theorem okey_size (j : Nat) : (okey j).size = 1 := rfl
theorem okey_inj {a b : Nat} (ha : a < 100) (hb : b < 100) (h : okey a = okey b) : a = b := by
  unfold okey at h
  injection h with h
  have h1 := congrArg (fun x : Array UInt8 => x[0]?) h
  simp at h1
  have h2 := congrArg UInt8.toNat h1
  rw [UInt8.toNat_ofNat', UInt8.toNat_ofNat'] at h2
  omega
def orec : Nat → List ByteArray → List Rc
  | _, [] => []
  | i, v :: l => ⟨1, okey i, v⟩ :: orec (i + 1) l
theorem orec_length : ∀ (i : Nat) (l : List ByteArray), (orec i l).length = l.length
  | _, [] => rfl
  | i, v :: l => by
    show (orec (i + 1) l).length + 1 = l.length + 1
    rw [orec_length]
theorem orec_at : ∀ (i : Nat) (l : List ByteArray) (j : Nat), (orec i l)[j]? = (l[j]?).map fun v => ⟨1, okey (i + j), v⟩
  | _, [], j => by simp [orec]
  | i, v :: l, 0 => by simp [orec]
  | i, v :: l, j + 1 => by
    show (orec (i + 1) l)[j]? = _
    rw [orec_at, Nat.add_right_comm]
    simp [Nat.add_assoc]
theorem orec_key : ∀ (i : Nat) (l : List ByteArray) (x : Rc), x ∈ orec i l → x.k = 1 ∧ ∃ j, i ≤ j ∧ j < i + l.length ∧ x.key = okey j
  | _, [], x, h => by simp [orec] at h
  | i, v :: l, x, h => by
    rcases List.mem_cons.mp h with rfl | h
    · exact ⟨rfl, i, Nat.le_refl _, by simp, rfl⟩
    · obtain ⟨h1, j, h2, h3, h4⟩ := orec_key (i + 1) l x h
      exact ⟨h1, j, by omega, by simp only [List.length_cons]; omega, h4⟩
theorem orec_apart : ∀ (i : Nat) (l : List ByteArray), i + l.length ≤ 100 → Apart (orec i l)
  | _, [], _ => ⟨fun x hx => by simp [orec] at hx, List.nodup_nil⟩
  | i, v :: l, h => by
    simp only [List.length_cons] at h
    have h1 := orec_apart (i + 1) l (by omega)
    refine ⟨fun x hx => (orec_key i (v :: l) x hx).1, ?_⟩
    show (okey i :: (orec (i + 1) l).map (·.key)).Nodup
    rw [List.nodup_cons]
    refine ⟨fun hm => ?_, h1.keys⟩
    obtain ⟨x, hx, he⟩ := List.mem_map.mp hm
    obtain ⟨_, j, h2, h3, h4⟩ := orec_key (i + 1) l x hx
    have := okey_inj (by omega) (by omega) (h4.symm.trans he)
    omega
theorem orec_heavy : ∀ (i : Nat) (l : List ByteArray), heavy (orec i l) = l.length + (l.map ByteArray.size).sum
  | _, [] => rfl
  | i, v :: l => by
    show (okey i).size + v.size + heavy (orec (i + 1) l) = l.length + 1 + (v.size + (l.map ByteArray.size).sum)
    rw [orec_heavy, okey_size]
    omega
end Go.Proofs.YtimcepoleboldaaGreatDoor.Kp
