/- What memory holds of a table of the program's store: buckets of records in a map by digests; laws on memory alone. -/
import Derived.Test.YtimcepoleboldaaGreatDoorKeepRecs
import Derived.Test.YtimcepoleboldaaGreatDoorKeepBk
import Derived.Maps.Own
import Derived.Maps.OwnSet
import Derived.Maps.RangeWalk
namespace Go.Proofs.YtimcepoleboldaaGreatDoor
open Go.RowKit
open Go.Maps (Keyed)

/-! ### Rows of Puts -/
def flatP (m : Kp.Mp) : List Value := (m.map fun e => [Value.int .i64 1, Value.string e.1, Value.string e.2]).flatten
theorem flatP_length : ∀ m : Kp.Mp, (flatP m).length = m.length * 3
  | [] => rfl
  | e :: m => by
    show (Value.int .i64 1 :: Value.string e.1 :: Value.string e.2 :: flatP m).length = (m.length + 1) * 3
    simp only [List.length_cons, flatP_length m]
    omega
theorem flatP_append (m n : Kp.Mp) : flatP (m ++ n) = flatP m ++ flatP n := by unfold flatP; rw [List.map_append, List.flatten_append]
theorem flatP_at : ∀ {m : Kp.Mp} {j : Nat} {e : ByteArray × ByteArray}, m[j]? = some e → (flatP m)[j * 3]? = some (.int .i64 1) ∧ (flatP m)[j * 3 + 1]? = some (.string e.1) ∧ (flatP m)[j * 3 + 2]? = some (.string e.2)
  | [], j, e, h => by simp at h
  | f :: m, 0, e, h => by
    simp at h
    subst h
    exact ⟨rfl, rfl, rfl⟩
  | f :: m, j + 1, e, h => by
    have h1 : m[j]? = some e := by simpa using h
    have h2 := flatP_at h1
    have e1 : (j + 1) * 3 = j * 3 + 1 + 1 + 1 := by omega
    rw [e1]
    exact h2
theorem flatP_one (m : Kp.Mp) : ∀ u ∈ flatP m, u.oneCell' = true := by
  intro u hu
  unfold flatP at hu
  simp only [List.mem_flatten, List.mem_map] at hu
  obtain ⟨l, ⟨e, _, rfl⟩, hu⟩ := hu
  simp at hu
  rcases hu with rfl | rfl | rfl <;> rfl

/-- A row of Puts, from a place on. -/
def RowP (w : World) (base : Nat) (v : Value) (m : Kp.Mp) : Prop := w.ownsRow base 32 3 v m.length (flatP m)

section
variable {w w' : World} {base : Nat} {v : Value} {m : Kp.Mp}
theorem RowP.lower (h : RowP w base v m) {b : Nat} (hb : b ≤ base) : RowP w b v m :=
  ⟨h.1, h.2.imp id fun ⟨g, cap, cur, e, h1, rest⟩ => ⟨g, cap, cur, e, Nat.le_trans hb h1, rest⟩⟩
theorem RowP.kept {K : Keep} {T : Obj → Bool} {B : Nat} (h : RowP w base v m) (hc : @Ch K T B w w') (hT : ∀ cs, T (.cells cs 32 (0, 0)) = false) : RowP w' base v m := owns_ch h hc hT
theorem RowP.below (h : RowP w base v m) (hb : Below w.heap.size w w') : RowP w' base v m := owns_ch (T := fun _ => false) h (Ch.of_below (K := noKeep) (B := 0) hb) (fun _ => rfl)
theorem RowP.grown {row : Option Nat} (h : RowP w base v m) (hg : w.grownBy w' row) (hne : v.ownBlock = none ∨ v.ownBlock ≠ row) : RowP w' base v m := World.ownsRow.kept h hg hne
theorem RowP.recs (h : RowP w base v m) : Recs w v (Kp.puts m) := by
  have hl : (Kp.puts m).length = m.length := by unfold Kp.puts; rw [List.length_map]
  have hrow : w.ownsRow base 32 3 v m.length (flatP m) := h
  rcases hrow.2 with ⟨rfl, h0⟩ | ⟨g, cap, cur, rfl, _, hg, _⟩
  · have : m = [] := List.length_eq_zero_iff.mp h0
    subst this
    exact ⟨none, 0, rfl, fun j e hj => by simp [Kp.puts] at hj⟩
  · refine ⟨some ⟨g, 0, none⟩, cap, by rw [hl], fun j x hj => ?_⟩
    unfold Kp.puts at hj
    rw [List.getElem?_map] at hj
    cases he : m[j]? with
    | none => rw [he] at hj; cases hj
    | some e =>
      rw [he] at hj
      simp at hj
      subst hj
      obtain ⟨h0, h1, h2⟩ := flatP_at he
      have c0 := World.ownsRow.cells hrow (g := g) rfl _ _ h0
      have c1 := World.ownsRow.cells hrow (g := g) rfl _ _ h1
      have c2 := World.ownsRow.cells hrow (g := g) rfl _ _ h2
      have hadd : ∀ k, (⟨g, 0, none⟩ : Addr).add k = ⟨g, 0 + k, none⟩ := fun k => by unfold Addr.add; split <;> simp_all
      rw [hadd] at c0 c1 c2
      exact ⟨⟨by show (-9223372036854775808 : Int) ≤ 1; decide, by show (1 : Int) ≤ 9223372036854775807; decide⟩, g, 0, rfl, (Array.getElem?_eq_some_iff.1 hg).1, c0, c1, c2⟩
theorem RowP.lt (h : RowP w base v m) {g : Nat} (hv : v.ownBlock = some g) : base ≤ g ∧ g < w.heap.size := by
  rcases h.2 with ⟨rfl, _⟩ | ⟨g', cap, cur, rfl, hb, hg, _⟩
  · cases hv
  · simp [Value.ownBlock] at hv
    subst hv
    exact ⟨hb, (Array.getElem?_eq_some_iff.1 hg).1⟩
end
theorem RowP.nil (w : World) (base : Nat) : RowP w base (.slice none 0 0) [] := World.ownsRow_nil _ _ _ _

/-- What has changed is one block, or a row that was not there. -/
theorem gr_row {a b c : World} {row : Option Nat} {v : Value} (h : a.grownBy b row) (k : b.grownBy c v.ownBlock) (hv : ∀ g, v.ownBlock = some g → a.heap.size ≤ g) : a.grownBy c row where
  os := k.os.trans h.os
  tape := k.tape.trans h.tape
  output := k.output.trans h.output
  size := Nat.le_trans h.size k.size
  block i hi hne := by
    have h1 := h.block i hi hne
    have h2 := k.block i (by have := h.size; omega) (fun e => by have := hv i e.symm; omega)
    rw [h2, h1]

/-! ### A map of buckets -/
theorem key_u64 : Keyed Tryz.prog 51 := Maps.int_keyed Tryz.underlying51
theorem dig_wf {d : Nat} (h : d < 18446744073709551616) : (Lit.int .u64 (d : Int)).wf = true := by
  simp [Lit.wf, IntKind.min, IntKind.max, IntKind.bits, IntKind.signed]
  omega
theorem dig_ne {i j : Nat} (h : i ≠ j) : (Lit.int .u64 (j : Int)) ≠ .int .u64 (i : Int) := by
  intro e
  injection e with _ e
  omega

/-- A bucket's slice, as a datum. -/
def slcD : Value → Option (DataW Unit)
  | .slice (some ⟨b, o, none⟩) l c => some (.agg [.lit (.int .i64 (b : Int)), .lit (.int .i64 (o : Int)), .lit (.int .i64 (l : Int)), .lit (.int .i64 (c : Int))])
  | .slice none l c => some (.agg [.lit (.int .i64 (l : Int)), .lit (.int .i64 (c : Int))])
  | _ => none
def slcR (v : Value) : Option (DataW Unit × List MemPlace) := (slcD v).map fun d => (d, [])
theorem slcD_inj {a b : Value} {y : DataW Unit} (ha : slcD a = some y) (hb : slcD b = some y) : a = b := by
  unfold slcD at ha hb
  split at ha
  · split at hb
    · rw [← hb] at ha
      simp only [Option.some.injEq, DataW.agg.injEq, List.cons.injEq, DataW.lit.injEq, Lit.int.injEq, true_and, and_true] at ha
      obtain ⟨h1, h2, h3, h4⟩ := ha
      have h1 := Int.ofNat.inj h1
      have h2 := Int.ofNat.inj h2
      have h3 := Int.ofNat.inj h3
      have h4 := Int.ofNat.inj h4
      subst h1 h2 h3 h4
      rfl
    · rw [← hb] at ha; simp at ha
    · cases hb
  · split at hb
    · rw [← hb] at ha; simp at ha
    · rw [← hb] at ha
      simp only [Option.some.injEq, DataW.agg.injEq, List.cons.injEq, DataW.lit.injEq, Lit.int.injEq, true_and, and_true] at ha
      obtain ⟨h1, h2⟩ := ha
      have h1 := Int.ofNat.inj h1
      have h2 := Int.ofNat.inj h2
      subst h1 h2
      rfl
    · cases hb
  · cases ha
theorem slcR_some {v : Value} {y : DataW Unit} {ps : List MemPlace} (h : slcR v = some (y, ps)) : slcD v = some y := by
  unfold slcR at h
  cases hd : slcD v with
  | none => rw [hd] at h; cases h
  | some z => rw [hd] at h; simp at h; rw [h.1]
theorem slcR_mk {v : Value} {y : DataW Unit} (h : slcD v = some y) : slcR v = some (y, []) := by unfold slcR; rw [h]; rfl
theorem RowP.slc {w : World} {base : Nat} {v : Value} {m : Kp.Mp} (h : RowP w base v m) : ∃ y, slcD v = some y := by
  rcases h.2 with ⟨rfl, _⟩ | ⟨g', cap, cur, rfl, _⟩
  · exact ⟨_, rfl⟩
  · exact ⟨_, rfl⟩

/-- Block m is a map of slices by digests, of at most n entries: G. -/
def MapB (w : World) (m n : Nat) (G : Nat → Option Value) : Prop :=
  ∃ D : DataW Unit, w.ownsMap Tryz.prog 51 slcR m n D ∧ Maps.IsMap D ∧
    (∀ d : Nat, d < 18446744073709551616 → ∀ z, D.atKey (.int .u64 (d : Int)) z = match G d with | some v => (slcD v).getD z | none => z) ∧ (∀ d v, G d = some v → ∃ y, slcD v = some y)

theorem zero_slice (w : World) : (zeroValue 29).run Tryz.prog w = .ok (.slice none 0 0) w := by kernel_rfl

section
variable {w w' : World} {m n : Nat} {G : Nat → Option Value}
theorem MapB.lt (h : MapB w m n G) : m < w.heap.size := by
  obtain ⟨D, h1, _⟩ := h
  exact h1.lt
theorem MapB.new (w : World) : MapB (w.alloc (.map #[] 0)) w.heap.size 0 (fun _ => none) :=
  ⟨.map [], World.ownsMap_made w _ _ _, Maps.isMap_empty, fun _ _ _ => rfl, fun _ _ h => by cases h⟩
theorem MapB.move (h : MapB w m n G) (e : w'.heap[m]? = w.heap[m]?) : MapB w' m n G := by
  obtain ⟨D, ⟨es, clock, h1, h2⟩, h3⟩ := h
  exact ⟨D, ⟨es, clock, e.trans h1, h2⟩, h3⟩
theorem MapB.block (h : MapB w m n G) : ∃ es clock, w.heap[m]? = some (.map es clock) := by
  obtain ⟨D, ⟨es, clock, h1, h2⟩, h3⟩ := h
  exact ⟨es, clock, h1⟩
theorem MapB.ne (h : MapB w m n G) {g : Nat} {t : TypeId} {cs : Array Value} (hb : Blk w g t cs) : m ≠ g := by
  intro e
  obtain ⟨es, clock, h1⟩ := h.block
  rw [e, show w.heap[g]? = some (.cells cs t (0, 0)) from hb] at h1
  cases h1
theorem MapB.grown {row : Option Nat} (h : MapB w m n G) (hg : w.grownBy w' row) (hne : some m ≠ row) : MapB w' m n G := h.move (hg.block m h.lt hne)
theorem MapB.mono {n' : Nat} (h : MapB w m n G) (hn : n ≤ n') : MapB w m n' G := by
  obtain ⟨D, h1, h2⟩ := h
  exact ⟨D, h1.mono hn, h2⟩

theorem MapB.look (h : MapB w m n G) {d : Nat} (hd : d < 18446744073709551616) :
    (Instr.lookup 84 (.map (some m)) (.int .u64 (d : Int)) false).run Tryz.prog w = .ok ((G d).getD (.slice none 0 0)) w := by
  obtain ⟨D, h1, h2, h3, h4⟩ := h
  obtain ⟨v, ps, hrun, hv⟩ := h1.lookup key_u64 Tryz.underlying84 (zero_slice w) (slcR_mk (v := .slice none 0 0) rfl) (Maps.keyOf_int_mk Tryz.underlying51 (dig_wf hd))
  have hv1 := slcR_some hv
  rw [h3 d hd] at hv1
  have hvv : v = (G d).getD (.slice none 0 0) := by
    cases hg : G d with
    | none =>
      rw [hg] at hv1
      exact slcD_inj hv1 rfl
    | some u =>
      obtain ⟨y, hy⟩ := h4 d u hg
      rw [hg] at hv1
      simp only [hy, Option.getD_some] at hv1
      exact slcD_inj hv1 hy
  rw [hrun, hvv]

theorem MapB.put (h : MapB w m n G) (hn : n < maxLen) {d : Nat} (hd : d < 18446744073709551616) {v : Value} {y : DataW Unit} (hv : slcD v = some y) :
    ∃ w', (Instr.mapUpdate 84 (.map (some m)) (.int .u64 (d : Int)) v).run Tryz.prog w = .ok () w' ∧ MapB w' m (n + 1) (Kp.upd G d (some v)) ∧ w.grownBy w' (some m) := by
  obtain ⟨D, h1, h2, h3, h4⟩ := h
  obtain ⟨w', hrun, r1, r2⟩ := h1.update key_u64 Tryz.underlying84 hn (Maps.keyOf_int_mk Tryz.underlying51 (dig_wf hd)) (slcR_mk hv)
  refine ⟨w', hrun, ⟨_, r1, h2.put _ _, ?_, ?_⟩, r2⟩
  · intro j hj z
    by_cases e : j = d
    · subst e
      rw [Kp.upd_same, Maps.atKey_put_same h2 (by trivial)]
      simp only [hv, Option.getD_some]
    · rw [Kp.upd_other _ _ e, Maps.atKey_put_other (dig_ne (fun e' => e e'.symm)), h3 j hj]
  · intro j u hj
    by_cases e : j = d
    · subst e
      rw [Kp.upd_same] at hj
      cases hj
      exact ⟨y, hv⟩
    · rw [Kp.upd_other _ _ e] at hj
      exact h4 j u hj

theorem MapB.del (h : MapB w m n G) {d : Nat} (hd : d < 18446744073709551616) (ty : TypeId) :
    ∃ w', (Builtin.delete_ #[84, 51] ty #[.map (some m), .int .u64 (d : Int)]).run Tryz.prog w = .ok (.tuple #[]) w' ∧ MapB w' m n (Kp.upd G d none) ∧ w.grownBy w' (some m) := by
  obtain ⟨D, h1, h2, h3, h4⟩ := h
  obtain ⟨w', hrun, r1, r2⟩ := h1.drop key_u64 Tryz.underlying84 (Maps.keyOf_int_mk Tryz.underlying51 (dig_wf hd)) ty
  refine ⟨w', hrun, ⟨_, r1, h2.del _, ?_, ?_⟩, r2.grown⟩
  · intro j hj z
    by_cases e : j = d
    · subst e
      rw [Kp.upd_same, Maps.atKey_del_same]
    · rw [Kp.upd_other _ _ e, Maps.atKey_del_other (dig_ne (fun e' => e e'.symm)), h3 j hj]
  · intro j u hj
    by_cases e : j = d
    · subst e
      rw [Kp.upd_same] at hj
      cases hj
    · rw [Kp.upd_other _ _ e] at hj
      exact h4 j u hj
/-- A copy of it. -/
theorem MapB.clone (h : MapB w m n G) : ∃ es clock, w.heap[m]? = some (.map es clock) ∧ MapB (w.alloc (.map es clock)) w.heap.size n G := by
  obtain ⟨D, ⟨es, clock, h1, h2⟩, h3⟩ := h
  exact ⟨es, clock, h1, D, ⟨es, clock, (MapKept.heap_alloc w _).1, h2⟩, h3⟩
end

/-! ### A table -/
/-- Where a table's rows may lie: anywhere, unless it is said. -/
class Rows where
  p : Nat → Prop
instance (priority := low) anyRows : Rows := ⟨fun _ => True⟩
structure TabAt [R : Rows] (w : World) (tb mb n : Nat) (G : Nat → Option Value) (D : Nat → Kp.Mp) (m : Kp.Mp) : Prop where
  blk : Blk w tb 86 #[.map (some mb), .int .i64 ((Kp.size m : Nat) : Int)]
  map : MapB w mb n G
  free : ∀ d, G d = none → D d = []
  rows : ∀ d v, G d = some v → D d ≠ [] ∧ RowP w 0 v (D d)
  tabs : Kp.Tabs D m
  up : Kp.Up m
  far : ∀ d v g, G d = some v → v.ownBlock = some g → R.p g
/-- Block tb is a table that has the map m; its buckets are in the map at block mb. -/
def Tab [R : Rows] (w : World) (tb mb n : Nat) (m : Kp.Mp) : Prop := ∃ G D, TabAt w tb mb n G D m

section
variable [R : Rows] {w w' : World} {tb mb n : Nat} {G : Nat → Option Value} {D : Nat → Kp.Mp} {m : Kp.Mp}
theorem TabAt.move (h : TabAt w tb mb n G D m) (h1 : w'.heap[tb]? = w.heap[tb]?) (h2 : w'.heap[mb]? = w.heap[mb]?) (h3 : ∀ v l, RowP w 0 v l → RowP w' 0 v l) : TabAt w' tb mb n G D m :=
  ⟨h.blk.move h1, h.map.move h2, h.free, fun d v hd => ⟨(h.rows d v hd).1, h3 _ _ (h.rows d v hd).2⟩, h.tabs, h.up, h.far⟩
theorem TabAt.below (h : TabAt w tb mb n G D m) (hb : Below w.heap.size w w') : TabAt w' tb mb n G D m :=
  h.move (hb.block _ h.blk.lt) (hb.block _ h.map.lt) (fun _ _ hr => hr.below hb)
theorem Tab.below (h : Tab w tb mb n m) (hb : Below w.heap.size w w') : Tab w' tb mb n m := by
  obtain ⟨G, D, h⟩ := h
  exact ⟨G, D, h.below hb⟩
/-- A table stays where its map does. -/
theorem Tab.kept {K : Keep} {T : Obj → Bool} {B : Nat} (h : Tab w tb mb n m) (hc : @Ch K T B w w') (hk : K.p mb) (h1 : ∀ cs, T (.cells cs 86 (0, 0)) = false) (h2 : ∀ cs, T (.cells cs 32 (0, 0)) = false) : Tab w' tb mb n m := by
  obtain ⟨G, D, h⟩ := h
  exact ⟨G, D, ⟨hc.blk h.blk (h1 _), h.map.move (hc.keep h.map.lt hk), h.free, fun d v hd => ⟨(h.rows d v hd).1, (h.rows d v hd).2.kept hc h2⟩, h.tabs, h.up, h.far⟩⟩
theorem Tab.lt (h : Tab w tb mb n m) : tb < w.heap.size ∧ mb < w.heap.size := by
  obtain ⟨G, D, h⟩ := h
  exact ⟨h.blk.lt, h.map.lt⟩
theorem Tab.up (h : Tab w tb mb n m) : Kp.Up m := by
  obtain ⟨G, D, h⟩ := h
  exact h.up
/-- A bucket, and what the look-up gives. -/
theorem TabAt.bucket (h : TabAt w tb mb n G D m) (d : Nat) : RowP w 0 ((G d).getD (.slice none 0 0)) (D d) := by
  cases hg : G d with
  | none => rw [h.free d hg]; exact RowP.nil _ _
  | some v => exact (h.rows d v hg).2
end
/-- Where a table's rows lie, told anew. -/
theorem Tab.told {R R' : Rows} {w : World} {tb mb n : Nat} {m : Kp.Mp} (h : @Tab R w tb mb n m) (hr : ∀ g, g < w.heap.size → R.p g → R'.p g) : @Tab R' w tb mb n m := by
  obtain ⟨G, D, q1, q2, q3, q4, q5, q6, q7⟩ := h
  exact ⟨G, D, @TabAt.mk R' w tb mb n G D m q1 q2 q3 q4 q5 q6 (fun d v g hg ho => hr g ((q4 d v hg).2.lt ho).2 (q7 d v g hg ho))⟩
end Go.Proofs.YtimcepoleboldaaGreatDoor
