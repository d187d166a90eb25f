/- Slices of records in memory: what comes in; the document's All. -/
import Derived.Test.YtimcepoleboldaaGreatDoorKeepTaken
import Derived.Lib.SmallJoins
namespace Go.Proofs.YtimcepoleboldaaGreatDoor
open Go.ChangeShapes Go.WideShapes Go.RowKit Go.Deep Go.Joins

instance : Inhabited Kp.Rc := ⟨⟨0, ByteArray.empty, ByteArray.empty⟩⟩
def Kp.Rc.wf (x : Kp.Rc) : Prop := -9223372036854775808 ≤ x.k ∧ x.k ≤ 9223372036854775807

/-- In the world w the value v is a slice of records that reads as l. -/
def Recs (w : World) (v : Value) (l : List Kp.Rc) : Prop :=
  ∃ A cap, v = .slice A l.length cap ∧ ∀ (j : Nat) (x : Kp.Rc), l[j]? = some x → x.wf ∧ ∃ b off, A = some ⟨b, off, none⟩ ∧ b < w.heap.size ∧
    w.cell? ⟨b, off + j * 3, none⟩ = some (.int .i64 x.k) ∧ w.cell? ⟨b, off + j * 3 + 1, none⟩ = some (.string x.key) ∧ w.cell? ⟨b, off + j * 3 + 2, none⟩ = some (.string x.val)

theorem Recs.below {w w' : World} {v : Value} {l : List Kp.Rc} (h : Recs w v l) (hb : Below w.heap.size w w') : Recs w' v l := by
  obtain ⟨A, cap, rfl, hat⟩ := h
  refine ⟨A, cap, rfl, fun j x hj => ?_⟩
  obtain ⟨hw, b, off, hA, hlt, h0, h1, h2⟩ := hat j x hj
  exact ⟨hw, b, off, hA, Nat.lt_of_lt_of_le hlt hb.size, (hb.cell (p := ⟨b, _, none⟩) hlt).trans h0, (hb.cell (p := ⟨b, _, none⟩) hlt).trans h1, (hb.cell (p := ⟨b, _, none⟩) hlt).trans h2⟩

theorem rc_cells : Tryz.prog.cellsOf 32 = 3 := by kernel_rfl
theorem rc_int : Tryz.prog.cellsOf 3 = 1 := by kernel_rfl
theorem rc_string : Tryz.prog.cellsOf 9 = 1 := by kernel_rfl

set_option maxRecDepth 100000 in
/-- One record's three cells. -/
theorem open_rc {H : Type} {enc : TypeId × Value → H} {w : World} {base n : Nat} {spare : Nat → Bool} {held : Bool} {cs : List Value} {x : DataW H × List MemPlace}
    (h : DataW.trod enc Tryz.prog w base spare held n 32 cs = some x) : ∃ it : Kp.Rc, it.wf ∧ cs = [.int .i64 it.k, .string it.key, .string it.val] := by
  obtain ⟨y0, y1, y2, m, _, hl, t0, t1, t2⟩ := trod_struct3 Tryz.underlying32 h
  rw [rc_cells] at hl
  match cs, hl with
  | [c0, c1, c2], _ =>
    simp only [rc_int, rc_string] at t0 t1 t2
    obtain ⟨a, e0, _, w0⟩ := DataW.trod_int Tryz.underlying3 t0
    obtain ⟨s, e1, _⟩ := DataW.trod_string Tryz.underlying9 t1
    obtain ⟨u, e2, _⟩ := DataW.trod_string Tryz.underlying9 t2
    simp at e0 e1 e2
    have n0 : -9223372036854775808 ≤ a ∧ a ≤ 9223372036854775807 := by simpa [Lit.wf, IntKind.min, IntKind.max, IntKind.bits, IntKind.signed] using w0
    exact ⟨⟨a, s, u⟩, n0, by simp [e0, e1, e2]⟩

set_option maxRecDepth 20000 in
theorem open_recs {H : Type} {enc : TypeId × Value → H} {w : World} {v : Value} {d : DataW H} {ps : List MemPlace}
    (h : DataW.Trod enc Tryz.prog w 0 (fun _ => true) true 29 v d ps) (hlt : ∀ y ∈ ps, y.block < w.heap.size) (hv : ∃ A len cap, v = .slice A len cap) : ∃ l : List Kp.Rc, Recs w v l := by
  obtain ⟨fuel, hf⟩ := h
  obtain ⟨A0, len0, cap0, rfl⟩ := hv
  rcases open_slice Tryz.underlying29 hf with ⟨hcs, _⟩ | ⟨a, len', cap', m, n, D, Pl, hcs, _, hl, _, hm, hx, hi⟩
  · simp [Value.cells] at hcs
    obtain ⟨rfl, rfl, rfl⟩ := hcs
    exact ⟨[], none, 0, rfl, fun i it hi => by simp at hi⟩
  · simp [Value.cells] at hcs
    obtain ⟨rfl, rfl, rfl⟩ := hcs
    simp only [if_true] at hm
    subst hm
    simp only [Prod.mk.injEq] at hx
    obtain ⟨_, rfl⟩ := hx
    rw [rc_cells] at hi hlt
    obtain ⟨f, hf'⟩ := choose_lt (α := Kp.Rc) (n := len0) (p := fun i it => it.wf ∧ ∀ (j : Nat) (u : Value), [Value.int .i64 it.k, .string it.key, .string it.val][j]? = some u → w.cell? (a.add (i * 3 + j)) = some u) (fun i hi' => by
      obtain ⟨cs', h1, h2⟩ := hi i (by omega)
      obtain ⟨it, hw, rfl⟩ := open_rc h2
      obtain ⟨_, _, hat⟩ := World.cells?_some h1
      refine ⟨it, hw, fun j u hj => ?_⟩
      have hj3 : j < 3 := by
        have := (List.getElem?_eq_some_iff.1 hj).1
        simpa using this
      rw [← Go.Deep.add_add, hat j hj3]
      exact hj)
    refine ⟨(List.range len0).map f, some a, m, by simp, fun i it hit => ?_⟩
    obtain ⟨hlen, rfl⟩ : ∃ h : i < len0, f i = it := by
      have h1 := (List.getElem?_eq_some_iff.1 hit).1
      simp only [List.length_map, List.length_range] at h1
      refine ⟨h1, ?_⟩
      simpa [h1] using hit
    obtain ⟨b, off, spot⟩ := a
    have hspot : spot = none := by
      have := (hf' 0 (by omega)).2 0 _ rfl
      simpa [Addr.add] using World.cell?_spot this
    subst hspot
    have hb : b < w.heap.size := hlt (.cell b off) (List.mem_append_left _ (MemPlace.mem_row.2 ⟨0, by omega, by simp⟩))
    have c0 := (hf' i hlen).2 0 _ rfl
    have c1 := (hf' i hlen).2 1 _ rfl
    have c2 := (hf' i hlen).2 2 _ rfl
    simp only [Addr.add_lit] at c0 c1 c2
    exact ⟨(hf' i hlen).1, b, off, rfl, hb, c0, c1, c2⟩

/-- Records that a list of one is. -/
theorem all_up {m : Kp.Mp} {l : List Kp.Rc} {k : Nat} {x : Kp.Rc} (h : l[k]? = some x) : Kp.all m (l.take (k + 1)) = Kp.taken (Kp.all m (l.take k)) x := by
  obtain ⟨h1, rfl⟩ := List.getElem?_eq_some_iff.1 h
  rw [List.take_succ_eq_append_getElem h1, Kp.all_append]
  rfl

def EAllPost (m : Kp.Mp) (l : List Kp.Rc) (w : World) (e : Ending) (w' : World) : Prop := ∃ v, e = .returned v ∧ Ents w' v (Kp.all m l) ∧ Below w.heap.size w w'

set_option maxRecDepth 20000 in
set_option maxHeartbeats 800000 in
theorem eall_any (va vl : Value) (m : Kp.Mp) (l : List Kp.Rc) (w : World) (ha : Ents w va m) (hl : Recs w vl l) (hu : Kp.Up m) (hm : m.length + l.length ≤ 1000000) :
    Calls Tryz.prog 25 #[va, vl] w (EAllPost m l w) := by
  obtain ⟨A, ca, rfl, hA⟩ := hl
  have HA := Lib.hid hA
  have HE := Lib.hid ha
  have HU := Lib.hid hu
  have hm1 : (l.length : Int) ≤ 1000000 := by omega
  clear hA ha hu
  go_enter Tryz.func25, Tryz.ntmps25
  go_wp2_with fail
  go_loopw [0, 5] (fun v i wr => ∃ k : Nat, k ≤ l.length ∧ i = .int .i64 (k : Int) ∧ Ents wr v (Kp.all m (l.take k)) ∧ Below w.heap.size w wr) (fun _ i _ => l.length - (intOf i).toNat)
  case atStart => exact ⟨0, Nat.zero_le _, rfl, HE.out, Below.refl _ _⟩
  case round =>
    obtain ⟨k, hk, rfl, hv, hb⟩ := hrel
    by_cases hlt : k < l.length
    · obtain ⟨x, hx⟩ : ∃ x, l[k]? = some x := ⟨_, List.getElem?_eq_getElem hlt⟩
      obtain ⟨-, b1, o1, rfl, l1, c0, c1, c2⟩ := HA.out k x hx
      have d0 := (hb.cell (p := ⟨b1, o1 + k * 3, none⟩) l1).trans c0
      have d1 := (hb.cell (p := ⟨b1, o1 + k * 3 + 1, none⟩) l1).trans c1
      have d2 := (hb.cell (p := ⟨b1, o1 + k * 3 + 2, none⟩) l1).trans c2
      have hki : (k : Int) < (l.length : Int) := by omega
      have HX := Lib.hid (all_up (m := m) hx)
      have HB := Lib.hid hb
      have HV := Lib.hid hv
      have HN : (Kp.all m (l.take k)).length ≤ 1000000 := by
        have h1 := Kp.length_all_le (l.take k) m
        rw [List.length_take] at h1
        omega
      have HN := Lib.hid HN
      clear c0 c1 c2 hb hv hx
      go_wp2_with fail
      refine (etaken_any _ (Kp.all m (l.take k)) x _ HV.out HN.out).mono ?_
      rintro e w2 ⟨v2, rfl, hr, hb2⟩
      rw [Kp.goTaken_is (Kp.up_all _ HU.out), ← HX.out] at hr
      have HR := Lib.hid hr.ents
      have HB2 := Lib.hid (HB.out.trans (hb2.mono HB.out.size))
      clear hr hb2 d0 d1 d2
      go_wp2_with fail
      go_roundw
      case rel => exact ⟨k + 1, by omega, by go_num, HR.out, HB2.out⟩
      case measure => simp [intOf]; omega
    · have he : l.take k = l := List.take_of_length_le (by omega)
      rw [he] at hv
      have HV := Lib.hid hv
      have HB := Lib.hid hb
      clear hv hb he
      go_wp2_with fail
      go_ret
      exact ⟨_, rfl, HV.out, HB.out⟩
end Go.Proofs.YtimcepoleboldaaGreatDoor
