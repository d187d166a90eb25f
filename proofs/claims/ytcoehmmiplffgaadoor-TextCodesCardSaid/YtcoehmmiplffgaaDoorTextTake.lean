/- take, the program's: words are read into what the parts point at. -/
import Derived.Test.YtcoehmmiplffgaaDoorTextNumber
import Derived.Test.YtcoehmmiplffgaaDoorTextFields
import Derived.Test.YtcoehmmiplffgaaDoorTextRread
import Derived.StillTailTactics
namespace Go.Proofs.YtcoehmmiplffgaaDoor
open Go.ChangeShapes Go.WideShapes Go.RowKit Go.Deep

/-- What a part holds, as a value. -/
def ptV : Tx.Pt → Value
  | .nm s => .string s
  | .num n => .int .i64 n
abbrev Pa.at (p : Pa) : Addr := ⟨p.b, p.o, none⟩
/-- The parts are written, one behind the other. -/
def puts (w : World) : List (Pa × Tx.Pt) → World
  | [] => w
  | q :: l => puts (w.setCell q.1.at (ptV q.2)) l
theorem puts_snoc : ∀ (l : List (Pa × Tx.Pt)) (w : World) (q : Pa × Tx.Pt), puts w (l ++ [q]) = (puts w l).setCell q.1.at (ptV q.2)
  | [], _, _ => rfl
  | r :: l, w, q => puts_snoc l (w.setCell r.1.at (ptV r.2)) q
theorem size_setCell (w : World) (a : Addr) (v : Value) : (w.setCell a v).heap.size = w.heap.size := by simp [World.setCell]
theorem puts_size : ∀ (l : List (Pa × Tx.Pt)) (w : World), (puts w l).heap.size = w.heap.size
  | [], _ => rfl
  | _ :: l, w => (puts_size l _).trans (size_setCell w _ _)
theorem puts_heap : ∀ (l : List (Pa × Tx.Pt)) (w : World) (b : Nat), (∀ q ∈ l, q.1.b ≠ b) → (puts w l).heap[b]? = w.heap[b]?
  | [], _, _, _ => rfl
  | q :: l, _, b, h => (puts_heap l _ b (fun r hr => h r (List.mem_cons_of_mem _ hr))).trans (heap_setCell_other _ q.1.at b _ (fun e => h q (List.mem_cons_self ..) e.symm))
theorem puts_below {B : Nat} : ∀ (l : List (Pa × Tx.Pt)) (w w0 : World), Below B w0 w → (∀ q ∈ l, B ≤ q.1.b) → Below B w0 (puts w l)
  | [], _, _, h, _ => h
  | q :: l, _, w0, h, hq => puts_below l _ w0 (h.setCell (p := q.1.at) (hq q (List.mem_cons_self ..)) _) (fun r hr => hq r (List.mem_cons_of_mem _ hr))
theorem some_set {w : World} {a b : Addr} {v : Value} (h : (w.cell? b).isSome = true) : ((w.setCell a v).cell? b).isSome = true := by
  by_cases e : a = b
  · subst e
    rw [World.cell?_setCell_same' w a v h]
    rfl
  · rw [World.cell?_setCell_other (w := w) (v := v) (h := e)]
    exact h
theorem puts_some {b : Addr} : ∀ (l : List (Pa × Tx.Pt)) (w : World), (w.cell? b).isSome = true → ((puts w l).cell? b).isSome = true
  | [], _, h => h
  | _ :: l, _, h => puts_some l _ (some_set h)
theorem puts_frozen {b : Addr} : ∀ (l : List (Pa × Tx.Pt)) (w : World), (puts w l).frozen? b = w.frozen? b
  | [], _ => rfl
  | _ :: l, _ => (puts_frozen l _).trans (World.frozen?_setCell ..)
theorem below_both {n : Nat} {u u' : World} (h : Below n u u') (a : Addr) (v : Value) : Below n (u.setCell a v) (u'.setCell a v) := by
  refine ⟨h.os, h.tape, h.output, by rw [size_setCell, size_setCell]; exact h.size, fun i hi => ?_⟩
  by_cases e : i = a.block
  · subst e
    show (u'.heap.modify a.block _)[a.block]? = (u.heap.modify a.block _)[a.block]?
    rw [Array.getElem?_modify, Array.getElem?_modify, if_pos rfl, if_pos rfl, h.block _ hi]
  · rw [heap_setCell_other u' a i v e, heap_setCell_other u a i v e]
    exact h.block i hi

/-- What the parts don't point into stays. -/
def Kpt (ps : List Pa) (w W : World) : Prop := w.heap.size ≤ W.heap.size ∧ ∀ b, b < w.heap.size → (∀ p ∈ ps, p.b ≠ b) → W.heap[b]? = w.heap[b]?
theorem Kpt.of {ps : List Pa} {w W : World} {vs : List Tx.Pt} (h : Below w.heap.size (puts w (ps.zip vs)) W) : Kpt ps w W := by
  refine ⟨by have := h.size; rwa [puts_size] at this, fun b hb hp => ?_⟩
  rw [h.block b hb]
  exact puts_heap _ w b (fun q hq => hp q.1 (List.of_mem_zip hq).1)

/-- What is handed over: the parts' row, the words' row, and what the parts point at. -/
structure TkIn (B : Nat) (ps : List Pa) (wv pv : Value) (os : List ByteArray) (w : World) : Prop where
  rows : ∀ W, Kpt ps w W → PaS B W pv ps
  strs : ∀ W, Kpt ps w W → Strs W wv os
  cell : ∀ p ∈ ps, (w.cell? p.at).isSome = true ∧ w.frozen? p.at = false ∧ B ≤ p.b
  rdy : RdyB B w
  few : ps.length ≤ 1000000
  short : ∀ s ∈ os, s.size ≤ 1000000
theorem pas_at {B : Nat} {w : World} {A : Option Addr} {n cap : Nat} {ps : List Pa} (h : PaS B w (.slice A n cap) ps) {j : Nat} {p : Pa} (hp : ps[j]? = some p) :
    ∃ b off, A = some ⟨b, off, none⟩ ∧ w.cell? ⟨b, off + j * 2, none⟩ = some (.pointer p.p0) ∧ w.cell? ⟨b, off + j * 2 + 1, none⟩ = some (.pointer p.p1) := by
  obtain ⟨A', cap', h2, -, h3⟩ := h
  injection h2 with h2 _ _
  subst h2
  obtain ⟨b, off, h5, -, h7, h8⟩ := h3 j p hp
  exact ⟨b, off, h5, h7, h8⟩
theorem strs_at {w : World} {A : Option Addr} {n cap : Nat} {l : List ByteArray} (h : Strs w (.slice A n cap) l) {j : Nat} {s : ByteArray} (hs : l[j]? = some s) :
    ∃ b off, A = some ⟨b, off, none⟩ ∧ w.cell? ⟨b, off + j, none⟩ = some (.string s) := by
  obtain ⟨A', cap', h2, -, h3⟩ := h
  injection h2 with h2 _ _
  subst h2
  obtain ⟨b, off, h5, -, h7⟩ := h3 j s hs
  exact ⟨b, off, h5, h7⟩

/-- The words, as lists. -/
abbrev lst (os : List ByteArray) : List (List UInt8) := os.map fun s => s.data.toList
/-- How far the words are read, in memory. -/
structure TkAt (ps : List Pa) (os : List ByteArray) (w : World) (k : Nat) (vs : List Tx.Pt) (wr : World) : Prop where
  rd : Rd (ps.map Pa.nm) (lst os) vs k
  bel : Below w.heap.size (puts w (ps.zip vs)) wr
  kind : vs.map Tx.Pt.isN = (ps.map Pa.nm).take k
  ok : ∀ x ∈ vs, x.ok = true
theorem TkAt.kpt {ps : List Pa} {os : List ByteArray} {w wr : World} {k : Nat} {vs : List Tx.Pt} (h : TkAt ps os w k vs wr) : Kpt ps w wr := Kpt.of h.bel
theorem TkAt.later {ps : List Pa} {os : List ByteArray} {w wr wr' : World} {k : Nat} {vs : List Tx.Pt} (h : TkAt ps os w k vs wr) (hb : Below wr.heap.size wr wr') : TkAt ps os w k vs wr' :=
  ⟨h.rd, h.bel.trans (hb.mono (by have := h.bel.size; rwa [puts_size] at this)), h.kind, h.ok⟩
theorem zip_snoc : ∀ (ps : List Pa) (vs : List Tx.Pt) (p : Pa) (x : Tx.Pt), ps[vs.length]? = some p → ps.zip (vs ++ [x]) = ps.zip vs ++ [(p, x)]
  | [], _, _, _, h => by simp at h
  | q :: ps, [], p, x, h => by
    simp at h
    subst h
    simp
  | q :: ps, v :: vs, p, x, h => by
    rw [List.cons_append, List.zip_cons_cons, List.zip_cons_cons, zip_snoc ps vs p x (by simpa using h), List.cons_append]
theorem TkAt.put {ps : List Pa} {os : List ByteArray} {w wr : World} {k : Nat} {vs : List Tx.Pt} {p : Pa} {x : Tx.Pt} (h : TkAt ps os w k vs wr) (hp : ps[k]? = some p) (hx : x.isN = p.nm) (hok : x.ok = true)
    (hr : Rd (ps.map Pa.nm) (lst os) (vs ++ [x]) (k + 1)) : TkAt ps os w (k + 1) (vs ++ [x]) (wr.setCell p.at (ptV x)) := by
  refine ⟨hr, ?_, ?_, ?_⟩
  · rw [zip_snoc ps vs p x (by rw [h.rd.1]; exact hp), puts_snoc]
    exact below_both h.bel _ _
  · obtain ⟨h1, rfl⟩ := List.getElem?_eq_some_iff.1 hp
    rw [List.map_append, h.kind, List.take_succ_eq_append_getElem (by rw [List.length_map]; exact h1)]
    simp [hx]
  · intro y hy
    rcases List.mem_append.1 hy with hy | hy
    · exact h.ok y hy
    · rw [List.mem_singleton.1 hy]; exact hok
theorem TkAt.cells {B : Nat} {ps : List Pa} {os : List ByteArray} {wv pv : Value} {w wr : World} {k : Nat} {vs : List Tx.Pt} {p : Pa} (h : TkAt ps os w k vs wr) (hi : TkIn B ps wv pv os w) (hp : p ∈ ps) : (∃ u, wr.cell? p.at = some u) ∧ wr.frozen? p.at = false := by
  obtain ⟨h1, h2, -⟩ := hi.cell p hp
  have hlt : p.b < w.heap.size := by
    obtain ⟨u, hu⟩ := Option.isSome_iff_exists.1 h1
    exact World.block_lt_of_cell? w p.at hu
  have e := h.bel.block p.b hlt
  have h3 := puts_some (ps.zip vs) w h1
  rw [← cell_of_heap_eq e p.o] at h3
  refine ⟨Option.isSome_iff_exists.1 h3, ?_⟩
  rw [World.frozen?_of_block (a := p.at) e, puts_frozen]
  exact h2
theorem TkAt.rdy {B : Nat} {ps : List Pa} {os : List ByteArray} {wv pv : Value} {w wr : World} {k : Nat} {vs : List Tx.Pt} (h : TkAt ps os w k vs wr) (hi : TkIn B ps wv pv os w) (hB : B ≤ w.heap.size) : RdyB B wr :=
  hi.rdy.below ((puts_below (ps.zip vs) w w (Below.refl _ _) (fun q hq => (hi.cell q.1 (List.of_mem_zip hq).1).2.2)).trans (h.bel.mono hB))

/-- What take comes to. -/
def TkPost (ps : List Pa) (os : List ByteArray) (w : World) (e : Ending) (w' : World) : Prop :=
  e = .returned (.int .i64 (Tx.take (ps.map Pa.nm) (lst os)).1) ∧ ∃ vs : List Tx.Pt, Below w.heap.size (puts w (ps.zip vs)) w' ∧ vs.map Tx.Pt.isN = (ps.map Pa.nm).take vs.length ∧ (∀ x ∈ vs, x.ok = true) ∧
    ((Tx.take (ps.map Pa.nm) (lst os)).1 = 0 → vs = (Tx.take (ps.map Pa.nm) (lst os)).2)
theorem TkAt.no {ps : List Pa} {os : List ByteArray} {w wr : World} {k : Nat} {vs : List Tx.Pt} {E : Int} (h : TkAt ps os w k vs wr) (hE : (Tx.take (ps.map Pa.nm) (lst os)).1 = E) (h0 : E ≠ 0) : TkPost ps os w (.returned (.int .i64 E)) wr :=
  ⟨by rw [hE], vs, h.bel, by rw [h.kind, h.rd.1], h.ok, fun h2 => absurd (hE.symm.trans h2) h0⟩
theorem take_long {ks : List Bool} {ws : List (List UInt8)} (h : ws.length = ks.length) : Tx.take ks ws = Tx.takeL ks ws := by unfold Tx.take; rw [if_pos h]
theorem TkAt.yes {ps : List Pa} {os : List ByteArray} {w wr : World} {vs : List Tx.Pt} (h : TkAt ps os w ps.length vs wr) (hl : os.length = ps.length) : TkPost ps os w (.returned (.int .i64 0)) wr := by
  have hr := h.rd
  have e : Tx.take (ps.map Pa.nm) (lst os) = (0, vs) := by
    rw [take_long (by rw [List.length_map, List.length_map]; exact hl)]
    exact Rd.all (by rw [List.length_map]; exact hr)
  exact ⟨by rw [e], vs, h.bel, by rw [h.kind, hr.1], h.ok, fun _ => by rw [e]⟩

set_option maxRecDepth 100000 in
set_option maxHeartbeats 4000000 in
theorem take_any (B : Nat) (ps : List Pa) (wv pv : Value) (os : List ByteArray) (w : World) (hi : TkIn B ps wv pv os w) (hB : B ≤ w.heap.size) (ho : os.length ≤ 1000000) :
    Calls Tryd.prog 53 #[wv, pv] w (TkPost ps os w) := by
  have hk0 : Kpt ps w w := ⟨Nat.le_refl _, fun _ _ _ => rfl⟩
  obtain ⟨A, cap, rfl, -, -⟩ := hi.rows w hk0
  obtain ⟨A2, cap2, rfl, -, -⟩ := hi.strs w hk0
  have HI := Lib.hid hi
  have HBW := Lib.hid hB
  have hfi : (ps.length : Int) ≤ 1000000 := by have := hi.few; omega
  have hoi : (os.length : Int) ≤ 1000000 := by omega
  clear hk0 hi hB
  by_cases hl : os.length = ps.length
  · have HL := Lib.hid hl
    have hli : (os.length : Int) = (ps.length : Int) := by omega
    have hlb : ((os.length : Int) != (ps.length : Int)) = false := by rw [hli]; simp
    have hle : ∀ k : Nat, k < ps.length → (k : Int) < (os.length : Int) := fun k hk => by omega
    clear hl hli
    go_enter Tryd.func53, Tryd.ntmps53
    go_wp2_with fail
    go_loopw [16] (fun v wr => ∃ (k : Nat) (vs : List Tx.Pt), k ≤ ps.length ∧ v = .int .i64 (k : Int) ∧ Hid (TkAt ps os w k vs wr)) (fun v _ => ps.length - (intOf v).toNat)
    case atStart => exact ⟨0, [], Nat.zero_le _, rfl, Lib.hid ⟨Rd.zero _ _, by rw [List.zip_nil_right]; exact Below.refl _ _, rfl, fun x hx => by cases hx⟩⟩
    case round =>
      obtain ⟨k, vs, hk, rfl, HT⟩ := hrel
      by_cases hlt : k < ps.length
      · have hlt' : (k : Int) < (ps.length : Int) := by omega
        have hlo' := hle k hlt
        have hp : ps[k]? = some ps[k] := List.getElem?_eq_getElem hlt
        have hok : k < os.length := by omega
        have hs : os[k]? = some os[k] := List.getElem?_eq_getElem hok
        obtain ⟨s, hss⟩ : ∃ s, os[k] = s := ⟨_, rfl⟩
        obtain ⟨p, hpp⟩ : ∃ p, ps[k] = p := ⟨_, rfl⟩
        rw [hss] at hs
        rw [hpp] at hp
        have hbA : Below wr.heap.size wr (wr.alloc (.cells #[.pointer p.p0, .pointer p.p1] 105)) := (Below.refl _ _).alloc (Nat.le_refl _) _
        have hT2 := HT.out.later hbA
        obtain ⟨bp, op, rfl, c0, c1⟩ := pas_at (HI.out.rows wr HT.out.kpt) hp
        obtain ⟨bs, oo, rfl, d0⟩ := strs_at (HI.out.strs _ hT2.kpt) hs
        have hbx := Blk.new wr 105 #[.pointer p.p0, .pointer p.p1]
        have k0 := hbx.cell 0
        have k1 := hbx.cell 1
        obtain ⟨⟨u, hu⟩, hf⟩ := hT2.cells HI.out (List.mem_of_getElem? hp)
        have hks : (ps.map Pa.nm)[k]? = some p.nm := by rw [List.getElem?_map, hp]; rfl
        have hos : (lst os)[k]? = some s.data.toList := by rw [List.getElem?_map, hs]; rfl
        have HT2 := Lib.hid (And.intro hT2 (And.intro hp (And.intro hks hos)))
        have hrd := (hT2.rdy HI.out HBW.out).rdy
        have HNU := Lib.hid (number_any s _ (HI.out.short s (List.mem_of_getElem? hs)) hrd)
        have HTK := Lib.hid (take_long (ks := ps.map Pa.nm) (ws := lst os) (by rw [List.length_map, List.length_map]; exact HL.out))
        clear hbA hT2 hp hs hss hpp hks hos hbx hrd hok
        go_upto_region 6 with fail
        generalize wr.alloc (.cells #[.pointer p.p0, .pointer p.p1] 105) = wb at *
        clear c0 c1
        cases hn : p.nm with
        | true =>
          have e0 : p.p0 = some p.at := by unfold Pa.p0; rw [hn]; rfl
          rw [e0] at k0
          clear e0 k1 HNU
          have HNA := Lib.hid (fun W => name_any s W)
          cases hnm : Ir.nm s with
          | false =>
            rw [hnm] at HNA
            have HE := Lib.hid (show (Tx.take (ps.map Pa.nm) (lst os)).1 = 80 by
              rw [HTK.out]
              exact HT2.out.1.rd.noname (by rw [HT2.out.2.2.1, hn]) HT2.out.2.2.2 hnm)
            clear hnm hn
            go_wp2_with (go_at_call 64; (with_reducible refine (HNA.out _).mono ?_); rintro e w2 ⟨rfl, rfl⟩)
            go_ret
            exact HT2.out.1.no HE.out (by decide)
          | true =>
            rw [hnm] at HNA
            have HD := Lib.hid ((HT2.out.1.later (Below.refl _ _).drew).put (x := .nm s) HT2.out.2.1 (by rw [hn]; rfl) hnm (HT2.out.1.rd.name (by rw [HT2.out.2.2.1, hn]) HT2.out.2.2.2 hnm))
            clear hnm hn
            go_wp2_with (go_at_call 64; (with_reducible refine (HNA.out _).mono ?_); rintro e w2 ⟨rfl, rfl⟩)
            go_still_tail 7, (by kernel_rfl)
            go_wp2_with fail
            go_roundw
            case rel => exact ⟨k + 1, _, by omega, by go_num, HD⟩
            case measure => simp [intOf]; omega
        | false =>
          have e0 : p.p0 = none := by unfold Pa.p0; rw [hn]; rfl
          have e1 : p.p1 = some p.at := by unfold Pa.p1; rw [hn]; rfl
          rw [e0] at k0
          rw [e1] at k1
          clear e0 e1
          cases hnu : Tx.number s.data.toList with
          | none =>
            have HE := Lib.hid (show (Tx.take (ps.map Pa.nm) (lst os)).1 = 81 by
              rw [HTK.out]
              exact HT2.out.1.rd.nonum (by rw [HT2.out.2.2.1, hn]) HT2.out.2.2.2 hnu)
            have HNV := Lib.hid (HNU.out.mono (R' := fun e w' => (∃ n : Int, e = .returned (.tuple #[.int .i64 n, .bool false])) ∧ Below wb.heap.size wb w') (by
              rintro e w2 ⟨⟨n, rfl, -⟩, hb2⟩
              rw [hnu]
              exact ⟨⟨n, rfl⟩, hb2⟩))
            clear hnu hn HNU
            go_wp2_with (go_at_call 65; (with_reducible refine HNV.out.mono ?_); rintro e w2 ⟨⟨n, rfl⟩, hb2⟩; have HB2 := Lib.hid hb2; clear hb2)
            go_ret
            exact (HT2.out.1.later HB2.out).no HE.out (by decide)
          | some m =>
            have hmm := Tx.number_some hnu
            have HM := Lib.hid (show (Tx.Pt.num m).ok = true from decide_eq_true ⟨hmm.1, hmm.2.1⟩)
            have HR := Lib.hid (HT2.out.1.rd.num (by rw [HT2.out.2.2.1, hn]) HT2.out.2.2.2 hnu)
            have HNM := Lib.hid (show Tx.Pt.isN (.num m) = p.nm by rw [hn]; rfl)
            have HNV := Lib.hid (HNU.out.mono (R' := fun e w' => e = .returned (.tuple #[.int .i64 m, .bool true]) ∧ Below wb.heap.size wb w') (by
              rintro e w2 ⟨⟨n, rfl, hnn⟩, hb2⟩
              rw [hnn m hnu, hnu]
              exact ⟨rfl, hb2⟩))
            clear hnu hn hmm HNU
            have hlb1 := World.block_lt_of_cell? _ _ k1
            have HFU := Lib.hid (And.intro (And.intro hu hf) (And.intro k1 hlb1))
            clear hlb1
            go_upto_region 11 with (go_at_call 65; (with_reducible refine HNV.out.mono ?_); rintro e w2 ⟨rfl, hb2⟩; have HB2 := Lib.hid hb2; clear hb2)
            have hT3 := HT2.out.1.later HB2.out
            obtain ⟨⟨u3, hu3⟩, hf3⟩ := hT3.cells HI.out (List.mem_of_getElem? HT2.out.2.1)
            have k3 := (HB2.out.cell (p := ⟨wr.heap.size, 1, none⟩) HFU.out.2.2).trans HFU.out.2.1
            have HD := Lib.hid (hT3.put (x := .num m) HT2.out.2.1 HNM.out HM.out HR.out)
            clear hT3 d0 k0 k1 hu hf
            go_wp2_with fail
            go_roundw
            case rel => exact ⟨k + 1, _, by omega, by go_num, HD⟩
            case measure => simp [intOf]; omega
      · obtain rfl : k = ps.length := by omega
        go_wp2_with fail
        go_ret
        exact HT.out.yes HL.out
  · have hlb : ((os.length : Int) != (ps.length : Int)) = true := by rw [bne_iff_ne]; omega
    have HE := Lib.hid (show TkPost ps os w (.returned (.int .i64 80)) w from ⟨by unfold Tx.take; rw [if_neg (by rw [List.length_map, List.length_map]; exact hl)], [], by rw [List.zip_nil_right]; exact Below.refl _ _, rfl, (fun x hx => nomatch hx), fun h => by
      unfold Tx.take at h
      rw [if_neg (by rw [List.length_map, List.length_map]; exact hl)] at h
      exact absurd h (by decide)⟩)
    clear hl
    go_enter Tryd.func53, Tryd.ntmps53
    go_wp2_with fail
    go_ret
    exact HE.out
end Go.Proofs.YtcoehmmiplffgaaDoor
