/- What (*gather).all and (*Writer).Bytes come to: the bytes that were put, as a string; of what was there nothing turns. -/
import Derived.Test.YtimcepoleboldaaGreatDoorPackBytes
import Derived.LoopTactic
import Derived.Outline
import Derived.OwnWalk
import Derived.Deep.LoopGhost
import Derived.Deep.RegionLaw
import Derived.Lib.BufferWrite
namespace Go.Proofs.YtimcepoleboldaaGreatDoor
open Go.RowKit

theorem byteCells_eq (l : List UInt8) : Lib.byteCells l = Cells l := rfl

/-- 'copy' of a text into a row of the call's own; of no bytes, whatever the place. -/
theorem run_copy_text {P : Program} (w : World) (dT sT ty elem : TypeId) (dp : Option Addr) (g off dLen dCap : Nat) (s : ByteArray) (cur : List Value) (t : TypeId)
    (hu : P.underlying dT = some (.slice elem)) (hs : (P.info? elem).map (·.size) = some 1) (hb : Blk w g t cur.toArray) (hpos : 0 < s.size → dp = some ⟨g, off, none⟩) (hle : s.size ≤ dLen) (hfit : off + s.size ≤ cur.length) :
    ∃ w', (Builtin.copy_ #[dT, sT] ty #[.slice dp dLen dCap, .string s]).run P w = .ok (goInt s.size) w' ∧ Blk w' g t (cur.take off ++ Cells s.data.toList ++ cur.drop (off + s.size)).toArray ∧ w.grownBy w' (some g) := by
  by_cases h0 : s.size = 0
  · refine ⟨w, ?_, ?_, gr_refl w _⟩
    · rw [Lib.run_copy_empty_string w dT sT ty elem dp dLen dCap s hu (by rw [hs]; rfl) h0, h0]; rfl
    · have e : s.data.toList = [] := List.eq_nil_of_length_eq_zero (by rw [toList_len]; exact h0)
      rw [e, h0]
      simpa [Cells] using hb
  · rw [hpos (by omega)]
    have hr := Lib.run_copy_row_string (P := P) w dT sT ty elem g off dLen dCap s cur.toArray t hu hs hb hle (by simpa using hfit)
    refine ⟨_, hr, ?_, ?_⟩
    · exact setRow_heap w g cur.toArray _ t _ hb
    · exact ⟨rfl, rfl, rfl, by simp [World.setRow], fun k _ hk => setRow_other w g k _ (fun e => hk (by rw [e]))⟩

theorem step_copy_text {P : Program} {ops : Array Oper} {o : Oper} {a : Act} {w : World} {K : Act → World → Prop} {Q : Exit → Act → World → Prop} {E : Prop}
    (hg : o.guard = none) (d x : Operand) (dT sT : TypeId) (hop : o.op = Op.call { callee := Callee.builtin Builtin.copy, args := #[d, x], argTypes := #[dT, sT] })
    (elem : TypeId) (hu : P.underlying dT = some (.slice elem)) (hs : (P.info? elem).map (·.size) = some 1)
    (dp : Option Addr) (g off dLen dCap : Nat) (s : ByteArray) (cur : List Value) (t : TypeId) (hd : a.eval d = .slice dp dLen dCap) (hx : a.eval x = .string s) (hb : Blk w g t cur.toArray)
    (hpos : 0 < s.size → dp = some ⟨g, off, none⟩) (hle : s.size ≤ dLen) (hfit : off + s.size ≤ cur.length)
    (hK : ∀ w', Blk w' g t (cur.take off ++ Cells s.data.toList ++ cur.drop (off + s.size)).toArray → w.grownBy w' (some g) → K (a.put o.dst (goInt s.size)) w') :
    if Region.wanted o (yielded ops a.tmps) = true then Oper.wp P o a w K Q else E := by
  have hw : Region.wanted o (yielded ops a.tmps) = true := by simp [Region.wanted, hg]
  rw [if_pos hw]
  obtain ⟨w', hrun, h1, h2⟩ := run_copy_text (P := P) w dT sT o.type elem dp g off dLen dCap s cur t hu hs hb hpos hle hfit
  unfold Oper.wp
  simp [execOp, hop, resolve, invoke, builtin, hd, hx, hrun, Result.andThen]
  exact hK w' h1 h2

theorem made_list (z : Value) (n : Nat) : (madeCells #[z] n).toList = List.replicate n z := by
  apply List.ext_getElem
  · simp [madeCells]
  · intro i h1 h2
    simp [madeCells, Nat.mod_one]

theorem info_u8s : (Tryz.prog.info? 5).map (·.size) = some 1 := by kernel_rfl

/-- What the loop knows when the pieces rest are to come. -/
def AllLoop (w : World) (bw g : Nat) (l : List UInt8) (k : Nat) (v4 v5 : Value) (wr : World) : Prop :=
  ∃ (rest : List ByteArray) (p : Option Addr) (suf : List UInt8), k = rest.length ∧ v4 = .int .i64 ((bytesOf rest).length : Int) ∧ v5 = .pointer p ∧ Chain w bw p rest ∧ bytesOf rest ++ suf = l ∧
    Blk wr g 5 (List.replicate (bytesOf rest).length (Value.int .u8 0) ++ Cells suf).toArray ∧ Below w.heap.size w wr

theorem all_start {w w1 : World} {bw n : Nat} {p : Option Addr} {ss : List ByteArray} (hc : Chain w bw p ss) (hn : (bytesOf ss).length = n)
    (hown : w1.ownsRow w.heap.size 5 1 (.slice (some ⟨w.heap.size, 0, none⟩) n n) n (madeCells (Value.int .u8 0).cells (n * 1)).toList) (hg : w.grownBy w1 none) :
    AllLoop w bw w.heap.size (bytesOf ss) ss.length (.int .i64 (n : Int)) (.pointer p) w1 := by
  subst hn
  refine ⟨ss, p, [], rfl, rfl, rfl, hc, by simp, ?_, gr_to_below hg⟩
  obtain ⟨h1, h2⟩ := hown
  rcases h2 with ⟨h2, _⟩ | ⟨g, cap, cur, hv, _, hh, _, _, hsz, htk⟩
  · cases h2
  · injection hv with hv1 hv2 hv3
    injection hv1 with hv1
    injection hv1 with hv1
    subst hv1 hv3
    have e : cur = (List.replicate (bytesOf ss).length (Value.int .u8 0) ++ Cells []).toArray := by
      have e1 : cur.toList = List.replicate (bytesOf ss).length (Value.int .u8 0) := by
        have e2 : (bytesOf ss).length * 1 = cur.toList.length := by simpa using hsz.symm
        rw [e2, List.take_length] at htk
        rw [htk]
        show (madeCells #[Value.int .u8 0] _).toList = _
        rw [made_list, ← e2, Nat.mul_one]
      apply Array.ext'
      simpa [Cells] using e1
    rw [← e]
    exact hh

/-- One piece more. -/
theorem all_step {w wr w1 : World} {bw g : Nat} {l : List UInt8} {s : ByteArray} {rest : List ByteArray} {p : Option Addr} {suf : List UInt8} (hc : Chain w bw p rest) (hl : bytesOf (s :: rest) ++ suf = l) (hg : w.heap.size ≤ g)
    (hb : Blk w1 g 5 ((List.replicate (bytesOf (s :: rest)).length (Value.int .u8 0) ++ Cells suf).take (bytesOf rest).length ++ Cells s.data.toList ++ (List.replicate (bytesOf (s :: rest)).length (Value.int .u8 0) ++ Cells suf).drop ((bytesOf rest).length + s.size)).toArray)
    (hbel : Below w.heap.size w wr) (hgr : wr.grownBy w1 (some g)) : AllLoop w bw g l rest.length (.int .i64 ((bytesOf rest).length : Int)) (.pointer p) w1 := by
  refine ⟨rest, p, s.data.toList ++ suf, rfl, rfl, rfl, hc, by rw [← hl]; simp [bytesOf], ?_, hbel.grown hgr hbel.size (by intro k hk; injection hk; omega)⟩
  have e : (bytesOf (s :: rest)).length = (bytesOf rest).length + s.size := by simp [bytesOf]
  rw [e] at hb
  have e1 : (List.replicate ((bytesOf rest).length + s.size) (Value.int .u8 0) ++ Cells suf).take (bytesOf rest).length = List.replicate (bytesOf rest).length (Value.int .u8 0) := by
    rw [List.take_append_of_le_length (by simp), List.take_replicate, Nat.min_eq_left (by omega)]
  have e2 : (List.replicate ((bytesOf rest).length + s.size) (Value.int .u8 0) ++ Cells suf).drop ((bytesOf rest).length + s.size) = Cells suf := by
    have : (List.replicate ((bytesOf rest).length + s.size) (Value.int .u8 0)).length = (bytesOf rest).length + s.size := by simp
    rw [List.drop_append_of_le_length (by simp)]
    simp
  rw [e1, e2, List.append_assoc] at hb
  have e3 : Cells (s.data.toList ++ suf) = Cells s.data.toList ++ Cells suf := by simp [Cells]
  rw [e3]
  exact hb

set_option maxRecDepth 20000 in
set_option maxHeartbeats 400000 in
theorem all_any (bw : Nat) (l : List UInt8) (w : World) (h : Wr w bw l) (hl : l.length ≤ 1099511627776) :
    Calls Tryz.prog 124 #[.pointer (some ⟨bw, 0, none⟩)] w fun e w' => e = .returned (.string ⟨l.toArray⟩) ∧ Below w.heap.size w w' := by
  obtain ⟨p, ss, h1, h2, h3⟩ := h
  obtain ⟨i0, hi, hz0, hz1, hz2⟩ := info_parts info_u8
  have c0 := h1.cell 0
  have c1 := h1.cell 1
  have hlt := h1.lt
  simp at c0 c1
  have HL := Lib.hid h3; clear h3
  have HC := Lib.hid h2; clear h2
  clear h1
  go_enter Tryz.func124, Tryz.ntmps124
  go_wp2_with (at_make; refine wpList_make_full _ rfl _ _ 37 rfl w.heap.size 5 i0 (.int .u8 0) 1 Tryz.underlying37 hi hz0 hz1 _ _ _ _ l.length rfl rfl rfl rfl (by rw [hz2]; omega) (by unfold maxLen; omega) (Nat.le_refl _) ?_; intro w1 hown1 hgrow1; have hb1 := gr_to_below hgrow1; have c01 := (hb1.cell (p := ⟨bw, 0, none⟩) hlt).trans c0; have c11 := (hb1.cell (p := ⟨bw, 1, none⟩) hlt).trans c1)
  obtain ⟨g, hgg⟩ : ∃ g, g = w.heap.size := ⟨_, rfl⟩
  have hst : AllLoop w bw w.heap.size l ss.length (.int .i64 (l.length : Int)) (.pointer p) w1 := by
    have h3 := HL.out
    subst h3
    exact all_start HC.out rfl hown1 hgrow1
  have HS := Lib.hid hst
  clear hst hown1 hgrow1 c0 c1 c01 c11 HC hb1
  rw [← hgg] at HS
  have hgl : w.heap.size ≤ g := by omega
  rw [← hgg]
  have HG := Lib.hid hgg; clear hgg
  go_loopg [4, 5] ss.length (fun k v4 v5 wr => AllLoop w bw g l k v4 v5 wr)
  case atStart => exact HS.out
  case round =>
    obtain ⟨rest, p1, suf, hk, rfl, rfl, hc, hsum, hb, hbel⟩ := hrel
    cases rest with
    | nil =>
      obtain rfl : p1 = none := hc
      have hcv : (convert 37 9 (.slice (some ⟨g, 0, none⟩) l.length l.length)).run Tryz.prog wr = .ok (.string ⟨l.toArray⟩) wr := by
        have e : suf = l := by simpa [bytesOf] using hsum
        subst e
        refine run_convert_bytes_back (P := Tryz.prog) wr 37 9 5 ⟨g, 0, none⟩ suf.length suf Tryz.underlying37 Tryz.underlying5 Tryz.underlying9 (fun j hj => ?_)
        have hadd : (⟨g, 0, none⟩ : Addr).add j = ⟨g, j, none⟩ := by unfold Addr.add; split <;> simp_all
        rw [hadd, hb.cell j]
        simp [bytesOf, Cells, List.getElem?_eq_getElem hj]
      clear hb hsum
      go_wp2_with fail
      go_ret
      exact ⟨rfl, hbel⟩
    | cons s rest =>
      obtain ⟨b, p2, rfl, hbw, hblk, hc'⟩ := hc
      have d0 := (hbel.cell (p := ⟨b, 0, none⟩) hblk.lt).trans (hblk.cell 0)
      have d1 := (hbel.cell (p := ⟨b, 1, none⟩) hblk.lt).trans (hblk.cell 1)
      simp at d0 d1
      have hlen : (bytesOf (s :: rest)).length = (bytesOf rest).length + s.size := by simp [bytesOf]
      have htot : (bytesOf rest).length + s.size ≤ l.length := by rw [← hsum, List.length_append, hlen]; omega
      have hcur : (List.replicate (bytesOf (s :: rest)).length (Value.int .u8 0) ++ Cells suf).length = l.length := by
        rw [← hsum, List.length_append, List.length_append, cells_length, List.length_replicate]
      have HT := Lib.hid hsum; clear hsum
      have HB := Lib.hid hb; clear hb
      have HN := Lib.hid hlen
      rw [hlen]
      clear hlen
      have HK := Lib.hid hk; clear hk
      have hEn : ((bytesOf rest).length : Int) ≤ (l.length : Int) := by omega
      have HF : Hid (∀ k, k ≤ l.length → k ≤ (List.replicate (bytesOf (s :: rest)).length (Value.int .u8 0) ++ Cells suf).length) := fun k hk => by rw [hcur]; exact hk
      clear hcur
      go_wp2_with fail
      by_cases hz : (bytesOf rest).length = l.length
      · have hs0 : ¬ 0 < s.size := by omega
        go_region_law (refine step_copy_text rfl (.tmp 34) (.tmp 38) 37 9 rfl 5 Tryz.underlying37 info_u8s _ g (bytesOf rest).length _ _ s _ 5 rfl rfl HB.out.drew (fun h => absurd h hs0) (by omega) (HF.out _ htot) ?_; intro w2 hb2 hg2)
        have hg3 : wr.grownBy w2 (some g) := ⟨hg2.os, hg2.tape, hg2.output, hg2.size, hg2.block⟩
        have hA := Lib.hid (all_step hc' HT.out hgl hb2 hbel hg3)
        have hbel2 : Below w.heap.size w w2 := hbel.grown hg3 hbel.size (by intro k hk; injection hk; omega)
        have e0 := (hbel2.cell (p := ⟨b, 0, none⟩) hblk.lt).trans (hblk.cell 0)
        simp at e0
        clear hb2 hg2 hg3 d0 d1 hbel
        go_wp2_with fail
        go_roundg rest.length
        case measure => have := HK.out; simp at this; omega
        case rel => rw [← hz]; exact hA.out
      · have hz' : ¬ l.length = (bytesOf rest).length := fun h => hz h.symm
        clear hz
        go_region_law (refine step_copy_text rfl (.tmp 34) (.tmp 38) 37 9 rfl 5 Tryz.underlying37 info_u8s _ g (bytesOf rest).length _ _ s _ 5 rfl rfl HB.out.drew (fun _ => rfl) (by omega) (HF.out _ htot) ?_; intro w2 hb2 hg2)
        have hg3 : wr.grownBy w2 (some g) := ⟨hg2.os, hg2.tape, hg2.output, hg2.size, hg2.block⟩
        have hA := Lib.hid (all_step hc' HT.out hgl hb2 hbel hg3)
        have hbel2 : Below w.heap.size w w2 := hbel.grown hg3 hbel.size (by intro k hk; injection hk; omega)
        have e0 := (hbel2.cell (p := ⟨b, 0, none⟩) hblk.lt).trans (hblk.cell 0)
        simp at e0
        clear hb2 hg2 hg3 d0 d1 hbel
        go_wp2_with fail
        go_roundg rest.length
        case measure => have := HK.out; simp at this; omega
        case rel => exact hA.out

theorem bytes_any (bw : Nat) (l : List UInt8) (w : World) (h : Wr w bw l) (hl : l.length ≤ 1099511627776) :
    Calls Tryz.prog 105 #[.pointer (some ⟨bw, 0, none⟩)] w fun e w' => e = .returned (.string ⟨l.toArray⟩) ∧ Below w.heap.size w w' := by
  go_enter Tryz.func105, Tryz.ntmps105
  go_wp2_with (go_at_call 124; refine (all_any bw l _ h hl).mono ?_; rintro e w' ⟨rfl, hb⟩)
  go_ret
  exact ⟨rfl, hb⟩

end Go.Proofs.YtimcepoleboldaaGreatDoor
