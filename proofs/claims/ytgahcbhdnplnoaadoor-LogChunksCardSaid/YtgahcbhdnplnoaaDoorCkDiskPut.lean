/- What put comes to: a sector has its text, and is loose. -/
import Derived.Test.YtgahcbhdnplnoaaDoorCkDiskFasten
import Derived.Deep.RegionLaw
import Derived.Deep.AppendLies
namespace Go.Proofs.YtgahcbhdnplnoaaDoor
open Go.RowKit

theorem info_int : (Tryd.prog.info? 3).map (fun i => (i.zero, i.size, i.bytes)) = some (some (.int .i64 0), 1, 8) := by kernel_rfl
theorem cell_one_new (w : World) (x : Value) (t : TypeId) : ∀ j u, [x][j]? = some u → (w.alloc (.cells #[x] t)).cell? ((⟨w.heap.size, 0, none⟩ : Addr).add j) = some u := by
  intro j u hj
  have hj0 : j = 0 := by
    have := (List.getElem?_eq_some_iff.1 hj).1
    simpa using this
  subst hj0
  simp at hj
  subst hj
  exact (Blk.new w t #[x]).cell 0
theorem one_int (x : Int) : ∀ u ∈ [Value.int .i64 x], u.oneCell' = true := by
  intro u hu; simp at hu; subst hu; rfl
theorem room_max_int (k : Nat) (h : k ≤ 1099511627776) : k + 1 ≤ maxLen := by unfold maxLen; omega
theorem room_bytes_int (k : Nat) (h : k ≤ 1099511627776) : (k + 1) * 8 ≤ 140737488355328 := by omega
theorem base_alloc {B : Nat} {w : World} (h : B ≤ w.heap.size) (o : Obj) : B ≤ (w.alloc o).heap.size := by
  show B ≤ (w.heap.push o).size
  rw [Array.size_push]; omega

section
variable {w w1 w2 : World} {B g m n i : Nat} {st : Dk.St} {lv v : Value} {tc tf : Int} {s : ByteArray} {o : Obj}
theorem put_w1 (h : DskAt w B g st m lv tc tf n) (hg : w.drew.grownBy w1 (some m)) : Blk w1 g 61 (rawOf st m lv tc tf).cells ∧ w1.ownsRow B 3 1 lv st.loose.length (ints st.loose) ∧ B ≤ w1.heap.size :=
  ⟨h.blk.drew.grown hg (by intro e; injection e with e; exact h.map.ne h.blk e.symm), World.ownsRow.kept (w := w.drew) h.row hg (row_apart_map (w := w.drew) h.row h.map.drew), by have := hg.size; have h2 := h.blk.lt; have h3 := h.atg; simp at this; omega⟩
theorem put_w2 (h : DskAt w B g st m lv tc tf n) (hg : w.drew.grownBy w1 (some m)) (hg2 : (w1.alloc o).grownBy w2 lv.ownBlock) : Blk w2 g 61 (rawOf st m lv tc tf).cells := by
  obtain ⟨h1, h2, _⟩ := put_w1 h hg
  refine (h1.alloc o).grown hg2 ?_
  rcases row_apart h2 h1 (by decide) with e | e
  · rw [e]; simp
  · exact fun e2 => e e2.symm
theorem put_more (h : DskAt w B g st m lv tc tf n) (hi : i < 256) (hs : s.size ≤ 128) (hw : Dk.was st.loose i = none) (hf : st.loose.length < st.many) (hmap : MapIs w1 m (n + 1) (st.loose ++ [(i, st.is i)])) (hg : w.drew.grownBy w1 (some m))
    (hown : w2.ownsRow B 3 1 v (st.loose.length + 1) (ints st.loose ++ [.int .i64 (i : Int)])) (hg2 : (w1.alloc o).grownBy w2 lv.ownBlock) :
    DskAt ((w2.setCell ⟨g, 257, none⟩ v).setCell ⟨g, i, none⟩ (.string s)) B g (st.put i s) m v tc tf (n + 1) ∧ Ch Td B w ((w2.setCell ⟨g, 257, none⟩ v).setCell ⟨g, i, none⟩ (.string s)) := by
  obtain ⟨h1, h2, _⟩ := put_w1 h hg
  have h3 := put_w2 h hg hg2
  have hb := dk_set_lv h3 v
  have hb2 := dk_set_sect hb hi s
  have s1 := Lib.grownBy_setCell w2 g 257 v
  have s2 := Lib.grownBy_setCell (w2.setCell ⟨g, 257, none⟩ v) g i (.string s)
  have hm2 : MapIs w2 m (n + 1) (st.loose ++ [(i, st.is i)]) := by
    have hma : MapIs (w1.alloc o) m (n + 1) (st.loose ++ [(i, st.is i)]) := hmap.grown (World.grownBy_alloc w1 o none) (by simp)
    refine hma.grown hg2 ?_
    rcases row_apart_map h2 hmap with e | e
    · rw [e]; simp
    · exact fun e2 => e e2.symm
  have e1 : (st.put i s).loose = st.loose ++ [(i, st.is i)] := if_pos hw
  have e2 : (st.put i s).loose.length = st.loose.length + 1 := by rw [e1]; simp
  have e3 : ints (st.put i s).loose = ints st.loose ++ [.int .i64 (i : Int)] := by rw [e1]; simp [ints]
  refine ⟨{ blk := hb2
            map := by rw [e1]; exact (hm2.grown s1 (by intro e; injection e with e; exact hm2.ne h3 e)).grown s2 (by intro e; injection e with e; exact hm2.ne h3 e)
            row := by
              rw [e2, e3]
              have r1 := hown.kept s1 (row_apart hown h3 (by decide))
              exact r1.kept s2 (row_apart r1 hb (by decide))
            atg := h.atg
            atm := h.atm
            cuts := h.cuts
            tcle := h.tcle
            fails := h.fails
            tfle := h.tfle
            keep := h.keep
            inv := h.inv.put hf hi hs }, ?_⟩
  obtain ⟨es, c, e⟩ := h.map.block
  have c1 : Ch Td B w w1 := (Ch.refl _ _ _).drew.trans (Ch.of_grown hg (fun k hk => by injection hk with hk; subst hk; exact ⟨h.atm, _, e, rfl⟩))
  have c2 : Ch Td B (w1.alloc o) w2 := ch_of_append (h2.alloc o) hg2 (fun _ => rfl)
  exact (((c1.alloc o).trans c2).trans (Ch.set h3 h.atg rfl 257 v)).trans (Ch.set hb h.atg rfl i _)
theorem put_lvs (h : DskAt w B g st m lv tc tf n) (hg : w.drew.grownBy w1 (some m)) (hg2 : (w1.alloc o).grownBy w2 lv.ownBlock) (hv : v.ownBlock = lv.ownBlock ∨ ∃ k, v.ownBlock = some k ∧ (w1.alloc o).heap.size ≤ k) :
    Lvs w lv ((w2.setCell ⟨g, 257, none⟩ v).setCell ⟨g, i, none⟩ (.string s)) v := by
  obtain ⟨es, c, e⟩ := h.map.block
  have h3 := put_w2 h hg hg2
  have l1 : Lvs w lv w1 lv := Lvs.of_ch (T := Td0) ((Ch.refl _ B _).drew.trans (Ch.of_grown hg (fun k hk => by injection hk with hk; subst hk; exact ⟨h.atm, _, e, rfl⟩))) td0_int rfl
  have l2 : Lvs w1 lv (w1.alloc o) lv := Lvs.of_ch (T := Td0) (B := B) ((Ch.refl _ B _).alloc o) td0_int rfl
  have l3 : Lvs (w1.alloc o) lv w2 v := ⟨hg2.size, fun k hk => by
      rcases hv with h1 | ⟨k', h1, h2⟩
      · exact .inl (h1 ▸ hk)
      · rw [h1] at hk; injection hk with hk; exact .inr (hk ▸ h2),
    fun k cs z hne ho => (hg2.block k (lt_of_at ho) (fun e => hne e.symm)).trans ho⟩
  have l4 : Lvs w2 v ((w2.setCell ⟨g, 257, none⟩ v).setCell ⟨g, i, none⟩ (.string s)) v :=
    Lvs.of_ch (T := Td0) (B := B) ((Ch.set h3 h.atg rfl 257 v).trans (Ch.set (dk_set_lv h3 v) h.atg rfl i _)) td0_int rfl
  exact ((l1.trans l2).trans l3).trans l4
theorem put_same (h : DskAt w B g st m lv tc tf n) (hi : i < 256) (hs : s.size ≤ 128) (hw : Dk.was st.loose i ≠ none) (hf : st.loose.length < st.many) :
    DskAt (w.setCell ⟨g, i, none⟩ (.string s)) B g (st.put i s) m lv tc tf (n + 1) :=
  h.field (dk_set_sect h.blk hi s) (if_neg hw) (Nat.le_succ _) h.cuts h.tcle h.fails h.tfle h.keep (h.inv.put hf hi hs)
end

def PutPost (B g : Nat) (st : Dk.St) (m : Nat) (lv : Value) (tc tf : Int) (n : Nat) (w : World) (e : Ending) (w' : World) : Prop :=
  e = .returned (.tuple #[]) ∧ (∃ lv', DskAt w' B g st m lv' tc tf n ∧ Lvs w lv w' lv') ∧ Ch Td B w w'

set_option maxRecDepth 20000 in
set_option maxHeartbeats 400000 in
theorem dput_any (B g : Nat) (st : Dk.St) (m : Nat) (lv : Value) (tc tf : Int) (n i : Nat) (s : ByteArray) (w : World) (h : DskAt w B g st m lv tc tf n) (hi : i < 256) (hs : s.size ≤ 128) (hf : st.loose.length < st.many) (hm : st.many ≤ 1099511627776) (hn : n ≤ 1099511627776) :
    Calls Tryd.prog 40 #[.pointer (some ⟨g, 0, none⟩), .int .i64 (i : Int), .string s] w (PutPost B g (st.put i s) m lv tc tf (n + 1) w) := by
  obtain ⟨i0, hin, hz0, hz1, hz2⟩ := info_parts info_int
  obtain ⟨c0, c1, -⟩ := dk_cells h.blk
  have s0 := dk_sect h.blk hi
  have f0 := dk_frozen h.blk i
  simp only [rawOf] at c0 c1 s0
  have hlook := h.map.look_ok hi
  cases hw : Dk.was st.loose i with
  | some x =>
    rw [hw] at hlook
    simp only [Option.getD_some, Option.isSome_some] at hlook
    have HF := Lib.hid (And.intro (put_same (s := s) h hi hs (by rw [hw]; simp) hf) (h.ch i (.string s)))
    clear h hw hf hn hm
    go_enter Tryd.func40, Tryd.ntmps40
    go_wp2_with fail
    go_end0
    exact ⟨rfl, ⟨_, HF.out.1, Lvs.of_ch HF.out.2 td0_int rfl⟩, HF.out.2.d⟩
  | none =>
    rw [hw] at hlook
    simp only [Option.getD_none, Option.isSome_none] at hlook
    obtain ⟨w1, hrun, hmap, hg1⟩ := h.map.drew.put (by unfold maxLen; omega) hi hw (h.inv.texts i)
    have hlen : st.loose.length ≤ 1099511627776 := by omega
    have HW := Lib.hid hw
    have HM := Lib.hid hmap
    have HD := Lib.hid h
    have HG := Lib.hid hg1
    have HI := Lib.hid hf
    clear h hw hf hn hm hmap hg1
    go_enter Tryd.func40, Tryd.ntmps40
    go_wp2_with fail
    go_region
    clear c0 s0 f0 hlook hrun c1
    obtain ⟨hb1, hr1, hB1⟩ := put_w1 HD.out HG.out
    obtain ⟨-, c1, -⟩ := dk_cells hb1
    simp only [rawOf] at c1
    clear hb1
    go_wp2_with (at_builtin; refine wpList_append_lies _ rfl _ _ 59 rfl B 3 i0 (.int .i64 0) 1 8 Tryd.underlying59 hin hz0 hz1 hz2 rfl (by decide) lv st.loose.length _ rfl (hr1.alloc _) ⟨w1.heap.size, 0, none⟩ 1 1 [.int .i64 (i : Int)] rfl rfl (cell_one_new w1 _ 3) (one_int _) (by decide) (room_max_int _ hlen) (room_bytes_int _ hlen) (base_alloc hB1 _) _ rfl ?_; intro b2 cap2 w2 hown2 hgrow2 hx2 hy2; have hb2 := put_w2 HD.out HG.out hgrow2; obtain ⟨-, d1, -⟩ := dk_cells hb2; have g1 := dk_frozen hb2 257; have g2 := dk_frozen hb2 i; have d2 := dk_sect hb2 hi; simp only [rawOf] at d1 d2; have HO := Lib.hid hown2; have HG2 := Lib.hid hgrow2; have HX2 := Lib.hid hx2; clear hown2 hgrow2 hb2 hx2 hy2)
    go_end0
    have R := put_more (s := s) HD.out hi hs HW.out HI.out HM.out HG.out HO.out HG2.out
    exact ⟨rfl, ⟨_, R.1, put_lvs HD.out HG.out HG2.out (HX2.out.imp (fun e => e.symm) (fun e => ⟨b2, rfl, Nat.le_of_eq e.symm⟩))⟩, R.2⟩

end Go.Proofs.YtgahcbhdnplnoaaDoor
